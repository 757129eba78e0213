/- byDeadline. -/
import Derived.Test.YtholmeebkgpjjaaG2
namespace Go.Proofs.Ytholmeebkgpjjaa
open Go.RowKit
attribute [local go_sem ↓] Go.wp_at_zero Go.wp_at_succ
set_option linter.unusedVariables false
set_option linter.unusedSimpArgs false

set_option maxHeartbeats 1000000 in
theorem stable_any (n p g cap : Nat) (w : World) (h16 : n ≤ 16) (Q : Ending → World → Prop) (hQ : ∀ e w', Q e w' → e = .returned (.tuple #[]))
    (cI : Calls Try.prog 47 #[.slice (some ⟨g, 0, none⟩) n cap, .int .i64 0, .int .i64 n, .func (.func 35) #[] #[.pointer (some ⟨p, 0, none⟩)]] w Q) :
    Calls Try.prog 44 #[.slice (some ⟨g, 0, none⟩) n cap, .int .i64 n, .func (.func 35) #[] #[.pointer (some ⟨p, 0, none⟩)]] w Q := by
  have h1 : ¬ ((20 : Int) ≤ (n : Int)) := by omega
  have h2 : ¬ ((20 : Int) < (n : Int)) := by omega
  go_enter Try.func44, Try.ntmps44
  go_wp2
  refine wp_loop_rounds 1 ?_
  rw [rounds_succ]
  go_wp2_with fail
  refine cI.mono ?_
  intro e w1 hq
  have he := hQ e w1 hq
  subst he
  dsimp only
  go_wp2_with fail
  refine wp_loop_rounds 1 ?_
  rw [rounds_succ]
  go_wp2
  go_end0
  exact hq
theorem sortS_any (n p g cap : Nat) (w : World) (h16 : n ≤ 16) (Q : Ending → World → Prop) (hQ : ∀ e w', Q e w' → e = .returned (.tuple #[]))
    (cI : Calls Try.prog 47 #[.slice (some ⟨g, 0, none⟩) n cap, .int .i64 0, .int .i64 n, .func (.func 35) #[] #[.pointer (some ⟨p, 0, none⟩)]] w Q) :
    Calls Try.prog 34 #[.slice (some ⟨g, 0, none⟩) n cap, .func (.func 35) #[] #[.pointer (some ⟨p, 0, none⟩)]] w Q := by
  have cS := stable_any n p g cap w h16 Q hQ cI
  go_enter Try.func34, Try.ntmps34
  go_wp2_with fail
  refine cS.mono ?_
  intro e w1 hq
  have he := hQ e w1 hq
  subst he
  dsimp only
  go_wp2
  go_end0
  exact hq

/-- Places as numbers. -/
def nums (L : List Nat) : List Int := L.map fun x : Nat => (x : Int)
set_option maxHeartbeats 2000000 in
theorem byDead_any (l : List Tk) (v : Value) (w : World) (h1 : 1 ≤ l.length) (h16 : l.length ≤ 16) (hv : TsAt w v l) :
    Calls Try.prog 26 #[v] w fun e w' => ∃ a cap, e = .returned (.slice a l.length cap) ∧ OwnL w.heap.size w' a cap (nums (srt l l.length)) ∧ w.grownBy w' none := by
  obtain ⟨a, cap, rfl, hcap, _⟩ := id hv
  obtain ⟨n, hn⟩ : ∃ n, n = l.length := ⟨_, rfl⟩
  have HN : Hid (n = l.length) := hn
  rw [← hn] at hv h1 h16 hcap ⊢
  have hv' : Hid (TsAt w (.slice a n cap) l) := hv
  clear hn hv
  go_enter Try.func26, Try.ntmps26
  go_wp2_with fail
  go_loopw [3, 7] (fun s i wx => ∃ (k : Nat) (a' : Option Addr) (cap' : Nat), k ≤ n ∧ i = .int .i64 k ∧ s = .slice a' k cap' ∧ Hid (OwnL (w.heap.size + 1) wx a' cap' (nums (List.range k))) ∧ (w.alloc (.cells #[.slice a n cap] 22)).grownBy wx none) (fun _ i _ => n - (intOf i).toNat)
  case atStart => exact ⟨0, none, 0, Nat.zero_le _, rfl, rfl, OwnL.nil _ _, World.grownBy.refl _ _⟩
  case round =>
    obtain ⟨k, a', cap', hk, rfl, rfl, HO, hg⟩ := hrel
    have hsz := hg.size
    simp at hsz
    have hlk : (nums (List.range k)).length = k := by simp [nums]
    by_cases hlt : k < n
    · obtain ⟨a2, cap2, w3, hrun, hown3, hgr3⟩ := HO.out.more (k : Int) (by omega) (by omega)
      rw [hlk] at hrun
      have hg3 := hgr3 _ (by simp) hg
      have HO3 : Hid (OwnL (w.heap.size + 1) w3 a2 cap2 (nums (List.range (k + 1)))) := by
        have e : nums (List.range (k + 1)) = nums (List.range k) ++ [(k : Int)] := by simp [nums, List.range_succ]
        rw [e]
        exact hide hown3
      have HRUN : Hid ((Builtin.append_ #[23, 23] 23 #[.slice a' k cap', .slice (some ⟨wr.heap.size, 0, none⟩) 1 1]).run Try.prog (wr.alloc (.cells #[.int .i64 (k : Int)] 3)) = .ok (.slice a2 (k + 1) cap2) w3) := hrun
      clear hrun hown3 hgr3
      go_wp2_with (first | (at_builtin; refine wpList_append_run rfl _ _ 23 rfl _ _ _ w3 rfl rfl HRUN.out ?_))
      go_roundw
      case rel => exact ⟨k + 1, a2, cap2, by omega, by go_num, rfl, HO3.out, hg3⟩
      case measure => simp [intOf]; omega
    · obtain rfl : k = n := by omega
      have hown := HO.out
      unfold OwnL at hown
      rw [hlk] at hown
      have hmap : (nums (List.range k)).map (Value.int .i64) = (List.range k).map fun x : Nat => Value.int .i64 (x : Int) := by simp [nums]
      rw [hmap] at hown
      obtain ⟨g, rfl⟩ : ∃ g, a' = some ⟨g, 0, none⟩ := by
        obtain ⟨_, ⟨_, h0⟩ | ⟨g, c2, cur, hvv, _⟩⟩ := hown
        · omega
        · injection hvv with e1 e2 e3
          exact ⟨g, e1⟩
      have hgB := (World.ownsRow.lt hown g rfl).1
      have hON : OwnN (w.heap.size + 1) wr g cap' k (List.range k) := ⟨by simp, hown⟩
      have cI := ins_any l (w.heap.size + 1) g cap' k w.heap.size (.slice a k cap) wr HN.out h1 h16 hON (fun W hW => by
        have hgW := grown_join hg hW (.inr fun x hx => by injection hx with hx; subst hx; simpa using hgB)
        exact ⟨hv'.out.grown (grown_join (gr_alloc (World.grownBy.refl _ _) _) hgW (.inl rfl)), by
          rw [at_cell (kept hgW (heap_alloc_new w _)) 0]; rfl⟩)
      have cS := sortS_any k w.heap.size g cap' wr h16 _ (fun e w' h => h.1) cI
      clear cI hmap hown HO
      go_wp2_with fail
      refine cS.mono ?_
      rintro e w4 ⟨rfl, hO4, hg4⟩
      dsimp only
      go_wp2
      go_ret
      refine ⟨_, cap', rfl, ?_, ?_⟩
      · have hlk2 : (nums (srt l k)).length = k := by simp [nums, srt_len]
        unfold OwnL
        rw [hlk2]
        have hmap : (nums (srt l k)).map (Value.int .i64) = (srt l k).map fun x : Nat => Value.int .i64 (x : Int) := by simp [nums]
        rw [hmap]
        exact own_low hO4.2 (Nat.le_succ _)
      · exact grown_join (grown_join (gr_alloc (World.grownBy.refl _ _) _) hg (.inl rfl)) hg4 (.inr fun x hx => by injection hx with hx; omega)
end Go.Proofs.Ytholmeebkgpjjaa
