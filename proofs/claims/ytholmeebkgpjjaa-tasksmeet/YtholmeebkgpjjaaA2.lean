/- Contracts: lookAt, Respond. -/
import Derived.Test.YtholmeebkgpjjaaA
namespace Go.Proofs.Ytholmeebkgpjjaa
open Go.RowKit
attribute [local go_sem ↓] Go.wp_at_zero Go.wp_at_succ
set_option linter.unusedVariables false
set_option linter.unusedSimpArgs false

theorem look_size {l : List Tk} (h : l.length < 1 ∨ 16 < l.length) : lookS l = (4, 0) := by unfold lookS; rw [if_pos h]
theorem look_none {l : List Tk} (h : ¬ (l.length < 1 ∨ 16 < l.length)) (ho : ∀ i, i < l.length → okB (l.getD i tk0) = true) : lookS l = (0, 0) := by
  unfold lookS; rw [if_neg h, firstB_none.2 ho]
theorem look_some {l : List Tk} (h : ¬ (l.length < 1 ∨ 16 < l.length)) {i : Nat} (hi : i < l.length) (hn : okB (l.getD i tk0) = false) (ho : ∀ j, j < i → okB (l.getD j tk0) = true) : lookS l = (19, (i : Int)) := by
  unfold lookS; rw [if_neg h, firstB_some.2 ⟨hi, hn, ho⟩]

def flV (p : Int × Int) : Value := .agg #[.int .i64 p.1, .int .i64 p.2, .int .i64 0]
set_option maxHeartbeats 1000000 in
theorem lookAt_any (l : List Tk) (v : Value) (w : World) (hm : l.length ≤ maxLen) (hv : TsAt w v l) :
    Calls Try.prog 24 #[v] w fun e w' => e = .returned (flV (lookS l)) ∧ w.grownBy w' none := by
  obtain ⟨a, cap, rfl, hcap, _⟩ := id hv
  unfold maxLen at hm
  cases hb : inB (l.length : Int) 1 16
  · have hl : l.length < 1 ∨ 16 < l.length := by unfold inB at hb; simp at hb; omega
    rw [look_size hl]
    go_enter Try.func24, Try.ntmps24
    go_wp2_with (go_at_call 27; refine (within_any _ _ _ _).mono ?_; rintro e w' ⟨rfl, rfl⟩)
    exact bodyPost_ret (v := .agg #[.int .i64 4, .int .i64 0, .int .i64 0]) (by simp [results, Try.results24, go_sem]) rfl ⟨rfl, by first | exact gr_own (gr_alloc (World.grownBy.refl _ _) _) (Nat.le_refl _) _ _ | exact gr_alloc (World.grownBy.refl _ _) _⟩
  · have hl : ¬ (l.length < 1 ∨ 16 < l.length) := by unfold inB at hb; simp at hb; omega
    go_enter Try.func24, Try.ntmps24
    go_wp2_with (go_at_call 27; refine (within_any _ _ _ _).mono ?_; rintro e w' ⟨rfl, rfl⟩)
    go_loopw [12] (fun i wx => ∃ k : Nat, k ≤ l.length ∧ i = .int .i64 k ∧ (∀ j, j < k → okB (l.getD j tk0) = true) ∧ (w.alloc (.cells #[.int .i64 0, .int .i64 0, .int .i64 0] 26)).grownBy wx none) (fun i _ => l.length - (intOf i).toNat)
    case atStart => exact ⟨0, Nat.zero_le _, rfl, fun j hj => by omega, World.grownBy.refl _ _⟩
    case round =>
      obtain ⟨k, hk, rfl, hoks, hg⟩ := hrel
      have hgw : w.grownBy wr none := grown_join (gr_alloc (World.grownBy.refl _ _) _) hg (.inl rfl)
      have hblk : wr.heap[w.heap.size]? = some (.cells #[.int .i64 0, .int .i64 0, .int .i64 0] 26) := kept hg (heap_alloc_new w _)
      have hbl := at_lt hblk
      have f0 : wr.cell? ⟨w.heap.size, 0, none⟩ = some (.int .i64 0) := at_cell hblk 0
      have f1 : wr.cell? ⟨w.heap.size, 1, none⟩ = some (.int .i64 0) := at_cell hblk 1
      have f2 : wr.cell? ⟨w.heap.size, 2, none⟩ = some (.int .i64 0) := at_cell hblk 2
      have z0 : wr.frozen? ⟨w.heap.size, 0, none⟩ = false := at_frozen hblk 0
      have z1 : wr.frozen? ⟨w.heap.size, 1, none⟩ = false := at_frozen hblk 1
      have z2 : wr.frozen? ⟨w.heap.size, 2, none⟩ = false := at_frozen hblk 2
      by_cases hlt : k < l.length
      · obtain ⟨b, off, cap', he, hc⟩ := (hv.grown hgw).at (by omega)
        injection he with e1 e2 e3
        subst e1 e3
        obtain ⟨c0, c1, c2, c3, c4⟩ := hc k hlt
        have HL := look_some (l := l) hl hlt
        have HO : ∀ (h : okB (l.getD k tk0) = true) j, j < k + 1 → okB (l.getD j tk0) = true := fun h j hj => by
          rcases Nat.lt_or_ge j k with h1 | h1
          · exact hoks j h1
          · rw [show j = k by omega]; exact h
        have HL' : Hid (okB (l.getD k tk0) = false → lookS l = (19, (k : Int))) := fun h => HL h hoks
        have HO' : Hid (okB (l.getD k tk0) = true → ∀ j, j < k + 1 → okB (l.getD j tk0) = true) := HO
        have HV : Hid (TsAt w (.slice (some ⟨b, off, none⟩) l.length cap) l) := hv
        have HGW : Hid (w.grownBy wr none) := hgw
        have HG : Hid ((w.alloc (.cells #[.int .i64 0, .int .i64 0, .int .i64 0] 26)).grownBy wr none) := hg
        clear hc HL HO hoks hv hgw hg
        generalize l.getD k tk0 = t at *
        cases ht : okB t
        · have HF : Hid (lookS l = (19, (k : Int))) := HL'.out ht
          go_wp2_with (go_at_call 32; refine (mayBe_any t _).mono ?_; rintro e w' ⟨rfl, rfl⟩)
          refine bodyPost_ret (v := .agg #[.int .i64 19, .int .i64 k, .int .i64 0]) (by simp [results, Try.results24, go_sem, f0, f1, f2, hbl]) rfl ⟨by rw [HF.out]; rfl, ?_⟩
          exact gr_alloc (gr_alloc (gr_own (gr_own (gr_own HGW.out (Nat.le_refl _) _ _) (Nat.le_refl _) _ _) (Nat.le_refl _) _ _) _) _
        · go_wp2_with (go_at_call 32; refine (mayBe_any t _).mono ?_; rintro e w' ⟨rfl, rfl⟩)
          go_roundw
          case rel => exact ⟨k + 1, by omega, by go_num, HO'.out ht, gr_alloc (gr_alloc HG.out _) _⟩
          case measure => simp [intOf]; omega
      · have hF := look_none (l := l) hl (fun i hi => hoks i (by omega))
        have HF : Hid (lookS l = (0, 0)) := hF
        clear hF
        go_wp2
        refine bodyPost_ret (v := .agg #[.int .i64 0, .int .i64 0, .int .i64 0]) (by simp [results, Try.results24, go_sem, f0, f1, f2]) rfl ⟨by rw [HF.out]; rfl, ?_⟩
        first | exact gr_own (gr_own (gr_own hgw (Nat.le_refl _) _ _) (Nat.le_refl _) _ _) (Nat.le_refl _) _ _ | exact hgw
end Go.Proofs.Ytholmeebkgpjjaa
