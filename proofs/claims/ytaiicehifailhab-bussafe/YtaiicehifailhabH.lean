/- Frame, the program's. -/
import Derived.Test.YtaiicehifailhabG
namespace Go.Proofs.Ytaiicehifailhab
open Go.RowKit
attribute [local go_sem ↓] Go.wp_at_zero Go.wp_at_succ
set_option linter.unusedVariables false
set_option linter.unusedSimpArgs false

def headF (st sq : Int) (ls : List Int) : List Nat := [by8 st, by8 sq, by8 ls.length] ++ pairB ls
def frameE (st sq : Int) (ls : List Int) : Nat := if wi 0 247 st && wi 0 255 sq then lookE ls else 3
def frameS (st sq : Int) (ls : List Int) : List Nat := if frameE st sq ls = 0 then headF st sq ls ++ pairB [((crc (headF st sq ls) : Nat) : Int)] else []
theorem headF_B (st sq : Int) (ls : List Int) : isB (headF st sq ls) := isB_app (by
  intro x hx
  simp at hx
  rcases hx with rfl | rfl | rfl <;> exact by8_lt _) (pairB_B _)
theorem headF_len (st sq : Int) (ls : List Int) : (headF st sq ls).length = 3 + 2 * ls.length := by simp [headF, pairB_len]; omega
theorem frameS_len (st sq : Int) (ls : List Int) : (frameS st sq ls).length ≤ 125 := by
  unfold frameS
  split
  · rename_i h
    rw [List.length_append, headF_len, pairB_len]
    unfold frameE lookE at h
    split at h
    · split at h
      · omega
      · simp; omega
    · omega
  · simp
/-- Bytes and an error: what a call tells. -/
def FrP (w w' : World) (e : Ending) (S : List Nat) (c : Nat) : Prop :=
  ∃ a cap, e = .returned (.tuple #[.slice a S.length cap, .int .i64 (c : Int)]) ∧ OwnB w.heap.size w' a cap S ∧ w.grownBy w' none
theorem FrP.no {w w' : World} {e : Ending} {st sq : Int} {ls : List Int} (c : Nat) (h : frameE st sq ls = c) (hc : c ≠ 0) (he : e = .returned (.tuple #[.slice none 0 0, .int .i64 (c : Int)])) (hg : w.grownBy w' none) : FrP w w' e (frameS st sq ls) (frameE st sq ls) := by
  have : frameS st sq ls = [] := by unfold frameS; rw [if_neg (by omega)]
  rw [this, h]
  exact ⟨none, 0, he, OwnB.nil _ _, hg⟩
theorem make_bytes (c : Nat) (hc : c ≤ 1000000) (w : World) : ∃ arr : Array Value, arr.size = c ∧ (Instr.makeSlice 30 (.int .i64 0) (.int .i64 (c : Int))).run Try.prog w = .ok (.slice (some ⟨w.heap.size, 0, none⟩) 0 c) (w.alloc (.cells arr 5)) := by
  obtain ⟨i0, hi, hz0, hz1, hz2⟩ := info_parts info5
  have h := run_make (P := Try.prog) w 30 5 i0 (.int .u8 0) Try.underlying30 hi hz0 .i64 .i64 0 (c : Int) (by omega) (by omega) (by rw [hz2]; simp; omega) (by omega)
  rw [hz1] at h
  refine ⟨madeCells (Value.int .u8 0).cells c, ?_, ?_⟩
  · have e : (Value.int .u8 0).cells = #[Value.int .u8 0] := rfl
    rw [e]
    unfold madeCells
    simp
  · simpa using h
set_option maxRecDepth 10000 in
set_option maxHeartbeats 1000000 in
theorem frame_any (st sq : Int) (ls : List Int) (u : Value) (w : World) (hu : rd w u ls) (hl : ls.length ≤ 17592186044416) : Calls Try.prog 7 #[.int .i64 st, .int .i64 sq, u] w fun e w' => FrP w w' e (frameS st sq ls) (frameE st sq ls) := by
  have c1 := within_any st 0 247
  have c2 := within_any sq 0 255
  have cL := lookAt_any ls u w hu hl
  obtain ⟨a, cap, rfl, _⟩ := id hu
  cases h1 : wi 0 247 st with
  | false =>
    simp only [h1] at c1
    have hE : frameE st sq ls = 3 := by unfold frameE; rw [h1]; rfl
    go_enter Try.func7, Try.ntmps7
    go_wp2_with fail
    refine (c1 _).mono ?_
    rintro e w' ⟨rfl, rfl⟩
    go_wp2
    go_ret2
    exact FrP.no 3 hE (by omega) rfl (World.grownBy.refl _ _)
  | true =>
  simp only [h1] at c1
  cases h2 : wi 0 255 sq with
  | false =>
    simp only [h2] at c2
    have hE : frameE st sq ls = 3 := by unfold frameE; rw [h1, h2]; rfl
    go_enter Try.func7, Try.ntmps7
    go_wp2_with fail
    refine (c1 _).mono ?_
    rintro e w' ⟨rfl, rfl⟩
    go_wp2_with fail
    refine (c2 _).mono ?_
    rintro e w' ⟨rfl, rfl⟩
    go_wp2
    go_ret2
    exact FrP.no 3 hE (by omega) rfl (World.grownBy.refl _ _)
  | true =>
  simp only [h2] at c2
  have hE : frameE st sq ls = lookE ls := by unfold frameE; rw [h1, h2]; rfl
  by_cases h3 : lookE ls = 0
  case neg =>
    go_enter Try.func7, Try.ntmps7
    go_wp2_with fail
    refine (c1 _).mono ?_
    rintro e w' ⟨rfl, rfl⟩
    go_wp2_with fail
    refine (c2 _).mono ?_
    rintro e w' ⟨rfl, rfl⟩
    go_wp2_with fail
    refine cL.mono ?_
    rintro e w' ⟨rfl, rfl⟩
    have HE : Hid (_ = _) := hE
    generalize lookE ls = E at *
    have i3 : ¬ ((E : Int) = 0) := by omega
    clear hE
    go_wp2
    go_ret2
    exact FrP.no E HE.out h3 rfl (World.grownBy.refl _ _)
  rw [h3] at cL
  have HE : Hid (frameE st sq ls = 0) := hidI (by rw [hE, h3])
  have hn60 : ls.length ≤ 60 := by
    unfold lookE at h3
    split at h3 <;> omega
  obtain ⟨n, hn⟩ : ∃ n, ls.length = n := ⟨_, rfl⟩
  have HN : Hid (ls.length = n) := hn
  have HU : Hid (rd w (.slice a n cap) ls) := hidI (by rw [← hn]; exact hu)
  rw [hn] at cL hn60 ⊢
  clear hE h3 hn hu hl
  have cS := frameSize_any n w (by omega)
  obtain ⟨c, hc⟩ : ∃ c, 2 * n + 5 = c := ⟨_, rfl⟩
  have hc200 : c ≤ 200 := by omega
  rw [hc] at cS
  clear hc
  obtain ⟨arr, harr, hmk⟩ := make_bytes c (by omega) w
  have hown : OwnB w.heap.size ((w.alloc (.cells arr 5)).alloc (.cells #[.int .i64 st, .int .i64 sq, .int .i64 (n : Int)] 3)) (some ⟨w.heap.size, 0, none⟩) c [] :=
    World.ownsRow.alloc ⟨rfl, .inr ⟨w.heap.size, c, arr, rfl, Nat.le_refl _, heap_alloc_new w _, Nat.zero_le _, by unfold maxLen; omega, by omega, by simp [bV]⟩⟩ _
  have hrd : rd ((w.alloc (.cells arr 5)).alloc (.cells #[.int .i64 st, .int .i64 sq, .int .i64 (n : Int)] 3)) (.slice (some ⟨w.heap.size + 1, 0, none⟩) 3 3) [st, sq, (n : Int)] :=
    ⟨_, _, rfl, .inr ⟨_, 0, rfl, fun i hi => by
      have := heap_alloc_new (w.alloc (.cells arr 5)) (.cells #[.int .i64 st, .int .i64 sq, .int .i64 (n : Int)] 3)
      rw [show (w.alloc (.cells arr 5)).heap.size = w.heap.size + 1 by simp] at this
      rw [at_cell this]
      have : i = 0 ∨ i = 1 ∨ i = 2 := by simp at hi; omega
      rcases this with rfl | rfl | rfl <;> rfl⟩⟩
  have cP : Calls Try.prog 15 #[.slice (some ⟨w.heap.size, 0, none⟩) 0 c, .slice (some ⟨w.heap.size + 1, 0, none⟩) 3 3] _ _ := putBytes_any w.heap.size [] _ _ _ _ _ hown hrd (fun b off len c e _ e2 => by
    injection e with e1
    simp at e1
    simp [Value.ownBlock] at e2
    omega) (by simp) (by simp; omega)
  have hg2 : w.grownBy ((w.alloc (.cells arr 5)).alloc (.cells #[.int .i64 st, .int .i64 sq, .int .i64 (n : Int)] 3)) none := gr_alloc (gr_alloc (World.grownBy.refl _ _) _) _
  have HG2 : Hid (w.grownBy _ none) := hg2
  clear hown hrd hg2 harr
  go_enter Try.func7, Try.ntmps7
  go_wp2_with fail
  refine (c1 _).mono ?_
  rintro e w' ⟨rfl, rfl⟩
  go_wp2_with fail
  refine (c2 _).mono ?_
  rintro e w' ⟨rfl, rfl⟩
  go_wp2_with fail
  refine cL.mono ?_
  rintro e w' ⟨rfl, rfl⟩
  go_wp2_with fail
  refine cS.mono ?_
  rintro e w' ⟨rfl, rfl⟩
  go_wp2_with fail
  refine cP.mono ?_
  rintro e w1 ⟨a1, cap1, rfl, hnew1⟩
  have hnew1' := newB_join (r := none) HG2.out (.inr fun y hy => by simp [Value.ownBlock] at hy; omega) hnew1
  obtain ⟨ho1, hg1, hr1⟩ := hnew1'
  have hblk1 := World.ownsRow.lt ho1
  have cQ := putPairs_any w.heap.size _ ls a1 cap1 _ w1 ho1 (rd_grown HU.out hg1) (off_new HU.out (fun y hy => (hblk1 y hy).1)) (by simp [HN.out]; omega) hg1.size
  have hl1 : ([] ++ List.map by8 [st, sq, (n : Int)]).length = 3 := rfl
  rw [hl1, HN.out] at cQ
  clear hnew1 cP cS hmk
  go_wp2_with fail
  refine cQ.mono ?_
  rintro e w2 ⟨a2, cap2, rfl, hnew2⟩
  obtain ⟨ho2, hg2, hr2⟩ := newB_join (r := none) hg1 (.inr fun y hy => (hblk1 y hy).1) hnew2
  have hH : [] ++ List.map by8 [st, sq, (n : Int)] ++ pairB ls = headF st sq ls := by unfold headF; rw [HN.out]; rfl
  rw [hH] at ho2 hr2
  have hHl := headF_len st sq ls
  rw [HN.out] at hHl
  have cC := sum_any _ _ w2 (headF_B st sq ls) ho2.rd (by rw [hHl]; unfold maxLen; omega)
  have hblk2 := World.ownsRow.lt ho2
  obtain ⟨C, hC⟩ : ∃ C : Nat, crc (headF st sq ls) = C := ⟨_, rfl⟩
  have HC : Hid (crc (headF st sq ls) = C) := hC
  rw [hC, hHl] at cC
  have hrd3 : rd (w2.alloc (.cells #[.int .i64 (C : Int)] 3)) (.slice (some ⟨w2.heap.size, 0, none⟩) 1 1) [(C : Int)] :=
    ⟨_, _, rfl, .inr ⟨_, 0, rfl, fun i hi => by
      rw [at_cell (heap_alloc_new w2 _)]
      have : i = 0 := by simp at hi; omega
      subst this; rfl⟩⟩
  have cR := putPairs_any w.heap.size _ [(C : Int)] a2 cap2 _ _ (World.ownsRow.alloc ho2 _) hrd3 (fun b off len c e _ e2 => by
    injection e with e1
    simp at e1
    have := hblk2 _ e2
    omega) (by rw [hHl]; simp; omega) (by have := hg2.size; simp; omega)
  rw [hHl] at cR
  clear hnew2 cQ hH hC
  go_wp2_with fail
  refine cC.mono ?_
  rintro e w' ⟨rfl, rfl⟩
  go_wp2_with fail
  refine cR.mono ?_
  rintro e w3 ⟨a3, cap3, rfl, hnew3⟩
  rw [← hHl] at hnew3
  obtain ⟨ho3, hg3, hr3⟩ := newB_join (r := none) (gr_alloc hg2 _) (.inr fun y hy => (hblk2 y hy).1) hnew3
  have hS : frameS st sq ls = headF st sq ls ++ pairB [(C : Int)] := by unfold frameS; rw [if_pos HE.out, HC.out]
  go_wp2
  go_ret2
  rw [hS, HE.out]
  exact ⟨a3, cap3, by rw [List.length_append, hHl]; rfl, ho3, hg3⟩
end Go.Proofs.Ytaiicehifailhab
