/- lookOver: the bound of a unit, or why it may not be. -/
import Derived.Test.YtbaijehecncclaaDoorP1
namespace Go.Proofs.YtbaijehecncclaaDoor
open Go.RowKit
attribute [local go_sem ↓] Go.wp_at_zero Go.wp_at_succ
set_option linter.unusedVariables false
set_option linter.unusedSimpArgs false

/-- The steps of a text. -/
def sumT (bds : List Int) (t : List Ins) : Int := sumP t (fun k => stepS bds (nth t k)) t.length
/-- What is said of a unit: its bound and 0, or 0 and a fault. -/
def lookS (D : (∀ p : Prop, Decidable p) × Unit) (l : List (Int × Nat)) (bds : List Int) (kd : Int) (fn : Nat) (t : List Ins) : Int × Int :=
  @ite _ (ProgOk l kd fn t) (D.1 _) (if 1000000000 < sumT bds t then (0, 13) else (sumT bds t, 0)) (0, 12)

set_option maxHeartbeats 1000000 in
theorem lookOver_any (l : List (Int × Nat)) (bds : List Int) (kd : Int) (fn : Nat) (t : List Ins) (av bv : Value) (pb po : Nat) (tv : Value) (w : World) (h : UnAt w w.heap.size l kd fn t av bv pb po tv) (hS : Stds w) (hll : l.length ≤ 1000) (hbv : rd w bv bds) (hbl : bds.length = l.length) (hbd : ∀ b, b ∈ bds → 0 ≤ b ∧ b ≤ 1000000000) :
    Calls Tryd.prog 15 #[av, bv, .pointer (some ⟨pb, po, none⟩)] w fun e w' => e = .returned (.tuple #[.int .i64 (lookS (Classical.propDecidable, ()) l bds kd fn t).1, .int .i64 (lookS (Classical.propDecidable, ()) l bds kd fn t).2]) ∧ w.grownBy w' none := by
  obtain ⟨aa, acap, rfl, haa⟩ := h.ahead
  obtain ⟨ba, bcap, rfl, hba⟩ := hbv
  clear haa
  have HH : Hid (UnAt w w.heap.size l kd fn t (.slice aa l.length acap) (.slice ba bds.length bcap) pb po tv) := h
  have HV : Hid (rd w (.slice ba bds.length bcap) bds) := ⟨ba, bcap, rfl, hba⟩
  have HD : Hid (∀ b, b ∈ bds → 0 ≤ b ∧ b ≤ 1000000000) := hbd
  have HL : Hid (bds.length = l.length) := hbl
  have cM := mayBe_any w.heap.size l kd fn t (.slice aa l.length acap) (.slice ba bds.length bcap) pb po tv w (w.alloc (.cells #[.slice aa l.length acap, .slice ba bds.length bcap, .pointer (some ⟨pb, po, none⟩), .slice none 0 0, .slice none 0 0] 64)) h (gr1 _ _) ⟨_, _, heap_alloc_new _ _⟩ hS (by omega)
  clear h hbd hS hba hbl
  go_enter Tryd.func15, Tryd.ntmps15
  go_wp2_with fail
  refine cM.mono ?_
  rintro e w1 ⟨r, rfl, hr, hg1, hLd⟩
  clear cM
  have HR : Hid (r = true ↔ ProgOk l kd fn t) := hr
  have HLd : Hid (r = true → Laid w1 w.heap.size t (.slice aa l.length acap) (.slice ba bds.length bcap) pb po) := hLd
  clear hr hLd
  cases r with
  | false =>
    have HX : Hid (lookS (Classical.propDecidable, ()) l bds kd fn t = (0, 12)) := (by
      unfold lookS; rw [if_neg (fun hx => by have := HR.out.2 hx; simp at this)] : lookS (Classical.propDecidable, ()) l bds kd fn t = (0, 12))
    clear HR HLd
    go_wp2_with fail
    go_ret2
    refine ⟨?_, hg1⟩
    rw [HX.out]
    simp
  | true =>
    have HP : Hid (ProgOk l kd fn t) := HR.out.1 rfl
    have HX : Hid (lookS (Classical.propDecidable, ()) l bds kd fn t = if 1000000000 < sumT bds t then (0, 13) else (sumT bds t, 0)) := (by
      unfold lookS; rw [if_pos HP.out] : lookS (Classical.propDecidable, ()) l bds kd fn t = if 1000000000 < sumT bds t then (0, 13) else (sumT bds t, 0))
    have HLd2 : Hid (Laid w1 w.heap.size t (.slice aa l.length acap) (.slice ba bds.length bcap) pb po) := HLd.out rfl
    clear HR HLd
    obtain ⟨bb, tb, z1, z2, z3⟩ := HLd2.out
    have hB := may_bs HP.out.may
    have cB := bound_any w.heap.size tb t bds (timK t t.length) (.slice ba bds.length bcap) w1 (ovT_of HH.out hg1 HLd2.out.blk) HP.out.len (by rw [at_cell z1]; rfl) (rd_grown HV.out hg1) (by rw [at_cell z1]; rfl) z3 (timK_len _ _)
      (fun k hk => by
        rw [timK_get t k hk]
        have := prd_bd hB (k + 1) k
        simp only [top1] at this
        exact ⟨rfl, this.1, this.2⟩)
      (fun k hk => may_steps HP.out.may HP.out.frame HD.out HL.out k hk) (fun k hk hd => by have := may_run HP.out.may k hk hd; rw [HL.out]; exact this) (by rw [HL.out]; exact hll)
    clear z1 z2 z3 hB
    have HSM : Hid (sumP t (fun k => stepS bds (nth t k)) t.length = sumT bds t) := (rfl : sumP t (fun k => stepS bds (nth t k)) t.length = sumT bds t)
    rw [HSM.out] at cB
    generalize sumT bds t = S at *
    go_wp2_with fail
    refine cB.mono ?_
    rintro e w2 ⟨rfl, hg2⟩
    clear cB
    by_cases hS : 1000000000 < S
    · go_wp2_with fail
      go_ret2
      refine ⟨?_, hg1.trans hg2⟩
      rw [HX.out, if_pos hS]
      simp
    · go_wp2_with fail
      go_ret2
      refine ⟨?_, hg1.trans hg2⟩
      rw [HX.out, if_neg (by omega)]
      simp
end Go.Proofs.YtbaijehecncclaaDoor
