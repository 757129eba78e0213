/- The document's answer: instrOk, whatever the instruction; what the document asks of a unit is what the program asks of it. -/
import Derived.Test.YtbaijehecncclaaDoorF4
import Derived.Test.YtbaijehecncclaaDoorP1
namespace Go.Proofs.YtbaijehecncclaaDoor
open Go.RowKit
set_option linter.unusedVariables false
set_option linter.unusedSimpArgs false

theorem instrOk_any (x : Ins) (l : List (Int × Nat)) (fn n i u : Nat) (psv : Value) (w : World) (hC : CdAt w psv u l fn n i x) (hf : fn ≤ 1000000000000) (hn : n ≤ 1000000000000) (hu : u ≤ 1000000000000) (hm : ∀ j, (l.getD j (0, 0)).2 ≤ 1000000000000) :
    Calls Tryd.prog 10 #[psv, .int .i64 u, .int .i64 i] w fun e w' => e = .returned (.bool (okD l fn n i x)) ∧ w.grownBy w' none := by
  obtain ⟨d, a, b, c⟩ := x
  rcases dos d with rfl | rfl | rfl | rfl | rfl | rfl | rfl | rfl | rfl | rfl | rfl | rfl | rfl | rfl | rfl | rfl | rfl | rfl | hd
  · exact instrOk_1 a b c l fn n i u psv w hC hf hn hu
  · exact instrOk_2 a b c l fn n i u psv w hC hf hn hu
  · exact instrOk_3 a b c l fn n i u psv w hC hf hn hu
  · exact instrOk_4 a b c l fn n i u psv w hC hf hn hu
  · exact instrOk_5 a b c l fn n i u psv w hC hf hn hu
  · exact instrOk_6 a b c l fn n i u psv w hC hf hn hu
  · exact instrOk_7 a b c l fn n i u psv w hC hf hn hu
  · exact instrOk_8 a b c l fn n i u psv w hC hf hn hu
  · exact instrOk_9 a b c l fn n i u psv w hC hf hn hu
  · exact instrOk_10 a b c l fn n i u psv w hC hf hn hu
  · exact instrOk_11 a b c l fn n i u psv w hC hf hn hu
  · exact instrOk_12 a b c l fn n i u psv w hC hf hn hu
  · exact instrOk_13 a b c l fn n i u psv w hC hf hn hu
  · exact instrOk_14 a b c l fn n i u psv w hC hf hn hu
  · exact instrOk_15 a b c l fn n i u psv w hC hf hn hu
  · exact instrOk_16 a b c l fn n i u psv w hC hf hn hu
  · exact instrOk_17 a b c l fn n i u psv w hC hf hn hu hm
  · exact instrOk_18 a b c l fn n i u psv w hC hf hn hu hm
  · exact instrOk_else d a b c hd l fn n i u psv w hC hf hn hu

def DocStk (t : List Ins) : Prop := ∃ hs, hgt t (tkN t) (gvN t) t.length = some hs ∧ hs.getD t.length 0 ≤ 0
/-- What the document asks of a unit. -/
structure DocOk (l : List (Int × Nat)) (kd : Int) (fn : Nat) (t : List Ins) : Prop where
  kind : kd = 1 ∨ kd = 2 ∨ kd = 3
  frame : fn ≤ 20000
  len : t.length ≤ 100000
  ok : ∀ i, i < t.length → okD l fn t.length i (nth t i) = true
  loops : LpOk t ∧ Pairs t
  jumps : JDoc t
  stack : DocStk t
theorem ok_iff (l : List (Int × Nat)) (fn : Nat) (t : List Ins) : (∀ i, i < t.length → okD l fn t.length i (nth t i) = true) ↔ (AllMay l fn t ∧ ∀ i, isR t i = true → 1 ≤ (nth t i).b ∧ (nth t i).b ≤ i) := by
  constructor
  · intro h
    refine ⟨fun i hi => ?_, fun i hr => ?_⟩
    · have := h i hi
      rw [ok_may] at this
      simp only [mayD, Bool.and_eq_true] at this
      simp only [mayS, Bool.and_eq_true]
      exact this.1
    · have := h i (isR_lt hr)
      have hd : (nth t i).d = 14 := by simpa [isR] using hr
      rw [ok_may] at this
      simp only [mayD, Bool.and_eq_true, hd, if_true, isW, decide_eq_true_eq] at this
      exact this.2
  · rintro ⟨h1, h2⟩ i hi
    rw [ok_may]
    have := h1 i hi
    simp only [mayS, Bool.and_eq_true] at this
    simp only [mayD, Bool.and_eq_true]
    refine ⟨this, ?_⟩
    split
    · rename_i hd
      have := h2 i (by simp [isR, hd])
      simp [isW, this.1, this.2]
    · rfl
theorem doc_prog (l : List (Int × Nat)) (kd : Int) (fn : Nat) (t : List Ins) : DocOk l kd fn t ↔ ProgOk l kd fn t := by
  constructor
  · intro h
    obtain ⟨hm, hb⟩ := (ok_iff l fn t).1 h.ok
    obtain ⟨hr, hn⟩ := (loops_join hb).1 h.loops
    exact ⟨by have := h.kind; omega, h.frame, h.len, hm, hr, hn, (jumps_join hr (may_fwd hm)).1 h.jumps, (stack_join (fun i => (gvS_bd (nth t i)).1) (may_fwd hm)).1 h.stack⟩
  · intro h
    have hb : ∀ i, isR t i = true → 1 ≤ (nth t i).b ∧ (nth t i).b ≤ i := fun i hi => ⟨(h.rds.rounds i hi).1, (h.rds.rounds i hi).2.1⟩
    exact ⟨by have := h.kind; omega, h.frame, h.len, (ok_iff l fn t).2 ⟨h.may, hb⟩, (loops_join hb).2 ⟨h.rds, h.nest⟩, (jumps_join h.rds (may_fwd h.may)).2 h.jumps, (stack_join (fun i => (gvS_bd (nth t i)).1) (may_fwd h.may)).2 h.stack⟩
end Go.Proofs.YtbaijehecncclaaDoor
