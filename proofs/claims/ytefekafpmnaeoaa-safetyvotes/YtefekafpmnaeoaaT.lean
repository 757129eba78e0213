/- Trips, and how a guard stands at first. -/
import Derived.Test.YtefekafpmnaeoaaG
namespace Go.Proofs.Ytefekafpmnaeoaa
open Go.RowKit
attribute [local go_sem ↓] Go.wp_at_zero Go.wp_at_succ
set_option linter.unusedVariables false
set_option linter.unusedSimpArgs false

theorem made_ints (n : Nat) : madeCells (Value.int .i64 0).cells n = intsA (List.replicate n 0) := by
  have e : (Value.int .i64 0).cells = #[Value.int .i64 0] := rfl
  rw [e]
  unfold madeCells intsA
  apply Array.ext
  · simp
  · intro i h1 h2
    simp [Nat.mod_one]
theorem make_ints (n : Nat) (hn : n ≤ 1000000000000) (w : World) : (Instr.makeSlice 26 (.int .i64 (n : Int)) (.int .i64 (n : Int))).run Try.prog w = .ok (.slice (some ⟨w.heap.size, 0, none⟩) n n) (w.alloc (.cells (intsA (List.replicate n 0)) 3)) := by
  obtain ⟨i0, hi, hz0, hz1, hz2⟩ := info_parts info3
  have h := run_make (P := Try.prog) w 26 3 i0 (.int .i64 0) Try.underlying26 hi hz0 .i64 .i64 (n : Int) (n : Int) (by omega) (by omega) (by rw [hz2]; simp; omega) (by omega)
  rw [hz1, made_ints] at h
  simpa using h
theorem own_made {w : World} {B n : Nat} (hB : B ≤ w.heap.size) (hn : n ≤ 1000000000000) : OwnL B (w.alloc (.cells (intsA (List.replicate n 0)) 3)) (some ⟨w.heap.size, 0, none⟩) n (List.replicate n 0) := by
  unfold OwnL
  rw [List.length_replicate]
  refine ⟨by simp, .inr ⟨w.heap.size, n, intsA (List.replicate n 0), rfl, hB, heap_alloc_new _ _, Nat.le_refl _, by unfold maxLen; omega, by simp [intsA], by simp [intsA]⟩⟩
/-- A trip. -/
structure Tr where
  d : Bool
  f : Int
  h : List Int
  k : Bool
def trA (T : Tr) (s : Value) : Array Value := #[.bool T.d, .int .i64 T.f, s, .bool T.k]
def trV (T : Tr) (s : Value) : Value := .agg (trA T s)
/-- A trip of one's own: what a call tells. -/
def TrP (w w' : World) (T : Tr) (v : Value) : Prop := ∃ a c, v = trV T (.slice a T.h.length c) ∧ OwnL w.heap.size w' a c T.h ∧ w.grownBy w' none
def TrE (w w' : World) (e : Ending) (T : Tr) (c : Nat) : Prop := ∃ V, e = .returned (.tuple #[V, .int .i64 (c : Int)]) ∧ TrP w w' T V
def zeroT : Tr := ⟨false, 0, [], false⟩
theorem TrP.zero {w w' : World} (hg : w.grownBy w' none) : TrP w w' zeroT (trV zeroT (.slice none 0 0)) := ⟨none, 0, rfl, OwnL.nil _ _, hg⟩
def startT (se de : Int) (l : List (Int × List Int)) : Tr := if (checkF se de l).1 = 0 then ⟨false, -1, List.replicate l.length 0, false⟩ else zeroT
theorem info28 : (Try.prog.info? 28).map (·.size) = some 4 := by kernel_rfl
theorem load28 (W : World) (p : Nat) (T : Tr) (s : Value) (hg : W.heap[p]? = some (.cells (trA T s) 28)) : (loadVar 28 ⟨p, 0, none⟩).run Try.prog W = .ok (trV T s) W :=
  run_loadVar_row (P := Try.prog) W p 28 28 (trA T s) (0, 0) _ hg Try.underlying28 rfl info28
theorem results28 {f : Func} {k m : Tmp} (hr : f.results = #[.cell k 28, .tmp m]) (tmps : Array Value) (W : World) (q : Nat) (T : Tr) (s : Value) (h6 : tmps.getD k undef = .pointer (some ⟨q, 0, none⟩)) (hg : W.heap[q]? = some (.cells (trA T s) 28)) :
    (results f tmps).run Try.prog W = .ok (.tuple #[trV T s, tmps.getD m undef]) W := by
  have hl := load28 W q T s hg
  have h6' : tmps[k]?.getD undef = .pointer (some ⟨q, 0, none⟩) := by simpa using h6
  simp [results, hr]
  rw [h6']
  simp [asAddr, hl, Result.andThen]
theorem box4 {W : World} {q : Nat} {y0 y1 y2 y3 x0 x1 x2 x3 : Value} {T : TypeId} (h : W.heap[q]? = some (.cells #[y0, y1, y2, y3] T)) : (((((W).setCell ⟨q, 0, none⟩ x0).setCell ⟨q, 1, none⟩ x1).setCell ⟨q, 2, none⟩ x2).setCell ⟨q, 3, none⟩ x3).heap[q]? = some (.cells #[x0, x1, x2, x3] T) := by
  have := at_set (at_set (at_set (at_set h 0 x0) 1 x1) 2 x2) 3 x3
  simpa using this
theorem gr4n {w W : World} {q : Nat} {x0 x1 x2 x3 : Value} (h : w.grownBy W none) (hq : w.heap.size ≤ q) : w.grownBy (((((W).setCell ⟨q, 0, none⟩ x0).setCell ⟨q, 1, none⟩ x1).setCell ⟨q, 2, none⟩ x2).setCell ⟨q, 3, none⟩ x3) none :=
  gr_own (gr_own (gr_own (gr_own h hq _ _) hq _ _) hq _ _) hq _ _
theorem gr4 {w W : World} {q : Nat} {x0 x1 x2 x3 : Value} (h : w.grownBy W (some q)) : w.grownBy (((((W).setCell ⟨q, 0, none⟩ x0).setCell ⟨q, 1, none⟩ x1).setCell ⟨q, 2, none⟩ x2).setCell ⟨q, 3, none⟩ x3) (some q) :=
  gr_set (gr_set (gr_set (gr_set h _ _) _ _) _ _) _ _
theorem at4 {W : World} {q : Nat} {y0 y1 y2 y3 : Value} {T : TypeId} (h : W.heap[q]? = some (.cells #[y0, y1, y2, y3] T)) : W.cell? ⟨q, 0, none⟩ = some y0 ∧ W.cell? ⟨q, 1, none⟩ = some y1 ∧ W.cell? ⟨q, 2, none⟩ = some y2 ∧ W.cell? ⟨q, 3, none⟩ = some y3 :=
  ⟨at_cell h 0, at_cell h 1, at_cell h 2, at_cell h 3⟩
theorem fz4 {W : World} {q : Nat} {cs : Array Value} {T : TypeId} (h : W.heap[q]? = some (.cells cs T)) : W.frozen? ⟨q, 0, none⟩ = false ∧ W.frozen? ⟨q, 1, none⟩ = false ∧ W.frozen? ⟨q, 2, none⟩ = false ∧ W.frozen? ⟨q, 3, none⟩ = false :=
  ⟨at_frozen h 0, at_frozen h 1, at_frozen h 2, at_frozen h 3⟩
theorem checkF_ok {se de : Int} {l : List (Int × List Int)} (h : (checkF se de l).1 = 0) : 1 ≤ se ∧ se ≤ 64 ∧ 1 ≤ l.length ∧ l.length ≤ 16 ∧ 0 ≤ de ∧ de ≤ 1000 ∧ ∀ v ∈ l, voteE se v.1 v.2 = 0 := by
  unfold checkF at h
  split at h
  · next h0 =>
    obtain ⟨a1, a2, a3, a4, a5, a6⟩ := guardE_ok h0
    refine ⟨a1, a2, a3, a4, a5, a6, ?_⟩
    have key : ∀ (l : List (Int × List Int)) (i : Nat), (votesF se l i).1 = 0 → ∀ v ∈ l, voteE se v.1 v.2 = 0 := fun l => by
      induction l with
      | nil => intro i _ v hv; simp at hv
      | cons x l ih =>
        intro i hi v hv
        simp only [votesF] at hi
        by_cases hx : voteE se x.1 x.2 = 0
        · rw [if_pos hx] at hi
          rcases List.mem_cons.1 hv with e | e
          · rw [e]; exact hx
          · exact ih _ hi v e
        · rw [if_neg hx] at hi
          exact absurd hi hx
    exact key l 0 h
  · next h0 => exact absurd h h0
end Go.Proofs.Ytefekafpmnaeoaa
