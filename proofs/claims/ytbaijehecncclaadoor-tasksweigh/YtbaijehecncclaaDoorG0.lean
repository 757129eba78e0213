/- Lists of loops that the call owns. -/
import Derived.Test.YtbaijehecncclaaDoorL1
import Derived.Test.YtbaijehecncclaaDoorL2a
import Derived.Test.YtbaijehecncclaaDoorV6
namespace Go.Proofs.YtbaijehecncclaaDoor
open Go.RowKit
set_option linter.unusedVariables false
set_option linter.unusedSimpArgs false

/-- A loop's four cells. -/
def lpV (t : List Ins) (e : Nat) : List Value := [.int .i64 ((e : Int) + 1), .int .i64 (rnd t (e + 1)), .int .i64 (nth t e).a, .int .i64 (nth t e).b]
theorem flat4 {α : Type} (f : α → List Value) (hf : ∀ a, (f a).length = 4) (l : List α) (i r : Nat) (hr : r < 4) (hi : i < l.length) : (l.flatMap f)[i * 4 + r]? = (f l[i])[r]? := by
  induction l generalizing i with
  | nil => simp at hi
  | cons x l ih =>
    rw [List.flatMap_cons]
    cases i with
    | zero =>
      rw [List.getElem?_append_left (by rw [hf]; omega)]
      simp
    | succ i =>
      rw [List.getElem?_append_right (by rw [hf]; omega), hf]
      have := ih i (by simpa using hi)
      rw [show (i + 1) * 4 + r - 4 = i * 4 + r by omega, this]
      simp
theorem flat4_len {α : Type} (f : α → List Value) (hf : ∀ a, (f a).length = 4) (l : List α) : (l.flatMap f).length = l.length * 4 := by
  induction l with
  | nil => simp
  | cons x l ih => simp [List.flatMap_cons, hf, ih]; omega
/-- Loops that can be read at a slice's value. -/
def LpsAt (w : World) (v : Value) (t : List Ins) (l : List Nat) : Prop :=
  ∃ a cap, v = .slice a l.length cap ∧ (l = [] ∨ ∃ b off, a = some ⟨b, off, none⟩ ∧ ∀ i, i < l.length →
    w.cell? ⟨b, off + i * 4, none⟩ = some (.int .i64 (((l.getD i 0) : Nat) + 1 : Int)) ∧ w.cell? ⟨b, off + i * 4 + 1, none⟩ = some (.int .i64 (rnd t (l.getD i 0 + 1))) ∧
    w.cell? ⟨b, off + i * 4 + 2, none⟩ = some (.int .i64 (nth t (l.getD i 0)).a) ∧ w.cell? ⟨b, off + i * 4 + 3, none⟩ = some (.int .i64 (nth t (l.getD i 0)).b))
theorem LpsAt.grown {w w' : World} {v : Value} {t : List Ins} {l : List Nat} (h : LpsAt w v t l) (hg : w.grownBy w' none) : LpsAt w' v t l := by
  obtain ⟨a, cap, rfl, h | ⟨b, off, rfl, hc⟩⟩ := h
  · exact ⟨a, cap, rfl, .inl h⟩
  · exact ⟨_, cap, rfl, .inr ⟨b, off, rfl, fun i hi => ⟨hg.cell (hc i hi).1 (by simp), hg.cell (hc i hi).2.1 (by simp), hg.cell (hc i hi).2.2.1 (by simp), hg.cell (hc i hi).2.2.2 (by simp)⟩⟩⟩
def OwnL (B : Nat) (w : World) (v : Value) (t : List Ins) (l : List Nat) : Prop := w.ownsRow B 50 4 v l.length (l.flatMap (lpV t))
theorem OwnL.nil (B : Nat) (w : World) (t : List Ins) : OwnL B w (.slice none 0 0) t [] := World.ownsRow_nil w B 50 4
theorem OwnL.keptN {B : Nat} {w w' : World} {v : Value} {t : List Ins} {l : List Nat} (h : OwnL B w v t l) (hg : w.grownBy w' none) : OwnL B w' v t l := by
  refine World.ownsRow.kept h hg ?_
  cases hv : v.ownBlock with
  | none => exact .inl rfl
  | some x => exact .inr (by simp)
theorem OwnL.row {B : Nat} {w : World} {v : Value} {t : List Ins} {l : List Nat} (h : OwnL B w v t l) : ∀ x, v.ownBlock = some x → B ≤ x := fun x hx => (World.ownsRow.lt h x hx).1
theorem OwnL.form {B : Nat} {w : World} {v : Value} {t : List Ins} {l : List Nat} (h : OwnL B w v t l) : ∃ a cap, v = .slice a l.length cap := by
  obtain ⟨_, ⟨rfl, hn⟩ | ⟨g, cap, cur, rfl, _⟩⟩ := h
  · rw [hn]; exact ⟨none, 0, rfl⟩
  · exact ⟨_, cap, rfl⟩
theorem OwnL.at {B : Nat} {w : World} {v : Value} {t : List Ins} {l : List Nat} (h : OwnL B w v t l) : LpsAt w v t l := by
  have h' := h
  obtain ⟨_, ⟨rfl, hn⟩ | ⟨g, cap, cur, rfl, _⟩⟩ := h
  · have : l = [] := by simpa using hn
    subst this
    exact ⟨none, 0, rfl, .inl rfl⟩
  · refine ⟨_, cap, rfl, .inr ⟨g, 0, rfl, fun i hi => ?_⟩⟩
    have key : ∀ r, r < 4 → w.cell? ⟨g, 0 + i * 4 + r, none⟩ = (lpV t l[i])[r]? := fun r hr => by
      rw [Nat.zero_add, World.ownsRow.cellAt h' (i * 4 + r) (by omega), flat4 _ (fun _ => rfl) l i r hr hi]
    have k0 := key 0 (by omega)
    have k1 := key 1 (by omega)
    have k2 := key 2 (by omega)
    have k3 := key 3 (by omega)
    have e : l.getD i 0 = l[i] := by simp [hi]
    rw [e]
    simp only [lpV, List.getElem?_cons_zero, List.getElem?_cons_succ, Nat.add_zero] at k0 k1 k2 k3
    exact ⟨k0, k1, k2, k3⟩
theorem info50 : (Tryd.prog.info? 50).map (fun i => (i.zero, i.size, i.bytes)) = some (some (.agg #[.int .i64 0, .int .i64 0, .int .i64 0, .int .i64 0]), 4, 32) := by kernel_rfl
theorem OwnL.more {B : Nat} {W : World} {v : Value} {t : List Ins} {l : List Nat} (h : OwnL B W v t l) (e : Nat) (xb : Nat) (hx : W.heap[xb]? = some (.cells (lpV t e).toArray 50)) (hl : l.length ≤ 1000000) (hB : B ≤ W.heap.size) :
    ∃ v' w', (Builtin.append_ #[42, 42] 42 #[v, .slice (some ⟨xb, 0, none⟩) 1 1]).run Tryd.prog W = .ok v' w' ∧ OwnL B w' v' t (l ++ [e]) ∧ W.grownBy w' v.ownBlock := by
  obtain ⟨i0, hi, hz0, hz1, hz2⟩ := info_parts info50
  obtain ⟨v', w', r1, r2, r3, _, _⟩ := run_append_own_at (P := Tryd.prog) W B 42 42 50 i0 (.agg #[.int .i64 0, .int .i64 0, .int .i64 0, .int .i64 0]) 4 32 Tryd.underlying42 hi hz0 hz1 hz2 rfl (by omega) _ _ _ h ⟨xb, 0, none⟩ 1 1 (lpV t e) rfl
    (fun j u hj => by
      rw [addn, at_cell hx (0 + j)]
      simpa using hj)
    (by simp [lpV, Value.oneCell']) (by unfold maxLen; omega) (by omega) hB
  refine ⟨v', w', r1, ?_, r3⟩
  unfold OwnL
  simpa using r2

/-- How many of the first k are Rounds. -/
def rdsK (t : List Ins) (k : Nat) : Nat := (t.take k).countP (fun x => x.d == 14)
theorem rdsK_succ (t : List Ins) (k : Nat) (hk : k < t.length) : rdsK t (k + 1) = rdsK t k + (if isR t k then 1 else 0) := count_take t _ k hk
theorem rdsK_le (t : List Ins) (k : Nat) : rdsK t k ≤ k := by
  unfold rdsK
  have := List.countP_le_length (p := fun x : Ins => x.d == 14) (l := t.take k)
  simp at this
  omega
theorem rdsK_full (t : List Ins) : rdsK t t.length = t.countP (fun x => x.d == 14) := by simp [rdsK]
/-- What is asked of an Enter. -/
def goodE (t : List Ins) (e : Nat) : Prop := isE t e = true → rnd t (e + 1) < t.length ∧ e + 1 ≤ rnd t (e + 1) ∧ (nth t (rnd t (e + 1))).a = (nth t e).a
theorem lpOk_iff (t : List Ins) : LpOk t ↔ (∀ e, e < t.length → goodE t e) ∧ rdsK t t.length = (ents t t.length).length := by
  rw [rdsK_full, ents_count]
  exact ⟨fun h => ⟨fun e _ => h.enters e, h.same⟩, fun h => ⟨fun e he => h.1 e (isE_lt he) he, h.2⟩⟩
end Go.Proofs.YtbaijehecncclaaDoor
