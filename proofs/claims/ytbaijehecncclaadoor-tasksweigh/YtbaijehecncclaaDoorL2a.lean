/- nest: the stack of loops, walked. -/
import Derived.Test.YtbaijehecncclaaDoorB0
import Derived.Test.YtbaijehecncclaaDoorV5
import Derived.WalkSmall
namespace Go.Proofs.YtbaijehecncclaaDoor
open Go.RowKit
attribute [local go_sem ↓] Go.wp_at_zero Go.wp_at_succ
set_option linter.unusedVariables false
set_option linter.unusedSimpArgs false

def boolsA (l : List Bool) : Array Value := (l.map Value.bool).toArray
theorem boolsA_set (l : List Bool) (k : Nat) (x : Bool) : (boolsA l).setIfInBounds k (.bool x) = boolsA (l.set k x) := by
  unfold boolsA
  simp [List.map_set]
theorem bools_get {w : World} {c T : Nat} {l : List Bool} (h : w.heap[c]? = some (.cells (boolsA l) T)) (i : Nat) (hi : i < l.length) : w.cell? ⟨c, i, none⟩ = some (.bool (l.getD i false)) := by
  rw [at_cell h]
  simp [boolsA, hi]
/-- A list of numbers that the call itself owns, from block B on. -/
def OwnI (B : Nat) (w : World) (g cap : Nat) (l : List Int) : Prop := w.ownsRow B 3 1 (.slice (some ⟨g, 0, none⟩) l.length cap) l.length (l.map (Value.int .i64))
theorem OwnI.get {B : Nat} {w : World} {g cap : Nat} {l : List Int} (h : OwnI B w g cap l) (i : Nat) (hi : i < l.length) : w.cell? ⟨g, i, none⟩ = some (.int .i64 (l.getD i 0)) := by
  rw [World.ownsRow.cellAt h i (by omega)]
  simp [hi]
theorem OwnI.lt {B : Nat} {w : World} {g cap : Nat} {l : List Int} (h : OwnI B w g cap l) : B ≤ g ∧ g < w.heap.size := World.ownsRow.lt h g rfl
theorem OwnI.kept {B : Nat} {w w' : World} {g cap : Nat} {l : List Int} (h : OwnI B w g cap l) {row : Option Nat} (hg : w.grownBy w' row) (hne : row ≠ some g) : OwnI B w' g cap l := World.ownsRow.kept h hg (.inr fun e => hne e.symm)
theorem OwnI.first {B : Nat} (w : World) (l : List Int) (hb : B ≤ w.heap.size) (hl : l.length ≤ 1000000) : OwnI B (w.alloc (.cells (intsA l) 3)) w.heap.size l.length l := by
  have := World.ownsRow_lit (base := B) (e := 3) (size := 1) w (intsA l) l.length hb (by unfold maxLen; omega) (by simp [intsA])
  simpa [OwnI, intsA] using this
theorem OwnI.pop {B : Nat} {w : World} {g cap : Nat} {l : List Int} {x : Int} (h : OwnI B w g cap (l ++ [x])) : OwnI B w g cap l := by
  unfold OwnI at h ⊢
  rw [List.length_append] at h
  simp only [List.length_cons, List.length_nil, List.map_append, List.map_cons, List.map_nil] at h
  exact ownsRow_pop (by simp) h
/-- One more. -/
theorem OwnI.more {B : Nat} {w : World} {g cap : Nat} {l : List Int} (h : OwnI B w g cap l) (x : Int) (hl : l.length ≤ 1000000) (hB : B ≤ w.heap.size) :
    ∃ g' cap' w', (Builtin.append_ #[29, 29] 29 #[.slice (some ⟨g, 0, none⟩) l.length cap, .slice (some ⟨w.heap.size, 0, none⟩) 1 1]).run Tryd.prog (w.alloc (.cells #[.int .i64 x] 3)) = .ok (.slice (some ⟨g', 0, none⟩) (l.length + 1) cap') w' ∧
      OwnI B w' g' cap' (l ++ [x]) ∧ w.grownBy w' (some g) ∧ (g' = g ∨ w.heap.size ≤ g') := by
  obtain ⟨i0, hi, hz0, hz1, hz2⟩ := info_parts info3
  obtain ⟨v', w', r1, r2, r3, r4, r5⟩ := run_append_own_at (P := Tryd.prog) (w.alloc (.cells #[.int .i64 x] 3)) B 29 29 3 i0 (.int .i64 0) 1 8 Tryd.underlying29 hi hz0 hz1 hz2 rfl (by omega) _ _ _ (World.ownsRow.alloc h _) ⟨w.heap.size, 0, none⟩ 1 1 [.int .i64 x] rfl
    (fun j u hj => by
      rw [addn, at_cell (heap_alloc_new w _) (0 + j)]
      simpa using hj)
    (by simp [Value.oneCell']) (by unfold maxLen; omega) (by omega) (by simp; omega)
  have r2' := r2
  obtain ⟨_, hx | ⟨g', cap', cur, rfl, _⟩⟩ := r2'
  · exfalso
    have := (r4.1 hx.1).1
    simp at this
  · refine ⟨g', cap', w', r1, ?_, ?_, ?_⟩
    · unfold OwnI
      simpa using r2
    · exact grown_join (gr_alloc (World.grownBy.refl _ _) _) r3 (.inl rfl)
    · rcases r5 with h5 | h5
      · left; simpa [Value.ownBlock] using h5
      · right
        simp [Value.ownBlock] at h5
        omega
/-- One more, at whatever world. -/
theorem OwnI.moreAt {B : Nat} {W : World} {g cap : Nat} {l : List Int} (h : OwnI B W g cap l) (x : Int) (xb : Nat) (hx : W.heap[xb]? = some (.cells #[.int .i64 x] 3)) (hl : l.length ≤ 1000000) (hB : B ≤ W.heap.size) :
    ∃ g' cap' w', (Builtin.append_ #[29, 29] 29 #[.slice (some ⟨g, 0, none⟩) l.length cap, .slice (some ⟨xb, 0, none⟩) 1 1]).run Tryd.prog W = .ok (.slice (some ⟨g', 0, none⟩) (l.length + 1) cap') w' ∧
      OwnI B w' g' cap' (l ++ [x]) ∧ W.grownBy w' (some g) ∧ (g' = g ∨ (W.heap.size ≤ g' ∧ W.grownBy w' none)) := by
  obtain ⟨i0, hi, hz0, hz1, hz2⟩ := info_parts info3
  have hnews : ∀ (j : Nat) (u : Value), [Value.int .i64 x][j]? = some u → W.cell? ((⟨xb, 0, none⟩ : Addr).add j) = some u := fun j u hj => by
    rw [addn, at_cell hx (0 + j)]
    simpa using hj
  by_cases hroom : l.length + 1 ≤ cap
  · obtain ⟨w', r1, r2, r3⟩ := run_append_fits (P := Tryd.prog) W B 29 29 3 i0 1 Tryd.underlying29 hi hz1 g l.length cap _ h ⟨xb, 0, none⟩ 1 1 [.int .i64 x] rfl hnews (by simp [Value.oneCell']) hroom
    refine ⟨g, cap, w', r1, ?_, r3, .inl rfl⟩
    unfold OwnI
    simpa using r2
  · obtain ⟨v', w', r1, r2, r3, r4, r5⟩ := run_append_own_at (P := Tryd.prog) W B 29 29 3 i0 (.int .i64 0) 1 8 Tryd.underlying29 hi hz0 hz1 hz2 rfl (by omega) _ _ _ h ⟨xb, 0, none⟩ 1 1 [.int .i64 x] rfl
      hnews (by simp [Value.oneCell']) (by unfold maxLen; omega) (by omega) hB
    have hcap := nextslicecap_le (need := l.length + 1) (old := cap) (by omega)
    have hgrow := run_append_grow (P := Tryd.prog) W 29 29 3 i0 (.int .i64 0) Tryd.underlying29 hi hz0 ⟨g, 0, none⟩ l.length cap (l.map (Value.int .i64)) (by simp [hz1]) (fun j v hj => World.ownsRow.cells h rfl j v hj) ⟨xb, 0, none⟩ 1 1 [.int .i64 x] (by simp [hz1]) hnews (by omega) (by omega) (by rw [hz2]; omega)
    rw [hgrow] at r1
    injection r1 with e1 e2
    subst e1 e2
    refine ⟨W.heap.size, _, _, hgrow, ?_, r3, .inr ⟨Nat.le_refl _, gr_alloc (gr_drew (World.grownBy.refl _ _)) _⟩⟩
    unfold OwnI
    simpa using r2

/-- An append at a step of a region that draws, its run known. -/
theorem step_append_run {P : Program} {w : World} {ops : Array Oper} {o : Oper} {a : Act} {K : Act → World → Prop} {Q : Exit → Act → World → Prop} {E : Prop} (hgd : o.guard = none) (s x : Operand) (t : TypeId)
    (ho : o.op = .call { callee := .builtin .append, args := #[s, x], argTypes := #[t, t] })
    (v u v' : Value) (w' : World) (hs : a.eval s = v) (hx : a.eval x = u) (hrun : (Builtin.append_ #[t, t] o.type #[v, u]).run P w = .ok v' w')
    (h : K (a.put o.dst v') w') : if Region.wanted o (yielded ops a.tmps) = true then Oper.wp P o a w K Q else E := by
  have hw : Region.wanted o (yielded ops a.tmps) = true := by simp [Region.wanted, hgd]
  rw [if_pos hw]
  unfold Oper.wp
  simp [execOp, ho, resolve, invoke, builtin, hs, hx, hrun, Result.andThen]
  exact h
end Go.Proofs.YtbaijehecncclaaDoor
