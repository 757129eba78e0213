/- The iterator of jobs. -/
import Derived.Test.YtholmeebkgpjjaaN
import Derived.RangeFuncNested
import Derived.RangeFuncBound
import Derived.RangeFuncCalls
import Derived.RangeFuncLeaves
import Derived.OwnWalkIn
import Derived.TacticsInMore
import Derived.LoopNIn
import Derived.LoopIn
namespace Go.Proofs.Ytholmeebkgpjjaa
open Go.RowKit
attribute [local go_sem ↓] Go.wp_at_zero Go.wp_at_succ
attribute [local go_sem] Oper.semAt_some
set_option linter.unusedVariables false
set_option linter.unusedSimpArgs false

section
variable {w0 : World} {Fr : Nat → Obj → Prop} {B pb qb L : Nat} {s : Ps} {qm : Nat → Qm} {pa : Option Addr} {pc : Nat} {w w' : World}
theorem ProcAt.own_lt (h : ProcAt w0 Fr B pb qb L s qm pa pc w) {k : Nat} (hk : w.heap.size ≤ k) : k ≠ pb ∧ k ≠ qb ∧ (∀ i, i < L → (qm i).blk ≠ some k) ∧ (Value.slice pa s.out.length pc).ownBlock ≠ some k := by
  have := h.lt
  exact ⟨by omega, by omega, fun i hi e => by have := ((h.each i hi).blk e).2; omega, fun e => by have := (World.ownsRow.lt h.out k e).2; omega⟩
/-- A block that was made since is no block of its own. -/
theorem ProcAt.add (h : ProcAt w0 Fr B pb qb L s qm pa pc w) (hg : w.grownBy w' none) {k : Nat} {o : Obj} (hk : w.heap.size ≤ k) (ho : w'.heap[k]? = some o) : ProcAt w0 (fun k' o' => Fr k' o' ∨ (k' = k ∧ o' = o)) B pb qb L s qm pa pc w' := by
  have h' := h.grow hg
  exact ⟨h'.p, h'.q, h'.each, h'.apart, h'.free, h'.out, h'.outf, h'.pq, h'.base, h'.grown, fun k' o' hf => by
    rcases hf with hf | ⟨rfl, rfl⟩
    · exact h'.keep k' o' hf
    · exact ho, fun k' o' hf => by
    rcases hf with hf | ⟨rfl, rfl⟩
    · exact h'.sep k' o' hf
    · exact h.own_lt hk⟩
/-- Another frame, of the same blocks. -/
theorem ProcAt.refr (h : ProcAt w0 Fr B pb qb L s qm pa pc w) {Fr' : Nat → Obj → Prop} (hk : ∀ k o, Fr' k o → w.heap[k]? = some o ∧ ∃ o', Fr k o') : ProcAt w0 Fr' B pb qb L s qm pa pc w :=
  ⟨h.p, h.q, h.each, h.apart, h.free, h.out, h.outf, h.pq, h.base, h.grown, fun k o hf => (hk k o hf).1, fun k o hf => by
    obtain ⟨_, o', h2⟩ := hk k o hf
    exact h.sep k o' h2⟩
/-- A foreign block is written. -/
theorem ProcAt.foreign (h : ProcAt w0 Fr B pb qb L s qm pa pc w) {k : Nat} {o : Obj} (hk : Fr k o) (hb : w0.heap.size ≤ k) (hg : w.grownBy w' (some k)) {Fr' : Nat → Obj → Prop} (hF : ∀ k' o', Fr' k' o' → (k' ≠ k ∧ Fr k' o') ∨ (k' = k ∧ w'.heap[k]? = some o')) : ProcAt w0 Fr' B pb qb L s qm pa pc w' := by
  obtain ⟨s1, s2, s3, s4⟩ := h.sep k o hk
  refine ⟨keptBut hg h.p (fun e => s1 e.symm), keptBut hg h.q (fun e => s2 e.symm), fun i hi => (h.each i hi).keep hg (fun y hy e => by injection e with e; subst e; exact s3 i hi hy), h.apart, h.free, own_row h.out hg (fun y hy e => by injection e with e; subst e; exact s4 hy), h.outf, h.pq, h.base, grown_join h.grown hg (.inr fun x hx => by injection hx with hx; omega), fun k' o' hf => ?_, fun k' o' hf => ?_⟩
  · rcases hF k' o' hf with ⟨h1, h2⟩ | ⟨rfl, h2⟩
    · exact keptBut hg (h.keep k' o' h2) h1
    · exact h2
  · rcases hF k' o' hf with ⟨h1, h2⟩ | ⟨rfl, h2⟩
    · exact h.sep k' o' h2
    · exact ⟨s1, s2, s3, s4⟩
end
def jobOf (l : List Tk) (nx : Nat → Int) (i : Nat) : Jb := ⟨i, nx i, relOf l nx i, (tk l i).cost⟩
theorem minI_congr {f g : Nat → Int} : ∀ k, (∀ i, i ≤ k → f i = g i) → minI f k = minI g k
  | 0, _ => rfl
  | k + 1, h => by
    have ih := minI_congr k (fun i hi => h i (by omega))
    have h1 := (minI_le g k).1
    unfold minI
    rw [ih, h (k + 1) (Nat.le_refl _), h (minI g k) (by omega)]
/-- The jobs that come next, in memory. -/
def NextAt (l : List Tk) (nx : Nat → Int) (cur : Array Value) : Prop := ∀ i, i < l.length → cur[i * 4]? = some (.int .i64 i) ∧ cur[i * 4 + 1]? = some (.int .i64 (nx i)) ∧ cur[i * 4 + 2]? = some (.int .i64 (relOf l nx i)) ∧ cur[i * 4 + 3]? = some (.int .i64 (tk l i).cost)
structure JI (w0 : World) (Fr : Nat → Obj → Prop) (B pb qb : Nat) (l : List Tk) (u : Int) (nx : Nat → Int) (s : Ps) (W : World) : Prop where
  proc : ∃ qm pa pc, ProcAt w0 Fr B pb qb l.length s qm pa pc W
  inv : Inv l nx s
  jbs : JbOk l.length s.q
  now : s.now ≤ u
theorem JI.grow {w0 : World} {Fr : Nat → Obj → Prop} {B pb qb : Nat} {l : List Tk} {u : Int} {nx : Nat → Int} {s : Ps} {W W' : World} (h : JI w0 Fr B pb qb l u nx s W) (hg : W.grownBy W' none) : JI w0 Fr B pb qb l u nx s W' := by
  obtain ⟨qm, pa, pc, hp⟩ := h.proc
  exact ⟨⟨qm, pa, pc, hp.grow hg⟩, h.inv, h.jbs, h.now⟩
theorem JI.add {w0 : World} {Fr : Nat → Obj → Prop} {B pb qb : Nat} {l : List Tk} {u : Int} {nx : Nat → Int} {s : Ps} {W W' : World} (h : JI w0 Fr B pb qb l u nx s W) (hg : W.grownBy W' none) {k : Nat} {o : Obj} (hk : W.heap.size ≤ k) (ho : W'.heap[k]? = some o) : JI w0 (fun k' o' => Fr k' o' ∨ (k' = k ∧ o' = o)) B pb qb l u nx s W' := by
  obtain ⟨qm, pa, pc, hp⟩ := h.proc
  exact ⟨⟨qm, pa, pc, hp.add hg hk ho⟩, h.inv, h.jbs, h.now⟩
theorem JI.keep {w0 : World} {Fr : Nat → Obj → Prop} {B pb qb : Nat} {l : List Tk} {u : Int} {nx : Nat → Int} {s : Ps} {W : World} (h : JI w0 Fr B pb qb l u nx s W) {k : Nat} {o : Obj} (hf : Fr k o) : W.heap[k]? = some o := by
  obtain ⟨qm, pa, pc, hp⟩ := h.proc
  exact hp.keep k o hf
theorem JI.grown {w0 : World} {Fr : Nat → Obj → Prop} {B pb qb : Nat} {l : List Tk} {u : Int} {nx : Nat → Int} {s : Ps} {W : World} (h : JI w0 Fr B pb qb l u nx s W) : w0.grownBy W none := by
  obtain ⟨qm, pa, pc, hp⟩ := h.proc
  exact hp.grown
/-- A row of jobs that are made. -/
def jrow (l : List Tk) (k : Nat) : List Value := (List.range k).flatMap fun i => rowJ (jobOf l (fun _ => 0) i)
theorem jrow_more (l : List Tk) (k : Nat) : jrow l (k + 1) = jrow l k ++ rowJ (jobOf l (fun _ => 0) k) := by simp [jrow, List.range_succ]
/-- How much is still to come. -/
def numAt (w : World) (nb i : Nat) : Int := match w.cell? ⟨nb, i * 4 + 1, none⟩ with
  | some (.int _ n) => n
  | _ => 0
def todo (L : Nat) (u : Int) (f : Nat → Int) : Nat := ((List.range L).map fun i => (u + 2 - f i).toNat).sum
theorem todo_less {L : Nat} {u : Int} {f : Nat → Int} {m : Nat} (hm : m < L) (h : f m ≤ u + 1) : todo L u (upd f m (f m + 1)) < todo L u f := by
  unfold todo
  induction L with
  | zero => omega
  | succ L ih =>
    rw [List.range_succ, List.map_append, List.map_append, List.sum_append, List.sum_append]
    simp only [List.map_cons, List.map_nil, List.sum_cons, List.sum_nil]
    by_cases e : m = L
    · subst e
      have : ((List.range m).map fun i => (u + 2 - upd f m (f m + 1) i).toNat) = (List.range m).map fun i => (u + 2 - f i).toNat := List.map_congr_left fun i hi => by
        have : i ≠ m := by have := List.mem_range.1 hi; omega
        rw [upd_other _ _ this]
      rw [this, upd_same]
      omega
    · have := ih (by omega)
      rw [upd_other _ _ (fun h => e h.symm)]
      omega
theorem todo_congr {L : Nat} {u : Int} {f g : Nat → Int} (h : ∀ i, i < L → f i = g i) : todo L u f = todo L u g := by
  unfold todo
  rw [List.map_congr_left fun i hi => by rw [h i (List.mem_range.1 hi)]]
end Go.Proofs.Ytholmeebkgpjjaa
