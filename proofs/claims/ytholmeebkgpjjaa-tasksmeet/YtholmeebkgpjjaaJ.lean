/- What the document's Order wants: marks of what is used, two lists that grow apart from one another. -/
import Derived.Test.YtholmeebkgpjjaaH
namespace Go.Proofs.Ytholmeebkgpjjaa
open Go.RowKit
attribute [local go_sem ↓] Go.wp_at_zero Go.wp_at_succ
set_option linter.unusedVariables false
set_option linter.unusedSimpArgs false

def boolsA (l : List Bool) : Array Value := (l.map Value.bool).toArray
theorem boolsA_set (l : List Bool) (k : Nat) (x : Bool) : (boolsA l).setIfInBounds k (.bool x) = boolsA (l.set k x) := by
  unfold boolsA
  simp [List.map_set]
theorem bools_get {w : World} {c T : Nat} {l : List Bool} (h : w.heap[c]? = some (.cells (boolsA l) T)) (i : Nat) (hi : i < l.length) : w.cell? ⟨c, i, none⟩ = some (.bool (l.getD i false)) := by
  rw [at_cell h]
  simp [boolsA, hi]
theorem info4 : (Try.prog.info? 4).map (fun i => (i.zero, i.size, i.bytes)) = some (some (.bool false), 1, 1) := by kernel_rfl
theorem made_bools (n : Nat) : madeCells (Value.bool false).cells n = boolsA (List.replicate n false) := by
  have e : (Value.bool false).cells = #[Value.bool false] := rfl
  rw [e]
  unfold madeCells boolsA
  apply Array.ext
  · simp
  · intro i h1 h2
    simp [Nat.mod_one]
theorem make_bools (n : Nat) (hn : n ≤ 1000000000000) (w : World) : (Instr.makeSlice 45 (.int .i64 (n : Int)) (.int .i64 (n : Int))).run Try.prog w = .ok (.slice (some ⟨w.heap.size, 0, none⟩) n n) (w.alloc (.cells (boolsA (List.replicate n false)) 4)) := by
  obtain ⟨i0, hi, hz0, hz1, hz2⟩ := info_parts info4
  have h := run_make (P := Try.prog) w 45 4 i0 (.bool false) Try.underlying45 hi hz0 .i64 .i64 (n : Int) (n : Int) (by omega) (by omega) (by rw [hz2]; simp; omega) (by omega)
  rw [hz1, made_bools] at h
  simpa using h
def usedL (n : Nat) (o : List Nat) : List Bool := (List.range n).map fun i => decide (i ∈ o)
theorem usedL_len (n : Nat) (o : List Nat) : (usedL n o).length = n := by simp [usedL]
theorem usedL_nil (n : Nat) : usedL n [] = List.replicate n false := by
  unfold usedL
  apply List.ext_getElem
  · simp
  · intro i h1 h2; simp
theorem usedL_get {n : Nat} {o : List Nat} {i : Nat} (hi : i < n) : (usedL n o).getD i false = decide (i ∈ o) := by simp [usedL, List.getD, hi]
theorem usedL_set {n : Nat} {o : List Nat} {b : Nat} : (usedL n o).set b true = usedL n (o ++ [b]) := by
  apply List.ext_getElem
  · simp [usedL]
  · intro i h1 h2
    rw [List.getElem_set]
    have hi : i < n := by simpa [usedL] using h2
    split
    · rename_i e; subst e; simp [usedL]
    · rename_i e
      have : i ≠ b := fun h => e h.symm
      simp [usedL, this]

/-- One element more, of whatever type; what else there is stays. -/
theorem own_more2 {B t e size bytes n : Nat} {z : Value} {i : TypeInfo} (ht : Try.prog.underlying t = some (.slice e)) (hi : Try.prog.info? e = some i) (hz : i.zero = some z) (hs : i.size = size) (hb : i.bytes = bytes) (hzs : z.cells.size = size) (hpos : 0 < size)
    {w : World} {a : Option Addr} {cap : Nat} {xs : List Value} (h : w.ownsRow B e size (.slice a n cap) n xs) (cur : List Value) (hcur : cur.length = size) (h1 : ∀ u ∈ cur, u.oneCell' = true) (hn : n ≤ 1000000) (hb64 : bytes ≤ 64) (hB : B ≤ w.heap.size) :
    ∃ a' cap' w', (Builtin.append_ #[t, t] t #[.slice a n cap, .slice (some ⟨w.heap.size, 0, none⟩) 1 1]).run Try.prog (w.alloc (.cells cur.toArray e)) = .ok (.slice a' (n + 1) cap') w' ∧
      w'.ownsRow B e size (.slice a' (n + 1) cap') (n + 1) (xs ++ cur) ∧ w.grownBy w' (Value.slice a n cap).ownBlock ∧ ∀ y, (Value.slice a' (n + 1) cap').ownBlock = some y → (Value.slice a n cap).ownBlock = some y ∨ w.heap.size ≤ y := by
  obtain ⟨v', w', r1, r2, r3, r4, r5⟩ := run_append_own_at (P := Try.prog) (w.alloc (.cells cur.toArray e)) B t t e i z size bytes ht hi hz hs hb hzs hpos _ _ _ (World.ownsRow.alloc h _) ⟨w.heap.size, 0, none⟩ 1 1 cur (by omega)
    (fun j u hj => by
      rw [addn, at_cell (heap_alloc_new w _) (0 + j)]
      simpa using hj)
    h1 (by unfold maxLen; omega) (by
      have : (n + 1) * bytes ≤ 1000001 * 64 := Nat.mul_le_mul (by omega) hb64
      omega) (by simp; omega)
  have r2' := r2
  obtain ⟨_, ⟨hx, hn⟩ | ⟨g', cap', cur, rfl, _⟩⟩ := r2'
  · omega
  · refine ⟨_, cap', w', r1, r2, grown_join (gr_alloc (World.grownBy.refl _ _) _) r3 (.inl rfl), fun y hy => ?_⟩
    rcases r5 with h5 | h5
    · left; rw [← h5]; exact hy
    · right
      rw [h5] at hy
      injection hy with hy
      simp at hy
      omega
theorem own_row {B e size n : Nat} {w w' : World} {v : Value} {xs : List Value} {r : Option Nat} (h : w.ownsRow B e size v n xs) (hg : w.grownBy w' r) (hne : ∀ y, v.ownBlock = some y → r ≠ some y) : w'.ownsRow B e size v n xs :=
  World.ownsRow.kept h hg (by
    cases hv : v.ownBlock with
    | none => exact .inl rfl
    | some x => exact .inr fun e => hne x hv e.symm)

/-- The document's picking, in memory: what is picked, the tasks of it, the marks, a fault that is kept. -/
structure PickAt (w0 : World) (ub fb : Nat) (u : Int) (l : List Tk) (n : Nat) (o : List Nat) (wx : World) (a5 : Option Addr) (c5 : Nat) (a7 : Option Addr) (c7 : Nat) : Prop where
  out : wx.ownsRow (ub + 1) 3 1 (.slice a5 o.length c5) o.length ((nums o).map (Value.int .i64))
  ord : wx.ownsRow (ub + 1) 42 5 (.slice a7 o.length c7) o.length ((inOrd l o).flatMap rowT)
  apart : ∀ y, (Value.slice a5 o.length c5).ownBlock = some y → (Value.slice a7 o.length c7).ownBlock ≠ some y
  used : wx.heap[ub]? = some (.cells (boolsA (usedL n o)) 4)
  flt : wx.heap[fb]? = some (.cells #[.int .i64 0, .int .i64 u, .int .i64 0] 26)
  grown : w0.grownBy wx none
theorem PickAt.drewN {w0 : World} {ub fb : Nat} {u : Int} {l : List Tk} {n : Nat} {o : List Nat} {wx : World} {a5 : Option Addr} {c5 : Nat} {a7 : Option Addr} {c7 : Nat} (h : PickAt w0 ub fb u l n o wx a5 c5 a7 c7) (q : Nat) : PickAt w0 ub fb u l n o (wx.drewN q) a5 c5 a7 c7 :=
  ⟨h.out, h.ord, h.apart, h.used, h.flt, gr_drewN h.grown q⟩
/-- One more is picked: a mark, and two lists that grow. -/
theorem PickAt.more {w0 : World} {ub fb : Nat} {u : Int} {l : List Tk} {n : Nat} {o : List Nat} {wx : World} {a5 : Option Addr} {c5 : Nat} {a7 : Option Addr} {c7 : Nat} (h : PickAt w0 ub fb u l n o wx a5 c5 a7 c7) (hw0 : w0.heap.size ≤ fb) (hfb : fb < ub) (hol : o.length ≤ 16) (b : Nat) :
    ∃ a5' c5' w2 a7' c7' w3, (Builtin.append_ #[23, 23] 23 #[.slice a5 o.length c5, .slice (some ⟨wx.heap.size, 0, none⟩) 1 1]).run Try.prog ((wx.setCell ⟨ub, b, none⟩ (.bool true)).alloc (.cells #[.int .i64 (b : Int)] 3)) = .ok (.slice a5' (o.length + 1) c5') w2 ∧
      w0.grownBy w2 none ∧
      (Builtin.append_ #[22, 22] 22 #[.slice a7 o.length c7, .slice (some ⟨w2.heap.size, 0, none⟩) 1 1]).run Try.prog (w2.alloc (.cells #[.string (l.getD b tk0).name, .int .i64 (l.getD b tk0).per, .int .i64 (l.getD b tk0).off, .int .i64 (l.getD b tk0).cost, .int .i64 (l.getD b tk0).dead] 42)) = .ok (.slice a7' (o.length + 1) c7') w3 ∧
      PickAt w0 ub fb u l n (o ++ [b]) w3 a5' c5' a7' c7' := by
  have hub := at_lt h.used
  have hg0 : wx.grownBy (wx.setCell ⟨ub, b, none⟩ (.bool true)) (some ub) := gr_set (World.grownBy.refl _ _) _ _
  have hs0 : (wx.setCell ⟨ub, b, none⟩ (.bool true)).heap.size = wx.heap.size := by simp
  have o1 := own_but h.out hg0 (Nat.lt_succ_self _)
  have m1 := own_but h.ord hg0 (Nat.lt_succ_self _)
  have u1 := at_set h.used b (.bool true)
  rw [boolsA_set, usedL_set] at u1
  have f1 := keptBut hg0 h.flt (by omega)
  have g1 : w0.grownBy (wx.setCell ⟨ub, b, none⟩ (.bool true)) none := gr_own h.grown (by omega) _ _
  obtain ⟨i0, hi, hz0, hz1, hz2⟩ := info_parts info3
  obtain ⟨a5', c5', w2, r1, r2, r3, r4⟩ := own_more2 Try.underlying23 hi hz0 hz1 hz2 rfl (by omega) o1 [.int .i64 (b : Int)] rfl (by simp [Value.oneCell']) (by omega) (by omega) (by omega)
  have ob := World.ownsRow.lt o1
  have mb := World.ownsRow.lt m1
  have m2 := own_row m1 r3 (fun y hy => fun e => h.apart y e hy)
  have u2 : w2.heap[ub]? = _ := (r3.block ub (by rw [hs0]; exact hub) (fun e => by have := (ob ub e.symm).1; omega)).trans u1
  have f2 : w2.heap[fb]? = _ := (r3.block fb (at_lt f1) (fun e => by have := (ob fb e.symm).1; omega)).trans f1
  have g2 : w0.grownBy w2 none := grown_join g1 r3 (.inr fun x hx => by have := (ob x hx).1; omega)
  obtain ⟨j0, hj, hy0, hy1, hy2⟩ := info_parts info42
  have hsz2 := r3.size
  obtain ⟨a7', c7', w3, s1, s2, s3, s4⟩ := own_more2 Try.underlying22 hj hy0 hy1 hy2 rfl (by omega) m2 (rowT (l.getD b tk0)) rfl (by simp [rowT, Value.oneCell']) (by omega) (by omega) (by omega)
  have r2' := World.ownsRow.lt r2
  have m2b := World.ownsRow.lt m2
  refine ⟨a5', c5', w2, a7', c7', w3, by rw [hs0] at r1; exact r1, g2, s1, ?_⟩
  have hapart : ∀ y, (Value.slice a5' (o.length + 1) c5').ownBlock = some y → (Value.slice a7 o.length c7).ownBlock ≠ some y := fun y hy e => by
    rcases r4 y hy with h5 | h5
    · exact h.apart y h5 e
    · have := (mb y e).2; omega
  have o3 := own_row r2 s3 (fun y hy => hapart y hy)
  have e1 : (nums (o ++ [b])).map (Value.int .i64) = (nums o).map (Value.int .i64) ++ [.int .i64 (b : Int)] := by simp [nums]
  have e2 : (inOrd l (o ++ [b])).flatMap rowT = (inOrd l o).flatMap rowT ++ rowT (l.getD b tk0) := by simp [inOrd]
  refine ⟨?_, ?_, ?_, ?_, ?_, ?_⟩
  · rw [e1, List.length_append]; exact o3
  · rw [e2, List.length_append]; exact s2
  · rw [List.length_append]
    intro y hy e
    rcases s4 y e with h5 | h5
    · exact hapart y hy h5
    · have := (r2' y hy).2; omega
  · exact (s3.block ub (at_lt u2) (fun e => by have := (m2b ub e.symm).1; omega)).trans u2
  · exact (s3.block fb (at_lt f2) (fun e => by have := (m2b fb e.symm).1; omega)).trans f2
  · exact grown_join g2 s3 (.inr fun x hx => by have := (m2b x hx).1; omega)
end Go.Proofs.Ytholmeebkgpjjaa
