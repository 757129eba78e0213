/- A processor in memory: queues of jobs, what was played. -/
import Derived.Test.YtholmeebkgpjjaaJ
import Derived.Test.YtholmeebkgpjjaaPr
namespace Go.Proofs.Ytholmeebkgpjjaa
open Go.RowKit
set_option linter.unusedVariables false
set_option linter.unusedSimpArgs false

def rowJ (j : Jb) : List Value := [.int .i64 j.task, .int .i64 j.num, .int .i64 j.rel, .int .i64 j.left]
def rowL (s : Sl) : List Value := [.int .i64 s.task, .int .i64 s.job, .int .i64 s.fr, .int .i64 s.to]
theorem rowJ_len (j : Jb) : (rowJ j).length = 4 := rfl
theorem rowL_len (s : Sl) : (rowL s).length = 4 := rfl
structure Qm where
  ao : Option Addr
  g : Nat
  off : Nat
  cap : Nat
  cur : Array Value
def Qm.blk (m : Qm) : Option Nat := if 0 < m.cap then some m.g else none
/-- A queue in memory. -/
def QAt (B : Nat) (w : World) (m : Qm) (q : List Jb) : Prop :=
  (m.cap = 0 ∧ q = []) ∨ (0 < m.cap ∧ m.ao = some ⟨m.g, m.off, none⟩ ∧ B ≤ m.g ∧ w.heap[m.g]? = some (.cells m.cur 63) ∧ q.length ≤ m.cap ∧ m.off + m.cap * 4 ≤ m.cur.size ∧ ∀ j u, (q.flatMap rowJ)[j]? = some u → m.cur[m.off + j]? = some u)
def Qm.val (m : Qm) (n : Nat) : Value := .slice m.ao n m.cap
theorem QAt.blk {B : Nat} {w : World} {m : Qm} {q : List Jb} (h : QAt B w m q) {y : Nat} (hy : m.blk = some y) : B ≤ y ∧ y < w.heap.size := by
  unfold Qm.blk at hy
  rcases h with ⟨h0, _⟩ | ⟨h0, _, hB, hw, _⟩
  · rw [if_neg (by omega)] at hy; simp at hy
  · rw [if_pos h0] at hy
    injection hy with hy
    subst hy
    exact ⟨hB, at_lt hw⟩
theorem QAt.keep {B : Nat} {w w' : World} {m : Qm} {q : List Jb} (h : QAt B w m q) {row : Option Nat} (hg : w.grownBy w' row) (hr : ∀ y, m.blk = some y → row ≠ some y) : QAt B w' m q := by
  rcases h with h | ⟨h0, h1, hB, hw, hr'⟩
  · exact .inl h
  · exact .inr ⟨h0, h1, hB, (hg.block m.g (at_lt hw) (fun e => hr m.g (by unfold Qm.blk; rw [if_pos h0]) e.symm)).trans hw, hr'⟩
theorem QAt.head {B : Nat} {w : World} {m : Qm} {j : Jb} {r : List Jb} (h : QAt B w m (j :: r)) : 0 < m.cap ∧ m.ao = some ⟨m.g, m.off, none⟩ ∧ w.heap[m.g]? = some (.cells m.cur 63) ∧ r.length + 1 ≤ m.cap ∧ B ≤ m.g ∧
    w.cell? ⟨m.g, m.off, none⟩ = some (.int .i64 j.task) ∧ w.cell? ⟨m.g, m.off + 1, none⟩ = some (.int .i64 j.num) ∧ w.cell? ⟨m.g, m.off + 2, none⟩ = some (.int .i64 j.rel) ∧ w.cell? ⟨m.g, m.off + 3, none⟩ = some (.int .i64 j.left) := by
  rcases h with ⟨_, h⟩ | ⟨h0, h1, hB, hw, hl, hs, hc⟩
  · simp at h
  · refine ⟨h0, h1, hw, by simpa using hl, hB, ?_, ?_, ?_, ?_⟩
    · rw [at_cell hw]; exact hc 0 _ (by simp [rowJ])
    · rw [at_cell hw]; exact hc 1 _ (by simp [rowJ])
    · rw [at_cell hw]; exact hc 2 _ (by simp [rowJ])
    · rw [at_cell hw]; exact hc 3 _ (by simp [rowJ])
def Qm.left (m : Qm) (x : Int) : Qm := { m with cur := m.cur.setIfInBounds (m.off + 3) (.int .i64 x) }
theorem QAt.left {B : Nat} {w : World} {m : Qm} {j : Jb} {r : List Jb} (h : QAt B w m (j :: r)) (x : Int) : QAt B (w.setCell ⟨m.g, m.off + 3, none⟩ (.int .i64 x)) (m.left x) ({ j with left := x } :: r) := by
  rcases h with ⟨_, h⟩ | ⟨h0, h1, hB, hw, hl, hs, hc⟩
  · simp at h
  · refine .inr ⟨h0, h1, hB, at_set hw _ _, by show _ ≤ m.cap; simpa using hl, by simpa [Qm.left] using hs, fun k u hk => ?_⟩
    show (m.cur.setIfInBounds (m.off + 3) _)[m.off + k]? = some u
    rw [Array.getElem?_setIfInBounds]
    rw [List.flatMap_cons] at hk
    by_cases hk3 : k = 3
    · subst hk3
      rw [if_pos rfl, if_pos (by simp at hl; omega)]
      simpa [rowJ] using hk
    · rw [if_neg (by omega)]
      refine hc k u ?_
      rw [List.flatMap_cons]
      rcases Nat.lt_or_ge k 4 with h4 | h4
      · rw [List.getElem?_append_left (by rw [rowJ_len]; exact h4)] at hk ⊢
        have : k = 0 ∨ k = 1 ∨ k = 2 := by omega
        rcases this with rfl | rfl | rfl <;> simpa [rowJ] using hk
      · rw [List.getElem?_append_right (by rw [rowJ_len]; exact h4), rowJ_len] at hk ⊢
        exact hk
/-- Without its first job. -/
def Qm.tl (m : Qm) : Qm := { m with ao := if m.cap = 1 then some ⟨m.g, m.off, none⟩ else some ⟨m.g, m.off + 4, none⟩, off := m.off + 4, cap := m.cap - 1 }
theorem QAt.pop {B : Nat} {w : World} {m : Qm} {j : Jb} {r : List Jb} (h : QAt B w m (j :: r)) : QAt B w m.tl r := by
  rcases h with ⟨_, h⟩ | ⟨h0, h1, hB, hw, hl, hs, hc⟩
  · simp at h
  · simp at hl
    by_cases h2 : m.cap = 1
    · exact .inl ⟨by simp [Qm.tl, h2], List.length_eq_zero_iff.1 (by omega)⟩
    · refine .inr ⟨by simp [Qm.tl]; omega, by simp [Qm.tl, h2], hB, hw, by simp [Qm.tl]; omega, by simp [Qm.tl]; omega, fun k u hk => ?_⟩
      show m.cur[m.off + 4 + k]? = some u
      rw [Nat.add_assoc]
      refine hc (4 + k) u ?_
      rw [List.flatMap_cons, List.getElem?_append_right (by rw [rowJ_len]; omega), rowJ_len, show 4 + k - 4 = k by omega]
      exact hk
theorem tl_blk {m : Qm} {y : Nat} (h : m.tl.blk = some y) : m.blk = some y := by
  unfold Qm.blk Qm.tl at *
  dsimp only at h
  split at h
  · rw [if_pos (by omega)]; exact h
  · simp at h
theorem left_blk (m : Qm) (x : Int) : (m.left x).blk = m.blk := rfl

theorem info63 : (Try.prog.info? 63).map (fun i => (i.zero, i.size, i.bytes)) = some (some (.agg #[.int .i64 0, .int .i64 0, .int .i64 0, .int .i64 0]), 4, 32) := by kernel_rfl
theorem gr_row (w : World) (g : Nat) (cs : Array Value) : w.grownBy (w.setRow g cs) (some g) :=
  ⟨rfl, rfl, rfl, by simp, fun k _ hne => setRow_other w g k cs (fun e => hne (by rw [e]))⟩
/-- A job more. -/
theorem QAt.more {B : Nat} {w : World} {m : Qm} {q : List Jb} (h : QAt B w m q) (j : Jb) (hq : q.length ≤ 1000000) (hB : B ≤ w.heap.size) :
    ∃ m' w', (Builtin.append_ #[65, 65] 65 #[m.val q.length, .slice (some ⟨w.heap.size, 0, none⟩) 1 1]).run Try.prog (w.alloc (.cells #[.int .i64 j.task, .int .i64 j.num, .int .i64 j.rel, .int .i64 j.left] 63)) = .ok (m'.val (q.length + 1)) w' ∧
      QAt B w' m' (q ++ [j]) ∧ w.grownBy w' m.blk ∧ ∀ y, m'.blk = some y → m.blk = some y ∨ w.heap.size ≤ y := by
  obtain ⟨i0, hi, hz0, hz1, hz2⟩ := info_parts info63
  have hnews : ∀ k u, (rowJ j)[k]? = some u → (w.alloc (.cells #[.int .i64 j.task, .int .i64 j.num, .int .i64 j.rel, .int .i64 j.left] 63)).cell? ((⟨w.heap.size, 0, none⟩ : Addr).add k) = some u := fun k u hk => by
    rw [addn, at_cell (heap_alloc_new w _) (0 + k)]
    simpa [rowJ] using hk
  have hone : ∀ u ∈ rowJ j, u.oneCell' = true := by simp [rowJ, Value.oneCell']
  have hga : ∀ r, w.grownBy (w.alloc (.cells #[.int .i64 j.task, .int .i64 j.num, .int .i64 j.rel, .int .i64 j.left] 63)) r := fun r => gr_alloc (World.grownBy.refl _ _) _
  have hnew : ∀ (olds : List Value) (c : Nat), olds = q.flatMap rowJ → (∀ W : World, W.heap.size = w.heap.size + 1 → True) → True := fun _ _ _ _ => trivial
  -- a new row
  have grow : ∀ (cap' : Nat) (X : List Value), X = q.flatMap rowJ → QAt B (((w.alloc (.cells #[.int .i64 j.task, .int .i64 j.num, .int .i64 j.rel, .int .i64 j.left] 63)).drew).alloc (.cells (X.toArray ++ (rowJ j).toArray ++ Builtin.zeroCells (Value.agg #[.int .i64 0, .int .i64 0, .int .i64 0, .int .i64 0]).cells (grownCap (w.alloc (.cells #[.int .i64 j.task, .int .i64 j.num, .int .i64 j.rel, .int .i64 j.left] 63)) (q.length + 1) cap' 63 - (q.length + 1))) 63))
      ⟨some ⟨w.heap.size + 1, 0, none⟩, w.heap.size + 1, 0, grownCap (w.alloc (.cells #[.int .i64 j.task, .int .i64 j.num, .int .i64 j.rel, .int .i64 j.left] 63)) (q.length + 1) cap' 63, X.toArray ++ (rowJ j).toArray ++ Builtin.zeroCells (Value.agg #[.int .i64 0, .int .i64 0, .int .i64 0, .int .i64 0]).cells (grownCap (w.alloc (.cells #[.int .i64 j.task, .int .i64 j.num, .int .i64 j.rel, .int .i64 j.left] 63)) (q.length + 1) cap' 63 - (q.length + 1))⟩ (q ++ [j]) := fun cap' X hX => by
    have hge := grownCap_ge (w.alloc (.cells #[.int .i64 j.task, .int .i64 j.num, .int .i64 j.rel, .int .i64 j.left] 63)) (q.length + 1) cap' 63
    have hXl : X.length = q.length * 4 := by rw [hX]; exact flat_len rowJ 4 rowJ_len q
    refine .inr ⟨by dsimp only; omega, rfl, by dsimp only; omega, hp_new (by simp [World.drew]) _, by simp; omega, ?_, fun k u hk => ?_⟩
    · dsimp only
      simp only [Array.size_append, List.size_toArray, size_zeroCells, hXl, rowJ_len]
      have : (Value.agg #[Value.int .i64 0, .int .i64 0, .int .i64 0, .int .i64 0]).cells.size = 4 := rfl
      rw [this]
      omega
    · dsimp only
      have hk' : (X ++ rowJ j)[k]? = some u := by rw [hX]; simpa using hk
      have hkl : k < (X ++ rowJ j).length := (List.getElem?_eq_some_iff.1 hk').1
      rw [Nat.zero_add, Array.getElem?_append_left (by simpa using hkl)]
      rw [← hk']
      simp
  rcases h with ⟨h0, hq0⟩ | ⟨h0, h1, hBg, hw, hl, hs, hc⟩
  · subst hq0
    obtain ⟨ao, g, off, cap, cur⟩ := m
    dsimp only at h0
    subst h0
    cases ao with
    | none =>
      have hrun := run_append_nil (P := Try.prog) (w.alloc (.cells #[.int .i64 j.task, .int .i64 j.num, .int .i64 j.rel, .int .i64 j.left] 63)) 65 65 63 i0 _ Try.underlying65 hi hz0 ⟨w.heap.size, 0, none⟩ 1 1 (rowJ j) (by rw [hz1]; rfl) hnews (by omega) (by omega) (by rw [hz2]; omega)
      have hg := grow 0 [] rfl
      simp only [List.nil_append, List.length_nil, Nat.zero_add] at hg hrun
      refine ⟨_, _, ?_, hg, ?_, fun y hy => .inr ?_⟩
      · unfold Qm.val
        simp only [List.length_nil]
        have e : (([] : List Value).toArray ++ (rowJ j).toArray) = (rowJ j).toArray := by simp
        rw [e]
        simpa using hrun
      · exact gr_alloc (gr_drew (hga _)) _
      · unfold Qm.blk at hy
        dsimp only at hy
        split at hy
        · injection hy with hy; omega
        · simp at hy
    | some b =>
      have hcap := nextslicecap_le (need := 0 + 1) (old := 0) (by omega)
      have hrun := run_append_grow (P := Try.prog) (w.alloc (.cells #[.int .i64 j.task, .int .i64 j.num, .int .i64 j.rel, .int .i64 j.left] 63)) 65 65 63 i0 _ Try.underlying65 hi hz0 b 0 0 [] (by simp) (by simp) ⟨w.heap.size, 0, none⟩ 1 1 (rowJ j) (by rw [hz1]; rfl) hnews (by omega) (by omega) (by rw [hz2]; omega)
      have hg := grow 0 [] rfl
      refine ⟨_, _, ?_, hg, ?_, fun y hy => .inr ?_⟩
      · unfold Qm.val
        simpa using hrun
      · exact gr_alloc (gr_drew (hga _)) _
      · unfold Qm.blk at hy
        dsimp only at hy
        split at hy
        · injection hy with hy; omega
        · simp at hy
  · obtain ⟨ao, g, off, cap, cur⟩ := m
    dsimp only at h0 h1 hBg hw hl hs hc
    subst h1
    have hblk : Qm.blk ⟨some ⟨g, off, none⟩, g, off, cap, cur⟩ = some g := by unfold Qm.blk; rw [if_pos h0]
    have hxl := flat_len rowJ 4 rowJ_len q
    by_cases hroom : q.length + 1 ≤ cap
    · have hw' : (w.alloc (.cells #[.int .i64 j.task, .int .i64 j.num, .int .i64 j.rel, .int .i64 j.left] 63)).heap[g]? = some (.cells cur 63) := (hp_old (at_lt hw) _).trans hw
      have hf := run_firstCells_some (P := Try.prog) (w.alloc (.cells #[.int .i64 j.task, .int .i64 j.num, .int .i64 j.rel, .int .i64 j.left] 63)) 4 1 ⟨w.heap.size, 0, none⟩ 1 1 (rowJ j) rfl hnews
      have hst := run_storeCells_at Try.prog g (off + q.length * 4) 63 (rowJ j) 0 cur _ hw' (by simp [rowJ_len]; omega) hone
      simp only [Nat.add_zero] at hst
      refine ⟨⟨some ⟨g, off, none⟩, g, off, cap, (cur.toList.take (off + q.length * 4) ++ rowJ j ++ cur.toList.drop (off + q.length * 4 + (rowJ j).length)).toArray⟩, (w.alloc (.cells #[.int .i64 j.task, .int .i64 j.num, .int .i64 j.rel, .int .i64 j.left] 63)).setRow g (cur.toList.take (off + q.length * 4) ++ rowJ j ++ cur.toList.drop (off + q.length * 4 + (rowJ j).length)).toArray, ?_, ?_, ?_, fun y hy => .inl ?_⟩
      rotate_left
      · refine .inr ⟨h0, rfl, hBg, setRow_heap _ g cur _ 63 (0, 0) hw', by simp; omega, by simp [rowJ_len]; omega, fun k u hk => ?_⟩
        dsimp only
        rw [List.getElem?_toArray]
        have hk' : (q.flatMap rowJ ++ rowJ j)[k]? = some u := by simpa using hk
        have hlt : (cur.toList.take (off + q.length * 4)).length = off + q.length * 4 := by simp; omega
        rcases Nat.lt_or_ge k (q.length * 4) with h4 | h4
        · rw [List.getElem?_append_left (by omega)] at hk'
          have := hc k u hk'
          rw [List.append_assoc, List.getElem?_append_left (by omega), List.getElem?_take, if_pos (by omega)]
          simpa using this
        · rw [List.getElem?_append_right (by omega), hxl] at hk'
          have hk4 : k - q.length * 4 < 4 := by
            have := (List.getElem?_eq_some_iff.1 hk').1
            simpa [rowJ_len] using this
          rw [List.append_assoc, List.getElem?_append_right (by omega), hlt, show off + k - (off + q.length * 4) = k - q.length * 4 by omega, List.getElem?_append_left (by rw [rowJ_len]; exact hk4)]
          exact hk'
      · rw [hblk]; exact grown_join (hga _) (gr_row _ g _) (.inl rfl)
      · have : Qm.blk ⟨some ⟨g, off, none⟩, g, off, cap, (cur.toList.take (off + q.length * 4) ++ rowJ j ++ cur.toList.drop (off + q.length * 4 + (rowJ j).length)).toArray⟩ = some g := by unfold Qm.blk; rw [if_pos h0]
        rw [hblk, ← this]; exact hy
      · unfold Qm.val
        simp [Builtin.append_, run_underlying Try.underlying65, sizeOf, typeInfo, hi, hz1, Builtin.lenOf, hroom, hf, Addr.add_lit, hst]
    · have hcap := nextslicecap_le (need := q.length + 1) (old := cap) (by omega)
      have hrun := run_append_grow (P := Try.prog) (w.alloc (.cells #[.int .i64 j.task, .int .i64 j.num, .int .i64 j.rel, .int .i64 j.left] 63)) 65 65 63 i0 _ Try.underlying65 hi hz0 ⟨g, off, none⟩ q.length cap (q.flatMap rowJ) (by rw [hz1]; exact hxl) (fun k u hk => by
        rw [addn]
        exact (hga none).cell (by rw [at_cell hw]; exact hc k u hk) (by simp)) ⟨w.heap.size, 0, none⟩ 1 1 (rowJ j) (by rw [hz1]; rfl) hnews (by omega) (by omega) (by rw [hz2]; omega)
      have hg := grow cap (q.flatMap rowJ) rfl
      refine ⟨_, _, ?_, hg, ?_, fun y hy => .inr ?_⟩
      · unfold Qm.val
        simpa using hrun
      · exact gr_alloc (gr_drew (hga _)) _
      · unfold Qm.blk at hy
        dsimp only at hy
        split at hy
        · injection hy with hy; omega
        · simp at hy
end Go.Proofs.Ytholmeebkgpjjaa
