/- Lists of one's own that grow; Respond, the program's. -/
import Derived.Test.YtholmeebkgpjjaaA2
namespace Go.Proofs.Ytholmeebkgpjjaa
open Go.RowKit
attribute [local go_sem ↓] Go.wp_at_zero Go.wp_at_succ
set_option linter.unusedVariables false
set_option linter.unusedSimpArgs false

/-- One element more, of whatever type. -/
theorem own_more {B t e size bytes n : Nat} {z : Value} {i : TypeInfo} (ht : Try.prog.underlying t = some (.slice e)) (hi : Try.prog.info? e = some i) (hz : i.zero = some z) (hs : i.size = size) (hb : i.bytes = bytes) (hzs : z.cells.size = size) (hpos : 0 < size)
    {w : World} {a : Option Addr} {cap : Nat} {xs : List Value} (h : w.ownsRow B e size (.slice a n cap) n xs) (cur : List Value) (hcur : cur.length = size) (h1 : ∀ u ∈ cur, u.oneCell' = true) (hn : n ≤ 1000000) (hb64 : bytes ≤ 64) (hB : B ≤ w.heap.size) :
    ∃ a' cap' w', (Builtin.append_ #[t, t] t #[.slice a n cap, .slice (some ⟨w.heap.size, 0, none⟩) 1 1]).run Try.prog (w.alloc (.cells cur.toArray e)) = .ok (.slice a' (n + 1) cap') w' ∧
      w'.ownsRow B e size (.slice a' (n + 1) cap') (n + 1) (xs ++ cur) ∧ ∀ w0 : World, w0.heap.size ≤ B → w0.grownBy w none → w0.grownBy w' none := by
  obtain ⟨v', w', r1, r2, r3, r4, r5⟩ := run_append_own_at (P := Try.prog) (w.alloc (.cells cur.toArray e)) B t t e i z size bytes ht hi hz hs hb hzs hpos _ _ _ (World.ownsRow.alloc h _) ⟨w.heap.size, 0, none⟩ 1 1 cur (by omega)
    (fun j u hj => by
      rw [addn, at_cell (heap_alloc_new w _) (0 + j)]
      simpa using hj)
    h1 (by unfold maxLen; omega) (by
      have : (n + 1) * bytes ≤ 1000001 * 64 := Nat.mul_le_mul (by omega) hb64
      omega) (by simp; omega)
  have r2' := r2
  obtain ⟨_, ⟨hx, hn⟩ | ⟨g', cap', cur, rfl, _⟩⟩ := r2'
  · omega
  · refine ⟨_, cap', w', r1, r2, fun w0 h0 hg => ?_⟩
    refine grown_join (gr_alloc hg _) r3 (.inr fun y hy => ?_)
    have := World.ownsRow.lt h y hy
    omega
theorem own_keep {B e size n : Nat} {w w' : World} {v : Value} {xs : List Value} (h : w.ownsRow B e size v n xs) (hg : w.grownBy w' none) : w'.ownsRow B e size v n xs :=
  World.ownsRow.kept h hg (by
    cases hv : v.ownBlock with
    | none => exact .inl rfl
    | some x => exact .inr (by simp))

/-- A list of numbers of one's own, from block B on. -/
def OwnL (B : Nat) (w : World) (a : Option Addr) (cap : Nat) (l : List Int) : Prop := w.ownsRow B 3 1 (.slice a l.length cap) l.length (l.map (Value.int .i64))
theorem OwnL.nil (B : Nat) (w : World) : OwnL B w none 0 [] := World.ownsRow_nil _ _ _ _
theorem OwnL.kept {B : Nat} {w w' : World} {a : Option Addr} {cap : Nat} {l : List Int} (h : OwnL B w a cap l) (hg : w.grownBy w' none) : OwnL B w' a cap l := own_keep h hg
theorem own_but {B e size n p : Nat} {w w' : World} {v : Value} {xs : List Value} (h : w.ownsRow B e size v n xs) (hg : w.grownBy w' (some p)) (hp : p < B) : w'.ownsRow B e size v n xs :=
  World.ownsRow.kept h hg (.inr fun e => by have := World.ownsRow.lt h p e; omega)
theorem own_low {B B' e size n : Nat} {w : World} {v : Value} {xs : List Value} (h : w.ownsRow B e size v n xs) (hB : B' ≤ B) : w.ownsRow B' e size v n xs := by
  obtain ⟨hl, h | ⟨g, cap, cur, hv, hb, hr⟩⟩ := h
  · exact ⟨hl, .inl h⟩
  · exact ⟨hl, .inr ⟨g, cap, cur, hv, by omega, hr⟩⟩
theorem OwnL.rd {B : Nat} {w : World} {a : Option Addr} {cap : Nat} {l : List Int} (h : OwnL B w a cap l) : rd w (.slice a l.length cap) l := by
  refine ⟨a, cap, rfl, ?_⟩
  have h' := h
  obtain ⟨_, ⟨hx, hn⟩ | ⟨g, cap', cur, hv, hb, hc, _⟩⟩ := h
  · left; exact List.length_eq_zero_iff.1 hn
  · injection hv with e1 e2 e3
    subst e1 e3
    right
    refine ⟨g, 0, rfl, fun i hi => ?_⟩
    rw [Nat.zero_add, World.ownsRow.cellAt h' i (by omega)]
    simp [hi]
/-- One more. -/
theorem OwnL.more {B : Nat} {w : World} {a : Option Addr} {cap : Nat} {l : List Int} (h : OwnL B w a cap l) (x : Int) (hl : l.length ≤ 1000000) (hB : B ≤ w.heap.size) :
    ∃ a' cap' w', (Builtin.append_ #[23, 23] 23 #[.slice a l.length cap, .slice (some ⟨w.heap.size, 0, none⟩) 1 1]).run Try.prog (w.alloc (.cells #[.int .i64 x] 3)) = .ok (.slice a' (l.length + 1) cap') w' ∧
      OwnL B w' a' cap' (l ++ [x]) ∧ ∀ w0 : World, w0.heap.size ≤ B → w0.grownBy w none → w0.grownBy w' none := by
  obtain ⟨i0, hi, hz0, hz1, hz2⟩ := info_parts info3
  obtain ⟨a', cap', w', r1, r2, r3⟩ := own_more Try.underlying23 hi hz0 hz1 hz2 rfl (by omega) h [.int .i64 x] rfl (by simp [Value.oneCell']) hl (by omega) hB
  refine ⟨a', cap', w', r1, ?_, r3⟩
  unfold OwnL
  simpa using r2

theorem TsAt.take {w : World} {a : Option Addr} {cap : Nat} {l : List Tk} (h : TsAt w (.slice a l.length cap) l) (k : Nat) (hk : k ≤ l.length) : TsAt w (.slice a k cap) (l.take k) := by
  obtain ⟨a', cap', he, hcap, h⟩ := h
  injection he with e1 e2 e3
  subst e1 e3
  have hlen : (l.take k).length = k := by simp; omega
  refine ⟨a, cap, by rw [hlen], by omega, ?_⟩
  rcases h with h | ⟨b, off, rfl, hc⟩
  · left; subst h; simp
  · right
    refine ⟨b, off, rfl, fun i hi => ?_⟩
    rw [hlen] at hi
    have e : (l.take k).getD i tk0 = l.getD i tk0 := by simp [List.getD, hi]
    rw [e]
    exact hc i (by omega)
theorem resp_look {l : List Tk} (h : (lookS l).1 ≠ 0) : respS l = ([], lookS l) := by unfold respS; rw [if_pos h]
theorem resp_slow {l : List Tk} (h : (lookS l).1 = 0) {i : Nat} (hi : i < l.length) (hn : rep l i = none) (ho : ∀ j, j < i → (rep l j).isSome = true) : respS l = ([], 13, (i : Int)) := by
  unfold respS; rw [if_neg (by simp [h]), firstB_some.2 ⟨hi, by simp [hn], ho⟩]
theorem resp_all {l : List Tk} (h : (lookS l).1 = 0) (ho : ∀ j, j < l.length → (rep l j).isSome = true) : respS l = ((List.range l.length).map (repV l), 0, 0) := by
  unfold respS; rw [if_neg (by simp [h]), firstB_none.2 ho]
theorem look_fine {l : List Tk} (h : (lookS l).1 = 0) : l.length ≤ 16 ∧ 1 ≤ l.length ∧ Oks l := by
  unfold lookS at h
  by_cases hl : l.length < 1 ∨ 16 < l.length
  · rw [if_pos hl] at h; simp at h
  · rw [if_neg hl] at h
    refine ⟨by omega, by omega, fun t ht => ?_⟩
    cases hf : firstB (fun i => okB (l.getD i tk0)) l.length with
    | some i => rw [hf] at h; simp at h
    | none =>
      obtain ⟨i, hi, rfl⟩ := List.getElem_of_mem ht
      have := firstB_none.1 hf i hi
      simpa [List.getD, hi] using this
/-- What a call that takes tasks and answers numbers leaves. -/
def RespP (w w' : World) (e : Ending) (r : List Int × Int × Int) : Prop :=
  ∃ a cap, e = .returned (.tuple #[.slice a r.1.length cap, .agg #[.int .i64 r.2.1, .int .i64 r.2.2, .int .i64 0]]) ∧ OwnL w.heap.size w' a cap r.1 ∧ w.grownBy w' none
end Go.Proofs.Ytholmeebkgpjjaa
