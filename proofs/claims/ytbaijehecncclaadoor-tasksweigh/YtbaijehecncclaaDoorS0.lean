/- Code in memory; what is said of it. -/
import Derived.Test.YtbaijehecncclaaDoorP2
namespace Go.Proofs.YtbaijehecncclaaDoor
open Go.RowKit
set_option linter.unusedVariables false
set_option linter.unusedSimpArgs false

/-- A slot of a unit. -/
structure Slt where
  path : ByteArray
  kind : Int
  at' : Int
  len : Int
  keep : Bool
  role : Int
/-- A unit of code. -/
structure Pr where
  k : Int
  nm : ByteArray
  fs : List Int
  sl : List Slt
  tx : List Ins
def slt0 : Slt := ⟨ByteArray.empty, 0, 0, 0, false, 0⟩
def pr0 : Pr := ⟨0, ByteArray.empty, [], [], []⟩
/-- Slots that can be read at a slice's value. -/
def SlAt (w : World) (v : Value) (l : List Slt) : Prop :=
  ∃ a cap, v = .slice a l.length cap ∧ (l = [] ∨ ∃ b off, a = some ⟨b, off, none⟩ ∧ ∀ i, i < l.length →
    w.cell? ⟨b, off + i * 6, none⟩ = some (.string (l.getD i slt0).path) ∧ w.cell? ⟨b, off + i * 6 + 1, none⟩ = some (.int .i64 (l.getD i slt0).kind) ∧
    w.cell? ⟨b, off + i * 6 + 2, none⟩ = some (.int .i64 (l.getD i slt0).at') ∧ w.cell? ⟨b, off + i * 6 + 3, none⟩ = some (.int .i64 (l.getD i slt0).len) ∧
    w.cell? ⟨b, off + i * 6 + 4, none⟩ = some (.bool (l.getD i slt0).keep) ∧ w.cell? ⟨b, off + i * 6 + 5, none⟩ = some (.int .i64 (l.getD i slt0).role))
theorem SlAt.grown {w w' : World} {v : Value} {l : List Slt} (h : SlAt w v l) (hg : w.grownBy w' none) : SlAt w' v l := by
  obtain ⟨a, cap, rfl, h | ⟨b, off, rfl, hc⟩⟩ := h
  · exact ⟨a, cap, rfl, .inl h⟩
  · refine ⟨_, cap, rfl, .inr ⟨b, off, rfl, fun i hi => ?_⟩⟩
    obtain ⟨h0, h1, h2, h3, h4, h5⟩ := hc i hi
    exact ⟨hg.cell h0 (by simp), hg.cell h1 (by simp), hg.cell h2 (by simp), hg.cell h3 (by simp), hg.cell h4 (by simp), hg.cell h5 (by simp)⟩
structure PrAt (w : World) (b off : Nat) (p : Pr) (fv sv tv : Value) : Prop where
  kind : w.cell? ⟨b, off, none⟩ = some (.int .i64 p.k)
  name : w.cell? ⟨b, off + 1, none⟩ = some (.string p.nm)
  fcell : w.cell? ⟨b, off + 2, none⟩ = some fv
  scell : w.cell? ⟨b, off + 3, none⟩ = some sv
  tcell : w.cell? ⟨b, off + 4, none⟩ = some tv
  first : rd w fv p.fs
  slots : SlAt w sv p.sl
  text : TxtAt w tv p.tx
theorem PrAt.grown {w w' : World} {b off : Nat} {p : Pr} {fv sv tv : Value} (h : PrAt w b off p fv sv tv) (hg : w.grownBy w' none) : PrAt w' b off p fv sv tv :=
  ⟨hg.cell h.kind (by simp), hg.cell h.name (by simp), hg.cell h.fcell (by simp), hg.cell h.scell (by simp), hg.cell h.tcell (by simp), rd_grown h.first hg, h.slots.grown hg, h.text.grown hg⟩
/-- Units that can be read at a slice's value. -/
def CdP (w : World) (v : Value) (ps : List Pr) : Prop :=
  ∃ a cap, v = .slice a ps.length cap ∧ ps.length ≤ cap ∧ (ps = [] ∨ ∃ b off, a = some ⟨b, off, none⟩ ∧ ∀ i, i < ps.length → ∃ fv sv tv, PrAt w b (off + i * 5) (ps.getD i pr0) fv sv tv)
theorem CdP.grown {w w' : World} {v : Value} {ps : List Pr} (h : CdP w v ps) (hg : w.grownBy w' none) : CdP w' v ps := by
  obtain ⟨a, cap, rfl, hcap, h | ⟨b, off, rfl, hc⟩⟩ := h
  · exact ⟨a, cap, rfl, hcap, .inl h⟩
  · refine ⟨_, cap, rfl, hcap, .inr ⟨b, off, rfl, fun i hi => ?_⟩⟩
    obtain ⟨fv, sv, tv, h1⟩ := hc i hi
    exact ⟨fv, sv, tv, h1.grown hg⟩

/-- The units ahead of number k: kinds, and sizes of frames. -/
def ahd (ps : List Pr) (k : Nat) : List (Int × Nat) := (ps.take k).map (fun p => (p.k, p.fs.length))
theorem ahd_len (ps : List Pr) (k : Nat) (hk : k ≤ ps.length) : (ahd ps k).length = k := by simp [ahd]; omega
theorem ahd_get (ps : List Pr) (k i : Nat) (hi : i < k) (hk : k ≤ ps.length) : (ahd ps k).getD i (0, 0) = ((ps.getD i pr0).k, (ps.getD i pr0).fs.length) := by
  have h1 : i < ps.length := by omega
  simp [ahd, List.getD, List.getElem?_take, hi, h1]
theorem ahead_of {w : World} {b off cap c2 : Nat} {ps : List Pr} (hc : ∀ i, i < ps.length → ∃ fv sv tv, PrAt w b (off + i * 5) (ps.getD i pr0) fv sv tv) (k : Nat) (hk : k ≤ ps.length) : AhAt w (.slice (some ⟨b, off, none⟩) k c2) (ahd ps k) := by
  refine ⟨_, c2, by rw [ahd_len ps k hk], .inr ⟨b, off, rfl, fun i hi => ?_⟩⟩
  rw [ahd_len ps k hk] at hi
  obtain ⟨fv, sv, tv, h⟩ := hc i (by omega)
  rw [ahd_get ps k i hi hk]
  refine ⟨h.kind, ?_⟩
  obtain ⟨fa, fc, rfl, _⟩ := h.first
  exact ⟨fa, fc, h.fcell⟩

/-- What is said of unit k, these being the bounds of those ahead. -/
def unitS (D : (∀ p : Prop, Decidable p) × Unit) (ps : List Pr) (k : Nat) (b : List Int) : Int × Int := lookS D (ahd ps k) b (ps.getD k pr0).k (ps.getD k pr0).fs.length (ps.getD k pr0).tx
/-- What is said of the units from number k on, m of them: bounds, and a fault's number and unit. -/
def verS (D : (∀ p : Prop, Decidable p) × Unit) (ps : List Pr) : Nat → Nat → List Int → List Int × Int × Int
  | 0, _, b => (b, 0, 0)
  | m + 1, k, b => if (unitS D ps k b).2 = 0 then verS D ps m (k + 1) (b ++ [(unitS D ps k b).1]) else ([], (unitS D ps k b).2, k)
def verR (D : (∀ p : Prop, Decidable p) × Unit) (ps : List Pr) : List Int × Int × Int := if 16 < ps.length then ([], 12, 0) else verS D ps ps.length 0 []
theorem lookS_bd {l : List (Int × Nat)} {bds : List Int} {kd : Int} {fn : Nat} {t : List Ins} (hb : ∀ b, b ∈ bds → 0 ≤ b ∧ b ≤ 1000000000) (hl : bds.length = l.length) (h0 : (lookS (Classical.propDecidable, ()) l bds kd fn t).2 = 0) : 0 ≤ (lookS (Classical.propDecidable, ()) l bds kd fn t).1 ∧ (lookS (Classical.propDecidable, ()) l bds kd fn t).1 ≤ 1000000000 := by
  unfold lookS at *
  split
  · rename_i hp
    rw [if_pos hp] at h0
    split
    · simp
    · refine ⟨?_, by simp; omega⟩
      have key : ∀ k, k ≤ t.length → 0 ≤ sumP t (fun k => stepS bds (nth t k)) k := by
        intro k
        induction k with
        | zero => intro _; simp [sumP]
        | succ k ih =>
          intro hk
          have h1 := ih (by omega)
          have h2 := (may_steps hp.may hp.frame hb hl k (by omega)).1
          have h3 := (mul_ge h2 (prd_bd (may_bs hp.may) (k + 1) k).1).1
          have h4 : (0 : Int) ≤ top1 := by simp [top1]
          simp only [sumP]
          omega
      exact key t.length (Nat.le_refl _)
  · rename_i hp
    rw [if_neg hp] at h0
    simp at h0

/-- A list of numbers that the call owns, nil or not. -/
def OwnV (B : Nat) (w : World) (v : Value) (l : List Int) : Prop := w.ownsRow B 3 1 v l.length (l.map (Value.int .i64))
theorem OwnV.nil (B : Nat) (w : World) : OwnV B w (.slice none 0 0) [] := World.ownsRow_nil w B 3 1
theorem OwnV.kept {B : Nat} {w w' : World} {v : Value} {l : List Int} (h : OwnV B w v l) {row : Option Nat} (hg : w.grownBy w' row) (hne : v.ownBlock = none ∨ v.ownBlock ≠ row) : OwnV B w' v l := World.ownsRow.kept h hg hne
theorem OwnV.keptN {B : Nat} {w w' : World} {v : Value} {l : List Int} (h : OwnV B w v l) (hg : w.grownBy w' none) : OwnV B w' v l := by
  refine h.kept hg ?_
  cases hv : v.ownBlock with
  | none => exact .inl rfl
  | some x => exact .inr (by simp)
theorem OwnV.rd {B : Nat} {w : World} {v : Value} {l : List Int} (h : OwnV B w v l) : rd w v l := by
  have h' := h
  obtain ⟨_, ⟨rfl, hn⟩ | ⟨g, cap, cur, rfl, _⟩⟩ := h
  · have : l = [] := by simpa using hn
    subst this
    exact ⟨none, 0, rfl, .inl rfl⟩
  · refine ⟨_, cap, rfl, .inr ⟨g, 0, rfl, fun i hi => ?_⟩⟩
    rw [Nat.zero_add, World.ownsRow.cellAt h' i (by omega)]
    simp [hi]
theorem OwnV.row {B : Nat} {w : World} {v : Value} {l : List Int} (h : OwnV B w v l) : ∀ x, v.ownBlock = some x → B ≤ x := fun x hx => (World.ownsRow.lt h x hx).1
theorem OwnV.more {B : Nat} {W : World} {v : Value} {l : List Int} (h : OwnV B W v l) (x : Int) (xb : Nat) (hx : W.heap[xb]? = some (.cells #[.int .i64 x] 3)) (hl : l.length ≤ 1000000) (hB : B ≤ W.heap.size) :
    ∃ v' w', (Builtin.append_ #[29, 29] 29 #[v, .slice (some ⟨xb, 0, none⟩) 1 1]).run Tryd.prog W = .ok v' w' ∧ OwnV B w' v' (l ++ [x]) ∧ W.grownBy w' v.ownBlock := by
  obtain ⟨i0, hi, hz0, hz1, hz2⟩ := info_parts info3
  obtain ⟨v', w', r1, r2, r3, _, _⟩ := run_append_own_at (P := Tryd.prog) W B 29 29 3 i0 (.int .i64 0) 1 8 Tryd.underlying29 hi hz0 hz1 hz2 rfl (by omega) _ _ _ h ⟨xb, 0, none⟩ 1 1 [.int .i64 x] rfl
    (fun j u hj => by
      rw [addn, at_cell hx (0 + j)]
      simpa using hj)
    (by simp [Value.oneCell']) (by unfold maxLen; omega) (by omega) hB
  refine ⟨v', w', r1, ?_, r3⟩
  unfold OwnV
  simpa using r2
end Go.Proofs.YtbaijehecncclaaDoor
