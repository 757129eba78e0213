/- The parts of a time: what a part adds, and the contract of the closure that adds it; the texts behind a prefix. -/
import Derived.Test.YtelgiffhgkbpeaaDoorTB
import Derived.Test.YtelgiffhgkbpeaaDoorShelf
namespace Go.Proofs.YtelgiffhgkbpeaaDoor
open Go.RowKit

/-- A world that differs at most at the blocks from lo up to hi. -/
structure Win (lo hi : Nat) (w w' : World) : Prop where
  os : w'.os = w.os
  tape : w'.tape = w.tape
  output : w'.output = w.output
  size : w'.heap.size = w.heap.size
  block : ∀ k, k < lo ∨ hi ≤ k → w'.heap[k]? = w.heap[k]?
theorem Win.refl (lo hi : Nat) (w : World) : Win lo hi w w := ⟨rfl, rfl, rfl, rfl, fun _ _ => rfl⟩
theorem Win.trans {lo hi : Nat} {a x c : World} (h : Win lo hi a x) (k : Win lo hi x c) : Win lo hi a c :=
  ⟨k.os.trans h.os, k.tape.trans h.tape, k.output.trans h.output, k.size.trans h.size, fun i hi => (k.block i hi).trans (h.block i hi)⟩
theorem Win.drew {lo hi : Nat} {a x : World} (h : Win lo hi a x) : Win lo hi a x.drew := ⟨h.os, h.tape, h.output, h.size, h.block⟩
theorem Win.set {lo hi : Nat} {a x : World} (h : Win lo hi a x) {b : Nat} (h0 : lo ≤ b) (h1 : b < hi) (o : Nat) (u : Value) : Win lo hi a (x.setCell ⟨b, o, none⟩ u) := by
  have hb := (But.refl b x).set o u
  exact ⟨hb.os.trans h.os, hb.tape.trans h.tape, hb.output.trans h.output, hb.size.trans h.size, fun k hk => (hb.block k (by omega)).trans (h.block k hk)⟩
theorem Win.below {lo hi B : Nat} {w w' : World} (h : Win lo hi w w') (hB : B ≤ lo) : Below B w w' :=
  ⟨h.os, h.tape, h.output, Nat.le_of_eq h.size.symm, fun k hk => h.block k (.inl (by omega))⟩
theorem But.win {lo hi b : Nat} {w w' : World} (h : But b w w') (h0 : lo ≤ b) (h1 : b < hi) : Win lo hi w w' :=
  ⟨h.os, h.tape, h.output, h.size, fun k hk => h.block k (by omega)⟩

def oneO (v : Value) (t : Nat) : Obj := .cells #[v] t (0, 0)
theorem one_cell {b t : Nat} {v : Value} {w : World} (hb : w.heap[b]? = some (oneO v t)) : w.cell? ⟨b, 0, none⟩ = some v ∧ w.frozen? ⟨b, 0, none⟩ = false := by
  constructor
  · simp [World.cell?, hb, oneO]
  · simp [World.frozen?, hb, oneO]
theorem one_set {b t : Nat} {v u : Value} {w : World} (hb : w.heap[b]? = some (oneO v t)) : (w.setCell ⟨b, 0, none⟩ u).heap[b]? = some (oneO u t) := by
  unfold World.setCell
  simp [Array.getElem?_modify, hb, oneO]
theorem set_other {b k o : Nat} {u : Value} {x : Option Obj} {w : World} (h : k ≠ b) (hk : w.heap[k]? = x) : (w.setCell ⟨b, o, none⟩ u).heap[k]? = x :=
  (Below.heap_setCell w ⟨b, o, none⟩ u k h).trans hk

/-- What the parts of a time have come to. -/
structure TimeAt (B : Nat) (total last v : Int) (wh : Bool) (unit : ByteArray) (w : World) : Prop where
  total : w.heap[B]? = some (oneO (.int .i64 total) 3)
  last : w.heap[B + 1]? = some (oneO (.int .i64 last) 3)
  count : w.heap[B + 2]? = some (digO 10 v wh)
  unit : w.heap[B + 3]? = some (oneO (.string unit) 9)

theorem unitL_bd (u : List UInt8) : 0 ≤ unitL u ∧ unitL u ≤ 86400000 := by
  unfold unitL
  repeat' split
  all_goals omega

def rightP (last : Int) (wh : Bool) (L : Int) : Bool := wh && decide (0 < L) && decide (L < last)

theorem dig_set0 {b : Nat} {base v u : Int} {wh : Bool} {w : World} (hb : w.heap[b]? = some (digO base v wh)) :
    (w.setCell ⟨b, 0, none⟩ (.int .i64 u)).heap[b]? = some (digO u v wh) := by
  unfold World.setCell
  simp [Array.getElem?_modify, hb, digO]
theorem part_world {B : Nat} {total last v T L : Int} {wh : Bool} {unit : ByteArray} {w : World} (h : TimeAt B total last v wh unit w) :
    Win B (B + 4) w ((((((w.setCell ⟨B, 0, none⟩ (.int .i64 T)).setCell ⟨B + 1, 0, none⟩ (.int .i64 L)).setCell ⟨B + 2, 0, none⟩ (.int .i64 10)).setCell ⟨B + 2, 1, none⟩ (.int .i64 0)).setCell ⟨B + 2, 2, none⟩ (.bool false)).setCell ⟨B + 3, 0, none⟩ (.string ⟨#[]⟩)) ∧
    TimeAt B T L 0 false ⟨#[]⟩ ((((((w.setCell ⟨B, 0, none⟩ (.int .i64 T)).setCell ⟨B + 1, 0, none⟩ (.int .i64 L)).setCell ⟨B + 2, 0, none⟩ (.int .i64 10)).setCell ⟨B + 2, 1, none⟩ (.int .i64 0)).setCell ⟨B + 2, 2, none⟩ (.bool false)).setCell ⟨B + 3, 0, none⟩ (.string ⟨#[]⟩)) := by
  refine ⟨((((((Win.refl B (B + 4) w).set (by omega) (by omega) _ _).set (by omega) (by omega) _ _).set (by omega) (by omega) _ _).set (by omega) (by omega) _ _).set (by omega) (by omega) _ _).set (by omega) (by omega) _ _, ?_, ?_, ?_, ?_⟩
  · exact set_other (by omega) (set_other (by omega) (set_other (by omega) (set_other (by omega) (set_other (by omega) (one_set h.total)))))
  · exact set_other (by omega) (set_other (by omega) (set_other (by omega) (set_other (by omega) (one_set (set_other (by omega) h.last)))))
  · exact set_other (by omega) (dig_set2 (dig_set1 (dig_set0 (set_other (by omega) (set_other (by omega) h.count)))))
  · exact one_set (set_other (by omega) (set_other (by omega) (set_other (by omega) (set_other (by omega) (set_other (by omega) h.unit)))))

set_option maxHeartbeats 1000000 in
theorem part_any (B : Nat) (total last v : Int) (wh : Bool) (unit : ByteArray) (w : World) (h : TimeAt B total last v wh unit w)
    (ht0 : 0 ≤ total) (ht1 : total ≤ 1000000000000000000) (hv0 : 0 ≤ v) (hv1 : v ≤ 4294967296) :
    Calls Tryd.prog 49 #[.pointer (some ⟨B + 3, 0, none⟩), .pointer (some ⟨B + 2, 0, none⟩), .pointer (some ⟨B + 1, 0, none⟩), .pointer (some ⟨B, 0, none⟩)] w fun e w' =>
      e = .returned (.bool (rightP last wh (unitL unit.data.toList))) ∧ Win B (B + 4) w w' ∧ TimeAt B (total + v * unitL unit.data.toList) (unitL unit.data.toList) 0 false ⟨#[]⟩ w' := by
  obtain ⟨L, hL⟩ : ∃ L, unitL unit.data.toList = L := ⟨_, rfl⟩
  have hbd := unitL_bd unit.data.toList
  have cU : ∀ W, Calls Tryd.prog 50 #[.string unit] W fun e w' => e = .returned (.int .i64 L) ∧ w' = W := fun W => hL ▸ unit_any unit W
  rw [hL] at hbd ⊢
  clear hL
  have hh := h
  obtain ⟨hc0, hc1, hc2, hc3⟩ := h
  have df0 : w.frozen? ⟨B + 2, 0, none⟩ = false := by simp [World.frozen?, hc2, digO]
  obtain ⟨d0, d1, d2, df1, df2⟩ := dig_cells hc2
  obtain ⟨a0, af⟩ := one_cell hc0
  obtain ⟨b0, bf⟩ := one_cell hc1
  obtain ⟨u0, uf⟩ := one_cell hc3
  have hP0 : 0 ≤ v * L := Int.mul_nonneg hv0 hbd.1
  have hP1 : v * L ≤ 4294967296 * 86400000 := Int.mul_le_mul hv1 hbd.2 hbd.1 (by omega)
  go_enter Tryd.func49, Tryd.ntmps49
  go_wp2_with (go_at_call 50; go_must (refine (cU _).mono ?_; rintro e w' ⟨rfl, rfl⟩))
  all_goals go_ret
  all_goals refine ⟨ret_bool ?_, part_world hh⟩
  all_goals simp_all [rightP]
  all_goals omega
end Go.Proofs.YtelgiffhgkbpeaaDoor
