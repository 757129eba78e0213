/- The walk of BlockShapes. -/
import Derived.Test.YtphnadhkoigegaaS1
import Derived.Test.YtphnadhkoigegaaS2
import Derived.Test.YtphnadhkoigegaaR1
namespace Go.Proofs.Ytphnadhkoigegaa
open Go.RowKit
attribute [local go_sem ↓] Go.wp_at_zero Go.wp_at_succ
set_option linter.unusedVariables false
set_option linter.unusedSimpArgs false

theorem pinArr_size (l : List (ByteArray × Int)) : (pinArr l).size = l.length * 2 := by
  unfold pinArr
  induction l with
  | nil => rfl
  | cons x l ih => simp at ih ⊢; omega

/-- Blocks that lie there. -/
def Lie (w : World) (L : List (Nat × Obj)) : Prop := ∀ x ∈ L, w.heap[x.1]? = some x.2
theorem Lie.to {w w' : World} {L : List (Nat × Obj)} (h : Lie w L) (hg : w.grownBy w' none) : Lie w' L := fun x hx => kept hg (h x hx)
theorem Lie.but {w w' : World} {L : List (Nat × Obj)} {p : Nat} (h : Lie w L) (hg : w.grownBy w' (some p)) (hp : ∀ x ∈ L, x.1 ≠ p) : Lie w' L := fun x hx => keptBut hg (h x hx) (hp x hx)
theorem Lie.nil (w : World) : Lie w [] := fun x hx => by simp at hx
theorem Lie.cons {w : World} {L : List (Nat × Obj)} {k : Nat} {o : Obj} (h0 : w.heap[k]? = some o) (h : Lie w L) : Lie w ((k, o) :: L) := fun x hx => by
  rcases List.mem_cons.1 hx with rfl | hx
  · exact h0
  · exact h x hx
def boxO (b1 b2 b3 i o s : Nat) : Obj := .cells #[.slice (some ⟨b1, 0, none⟩) i i, .slice (some ⟨b2, 0, none⟩) o o, .slice (some ⟨b3, 0, none⟩) s s] 24

set_option maxRecDepth 10000 in
set_option maxHeartbeats 4000000 in
theorem shapes_gen (nm : ByteArray) (I O S : List (ByteArray × Int)) (w : World) (hI : I.length ≤ 5) (hO : O.length ≤ 5) (hS : S.length ≤ 5) (hsh : ShapeC nm I O S) (hrf : RefShapeC nm I O S) :
    Calls Try.prog 3 #[.string nm] w fun e w' => e = .returned (.bool true) ∧ w.grownBy w' none := by
  have HSH : Hid (ShapeC nm I O S) := hsh
  have HRF : Hid (RefShapeC nm I O S) := hrf
  clear hsh hrf
  go_enter Try.func3, Try.ntmps3
  go_wp2_with fail
  refine (HRF.out _).mono ?_
  rintro e w1 ⟨v, rfl, ⟨r1, r2, r3, rfl, r1b, r2b, r3b, _, _, _, R1, R2, R3⟩, hg1⟩
  go_wp2_with fail
  refine (HSH.out _).mono ?_
  rintro e w2 ⟨v, rfl, ⟨a1, a2, a3, rfl, a1b, a2b, a3b, a12, a13, a23, A1, A2, A3⟩, hg2⟩
  have lr1 := at_lt R1
  have lr2 := at_lt R2
  have lr3 := at_lt R3
  have la1 := at_lt A1
  have la2 := at_lt A2
  have la3 := at_lt A3
  simp at a1b a2b a3b
  have L2 : Lie w2 [(w1.heap.size, boxO r1 r2 r3 I.length O.length S.length), (r1, .cells (pinArr I) 49), (r2, .cells (pinArr O) 49), (r3, .cells (pinArr S) 49)] :=
    .cons (kept hg2 (heap_alloc_new w1 _)) (.cons (kept hg2 ((hp_old lr1 _).trans R1)) (.cons (kept hg2 ((hp_old lr2 _).trans R2)) (.cons (kept hg2 ((hp_old lr3 _).trans R3)) (.nil _))))
  have HA : Hid (Lie w2 [(a1, .cells (pinArr I) 49), (a2, .cells (pinArr O) 49), (a3, .cells (pinArr S) 49)]) := Lie.cons A1 (.cons A2 (.cons A3 (.nil _)))
  have HL2 : Hid (Lie w2 _) := L2
  have hgw2 : w.grownBy w2 none := (gr_alloc hg1 _).trans hg2
  have w12 : w1.heap.size < w2.heap.size := at_lt (kept hg2 (heap_alloc_new w1 _))
  have w01 : w.heap.size ≤ w1.heap.size := hg1.size
  clear R1 R2 R3 A1 A2 A3 L2 hg1 hg2
  go_wp2_with fail
  refine (HSH.out _).mono ?_
  rintro e w3 ⟨v, rfl, ⟨b1, b2, b3, rfl, b1b, b2b, b3b, _, _, _, B1, B2, B3⟩, hg3⟩
  simp at b1b b2b b3b
  have lb1 := at_lt B1
  have lb2 := at_lt B2
  have lb3 := at_lt B3
  have hg23 := (gr_alloc (World.grownBy.refl w2 none) _).trans hg3
  have L3 := (Lie.cons B1 (.cons B2 (.cons B3 (.cons (kept hg3 (heap_alloc_new w2 _)) (HL2.out.to hg23)))))
  have HL3 : Hid (Lie w3 _) := L3
  have HA3 : Hid (Lie w3 _) := HA.out.to hg23
  have hgw3 : w.grownBy w3 none := hgw2.trans hg23
  have w23 : w2.heap.size < w3.heap.size := at_lt (kept hg3 (heap_alloc_new w2 _))
  have x0 := at_cell (L3 (w1.heap.size, boxO r1 r2 r3 I.length O.length S.length) (by simp [boxO])) 0
  have x1 := at_cell (L3 (w1.heap.size, boxO r1 r2 r3 I.length O.length S.length) (by simp [boxO])) 1
  have x2 := at_cell (L3 (w1.heap.size, boxO r1 r2 r3 I.length O.length S.length) (by simp [boxO])) 2
  have y0 := at_cell (kept hg3 (heap_alloc_new w2 _)) 0
  have y1 := at_cell (kept hg3 (heap_alloc_new w2 _)) 1
  have y2 := at_cell (kept hg3 (heap_alloc_new w2 _)) 2
  simp at x0 x1 x2 y0 y1 y2
  have l1 : w1.heap.size < w3.heap.size := by omega
  clear B1 B2 B3 L3 HL2 HA
  go_wp2_with fail
  refine (sameShape_yes I O S a1 a2 a3 r1 r2 r3 _ hI hO hS ?_ ?_).mono ?_
  · exact ShpAt.kept ⟨HA3.out (a1, .cells (pinArr I) 49) (by simp), HA3.out (a2, .cells (pinArr O) 49) (by simp), HA3.out (a3, .cells (pinArr S) 49) (by simp)⟩ (gr_alloc (World.grownBy.refl _ none) _)
  · exact ShpAt.kept ⟨HL3.out (r1, .cells (pinArr I) 49) (by simp), HL3.out (r2, .cells (pinArr O) 49) (by simp), HL3.out (r3, .cells (pinArr S) 49) (by simp)⟩ (gr_alloc (World.grownBy.refl _ none) _)
  rintro e w4 ⟨rfl, hg4⟩
  have hg34 := (gr_alloc (World.grownBy.refl w3 none) _).trans hg4
  have L4 := Lie.cons (kept hg4 (heap_alloc_new w3 _)) (HL3.out.to hg34)
  have HL4 : Hid (Lie w4 _) := L4
  have HA4 : Hid (Lie w4 _) := HA3.out.to hg34
  have hgw4 : w.grownBy w4 none := hgw3.trans hg34
  have w34 : w3.heap.size < w4.heap.size := at_lt (kept hg4 (heap_alloc_new w3 _))
  clear x0 x1 x2 y0 y1 y2
  have y0 := at_cell (L4 (w2.heap.size, boxO a1 a2 a3 I.length O.length S.length) (by simp [boxO])) 0
  simp [boxO] at y0
  clear L4 HL3 HA3 hg3 hg4
  go_wp2_with fail
  refine (overPins_any a1 I.length (pinArr I) _ hI (HA4.out (a1, .cells (pinArr I) 49) (by simp)) (pinArr_size I)).mono ?_
  rintro e w5 ⟨rfl, hg5⟩
  have L5 := HL4.out.but hg5 (by intro x hx; simp at hx; rcases hx with rfl | rfl | rfl | rfl | rfl | rfl | rfl | rfl | rfl <;> simp <;> omega)
  have HA5 : Hid (Lie w5 [(a2, .cells (pinArr O) 49), (a3, .cells (pinArr S) 49)]) := Lie.cons (keptBut hg5 (HA4.out (a2, .cells (pinArr O) 49) (by simp)) (by omega)) (.cons (keptBut hg5 (HA4.out (a3, .cells (pinArr S) 49) (by simp)) (by omega)) (.nil _))
  have hgw5 : w.grownBy w5 none := grown_join hgw4 hg5 (.inr fun x hx => by simp at hx; omega)
  have HL5 : Hid (Lie w5 _) := L5
  have y1 := at_cell (L5 (w2.heap.size, boxO a1 a2 a3 I.length O.length S.length) (by simp [boxO])) 1
  simp [boxO] at y1
  clear y0 L5 HL4 HA4
  go_wp2_with fail
  refine (overPins_any a2 O.length (pinArr O) _ hO (HA5.out (a2, .cells (pinArr O) 49) (by simp)) (pinArr_size O)).mono ?_
  rintro e w6 ⟨rfl, hg6⟩
  have L6 := HL5.out.but hg6 (by intro x hx; simp at hx; rcases hx with rfl | rfl | rfl | rfl | rfl | rfl | rfl | rfl | rfl <;> simp <;> omega)
  have HA6 : Hid (w6.heap[a3]? = some (.cells (pinArr S) 49)) := keptBut hg6 (HA5.out (a3, .cells (pinArr S) 49) (by simp)) (by omega)
  have hgw6 : w.grownBy w6 none := grown_join hgw5 hg6 (.inr fun x hx => by simp at hx; omega)
  have HL6 : Hid (Lie w6 _) := L6
  have y2 := at_cell (L6 (w2.heap.size, boxO a1 a2 a3 I.length O.length S.length) (by simp [boxO])) 2
  have x2 := at_cell (L6 (w1.heap.size, boxO r1 r2 r3 I.length O.length S.length) (by simp [boxO])) 2
  simp [boxO] at y2 x2
  clear y1 L6 HL5 HA5
  go_wp2_with fail
  refine (samePins_yes S a3 r3 _ hS HA6.out (HL6.out (r3, .cells (pinArr S) 49) (by simp))).mono ?_
  rintro e w7 ⟨rfl, hg7⟩
  have L7 := HL6.out.to hg7
  have HA7 : Hid (w7.heap[a3]? = some (.cells (pinArr S) 49)) := kept hg7 HA6.out
  have hgw7 : w.grownBy w7 none := hgw6.trans hg7
  have HL7 : Hid (Lie w7 _) := L7
  clear y2 x2
  have y2 := at_cell (L7 (w2.heap.size, boxO a1 a2 a3 I.length O.length S.length) (by simp [boxO])) 2
  simp [boxO] at y2
  clear L7 HL6 HA6
  go_wp2_with fail
  refine (overPins_any a3 S.length (pinArr S) _ hS HA7.out (pinArr_size S)).mono ?_
  rintro e w8 ⟨rfl, hg8⟩
  have L8 := HL7.out.but hg8 (by intro x hx; simp at hx; rcases hx with rfl | rfl | rfl | rfl | rfl | rfl | rfl | rfl | rfl <;> simp <;> omega)
  have hgw8 : w.grownBy w8 none := grown_join hgw7 hg8 (.inr fun x hx => by simp at hx; omega)
  have HL8 : Hid (Lie w8 _) := L8
  clear y2 L8 HL7 HA7
  go_wp2_with fail
  refine (HSH.out _).mono ?_
  rintro e w9 ⟨v, rfl, ⟨c1, c2, c3, rfl, _, _, _, _, _, _, C1, C2, C3⟩, hg9⟩
  have L9 := HL8.out.to hg9
  have HL9 : Hid (Lie w9 _) := L9
  have hgw9 : w.grownBy w9 none := hgw8.trans hg9
  have HC9 : Hid (ShpAt w9 c1 c2 c3 I O S) := ⟨C1, C2, C3⟩
  have y0 := at_cell (L9 (w3.heap.size, boxO b1 b2 b3 I.length O.length S.length) (by simp [boxO])) 0
  have y1 := at_cell (L9 (w3.heap.size, boxO b1 b2 b3 I.length O.length S.length) (by simp [boxO])) 1
  have y2 := at_cell (L9 (w3.heap.size, boxO b1 b2 b3 I.length O.length S.length) (by simp [boxO])) 2
  have x0 := at_cell (L9 (w1.heap.size, boxO r1 r2 r3 I.length O.length S.length) (by simp [boxO])) 0
  have x1 := at_cell (L9 (w1.heap.size, boxO r1 r2 r3 I.length O.length S.length) (by simp [boxO])) 1
  have x2 := at_cell (L9 (w1.heap.size, boxO r1 r2 r3 I.length O.length S.length) (by simp [boxO])) 2
  simp [boxO] at y0 y1 y2 x0 x1 x2
  have l1 := at_lt (L9 (w1.heap.size, boxO r1 r2 r3 I.length O.length S.length) (by simp [boxO]))
  have l3 := at_lt (L9 (w3.heap.size, boxO b1 b2 b3 I.length O.length S.length) (by simp [boxO]))
  simp at l1 l3
  clear C1 C2 C3 L9 HL8
  go_wp2_with fail
  refine (sameShape_yes I O S b1 b2 b3 r1 r2 r3 _ hI hO hS ?_ ?_).mono ?_
  · exact ShpAt.kept ⟨HL9.out (b1, .cells (pinArr I) 49) (by simp), HL9.out (b2, .cells (pinArr O) 49) (by simp), HL9.out (b3, .cells (pinArr S) 49) (by simp)⟩ (gr_alloc (World.grownBy.refl _ none) _)
  · exact ShpAt.kept ⟨HL9.out (r1, .cells (pinArr I) 49) (by simp), HL9.out (r2, .cells (pinArr O) 49) (by simp), HL9.out (r3, .cells (pinArr S) 49) (by simp)⟩ (gr_alloc (World.grownBy.refl _ none) _)
  rintro e w10 ⟨rfl, hg10⟩
  have hg910 := (gr_alloc (World.grownBy.refl w9 none) _).trans hg10
  have L10 := HL9.out.to hg910
  have HL10 : Hid (Lie w10 _) := L10
  have hz := kept hg10 (heap_alloc_new w9 _)
  have z0 := at_cell hz 0
  have z1 := at_cell hz 1
  have z2 := at_cell hz 2
  clear x0 x1 x2 y0 y1 y2
  have x0 := at_cell (L10 (w1.heap.size, boxO r1 r2 r3 I.length O.length S.length) (by simp [boxO])) 0
  have x1 := at_cell (L10 (w1.heap.size, boxO r1 r2 r3 I.length O.length S.length) (by simp [boxO])) 1
  have x2 := at_cell (L10 (w1.heap.size, boxO r1 r2 r3 I.length O.length S.length) (by simp [boxO])) 2
  simp [boxO] at x0 x1 x2 z0 z1 z2
  clear L10 hz
  go_wp2_with fail
  refine (sameShape_yes I O S c1 c2 c3 r1 r2 r3 _ hI hO hS ?_ ?_).mono ?_
  · exact ShpAt.kept HC9.out hg910
  · exact ⟨HL10.out (r1, .cells (pinArr I) 49) (by simp), HL10.out (r2, .cells (pinArr O) 49) (by simp), HL10.out (r3, .cells (pinArr S) 49) (by simp)⟩
  rintro e w11 ⟨rfl, hg11⟩
  go_wp2_with fail
  go_ret
  exact ⟨rfl, hgw9.trans (hg910.trans hg11)⟩

set_option maxRecDepth 10000 in
set_option maxHeartbeats 4000000 in
theorem shapes_none (s : ByteArray) (hs : NoName s) (w : World) : Calls Try.prog 3 #[.string s] w fun e w' => e = .returned (.bool true) ∧ w.grownBy w' none := by
  have h9 := fun w => shape_none s hs w
  have h8 := fun w => refShape_none s hs w
  clear hs
  go_enter Try.func3, Try.ntmps3
  go_wp2_with fail
  refine (h8 _).mono ?_
  rintro e w1 ⟨rfl, hg1⟩
  go_wp2_with fail
  refine (h9 _).mono ?_
  rintro e w2 ⟨rfl, hg2⟩
  have X2 := kept hg2 (heap_alloc_new w1 _)
  go_wp2_with fail
  refine (h9 _).mono ?_
  rintro e w3 ⟨rfl, hg3⟩
  have hg23 := (gr_alloc (World.grownBy.refl w2 none) _).trans hg3
  have X3 := kept hg23 X2
  have Y3 := kept hg3 (heap_alloc_new w2 _)
  have hgw3 : w.grownBy w3 none := ((gr_alloc hg1 _).trans hg2).trans hg23
  have x0 := at_cell X3 0
  have x1 := at_cell X3 1
  have x2 := at_cell X3 2
  have y0 := at_cell Y3 0
  have y1 := at_cell Y3 1
  have y2 := at_cell Y3 2
  simp at x0 x1 x2 y0 y1 y2
  have l1 := at_lt X3
  have l2 := at_lt Y3
  have HX3 : Hid (_ = _) := X3
  have HY3 : Hid (_ = _) := Y3
  clear X2 X3 Y3
  go_wp2_with fail
  refine (sameShape_nil _).mono ?_
  rintro e w4 ⟨rfl, hg4⟩
  have hg34 := (gr_alloc (World.grownBy.refl w3 none) _).trans hg4
  have X4 := kept hg34 HX3.out
  have Y4 := kept hg34 HY3.out
  have Z4 := kept hg4 (heap_alloc_new w3 _)
  clear x0 x1 x2 y0 y1 y2
  have y0 := at_cell Y4 0
  simp at y0
  go_wp2_with fail
  refine (overPins_nil _).mono ?_
  rintro e w5 ⟨rfl, hg5⟩
  have y1 := at_cell (kept hg5 Y4) 1
  simp at y1
  go_wp2_with fail
  refine (overPins_nil _).mono ?_
  rintro e w6 ⟨rfl, hg6⟩
  have hg46 := hg5.trans hg6
  have y2 := at_cell (kept hg46 Y4) 2
  have x2 := at_cell (kept hg46 X4) 2
  simp at y2 x2
  go_wp2_with fail
  refine (samePins_nil _).mono ?_
  rintro e w7 ⟨rfl, rfl⟩
  go_wp2_with fail
  refine (overPins_nil _).mono ?_
  rintro e w8 ⟨rfl, hg8⟩
  go_wp2_with fail
  refine (h9 _).mono ?_
  rintro e w9 ⟨rfl, hg9⟩
  have hg49 := hg46.trans (hg8.trans hg9)
  have u0 := at_cell (kept hg49 X4) 0
  have u1 := at_cell (kept hg49 X4) 1
  have u2 := at_cell (kept hg49 X4) 2
  have v0 := at_cell (kept hg49 Z4) 0
  have v1 := at_cell (kept hg49 Z4) 1
  have v2 := at_cell (kept hg49 Z4) 2
  simp at u0 u1 u2 v0 v1 v2
  have l4 := at_lt (kept hg49 X4)
  have l5 := at_lt (kept hg49 Z4)
  clear y0 y1 y2 x2
  go_wp2_with fail
  refine (sameShape_nil _).mono ?_
  rintro e w10 ⟨rfl, hg10⟩
  have hg910 := (gr_alloc (World.grownBy.refl w9 none) _).trans hg10
  have Q := kept hg10 (heap_alloc_new w9 _)
  have q0 := at_cell Q 0
  have q1 := at_cell Q 1
  have q2 := at_cell Q 2
  clear u0 u1 u2 v0 v1 v2
  have u0 := at_cell (kept hg910 (kept hg49 X4)) 0
  have u1 := at_cell (kept hg910 (kept hg49 X4)) 1
  have u2 := at_cell (kept hg910 (kept hg49 X4)) 2
  simp at u0 u1 u2 q0 q1 q2
  go_wp2_with fail
  refine (sameShape_nil _).mono ?_
  rintro e w11 ⟨rfl, hg11⟩
  go_wp2_with fail
  go_ret
  exact ⟨rfl, hgw3.trans (hg34.trans (hg49.trans (hg910.trans hg11)))⟩
end Go.Proofs.Ytphnadhkoigegaa
