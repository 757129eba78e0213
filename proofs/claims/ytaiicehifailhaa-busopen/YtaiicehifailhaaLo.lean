/- The law of Open. -/
import Derived.Test.YtaiicehifailhaaD
import Derived.Test.YtaiicehifailhaaK
namespace Go.Proofs.Ytaiicehifailhaa
open Go.RowKit
attribute [local go_sem ↓] Go.wp_at_zero Go.wp_at_succ
set_option linter.unusedVariables false
set_option linter.unusedSimpArgs false
theorem openW_len (l : List Nat) : (openW l).length ≤ 60 := by
  unfold openW
  split
  · rename_i h
    rw [wordsOf_len]
    exact (open_yes h).2.2.2.2
  · simp
/-- A box of three. -/
def Bx3 (w : World) (p : Nat) (x y z : Value) : Prop := w.cell? ⟨p, 0, none⟩ = some x ∧ w.cell? ⟨p, 1, none⟩ = some y ∧ w.cell? ⟨p, 2, none⟩ = some z
theorem Bx3.keep {w w' : World} {p : Nat} {x y z : Value} (h : Bx3 w p x y z) (hg : w.grownBy w' none) : Bx3 w' p x y z :=
  ⟨hg.cell h.1 (by simp), hg.cell h.2.1 (by simp), hg.cell h.2.2 (by simp)⟩
theorem Bx3.ne {w w' : World} {p : Nat} {x y z : Value} {r : Option Nat} (h : Bx3 w p x y z) (hg : w.grownBy w' r) (hr : r ≠ some p) : Bx3 w' p x y z :=
  ⟨hg.cell h.1 (fun e => hr e.symm), hg.cell h.2.1 (fun e => hr e.symm), hg.cell h.2.2 (fun e => hr e.symm)⟩
set_option maxRecDepth 10000 in
set_option maxHeartbeats 2000000 in
theorem openLaw_any (l : List Nat) (v : Value) (w : World) (hb : isB l) (hv : rdB w v l) (hl : l.length ≤ 140737488351232) : Calls Try.prog 4 #[v] w fun e w' => e = .returned (.bool true) ∧ w.grownBy w' none := by
  have hm : l.length ≤ maxLen := by unfold maxLen; omega
  obtain ⟨a, cap, rfl, _, _⟩ := id hv
  have cS := refOpen_any l _ w hb hv hm
  have cR := fun (W : World) (x : Value) (h : rdB W x l) => open_any l x W hb h hm
  have hlen := openW_len l
  generalize openW l = R at *
  generalize openS l = S at *
  generalize openQ l = Q at *
  generalize openE l = E at *
  go_enter Try.func4, Try.ntmps4
  go_wp2_with fail
  refine cS.mono ?_
  rintro e w1 ⟨a0, c0, rfl, ho0, hg1⟩
  have hgB : w1.grownBy (w1.alloc (.cells #[.int .i64 (S : Int), .int .i64 (Q : Int), .slice a0 R.length c0] 32)) none := gr_alloc (World.grownBy.refl _ _) _
  have hbx : Bx3 (w1.alloc (.cells #[.int .i64 (S : Int), .int .i64 (Q : Int), .slice a0 R.length c0] 32)) w1.heap.size (.int .i64 (S : Int)) (.int .i64 (Q : Int)) (.slice a0 R.length c0) := ⟨at_cell (heap_alloc_new w1 _) 0, at_cell (heap_alloc_new w1 _) 1, at_cell (heap_alloc_new w1 _) 2⟩
  have hg1B := grown_join hg1 hgB (.inl rfl)
  obtain ⟨oa, oc, w2, hrun, hown, hg2⟩ := copyB (rdB_grown hv hg1B) hl
  have HRUN : Hid (_ = _) := hrun
  clear hrun
  have hg02 := grown_join hg1B hg2 (.inl rfl)
  have hbx2 := hbx.keep hg2
  have hgB2 := grown_join hgB hg2 (.inl rfl)
  go_wp2_with (first | (at_builtin; refine hidG ?_))
  refine hidI ?_
  refine wpList_append_run rfl _ _ 23 rfl _ _ _ w2 rfl rfl HRUN.out ?_
  go_wp2_with fail
  refine (cR _ _ hown.rd).mono ?_
  rintro e w3 ⟨a1, c1, rfl, ho1, hg3⟩
  go_wp2_with fail
  refine (cR _ _ (hown.kept hg3).rd).mono ?_
  rintro e w4 ⟨a2, c2, rfl, ho2, hg4⟩
  have hg24 := grown_join hg3 hg4 (.inl rfl)
  have hbx4 := hbx2.keep hg24
  obtain ⟨p0, p1, p2⟩ := hbx4
  go_wp2_with fail
  refine (sameInts_yes _ _ R _ (ho1.kept hg4).rd ((ho0.kept hgB2).kept hg24).rd (by omega)).mono ?_
  rintro e w5 ⟨rfl, hg5⟩
  have hg25 := grown_join hg24 hg5 (.inl rfl)
  have p2 := hg5.cell p2 (by simp)
  go_wp2_with fail
  refine (sameInts_yes _ _ R _ (ho2.kept hg5).rd ((ho0.kept hgB2).kept hg25).rd (by omega)).mono ?_
  rintro e w6 ⟨rfl, hg6⟩
  have hg26 := grown_join hg25 hg6 (.inl rfl)
  have hg06 := grown_join hg02 hg26 (.inl rfl)
  go_wp2_with fail
  refine (sameBytes_yes _ _ l _ (hown.kept hg26).rd (rdB_grown hv hg06)).mono ?_
  rintro e w7 ⟨rfl, rfl⟩
  have hS : ∀ x, (Value.slice oa l.length oc).ownBlock = some x → w1.heap.size + 1 ≤ x ∧ x < w2.heap.size := fun x hx => by have := World.ownsRow.lt hown x hx; simpa using this
  have hA0 : ∀ x, (Value.slice a0 R.length c0).ownBlock = some x → w.heap.size ≤ x ∧ x < w1.heap.size := World.ownsRow.lt ho0
  have hA1 : ∀ x, (Value.slice a1 R.length c1).ownBlock = some x → w2.heap.size ≤ x ∧ x < w3.heap.size := World.ownsRow.lt ho1
  have hA2 : ∀ x, (Value.slice a2 R.length c2).ownBlock = some x → w3.heap.size ≤ x ∧ x < w4.heap.size := World.ownsRow.lt ho2
  have s01 := hg1.size
  have s12 := hg2.size
  have s23 := hg3.size
  simp at s12
  have hg46 := grown_join hg5 hg6 (.inl rfl)
  have hB6 := hbx2.keep hg26
  have o0 := (ho0.kept hgB2).kept hg26
  have o1 := (ho1.kept hg4).kept hg46
  have o2 := ho2.kept hg46
  clear hg1 hg2 hg3 hg4 hg5 hg6 hg24 hg25 hg46 hg02 ho0 ho1 ho2 cS cR p0 p1 p2 hbx hbx2 hgB hgB2 hg1B
  go_wp2_with fail
  refine (spoil_any _ _ _ _ (by simpa using hl) (hown.kept hg26).u).mono ?_
  rintro e w7 ⟨rfl, hg7⟩
  have p0 : OwnL _ w7 a0 c0 R := own_ne o0 hg7 (fun x hx e => by have := hS x e; have := hA0 x hx; omega)
  have p1 : OwnL _ w7 a1 c1 R := own_ne o1 hg7 (fun x hx e => by have := hS x e; have := hA1 x hx; omega)
  have p2 : OwnL _ w7 a2 c2 R := own_ne o2 hg7 (fun x hx e => by have := hS x e; have := hA2 x hx; omega)
  have hB7 := hB6.ne hg7 (fun e => by have := hS _ e; omega)
  have hg07 := grown_join hg06 hg7 (.inr fun x hx => by have := hS x hx; omega)
  go_wp2_with fail
  refine (over_any _ _ R _ _ (by omega) p1).mono ?_
  rintro e w8 ⟨rfl, hg8⟩
  have t0 : OwnL _ w8 a0 c0 R := own_ne p0 hg8 (fun x hx e => by have := hA1 x e; have := hA0 x hx; omega)
  have t2 : OwnL _ w8 a2 c2 R := own_ne p2 hg8 (fun x hx e => by have := hA1 x e; have := hA2 x hx; omega)
  have hB8 := hB7.ne hg8 (fun e => by have := hA1 _ e; omega)
  have hg08 := grown_join hg07 hg8 (.inr fun x hx => by have := hA1 x hx; omega)
  have z2 := hB8.2.2
  go_wp2_with fail
  refine (sameInts_yes _ _ R _ t2.rd t0.rd (by omega)).mono ?_
  rintro e w9 ⟨rfl, hg9⟩
  go_wp2
  go_ret
  exact ⟨rfl, grown_join hg08 hg9 (.inl rfl)⟩
end Go.Proofs.Ytaiicehifailhaa
