/- The law of Read. -/
import Derived.Test.YtlbipcecdcmgdaaDoorD2
namespace Go.Proofs.YtlbipcecdcmgdaaDoor
open Go.RowKit
attribute [local go_sem ↓] Go.wp_at_zero Go.wp_at_succ
set_option linter.unusedVariables false
set_option linter.unusedSimpArgs false

theorem own_ne {B e size n : Nat} {r : Option Nat} {w w' : World} {v : Value} {xs : List Value} (h : w.ownsRow B e size v n xs) (hg : w.grownBy w' r) (hne : ∀ x, v.ownBlock = some x → r ≠ some x) : w'.ownsRow B e size v n xs :=
  World.ownsRow.kept h hg (by
    cases hv : v.ownBlock with
    | none => exact .inl rfl
    | some x => exact .inr (fun e => hne x hv e.symm))
theorem read_len (l : List Nat) : (readW l).length ≤ 2000 := by
  unfold readW
  by_cases h : readE l = 0
  · rw [if_pos h, numsOf_len]
    unfold readE at h
    repeat' split at h
    all_goals omega
  · rw [if_neg h]; simp
/-- All bytes of a list, behind none. -/
theorem copyB {w : World} {a : Option Addr} {cap : Nat} {l : List Nat} (h : rdB w (.slice a l.length cap) l) (hl : l.length ≤ 140737488351232) :
    ∃ oa oc w', (Builtin.append_ #[23, 23] 23 #[.slice none 0 0, .slice a l.length cap]).run Tryd.prog w = .ok (.slice oa l.length oc) w' ∧ OwnB w.heap.size w' oa oc l ∧ w.grownBy w' none := by
  obtain ⟨i0, hi, hz0, hz1, hz2⟩ := info_parts info5
  obtain ⟨oa, oc, w', h1, h2, h3⟩ := run_append_all (P := Tryd.prog) w 23 23 5 i0 _ 1 1 Tryd.underlying23 hi hz0 hz1 hz2 rfl (by omega) a l.length cap (bV l) (by rw [bV_len]; omega) h.cells (bV_one l) (by unfold maxLen; omega) (by omega)
  exact ⟨oa, oc, w', h1, h2, h3⟩

set_option maxRecDepth 10000 in
set_option maxHeartbeats 2000000 in
theorem readLaw_any (l : List Nat) (v : Value) (w : World) (hb : isB l) (hv : rdB w v l) (hl : l.length ≤ 140737488351232) (hB : Beg w) : Calls Tryd.prog 4 #[v] w fun e w' => e = .returned (.bool true) ∧ w.grownBy w' none := by
  have hm : l.length ≤ maxLen := by unfold maxLen; omega
  obtain ⟨a, cap, rfl, _, _⟩ := id hv
  have cS := slot_any l _ w hb hv hm
  have cR := fun (W : World) (x : Value) (h : rdB W x l) (hB : Beg W) => read_any l x W hb h hm hB
  have hlen := read_len l
  generalize readW l = R at *
  generalize readN l = N at *
  generalize readE l = E at *
  go_enter Tryd.func4, Tryd.ntmps4
  go_wp2_with fail
  refine cS.mono ?_
  rintro e w1 ⟨a0, c0, rfl, ho0, hg1⟩
  obtain ⟨oa, oc, w2, hrun, hown, hg2⟩ := copyB (rdB_grown hv hg1) hl
  have HRUN : Hid (_ = _) := hrun
  clear hrun
  have hg02 := grown_join hg1 hg2 (.inl rfl)
  go_wp2_with (first | (at_builtin; refine wpList_append_run rfl _ _ 23 rfl _ _ _ w2 rfl rfl HRUN.out ?_))
  refine (cR _ _ hown.rd (hB.grown hg02)).mono ?_
  rintro e w3 ⟨a1, c1, rfl, ho1, hg3⟩
  have hg03 := grown_join hg02 hg3 (.inl rfl)
  go_wp2_with fail
  refine (cR _ _ (hown.kept hg3).rd (hB.grown hg03)).mono ?_
  rintro e w4 ⟨a2, c2, rfl, ho2, hg4⟩
  have hg24 := grown_join hg3 hg4 (.inl rfl)
  go_wp2_with fail
  refine (sameInts_yes _ _ R _ (ho1.kept hg4).rd ((ho0.kept hg2).kept hg24).rd (by omega)).mono ?_
  rintro e w5 ⟨rfl, hg5⟩
  have hg25 := grown_join hg24 hg5 (.inl rfl)
  go_wp2_with fail
  refine (sameInts_yes _ _ R _ (ho2.kept hg5).rd ((ho0.kept hg2).kept hg25).rd (by omega)).mono ?_
  rintro e w6 ⟨rfl, hg6⟩
  have hg26 := grown_join hg25 hg6 (.inl rfl)
  have hg06 := grown_join hg02 hg26 (.inl rfl)
  go_wp2_with fail
  refine (sameBytes_yes _ _ l _ (hown.kept hg26).rd (rdB_grown hv hg06)).mono ?_
  rintro e w7 ⟨rfl, rfl⟩
  have hS : ∀ x, (Value.slice oa l.length oc).ownBlock = some x → w1.heap.size ≤ x ∧ x < w2.heap.size := World.ownsRow.lt hown
  have hA0 : ∀ x, (Value.slice a0 R.length c0).ownBlock = some x → w.heap.size ≤ x ∧ x < w1.heap.size := World.ownsRow.lt ho0
  have hA1 : ∀ x, (Value.slice a1 R.length c1).ownBlock = some x → w2.heap.size ≤ x ∧ x < w3.heap.size := World.ownsRow.lt ho1
  have hA2 : ∀ x, (Value.slice a2 R.length c2).ownBlock = some x → w3.heap.size ≤ x ∧ x < w4.heap.size := World.ownsRow.lt ho2
  have s01 := hg1.size
  have s12 := hg2.size
  have s23 := hg3.size
  have hg46 := grown_join hg5 hg6 (.inl rfl)
  have o0 := (ho0.kept hg2).kept hg26
  have o1 := (ho1.kept hg4).kept hg46
  have o2 := ho2.kept hg46
  clear hg1 hg2 hg3 hg4 hg5 hg6 hg24 hg25 hg46 hg03 hg02 ho0 ho1 ho2 cS cR
  go_wp2_with fail
  refine (spoil_any _ _ _ _ (by simpa using hl) (hown.kept hg26).u).mono ?_
  rintro e w7 ⟨rfl, hg7⟩
  have p0 : OwnL _ w7 a0 c0 R := own_ne o0 hg7 (fun x hx e => by have := hS x e; have := hA0 x hx; omega)
  have p1 : OwnL _ w7 a1 c1 R := own_ne o1 hg7 (fun x hx e => by have := hS x e; have := hA1 x hx; omega)
  have p2 : OwnL _ w7 a2 c2 R := own_ne o2 hg7 (fun x hx e => by have := hS x e; have := hA2 x hx; omega)
  have hg07 := grown_join hg06 hg7 (.inr fun x hx => by have := hS x hx; omega)
  go_wp2_with fail
  refine (over_any _ _ R _ _ (by omega) p1).mono ?_
  rintro e w8 ⟨rfl, hg8⟩
  have t0 : OwnL _ w8 a0 c0 R := own_ne p0 hg8 (fun x hx e => by have := hA1 x e; have := hA0 x hx; omega)
  have t2 : OwnL _ w8 a2 c2 R := own_ne p2 hg8 (fun x hx e => by have := hA1 x e; have := hA2 x hx; omega)
  have hg08 := grown_join hg07 hg8 (.inr fun x hx => by have := hA1 x hx; omega)
  go_wp2_with fail
  refine (sameInts_yes _ _ R _ t2.rd t0.rd (by omega)).mono ?_
  rintro e w9 ⟨rfl, hg9⟩
  go_wp2
  go_ret
  exact ⟨rfl, grown_join hg08 hg9 (.inl rfl)⟩
end Go.Proofs.YtlbipcecdcmgdaaDoor
