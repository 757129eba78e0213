/- The law of Frame. -/
import Derived.Test.YtaiicehifailhaaD
namespace Go.Proofs.Ytaiicehifailhaa
open Go.RowKit
attribute [local go_sem ↓] Go.wp_at_zero Go.wp_at_succ
set_option linter.unusedVariables false
set_option linter.unusedSimpArgs false
set_option maxRecDepth 10000 in
set_option maxHeartbeats 2000000 in
theorem frameLaw_any (st sq : Int) (l : List Int) (u : Value) (w : World) (hu : rd w u l) (hl : l.length ≤ 17592186043904) : Calls Try.prog 3 #[.int .i64 st, .int .i64 sq, u] w fun e w' => e = .returned (.bool true) ∧ w.grownBy w' none := by
  obtain ⟨a, cap, rfl, _⟩ := id hu
  have cS := refFrame_any st sq l _ w hu
  have cR := fun (W : World) (x : Value) (h : rd W x l) => frame_any st sq l x W h (by omega)
  have hlen := frameS_len st sq l
  generalize frameS st sq l = R at *
  generalize frameE st sq l = E at *
  go_enter Try.func3, Try.ntmps3
  go_wp2_with fail
  refine cS.mono ?_
  rintro e w1 ⟨a0, c0, rfl, ho0, hg1⟩
  obtain ⟨oa, oc, w2, hrun, hown, hg2⟩ := copyL (rd_grown hu hg1) hl
  have HRUN : Hid (_ = _) := hrun
  clear hrun
  have hg02 := grown_join hg1 hg2 (.inl rfl)
  go_wp2_with (first | (at_builtin; refine hidG ?_))
  refine hidI ?_
  refine wpList_append_run rfl _ _ 22 rfl _ _ _ w2 rfl rfl HRUN.out ?_
  go_wp2_with fail
  refine (cR _ _ hown.rd).mono ?_
  rintro e w3 ⟨a1, c1, rfl, ho1, hg3⟩
  have hg03 := grown_join hg02 hg3 (.inl rfl)
  go_wp2_with fail
  refine (cR _ _ (hown.kept hg3).rd).mono ?_
  rintro e w4 ⟨a2, c2, rfl, ho2, hg4⟩
  have hg24 := grown_join hg3 hg4 (.inl rfl)
  have hg04 := grown_join hg02 hg24 (.inl rfl)
  go_wp2_with fail
  refine (sameBytes_yes _ _ R _ (ho1.kept hg4).rd ((ho0.kept hg2).kept hg24).rd).mono ?_
  rintro e w5 ⟨rfl, rfl⟩
  go_wp2_with fail
  refine (sameBytes_yes _ _ R _ ho2.rd ((ho0.kept hg2).kept hg24).rd).mono ?_
  rintro e w5 ⟨rfl, rfl⟩
  go_wp2_with fail
  refine (sameInts_yes _ _ l _ (hown.kept hg24).rd (rd_grown hu hg04) (by omega)).mono ?_
  rintro e w5 ⟨rfl, hg5⟩
  have hg25 := grown_join hg24 hg5 (.inl rfl)
  have hg05 := grown_join hg02 hg25 (.inl rfl)
  have hA0 : ∀ x, (Value.slice a0 R.length c0).ownBlock = some x → w.heap.size ≤ x ∧ x < w1.heap.size := World.ownsRow.lt ho0
  have hA1 : ∀ x, (Value.slice a1 R.length c1).ownBlock = some x → w2.heap.size ≤ x ∧ x < w3.heap.size := World.ownsRow.lt ho1
  have hA2 : ∀ x, (Value.slice a2 R.length c2).ownBlock = some x → w3.heap.size ≤ x ∧ x < w4.heap.size := World.ownsRow.lt ho2
  have s01 := hg1.size
  have s12 := hg2.size
  have o0 := (ho0.kept hg2).kept hg25
  have o1 := (ho1.kept hg4).kept hg5
  have o2 := ho2.kept hg5
  clear hg1 hg2 hg3 hg4 hg24 hg25 hg03 hg02 ho0 ho1 ho2 cS cR
  go_wp2_with fail
  refine (spoil_any _ _ _ _ (by simp; omega) o1.u).mono ?_
  rintro e w6 ⟨rfl, hg6⟩
  have p0 : OwnB _ w6 a0 c0 R := own_ne o0 hg6 (fun x hx e => by have := hA1 x e; have := hA0 x hx; omega)
  have p2 : OwnB _ w6 a2 c2 R := own_ne o2 hg6 (fun x hx e => by have := hA1 x e; have := hA2 x hx; omega)
  have hg06 := grown_join hg05 hg6 (.inr fun x hx => by have := hA1 x hx; omega)
  go_wp2_with fail
  refine (sameBytes_yes _ _ R _ p2.rd p0.rd).mono ?_
  rintro e w9 ⟨rfl, rfl⟩
  go_wp2
  go_ret
  exact ⟨rfl, hg06⟩
end Go.Proofs.Ytaiicehifailhaa
