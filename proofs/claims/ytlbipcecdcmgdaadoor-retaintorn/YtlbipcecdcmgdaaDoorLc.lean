/- The law of Record. -/
import Derived.Test.YtlbipcecdcmgdaaDoorQ
namespace Go.Proofs.YtlbipcecdcmgdaaDoor
open Go.RowKit
attribute [local go_sem ↓] Go.wp_at_zero Go.wp_at_succ
set_option linter.unusedVariables false
set_option linter.unusedSimpArgs false
theorem rd.cells {w : World} {a : Option Addr} {cap : Nat} {l : List Int} (h : rd w (.slice a l.length cap) l) : l.length = 0 ∨ ∃ b off, a = some ⟨b, off, none⟩ ∧ ∀ j u, (l.map (Value.int .i64))[j]? = some u → w.cell? ((⟨b, off, none⟩ : Addr).add j) = some u := by
  obtain ⟨a', cap', e, h | ⟨b, off, rfl, hc⟩⟩ := h
  · left; simp [h]
  · injection e with e1 e2 e3
    subst e1 e3
    refine .inr ⟨b, off, rfl, fun j u hj => ?_⟩
    simp at hj
    obtain ⟨x, hx, rfl⟩ := hj
    have hj : j < l.length := (List.getElem?_eq_some_iff.1 hx).1
    rw [addn, hc j hj]
    simp [List.getD_eq_getElem?_getD, hx]
/-- All numbers of a list, behind none. -/
theorem copyL {w : World} {a : Option Addr} {cap : Nat} {l : List Int} (h : rd w (.slice a l.length cap) l) (hl : l.length ≤ 17592186043904) :
    ∃ oa oc w', (Builtin.append_ #[22, 22] 22 #[.slice none 0 0, .slice a l.length cap]).run Tryd.prog w = .ok (.slice oa l.length oc) w' ∧ OwnL w.heap.size w' oa oc l ∧ w.grownBy w' none := by
  obtain ⟨i0, hi, hz0, hz1, hz2⟩ := info_parts info3
  obtain ⟨oa, oc, w', h1, h2, h3⟩ := run_append_all (P := Tryd.prog) w 22 22 3 i0 _ 1 8 Tryd.underlying22 hi hz0 hz1 hz2 rfl (by omega) a l.length cap (l.map (Value.int .i64)) (by simp) h.cells (by intro u hu; simp at hu; obtain ⟨x, _, rfl⟩ := hu; rfl) (by unfold maxLen; omega) (by omega)
  exact ⟨oa, oc, w', h1, h2, h3⟩
theorem rec_len (l : List Int) (s : Int) : (recS l s).length ≤ 10000 := by
  unfold recS
  split
  · rename_i h
    have := (look_ok h).1
    rw [List.length_append, headS_len, bodyS_len]
    omega
  · simp
set_option maxRecDepth 10000 in
set_option maxHeartbeats 2000000 in
theorem recordLaw_any (l : List Int) (s : Int) (u : Value) (w : World) (hu : rd w u l) (hl : l.length ≤ 17592186043904) (hB : Beg w) : Calls Tryd.prog 3 #[u, .int .i64 s] w fun e w' => e = .returned (.bool true) ∧ w.grownBy w' none := by
  obtain ⟨a, cap, rfl, _⟩ := id hu
  have cS := refRecord_any l s _ w hu
  have cR := fun (W : World) (x : Value) (h : rd W x l) (hB : Beg W) => record_any l s x W h (by omega) hB
  have hlen := rec_len l s
  generalize recS l s = R at *
  generalize lookE l s = E at *
  go_enter Tryd.func3, Tryd.ntmps3
  go_wp2_with fail
  refine cS.mono ?_
  rintro e w1 ⟨a0, c0, rfl, ho0, hg1⟩
  obtain ⟨oa, oc, w2, hrun, hown, hg2⟩ := copyL (rd_grown hu hg1) hl
  have HRUN : Hid (_ = _) := hrun
  clear hrun
  have hg02 := grown_join hg1 hg2 (.inl rfl)
  go_wp2_with (first | (at_builtin; refine hidG ?_))
  refine hidI ?_
  refine wpList_append_run rfl _ _ 22 rfl _ _ _ w2 rfl rfl HRUN.out ?_
  go_wp2_with fail
  refine (cR _ _ hown.rd (hB.grown hg02)).mono ?_
  rintro e w3 ⟨a1, c1, rfl, ho1, hg3⟩
  have hg03 := grown_join hg02 hg3 (.inl rfl)
  go_wp2_with fail
  refine (cR _ _ (hown.kept hg3).rd (hB.grown hg03)).mono ?_
  rintro e w4 ⟨a2, c2, rfl, ho2, hg4⟩
  have hg24 := grown_join hg3 hg4 (.inl rfl)
  have hg04 := grown_join hg02 hg24 (.inl rfl)
  go_wp2_with fail
  refine (sameBytes_yes _ _ R _ (ho1.kept hg4).rd ((ho0.kept hg2).kept hg24).rd).mono ?_
  rintro e w5 ⟨rfl, rfl⟩
  go_wp2_with fail
  refine (sameBytes_yes _ _ R _ ho2.rd ((ho0.kept hg2).kept hg24).rd).mono ?_
  rintro e w5 ⟨rfl, rfl⟩
  go_wp2_with fail
  refine (sameInts_yes _ _ l _ (hown.kept hg24).rd (rd_grown hu hg04) (by omega)).mono ?_
  rintro e w5 ⟨rfl, hg5⟩
  have hg25 := grown_join hg24 hg5 (.inl rfl)
  have hg05 := grown_join hg02 hg25 (.inl rfl)
  have hA0 : ∀ x, (Value.slice a0 R.length c0).ownBlock = some x → w.heap.size ≤ x ∧ x < w1.heap.size := World.ownsRow.lt ho0
  have hA1 : ∀ x, (Value.slice a1 R.length c1).ownBlock = some x → w2.heap.size ≤ x ∧ x < w3.heap.size := World.ownsRow.lt ho1
  have hA2 : ∀ x, (Value.slice a2 R.length c2).ownBlock = some x → w3.heap.size ≤ x ∧ x < w4.heap.size := World.ownsRow.lt ho2
  have s01 := hg1.size
  have s12 := hg2.size
  have o0 := (ho0.kept hg2).kept hg25
  have o1 := (ho1.kept hg4).kept hg5
  have o2 := ho2.kept hg5
  clear hg1 hg2 hg3 hg4 hg24 hg25 hg03 hg02 ho0 ho1 ho2 cS cR
  go_wp2_with fail
  refine (spoil_any _ _ _ _ (by simp; omega) o1.u).mono ?_
  rintro e w6 ⟨rfl, hg6⟩
  have p0 : OwnB _ w6 a0 c0 R := own_ne o0 hg6 (fun x hx e => by have := hA1 x e; have := hA0 x hx; omega)
  have p2 : OwnB _ w6 a2 c2 R := own_ne o2 hg6 (fun x hx e => by have := hA1 x e; have := hA2 x hx; omega)
  have hg06 := grown_join hg05 hg6 (.inr fun x hx => by have := hA1 x hx; omega)
  go_wp2_with fail
  refine (sameBytes_yes _ _ R _ p2.rd p0.rd).mono ?_
  rintro e w9 ⟨rfl, rfl⟩
  go_wp2
  go_ret
  exact ⟨rfl, hg06⟩
end Go.Proofs.YtlbipcecdcmgdaaDoor
