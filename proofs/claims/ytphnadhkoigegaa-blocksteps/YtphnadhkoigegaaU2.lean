/- BlockSteps: no calls; no block; the lengths of what a block answers. -/
import Derived.Test.YtphnadhkoigegaaU1
namespace Go.Proofs.Ytphnadhkoigegaa
open Go.RowKit
attribute [local go_sem ↓] Go.wp_at_zero Go.wp_at_succ
set_option linter.unusedSimpArgs false
set_option linter.unusedVariables false

set_option maxRecDepth 10000 in
set_option maxHeartbeats 2000000 in
theorem steps_nil (nm : ByteArray) (a : Option Addr) (cap : Nat) (vs : Value) (ls : List Int) (w : World) (hs : StateAt w vs ls) (hsb : ls.length ≤ 17592186043904) :
    Calls Try.prog 4 #[.string nm, vs, .slice a 0 cap] w fun e w' => e = .returned (.bool true) ∧ w.grownBy w' none := by
  obtain ⟨v1, w1, hrun, hrd1, hg1⟩ := append_state hs hsb
  have HRUN : Hid (_ = _) := hrun
  clear hs hrun hrd1
  go_enter Try.func4, Try.ntmps4
  go_wp2_with (first | (at_builtin; refine wpList_append_run rfl _ _ 31 rfl _ _ v1 w1 rfl rfl HRUN.out ?_))
  refine wp_loop_rounds 1 ?_
  rw [rounds_succ]
  go_wp2
  go_ret
  exact ⟨rfl, hg1⟩

theorem rd_nil (w : World) : rd w (.slice none 0 0) [] := ⟨none, 0, rfl, .inl rfl⟩

set_option maxRecDepth 10000 in
set_option maxHeartbeats 8000000 in
theorem steps_none (nm : ByteArray) (hno : NoName nm) (b off cap len : Nat) (V : Nat → Value) (Li : Nat → List Int) (T : Nat → Int) (vs : Value) (ls : List Int) (w : World)
    (hs : StateAt w vs ls) (hsb : ls.length ≤ 17592186043904)
    (hc0 : ∀ i, i < len → w.cell? ⟨b, off + i * 2, none⟩ = some (V i)) (hv : ∀ i, i < len → rd w (V i) (Li i)) (hvb : ∀ i, i < len → (Li i).length ≤ 17592186043904) (hc1 : ∀ i, i < len → w.cell? ⟨b, off + i * 2 + 1, none⟩ = some (.int .i64 (T i))) (hlen : len ≤ 9223372036854775000) :
    Calls Try.prog 4 #[.string nm, vs, .slice (some ⟨b, off, none⟩) len cap] w fun e w' => e = .returned (.bool true) ∧ w.grownBy w' none := by
  have HC0 : Hid (∀ i, i < len → w.cell? ⟨b, off + i * 2, none⟩ = some (V i)) := hc0
  have HC1 : Hid (∀ i, i < len → w.cell? ⟨b, off + i * 2 + 1, none⟩ = some (.int .i64 (T i))) := hc1
  have HV : Hid (∀ i, i < len → rd w (V i) (Li i)) := hv
  have HVB : Hid (∀ i, i < len → (Li i).length ≤ 17592186043904) := hvb
  have HNO : Hid (NoName nm) := hno
  obtain ⟨v1, w1, hrun, hrd1, hg1⟩ := append_state hs hsb
  have HRUN : Hid (_ = _) := hrun
  have HRD1 : Hid (rd w1 v1 ls) := hrd1
  clear hc0 hc1 hv hvb hs hrun hrd1 hno
  go_enter Try.func4, Try.ntmps4
  go_wp2_with (first | (at_builtin; refine wpList_append_run rfl _ _ 31 rfl _ _ v1 w1 rfl rfl HRUN.out ?_))
  go_loopg [7, 8] len (fun gk s7 s8 wx => ∃ (k : Nat) (v : Value) (l : List Int), s8 = .int .i64 k ∧ k ≤ len ∧ gk = len - k ∧ v = s7 ∧ rd wx v l ∧ l.length ≤ 17592186043904 ∧ w.grownBy wx none)
  case atStart => exact ⟨0, v1, ls, rfl, Nat.zero_le _, by omega, rfl, HRD1.out, hsb, hg1⟩
  case round =>
    obtain ⟨k, v, l, rfl, hk, hgk, rfl, hr, hlb, hgr⟩ := hrel
    have HG : Hid (gk = len - k) := hgk
    have HR : Hid (rd wr v l) := hr
    clear hgk hr
    by_cases hlt : k < len
    · have i1 : (0 : Int) ≤ (k : Int) := by omega
      have i2 : (k : Int) < (len : Int) := by omega
      have q0 := hgr.cell (HC0.out k hlt) (by simp)
      have q1 := hgr.cell (HC1.out k hlt) (by simp)
      have hvk := HV.out k hlt
      have hlib := HVB.out k hlt
      obtain ⟨u, hu⟩ : ∃ u, V k = u := ⟨_, rfl⟩
      obtain ⟨tk, htk⟩ : ∃ t, T k = t := ⟨_, rfl⟩
      obtain ⟨li, hli⟩ : ∃ t, Li k = t := ⟨_, rfl⟩
      rw [hu, hli] at hvk
      rw [hli] at hlib
      rw [hu] at q0
      rw [htk] at q1
      have HU : Hid (rd wr u li) := rd_grown hvk hgr
      clear hvk hu htk hli
      have HQ0 : Hid (wr.cell? ⟨b, off + k * 2, none⟩ = some u) := q0
      have HQ1 : Hid (wr.cell? ⟨b, off + k * 2 + 1, none⟩ = some (.int .i64 tk)) := q1
      go_wp2_with fail
      go_region_held3 (fun w' => w'.cell? ⟨b, off + k * 2, none⟩ = some u ∧ w'.cell? ⟨b, off + k * 2 + 1, none⟩ = some (.int .i64 tk)) (go_keep)
        (first
          | (go_at_call 13; go_must (refine (refStep_none nm HNO.out v u tk _).mono ?_); (rintro e w2 ⟨rfl, hg2⟩); have q2 := hg2.cell (ck_drew q0) (by simp); have q3 := hg2.cell (ck_drew q1) (by simp)))
      have gr2 : wr.grownBy w2 none := (gr_drew (World.grownBy.refl wr none)).trans hg2
      clear q0 q1
      go_wp2_with fail
      go_region_held3 (fun w' => w'.cell? ⟨b, off + k * 2, none⟩ = some u ∧ w'.cell? ⟨b, off + k * 2 + 1, none⟩ = some (.int .i64 tk)) (go_keep)
        (first
          | (go_at_call 14; with_reducible refine (roomy_any v l _ ?_ hlb).mono ?_; (exact rd_grown HR.out (gr_drew gr2)); (rintro e w3 ⟨rfl, h3, hg3⟩); have q4 := hg3.cell (ck_drew q2) (by simp); have q5 := hg3.cell (ck_drew q3) (by simp))
          | (go_at_call 14; with_reducible refine (roomy_any u li _ ?_ hlib).mono ?_; (exact rd_grown HU.out ((gr_drew gr2).trans hg3)); (rintro e w4 ⟨rfl, h4, hg4⟩); have q6 := hg4.cell q4 (by simp); have q7 := hg4.cell q5 (by simp)))
      have HR4 : Hid (RoomAt w4 w2.heap.size l) := h3.kept hg4
      have HI4 : Hid (RoomAt w4 w3.heap.size li) := h4
      have g24 : w2.grownBy w4 none := (gr_drew (World.grownBy.refl w2 none)).trans (hg3.trans hg4)
      have gr4 : wr.grownBy w4 none := gr2.trans g24
      clear h3 h4 q2 q3 q4 q5
      go_wp2_with fail
      refine (step_none nm HNO.out _ _ _ _).mono ?_
      rintro e w5 ⟨rfl, rfl⟩
      go_wp2_with fail
      refine (step_none nm HNO.out _ _ _ _).mono ?_
      rintro e w6 ⟨rfl, rfl⟩
      go_wp2_with fail
      refine (sameInts_yes _ _ [] _ (rd_nil _) (rd_nil _) (by simp)).mono ?_
      rintro e w7 ⟨rfl, g47⟩
      go_wp2_with fail
      refine (sameInts_yes _ _ [] _ (rd_nil _) (rd_nil _) (by simp)).mono ?_
      rintro e w8 ⟨rfl, hg8⟩
      have g48 : w4.grownBy w8 none := g47.trans hg8
      go_wp2_with fail
      refine (left_yes _ v l _ ?_ ?_ (by omega)).mono ?_
      · exact HR4.out.kept g48
      · exact rd_grown HR.out (gr4.trans g48)
      rintro e w9 ⟨rfl, hg9⟩
      have g49 : w4.grownBy w9 none := g48.trans hg9
      have q9 := (gr4.trans g49).cell HQ0.out (by simp)
      go_wp2_with fail
      refine (left_yes _ u li _ ?_ ?_ (by omega)).mono ?_
      · exact HI4.out.kept g49
      · exact rd_grown HU.out (gr4.trans g49)
      rintro e w10 ⟨rfl, hg10⟩
      have g4A : w4.grownBy w10 none := g49.trans hg10
      clear q9
      go_wp2_with fail
      refine (overInts_nil _ _).mono ?_
      rintro e w11 ⟨rfl, hg11⟩
      have g4B : w4.grownBy w11 none := g4A.trans hg11
      go_wp2_with fail
      refine (sameInts_yes _ _ [] _ (rd_nil _) (rd_nil _) (by simp)).mono ?_
      rintro e w12 ⟨rfl, hg12⟩
      have g4C : w4.grownBy w12 none := g4B.trans hg12
      go_wp2_with fail
      refine (overInts_nil _ _).mono ?_
      rintro e w13 ⟨rfl, hg13⟩
      have g4D : w4.grownBy w13 none := g4C.trans hg13
      go_wp2_with fail
      refine (sameInts_yes _ _ [] _ (rd_nil _) (rd_nil _) (by simp)).mono ?_
      rintro e w14 ⟨rfl, hg14⟩
      have g4E : w4.grownBy w14 none := g4D.trans hg14
      go_wp2_with fail
      refine (sameInts_yes _ _ [] _ (rd_nil _) (rd_nil _) (by simp)).mono ?_
      rintro e w15 ⟨rfl, hg15⟩
      have g4F : w4.grownBy w15 none := g4E.trans hg15
      go_wp2_with fail
      refine (left_yes _ v l _ ?_ ?_ (by omega)).mono ?_
      · exact HR4.out.kept g4F
      · exact rd_grown HR.out (gr4.trans g4F)
      rintro e w16 ⟨rfl, hg16⟩
      have g4G : w4.grownBy w16 none := g4F.trans hg16
      have q9 := (gr4.trans g4G).cell HQ0.out (by simp)
      go_wp2_with fail
      refine (left_yes _ u li _ ?_ ?_ (by omega)).mono ?_
      · exact HI4.out.kept g4G
      · exact rd_grown HU.out (gr4.trans g4G)
      rintro e w17 ⟨rfl, hg17⟩
      have g4H : w4.grownBy w17 none := g4G.trans hg17
      clear q9
      go_wp2_with fail
      have hgl := HG.out
      go_roundg (len - (k + 1))
      all_goals first | omega | exact ⟨k + 1, _, [], by go_num, by omega, by omega, rfl, rd_nil _, by simp, hgr.trans (gr4.trans g4H)⟩
    · have hk' : ¬ ((k : Int) < (len : Int)) := by omega
      go_wp2
      go_ret
      exact ⟨rfl, hgr⟩

/-- How many words a block answers. -/
def LensC (n m : Nat) (kS kI : List Int) (F : List Int → List Int → Int → List Int × List Int) : Prop := ∀ l li x, (F (wrapL kS l) (wrapL kI li) x).1.length = n ∧ (F (wrapL kS l) (wrapL kI li) x).2.length = m
theorem lens_ton : LensC 4 2 [1, 5, 1, 5] [1, 5] tonF := fun l li x => by
  obtain ⟨a, b, c, d, e⟩ := form4 1 5 1 5 l
  obtain ⟨f, g, e'⟩ := form2 1 5 li
  rw [e, e']
  refine ⟨?_, ?_⟩ <;> (simp only [tonF]; repeat' split) <;> rfl
theorem lens_tof : LensC 4 2 [1, 5, 1, 5] [1, 5] tofF := fun l li x => by
  obtain ⟨a, b, c, d, e⟩ := form4 1 5 1 5 l
  obtain ⟨f, g, e'⟩ := form2 1 5 li
  rw [e, e']
  refine ⟨?_, ?_⟩ <;> (simp only [tofF]; repeat' split) <;> rfl
theorem lens_tp : LensC 4 2 [1, 5, 1, 5] [1, 5] tpF := fun l li x => by
  obtain ⟨a, b, c, d, e⟩ := form4 1 5 1 5 l
  obtain ⟨f, g, e'⟩ := form2 1 5 li
  rw [e, e']
  refine ⟨?_, ?_⟩ <;> (simp only [tpF, outF]; repeat' split) <;> rfl
theorem lens_ctu : LensC 2 2 [1, 2] [1, 1, 2] ctuF := fun l li x => by
  obtain ⟨a, b, e⟩ := form2 1 2 l
  obtain ⟨c, d, f, e'⟩ := form3 1 1 2 li
  rw [e, e']
  refine ⟨?_, ?_⟩ <;> (simp only [ctuF]; repeat' split) <;> rfl
theorem lens_ctd : LensC 2 2 [1, 2] [1, 1, 2] ctdF := fun l li x => by
  obtain ⟨a, b, e⟩ := form2 1 2 l
  obtain ⟨c, d, f, e'⟩ := form3 1 1 2 li
  rw [e, e']
  refine ⟨?_, ?_⟩ <;> (simp only [ctdF]; repeat' split) <;> rfl
theorem lens_ctud : LensC 3 3 [1, 1, 2] [1, 1, 1, 1, 2] ctudF := fun l li x => by
  obtain ⟨a, b, c, e⟩ := form3 1 1 2 l
  obtain ⟨d, f, g, h, i, e'⟩ := form5 1 1 1 1 2 li
  rw [e, e']
  refine ⟨?_, ?_⟩ <;> (simp only [ctudF]; repeat' split) <;> rfl
theorem lens_rtrig : LensC 1 1 [1] [1] rtrigF := fun l li x => by
  obtain ⟨a, e⟩ := form1 1 l
  obtain ⟨c, e'⟩ := form1 1 li
  rw [e, e']
  exact ⟨rfl, rfl⟩
theorem lens_ftrig : LensC 1 1 [1] [1] ftrigF := fun l li x => by
  obtain ⟨a, e⟩ := form1 1 l
  obtain ⟨c, e'⟩ := form1 1 li
  rw [e, e']
  exact ⟨rfl, rfl⟩
theorem lens_sr : LensC 1 1 [1] [1, 1] srF := fun l li x => by
  obtain ⟨a, e⟩ := form1 1 l
  obtain ⟨c, d, e'⟩ := form2 1 1 li
  rw [e, e']
  exact ⟨rfl, rfl⟩
theorem lens_rs : LensC 1 1 [1] [1, 1] rsF := fun l li x => by
  obtain ⟨a, e⟩ := form1 1 l
  obtain ⟨c, d, e'⟩ := form2 1 1 li
  rw [e, e']
  exact ⟨rfl, rfl⟩
theorem lens_ramp : LensC 1 1 [2] [2, 2] rampF := fun l li x => by
  obtain ⟨a, e⟩ := form1 2 l
  obtain ⟨c, d, e'⟩ := form2 2 2 li
  rw [e, e']
  exact ⟨rfl, rfl⟩
theorem lens_hyst : LensC 1 1 [1] [2, 2, 2] hystF := fun l li x => by
  obtain ⟨a, e⟩ := form1 1 l
  obtain ⟨c, d, f, e'⟩ := form3 2 2 2 li
  rw [e, e']
  exact ⟨rfl, rfl⟩
end Go.Proofs.Ytphnadhkoigegaa
