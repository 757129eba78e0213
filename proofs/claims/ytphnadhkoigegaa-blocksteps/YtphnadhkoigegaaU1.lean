/- The walk of BlockSteps, for whatever block. -/
import Derived.Test.YtphnadhkoigegaaT4
import Derived.Test.YtphnadhkoigegaaT5
import Derived.Test.YtphnadhkoigegaaS3
import Derived.Deep.LoopGhost
import Derived.Deep.QuietTactic
import Derived.BigQuiet
import Derived.Deep.RegionHeld3
namespace Go.Proofs.Ytphnadhkoigegaa
open Go.RowKit
attribute [local go_sem ↓] Go.wp_at_zero Go.wp_at_succ
set_option linter.unusedSimpArgs false
set_option linter.unusedVariables false

theorem rd_blk {W : World} {c n : Nat} {l : List Int} (hl : l.length = n) (h : W.heap[c]? = some (.cells (intsA l) 3)) : rd W (.slice (some ⟨c, 0, none⟩) n n) l := by
  subst hl
  refine ⟨_, _, rfl, .inr ⟨c, 0, rfl, fun i hi => ?_⟩⟩
  rw [at_cell h]
  simp [intsA, hi]

/-- A state that came in. -/
def StateAt (w : World) (vs : Value) (ls : List Int) : Prop := (vs = .slice none 0 0 ∧ ls = []) ∨ ∃ x cap, vs = .slice (some x) ls.length cap ∧ ∀ j u, (ls.map (Value.int .i64))[j]? = some u → w.cell? (x.add j) = some u

theorem append_state {w : World} {vs : Value} {ls : List Int} (h : StateAt w vs ls) (hb : ls.length ≤ 17592186043904) :
    ∃ v1 w1, (Builtin.append_ #[31, 31] 31 #[.slice none 0 0, vs]).run Try.prog w = .ok v1 w1 ∧ rd w1 v1 ls ∧ w.grownBy w1 none := by
  obtain ⟨i0, hi, hz0, hz1, hz2⟩ := info_parts info3
  have hrd : ∀ (w1 : World) (v1 : Value), w1.ownsRow w.heap.size 3 1 v1 ls.length (ls.map (Value.int .i64)) → rd w1 v1 ls := by
    intro w1 v1 ho
    rcases ho.2 with ⟨rfl, h0⟩ | ⟨g, cap, cur, rfl, hg, hh, hn, hm, hcs, ht⟩
    · exact ⟨none, 0, by rw [h0], .inl (List.eq_nil_of_length_eq_zero h0)⟩
    · refine ⟨_, cap, rfl, .inr ⟨g, 0, rfl, fun i hi => ?_⟩⟩
      have := ho.cells (g := g) rfl i (.int .i64 (ls.getD i 0)) (by simp [hi])
      rw [addn] at this
      exact this
  rcases h with ⟨rfl, rfl⟩ | ⟨x, cap, rfl, hc⟩
  · exact ⟨_, _, run_append_owned_none w w.heap.size 31 31 3 i0 1 Try.underlying31 hi _ 0 [] (World.ownsRow_nil w _ 3 1), hrd _ _ (World.ownsRow_nil w _ 3 1), World.grownBy.refl _ _⟩
  · obtain ⟨v', w', r1, r2, r3, _, r5⟩ := run_append_own_at (P := Try.prog) w w.heap.size 31 31 3 i0 _ 1 8 Try.underlying31 hi hz0 hz1 hz2 rfl (by omega) (.slice none 0 0) 0 [] (World.ownsRow_nil w _ 3 1) x ls.length cap (ls.map (Value.int .i64)) (by simp) hc (by simp [Value.oneCell']) (by unfold maxLen; omega) (by omega) (Nat.le_refl _)
    exact ⟨v', w', r1, hrd _ _ (by simpa using r2), r3⟩

set_option maxRecDepth 10000 in
set_option maxHeartbeats 8000000 in
theorem steps_gen (nm : ByteArray) (n m : Nat) (kS kI : List Int) (F : List Int → List Int → Int → List Int × List Int)
    (b off cap len : Nat) (V : Nat → Value) (Li : Nat → List Int) (T : Nat → Int) (vs : Value) (ls : List Int) (w : World) (hm5 : m ≤ 5) (hn5 : n ≤ 5)
    (hst : StepC nm n m kS kI F) (hrs : RefStepC nm n m kS kI F)
    (hF : ∀ l li x, (F (wrapL kS l) (wrapL kI li) x).1.length = n ∧ (F (wrapL kS l) (wrapL kI li) x).2.length = m)
    (hs : StateAt w vs ls) (hsb : ls.length ≤ 17592186043904)
    (hc0 : ∀ i, i < len → w.cell? ⟨b, off + i * 2, none⟩ = some (V i)) (hv : ∀ i, i < len → rd w (V i) (Li i)) (hvb : ∀ i, i < len → (Li i).length ≤ 17592186043904) (hc1 : ∀ i, i < len → w.cell? ⟨b, off + i * 2 + 1, none⟩ = some (.int .i64 (T i))) (hlen : len ≤ 9223372036854775000) :
    Calls Try.prog 4 #[.string nm, vs, .slice (some ⟨b, off, none⟩) len cap] w fun e w' => e = .returned (.bool true) ∧ w.grownBy w' none := by
  have HC0 : Hid (∀ i, i < len → w.cell? ⟨b, off + i * 2, none⟩ = some (V i)) := hc0
  have HC1 : Hid (∀ i, i < len → w.cell? ⟨b, off + i * 2 + 1, none⟩ = some (.int .i64 (T i))) := hc1
  have HV : Hid (∀ i, i < len → rd w (V i) (Li i)) := hv
  have HVB : Hid (∀ i, i < len → (Li i).length ≤ 17592186043904) := hvb
  have HST : Hid (StepC nm n m kS kI F) := hst
  have HRS : Hid (RefStepC nm n m kS kI F) := hrs
  have HFF : Hid (∀ l li x, (F (wrapL kS l) (wrapL kI li) x).1.length = n ∧ (F (wrapL kS l) (wrapL kI li) x).2.length = m) := hF
  obtain ⟨v1, w1, hrun, hrd1, hg1⟩ := append_state hs hsb
  have HRUN : Hid (_ = _) := hrun
  have HRD1 : Hid (rd w1 v1 ls) := hrd1
  clear hc0 hc1 hv hvb hst hrs hF hs hrun hrd1
  go_enter Try.func4, Try.ntmps4
  go_wp2_with (first | (at_builtin; refine wpList_append_run rfl _ _ 31 rfl _ _ v1 w1 rfl rfl HRUN.out ?_))
  go_loopg [7, 8] len (fun gk s7 s8 wx => ∃ (k : Nat) (v : Value) (l : List Int), s8 = .int .i64 k ∧ k ≤ len ∧ gk = len - k ∧ v = s7 ∧ rd wx v l ∧ l.length ≤ 17592186043904 ∧ w.grownBy wx none)
  case atStart => exact ⟨0, v1, ls, rfl, Nat.zero_le _, by omega, rfl, HRD1.out, hsb, hg1⟩
  case round =>
    obtain ⟨k, v, l, rfl, hk, hgk, rfl, hr, hlb, hgr⟩ := hrel
    have HG : Hid (gk = len - k) := hgk
    have HR : Hid (rd wr v l) := hr
    clear hgk hr
    by_cases hlt : k < len
    · have i1 : (0 : Int) ≤ (k : Int) := by omega
      have i2 : (k : Int) < (len : Int) := by omega
      have q0 := hgr.cell (HC0.out k hlt) (by simp)
      have q1 := hgr.cell (HC1.out k hlt) (by simp)
      have hvk := HV.out k hlt
      have hlib := HVB.out k hlt
      obtain ⟨u, hu⟩ : ∃ u, V k = u := ⟨_, rfl⟩
      obtain ⟨tk, htk⟩ : ∃ t, T k = t := ⟨_, rfl⟩
      obtain ⟨li, hli⟩ : ∃ t, Li k = t := ⟨_, rfl⟩
      rw [hu, hli] at hvk
      rw [hli] at hlib
      rw [hu] at q0
      rw [htk] at q1
      have HU : Hid (rd wr u li) := rd_grown hvk hgr
      clear hvk hu htk hli
      obtain ⟨hf1, hf2⟩ := HFF.out l li (wrapK 5 tk)
      obtain ⟨⟨fa, fo⟩, hfo⟩ : ∃ p, F (wrapL kS l) (wrapL kI li) (wrapK 5 tk) = p := ⟨_, rfl⟩
      rw [hfo] at hf1 hf2
      have HF : Hid (F (wrapL kS l) (wrapL kI li) (wrapK 5 tk) = (fa, fo)) := hfo
      have HF1 : Hid (fa.length = n) := hf1
      have HF2 : Hid (fo.length = m) := hf2
      clear hfo hf1 hf2
      have HQ0 : Hid (wr.cell? ⟨b, off + k * 2, none⟩ = some u) := q0
      have HQ1 : Hid (wr.cell? ⟨b, off + k * 2 + 1, none⟩ = some (.int .i64 tk)) := q1
      go_wp2_with fail
      go_region_held3 (fun w' => w'.cell? ⟨b, off + k * 2, none⟩ = some u ∧ w'.cell? ⟨b, off + k * 2 + 1, none⟩ = some (.int .i64 tk)) (go_keep)
        (first
          | (go_at_call 13; go_must (refine (HRS.out v u l li tk _ ?_ ?_).mono ?_); (exact rd_grown HR.out (gr_drew (World.grownBy.refl _ none))); (exact rd_grown HU.out (gr_drew (World.grownBy.refl _ none))); (rintro e w2 ⟨c1, c2, rfl, g1, g2, gne, h1, h2, hg2⟩); have q2 := hg2.cell (ck_drew q0) (by simp); have q3 := hg2.cell (ck_drew q1) (by simp)))
      rw [HF.out] at h1 h2
      have HC1' : Hid (w2.heap[c1]? = some (.cells (intsA fa) 3)) := h1
      have HC2' : Hid (w2.heap[c2]? = some (.cells (intsA fo) 3)) := h2
      have gr2 : wr.grownBy w2 none := (gr_drew (World.grownBy.refl wr none)).trans hg2
      have lc1 := at_lt h1
      have lc2 := at_lt h2
      clear h1 h2 q0 q1
      go_wp2_with fail
      go_region_held3 (fun w' => w'.cell? ⟨b, off + k * 2, none⟩ = some u ∧ w'.cell? ⟨b, off + k * 2 + 1, none⟩ = some (.int .i64 tk)) (go_keep)
        (first
          | (go_at_call 14; with_reducible refine (roomy_any v l _ ?_ hlb).mono ?_; (exact rd_grown HR.out (gr_drew gr2)); (rintro e w3 ⟨rfl, h3, hg3⟩); have q4 := hg3.cell (ck_drew q2) (by simp); have q5 := hg3.cell (ck_drew q3) (by simp))
          | (go_at_call 14; with_reducible refine (roomy_any u li _ ?_ hlib).mono ?_; (exact rd_grown HU.out ((gr_drew gr2).trans hg3)); (rintro e w4 ⟨rfl, h4, hg4⟩); have q6 := hg4.cell q4 (by simp); have q7 := hg4.cell q5 (by simp)))
      have HR4 : Hid (RoomAt w4 w2.heap.size l) := h3.kept hg4
      have HI4 : Hid (RoomAt w4 w3.heap.size li) := h4
      have g24 : w2.grownBy w4 none := (gr_drew (World.grownBy.refl w2 none)).trans (hg3.trans hg4)
      have gr4 : wr.grownBy w4 none := gr2.trans g24
      clear h3 h4 q2 q3 q4 q5
      go_wp2_with fail
      refine (HST.out _ _ l li tk _ ?_ ?_).mono ?_
      · exact HR4.out.rd
      · exact HI4.out.rd
      rintro e w5 ⟨d1, d2, rfl, e1, e2, ene, h1, h2, hg5⟩
      rw [HF.out] at h1 h2
      have q8 := hg5.cell q7 (by simp)
      have ld1 := at_lt h1
      have ld2 := at_lt h2
      have HD5 : Hid (Lie w5 [(d1, .cells (intsA fa) 3), (d2, .cells (intsA fo) 3)]) := Lie.cons h1 (.cons h2 (.nil _))
      clear h1 h2 q6 q7
      go_wp2_with fail
      refine (HST.out _ _ l li tk _ ?_ ?_).mono ?_
      · exact (HR4.out.kept hg5).rd
      · exact (HI4.out.kept hg5).rd
      rintro e w6 ⟨d3, d4, rfl, e3, e4, ene', h3, h4, hg6⟩
      rw [HF.out] at h3 h4
      have HD6 : Hid (Lie w6 [(d3, .cells (intsA fa) 3), (d4, .cells (intsA fo) 3), (d1, .cells (intsA fa) 3), (d2, .cells (intsA fo) 3)]) := Lie.cons h3 (.cons h4 (HD5.out.to hg6))
      have g46 : w4.grownBy w6 none := hg5.trans hg6
      clear h3 h4 q8 HD5
      go_wp2_with fail
      refine (sameInts_yes _ _ fa _ ?_ ?_ (by rw [HF1.out]; omega)).mono ?_
      · exact rd_blk HF1.out (HD6.out (d1, .cells (intsA fa) 3) (by simp))
      · exact rd_blk HF1.out (kept (g24.trans g46) HC1'.out)
      rintro e w7 ⟨rfl, hg7⟩
      have g47 : w4.grownBy w7 none := g46.trans hg7
      go_wp2_with fail
      refine (sameInts_yes _ _ fo _ ?_ ?_ (by rw [HF2.out]; omega)).mono ?_
      · exact rd_blk HF2.out (kept hg7 (HD6.out (d2, .cells (intsA fo) 3) (by simp)))
      · exact rd_blk HF2.out (kept (g24.trans g47) HC2'.out)
      rintro e w8 ⟨rfl, hg8⟩
      have g48 : w4.grownBy w8 none := g47.trans hg8
      go_wp2_with fail
      refine (left_yes _ v l _ ?_ ?_ (by omega)).mono ?_
      · exact HR4.out.kept g48
      · exact rd_grown HR.out (gr4.trans g48)
      rintro e w9 ⟨rfl, hg9⟩
      have g49 : w4.grownBy w9 none := g48.trans hg9
      have q9 := (gr4.trans g49).cell HQ0.out (by simp)
      go_wp2_with fail
      refine (left_yes _ u li _ ?_ ?_ (by omega)).mono ?_
      · exact HI4.out.kept g49
      · exact rd_grown HU.out (gr4.trans g49)
      rintro e w10 ⟨rfl, hg10⟩
      have g4A : w4.grownBy w10 none := g49.trans hg10
      have HDA : Hid (Lie w10 _) := HD6.out.to (hg7.trans (hg8.trans (hg9.trans hg10)))
      clear q9 HD6
      go_wp2_with fail
      refine (overInts_any d1 n _ fa _ hn5 (HDA.out (d1, .cells (intsA fa) 3) (by simp)) HF1.out).mono ?_
      rintro e w11 ⟨rfl, hg11⟩
      have g4B : w4.grownBy w11 none := grown_join g4A hg11 (.inr fun x hx => by simp at hx; omega)
      have HDB : Hid (Lie w11 [(d2, .cells (intsA fo) 3), (d3, .cells (intsA fa) 3), (d4, .cells (intsA fo) 3)]) := Lie.cons (keptBut hg11 (HDA.out (d2, .cells (intsA fo) 3) (by simp)) (by omega)) (.cons (keptBut hg11 (HDA.out (d3, .cells (intsA fa) 3) (by simp)) (by omega)) (.cons (keptBut hg11 (HDA.out (d4, .cells (intsA fo) 3) (by simp)) (by omega)) (.nil _)))
      clear HDA
      go_wp2_with fail
      refine (sameInts_yes _ _ fo _ ?_ ?_ (by rw [HF2.out]; omega)).mono ?_
      · exact rd_blk HF2.out (HDB.out (d2, .cells (intsA fo) 3) (by simp))
      · exact rd_blk HF2.out (kept (g24.trans g4B) HC2'.out)
      rintro e w12 ⟨rfl, hg12⟩
      have g4C : w4.grownBy w12 none := g4B.trans hg12
      have HDC : Hid (Lie w12 _) := HDB.out.to hg12
      clear HDB
      go_wp2_with fail
      refine (overInts_any d2 m _ fo _ hm5 (HDC.out (d2, .cells (intsA fo) 3) (by simp)) HF2.out).mono ?_
      rintro e w13 ⟨rfl, hg13⟩
      have g4D : w4.grownBy w13 none := grown_join g4C hg13 (.inr fun x hx => by simp at hx; omega)
      have HDD : Hid (Lie w13 [(d3, .cells (intsA fa) 3), (d4, .cells (intsA fo) 3)]) := Lie.cons (keptBut hg13 (HDC.out (d3, .cells (intsA fa) 3) (by simp)) (by omega)) (.cons (keptBut hg13 (HDC.out (d4, .cells (intsA fo) 3) (by simp)) (by omega)) (.nil _))
      clear HDC
      go_wp2_with fail
      refine (sameInts_yes _ _ fa _ ?_ ?_ (by rw [HF1.out]; omega)).mono ?_
      · exact rd_blk HF1.out (HDD.out (d3, .cells (intsA fa) 3) (by simp))
      · exact rd_blk HF1.out (kept (g24.trans g4D) HC1'.out)
      rintro e w14 ⟨rfl, hg14⟩
      have g4E : w4.grownBy w14 none := g4D.trans hg14
      go_wp2_with fail
      refine (sameInts_yes _ _ fo _ ?_ ?_ (by rw [HF2.out]; omega)).mono ?_
      · exact rd_blk HF2.out (kept hg14 (HDD.out (d4, .cells (intsA fo) 3) (by simp)))
      · exact rd_blk HF2.out (kept (g24.trans g4E) HC2'.out)
      rintro e w15 ⟨rfl, hg15⟩
      have g4F : w4.grownBy w15 none := g4E.trans hg15
      go_wp2_with fail
      refine (left_yes _ v l _ ?_ ?_ (by omega)).mono ?_
      · exact HR4.out.kept g4F
      · exact rd_grown HR.out (gr4.trans g4F)
      rintro e w16 ⟨rfl, hg16⟩
      have g4G : w4.grownBy w16 none := g4F.trans hg16
      have q9 := (gr4.trans g4G).cell HQ0.out (by simp)
      go_wp2_with fail
      refine (left_yes _ u li _ ?_ ?_ (by omega)).mono ?_
      · exact HI4.out.kept g4G
      · exact rd_grown HU.out (gr4.trans g4G)
      rintro e w17 ⟨rfl, hg17⟩
      have g4H : w4.grownBy w17 none := g4G.trans hg17
      clear q9
      go_wp2_with fail
      have hgl := HG.out
      go_roundg (len - (k + 1))
      all_goals first | omega | exact ⟨k + 1, _, fa, by go_num, by omega, by omega, rfl, rd_blk HF1.out (kept (g24.trans g4H) HC1'.out), by rw [HF1.out]; omega, hgr.trans (gr4.trans g4H)⟩
    · have hk' : ¬ ((k : Int) < (len : Int)) := by omega
      go_wp2
      go_ret
      exact ⟨rfl, hgr⟩
end Go.Proofs.Ytphnadhkoigegaa
