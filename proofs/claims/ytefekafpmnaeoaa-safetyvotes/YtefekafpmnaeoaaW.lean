/- How it stands behind a step. -/
import Derived.Test.YtefekafpmnaeoaaV
import Derived.Test.YtefekafpmnaeoaaP
namespace Go.Proofs.Ytefekafpmnaeoaa
open Go.RowKit
attribute [local go_sem ↓] Go.wp_at_zero Go.wp_at_succ
set_option linter.unusedVariables false
set_option linter.unusedSimpArgs false

/-- How it stands behind a step. -/
def nextT (de : Int) (l : List (Int × List Int)) (T : Tr) (told : List Int) (key : Bool) : Tr :=
  if T.d then (if key && !T.k && !(heldL de told l T.h).any (ou 0 0) then ⟨false, -1, heldL de told l T.h, key⟩ else ⟨true, T.f, heldL de told l T.h, key⟩)
  else ⟨decide (ixOf (heldL de told l T.h) (de + 1) ≠ -1), ixOf (heldL de told l T.h) (de + 1), heldL de told l T.h, key⟩
def stepT (se de : Int) (l : List (Int × List Int)) (T : Tr) (told : List Int) (key : Bool) : Tr := if stepE se de l T told = 0 then nextT de l T told key else zeroT
theorem stepE_ok {se de : Int} {l : List (Int × List Int)} {T : Tr} {told : List Int} (h : stepE se de l T told = 0) : 1 ≤ l.length ∧ l.length ≤ 16 ∧ 0 ≤ de ∧ de ≤ 1000 ∧ T.h.length = l.length ∧ NamedL told.length l ∧ (∀ x ∈ T.h, 0 ≤ x ∧ x ≤ de + 1) ∧ (told.length : Int) = se ∧ (∀ x ∈ told, 0 ≤ x ∧ x ≤ 2) ∧ (checkF se de l).1 = 0 ∧ mayB de l.length T = true := by
  unfold stepE at h
  split at h
  case isFalse h0 => exact absurd h h0
  case isTrue h0 =>
  split at h
  case isFalse => omega
  case isTrue h1 =>
  split at h
  case isFalse => omega
  case isTrue h2 =>
  split at h
  case isTrue => omega
  case isFalse h3 =>
  obtain ⟨a1, a2, a3, a4, a5, a6, a7⟩ := checkF_ok h0
  have h1' := h1
  unfold mayB at h1'
  simp only [Bool.and_eq_true, decide_eq_true_eq, Bool.not_eq_true'] at h1'
  refine ⟨a3, a4, a5, a6, h1'.1.1, fun v hv x hx => ?_, fun x hx => ?_, h2, fun x hx => ?_, h0, h1⟩
  · have := ok_named (a7 v hv) (by omega) x hx
    omega
  · have := List.any_eq_false.1 h1'.1.2 x hx
    simp [ou] at this
    omega
  · have h3' : told.any tl = false := by simpa using h3
    have := List.any_eq_false.1 h3' x hx
    simp [tl] at this
    omega
theorem own_lt {B : Nat} {w : World} {a : Option Addr} {c : Nat} {l : List Int} (h : OwnL B w a c l) : ∀ x, (Value.slice a l.length c).ownBlock = some x → B ≤ x ∧ x < w.heap.size := World.ownsRow.lt h
set_option maxRecDepth 10000 in
set_option maxHeartbeats 4000000 in
theorem step_any (se de : Int) (l : List (Int × List Int)) (T : Tr) (told : List Int) (key : Bool) (v s t : Value) (w : World) (hv : rdVs w v l) (hs : rd w s T.h) (ht : rd w t told) (hl : OkL l) (hlT : T.h.length ≤ 17592186043904) (hlt : told.length ≤ 17592186043904) :
    Calls Try.prog 16 #[.agg #[.int .i64 se, .int .i64 de, v], trV T s, t, .bool key] w fun e w' => TrE w w' e (stepT se de l T told key) (stepE se de l T told) := by
  obtain ⟨va, vc, rfl, _⟩ := id hv
  obtain ⟨sa, sc, rfl, _⟩ := id hs
  obtain ⟨ta, tc, rfl, _⟩ := id ht
  have cL := fun (X : World) (hX : w.grownBy X none) => lookAtStep_any se de l T told _ _ _ X (rdVs_grown hv hX) (rd_grown hs hX) (rd_grown ht hX) hl hlT hlt
  have cH := fun (hE : stepE se de l T told = 0) (X : World) (hX : w.grownBy X none) => heldNow_any se de told T.h l _ _ _ X (rdVs_grown hv hX) (rd_grown hs hX) (rd_grown ht hX) hl (stepE_ok hE).2.1 (stepE_ok hE).2.2.2.2.1 (stepE_ok hE).2.2.2.2.2.1 (stepE_ok hE).2.2.1 (stepE_ok hE).2.2.2.1 (fun x hx => by have h1 := (stepE_ok hE).2.2.2.2.2.2.1 x hx; have h2 := (stepE_ok hE).2.2.2.1; omega)
  obtain ⟨E, hE⟩ : ∃ b, stepE se de l T told = b := ⟨_, rfl⟩
  rw [hE] at cL cH
  have HE := hidI hE
  have HOK := hidI (fun h0 : E = 0 => stepE_ok (hE.trans h0))
  clear hE hv hs ht
  obtain ⟨d, f, hh, kk⟩ := T
  dsimp only [trV, trA] at *
  obtain ⟨n, hn⟩ : ∃ n, l.length = n := ⟨_, rfl⟩
  have HN := hidI hn
  rw [hn] at cL cH ⊢
  clear hn hl
  obtain ⟨p, hp⟩ : ∃ p, w.heap.size = p := ⟨_, rfl⟩
  have hW1 : (((w.alloc (.cells #[.int .i64 se, .int .i64 de, .slice va n vc] 24)).alloc (.cells #[.bool d, .int .i64 f, .slice sa hh.length sc, .bool kk] 28)).alloc (.cells #[.bool false, .int .i64 0, .slice none 0 0, .bool false] 28)).heap[p]? = some (.cells #[.int .i64 se, .int .i64 de, .slice va n vc] 24) := by
    rw [hp_old (by simp; omega), hp_old (by simp; omega)]; exact hp_new hp.symm _
  have hW2 : (((w.alloc (.cells #[.int .i64 se, .int .i64 de, .slice va n vc] 24)).alloc (.cells #[.bool d, .int .i64 f, .slice sa hh.length sc, .bool kk] 28)).alloc (.cells #[.bool false, .int .i64 0, .slice none 0 0, .bool false] 28)).heap[p + 1]? = some (.cells #[.bool d, .int .i64 f, .slice sa hh.length sc, .bool kk] 28) := by
    rw [hp_old (by simp; omega)]; exact hp_new (by simp; omega) _
  have hW3 : (((w.alloc (.cells #[.int .i64 se, .int .i64 de, .slice va n vc] 24)).alloc (.cells #[.bool d, .int .i64 f, .slice sa hh.length sc, .bool kk] 28)).alloc (.cells #[.bool false, .int .i64 0, .slice none 0 0, .bool false] 28)).heap[p + 2]? = some (.cells #[.bool false, .int .i64 0, .slice none 0 0, .bool false] 28) := hp_new (by simp; omega) _
  have hgW : w.grownBy (((w.alloc (.cells #[.int .i64 se, .int .i64 de, .slice va n vc] 24)).alloc (.cells #[.bool d, .int .i64 f, .slice sa hh.length sc, .bool kk] 28)).alloc (.cells #[.bool false, .int .i64 0, .slice none 0 0, .bool false] 28)) none := gr_alloc (gr_alloc (gr_alloc (World.grownBy.refl _ _) _) _) _
  have hsW : (((w.alloc (.cells #[.int .i64 se, .int .i64 de, .slice va n vc] 24)).alloc (.cells #[.bool d, .int .i64 f, .slice sa hh.length sc, .bool kk] 28)).alloc (.cells #[.bool false, .int .i64 0, .slice none 0 0, .bool false] 28)).heap.size = p + 3 := by simp; omega
  go_enter Try.func16, Try.ntmps16
  go_upto_region 1 with fail
  have HP := hidI hp
  clear hp
  generalize (((w.alloc (.cells #[.int .i64 se, .int .i64 de, .slice va n vc] 24)).alloc (.cells #[.bool d, .int .i64 f, .slice sa hh.length sc, .bool kk] 28)).alloc (.cells #[.bool false, .int .i64 0, .slice none 0 0, .bool false] 28)) = W at *
  obtain ⟨i0, i1, i2⟩ := at3 hW1
  obtain ⟨j0, j1, j2, j3⟩ := at4 hW2
  have HW := hidI (And.intro hW1 (And.intro hW2 (And.intro hW3 (And.intro hgW hsW))))
  have cL1 := cL W hgW
  clear hW1 hW2 hW3 hgW hsW cL
  go_wp2_with fail
  refine cL1.mono ?_
  rintro e w1 ⟨rfl, g1⟩
  clear cL1 i0 i1 i2 j0 j1 j2 j3
  obtain ⟨hW1, hW2, hW3, hgW, hsW⟩ := HW.out
  have hW1 := kept g1 hW1
  have hW2 := kept g1 hW2
  have hW3 := kept g1 hW3
  have hgW := grown_join hgW g1 (.inl rfl)
  have hsW : p + 3 ≤ w1.heap.size := by have := g1.size; omega
  clear g1 HW
  obtain ⟨i0, i1, i2⟩ := at3 hW1
  obtain ⟨j0, j1, j2, j3⟩ := at4 hW2
  obtain ⟨k0, k1, k2, k3⟩ := at4 hW3
  obtain ⟨f0, f1, f2, f3⟩ := fz4 hW3
  have HW := hidI (And.intro hW1 (And.intro hW2 (And.intro hW3 (And.intro hgW hsW))))
  clear hW1 hW2 hW3 hgW hsW
  by_cases hE : E = 0
  case neg =>
    have HS : Hid (stepT se de l ⟨d, f, hh, kk⟩ told key = zeroT) := hidI (by unfold stepT; rw [HE.out, if_neg hE])
    have i3 : ¬ ((E : Int) = 0) := by omega
    clear cH
    go_wp2
    refine bodyPost_ret (results28 rfl _ _ (p + 2) zeroT (.slice none 0 0) rfl (box4 HW.out.2.2.1)) rfl ?_
    rw [HS.out, HE.out]
    exact ⟨_, rfl, TrP.zero (gr4n (q := p + 2) HW.out.2.2.2.1 (by rw [HP.out]; omega))⟩
  subst hE
  have HS : Hid (stepT se de l ⟨d, f, hh, kk⟩ told key = nextT de l ⟨d, f, hh, kk⟩ told key) := hidI (by unfold stepT; rw [HE.out, if_pos rfl])
  have hOK := HOK.out rfl
  have cH2 := cH rfl
  clear cH
  obtain ⟨HLs, hHL⟩ : ∃ L, heldL de told l hh = L := ⟨_, rfl⟩
  have HHL := hidI hHL
  rw [hHL] at cH2
  have hHLn : HLs.length = n := by rw [← hHL]; unfold heldL; simp; exact HN.out
  have HHN := hidI hHLn
  clear hHL hHLn k0 k1 k2 k3 f0 f1 f2 f3
  obtain ⟨o1, o2, o3, o4, o5, o6, o7, o8, o9, o10, o11⟩ := hOK
  rw [HN.out] at o1 o2
  clear o5 o6 o7 o8 o9 o10 o11
  have i3 : ((0 : Nat) : Int) = 0 := rfl
  go_upto_region 4 with fail
  go_cut [11] from 20 to 30 (fun s11 wx => ∃ q a c, s11 = .pointer (some ⟨q, 0, none⟩) ∧ Hid (wx.heap[q]? = some (.cells #[.bool d, .int .i64 f, .slice a HLs.length c, .bool key] 28) ∧ OwnL w1.heap.size wx a c HLs ∧ w1.grownBy wx none ∧ w1.heap.size ≤ q ∧ ∀ x, (Value.slice a HLs.length c).ownBlock = some x → x ≠ q))
  case first =>
    have HKEEP : Hid (∀ X : World, w1.grownBy X none → X.cell? ⟨p, 0, none⟩ = some (.int .i64 se) ∧ X.cell? ⟨p, 1, none⟩ = some (.int .i64 de) ∧ X.cell? ⟨p, 2, none⟩ = some (.slice va n vc) ∧ X.cell? ⟨p + 1, 0, none⟩ = some (.bool d) ∧ X.cell? ⟨p + 1, 1, none⟩ = some (.int .i64 f) ∧ X.cell? ⟨p + 1, 2, none⟩ = some (.slice sa hh.length sc) ∧ X.cell? ⟨p + 1, 3, none⟩ = some (.bool kk)) := hidI (fun X hX => ⟨hX.cell i0 (by simp), hX.cell i1 (by simp), hX.cell i2 (by simp), hX.cell j0 (by simp), hX.cell j1 (by simp), hX.cell j2 (by simp), hX.cell j3 (by simp)⟩)
    have cH' := fun (X : World) (hX : w1.grownBy X none) => cH2 X (grown_join HW.out.2.2.2.1 hX (.inl rfl))
    clear cH2
    go_region_held3 (fun X => X.cell? ⟨p, 0, none⟩ = some (.int .i64 se) ∧ X.cell? ⟨p, 1, none⟩ = some (.int .i64 de) ∧ X.cell? ⟨p, 2, none⟩ = some (.slice va n vc) ∧ X.cell? ⟨p + 1, 0, none⟩ = some (.bool d) ∧ X.cell? ⟨p + 1, 1, none⟩ = some (.int .i64 f) ∧ X.cell? ⟨p + 1, 2, none⟩ = some (.slice sa hh.length sc) ∧ X.cell? ⟨p + 1, 3, none⟩ = some (.bool kk)) (first | (go_keep; done) | exact HKEEP.out _ (by assumption) | exact HKEEP.out _ (gr_drew (by assumption)) | exact HKEEP.out _ (gr_alloc (by assumption) _) | exact HKEEP.out _ (gr4n (by assumption) (Nat.le_refl _)))
      ((go_at_call 25; refine (cH' _ (by first | assumption | exact World.grownBy.refl _ _ | exact gr_drew (World.grownBy.refl _ _) | exact gr_drew (by assumption) | exact gr_alloc (World.grownBy.refl _ _) _ | exact gr_alloc (gr_drew (World.grownBy.refl _ _)) _ | exact gr_drew (gr_alloc (World.grownBy.refl _ _) _) | exact gr_drew (gr_alloc (gr_drew (World.grownBy.refl _ _)) _))).mono ?_; rintro e w5 ⟨a5, c5, rfl, ho5, g5'⟩; have g5 : w1.grownBy w5 none := (grown_join (by first | assumption | exact World.grownBy.refl _ _ | exact gr_drew (World.grownBy.refl _ _) | exact gr_drew (by assumption) | exact gr_alloc (World.grownBy.refl _ _) _ | exact gr_alloc (gr_drew (World.grownBy.refl _ _)) _ | exact gr_drew (gr_alloc (World.grownBy.refl _ _) _) | exact gr_drew (gr_alloc (gr_drew (World.grownBy.refl _ _)) _)) g5' (.inl rfl)); have HO5 := hidI ho5; try (have B5 : w5.heap[w1.heap.size]? = some (.cells #[.bool false, .int .i64 0, .slice none 0 0, .bool false] 28) := (by first | exact kept g5' (heap_alloc_new w1 _) | exact kept g5' (heap_alloc_new w1.drew _)); obtain ⟨u0, u1, u2, u3⟩ := at4 B5; obtain ⟨v0, v1, v2, v3⟩ := fz4 B5; have HB5 := hidI B5; clear B5)))
    · have h5 := g5'.size
      have o5 := own_lt HO5.out
      go_wp2_with fail
      go_meet
      exact ⟨w5.heap.size, a5, c5, rfl, hidI ⟨heap_alloc_new _ _, OwnL.kept HO5.out (gr_alloc (World.grownBy.refl _ _) _), gr_alloc g5 _, g5.size, fun x hx => by have := o5 x hx; omega⟩⟩
    · have o5 := own_lt HO5.out
      go_wp2_with fail
      go_meet
      refine ⟨w1.heap.size, a5, c5, rfl, hidI ⟨box4 HB5.out, own_low (own_but HO5.out (gr4 (World.grownBy.refl _ _)) (by simp)) (by simp), gr4n g5 (Nat.le_refl _), Nat.le_refl _, fun x hx => by have := o5 x hx; simp at this; omega⟩⟩
  case rest =>
    obtain ⟨q, a, c, rfl, HC⟩ := hcut
    obtain ⟨hq, ho, hgq, hsq, hxq⟩ := HC.out
    obtain ⟨w1a, w1b, w1c, w1d, w1e⟩ := HW.out
    have hc3 := kept hgq w1c
    have hc1 := kept hgq w1a
    have hc2 := kept hgq w1b
    have hgw := grown_join w1d hgq (.inl rfl)
    have hrc := OwnL.rd ho
    have HCC := hidI (And.intro hq (And.intro hc3 (And.intro ho hgw)))
    have hnq : p ≠ q := by omega
    have hnq1 : p + 1 ≠ q := by omega
    have hnq2 : p + 2 ≠ q := by omega
    clear i0 i1 i2 j0 j1 j2 j3
    obtain ⟨i0, i1, i2⟩ := at3 hc1
    obtain ⟨j0, j1, j2, j3⟩ := at4 hc2
    obtain ⟨k0, k1, k2, k3⟩ := at4 hc3
    obtain ⟨f0, f1, f2, f3⟩ := fz4 hc3
    obtain ⟨q0, q1, q2, q3⟩ := at4 hq
    obtain ⟨h0, h1, h2, h3⟩ := fz4 hq
    have HX := hidI (And.intro hxq (And.intro hsq w1e))
    have ZF : Hid (∀ y : World, wc.grownBy y none → y.heap[q]? = some (.cells #[.bool d, .int .i64 f, .slice a HLs.length c, .bool key] 28) ∧ y.heap[p + 2]? = some (.cells #[.bool false, .int .i64 0, .slice none 0 0, .bool false] 28) ∧ OwnL w1.heap.size y a c HLs ∧ w.grownBy y none) := hidI (fun y hy => ⟨kept hy hq, kept hy hc3, ho.kept hy, grown_join hgw hy (.inl rfl)⟩)
    have hwp := HP.out
    have ZS : Hid (∀ y : World, wc.grownBy y none → ∀ x0 x1 : Value, ((y.setCell ⟨q, 1, none⟩ x1).setCell ⟨q, 0, none⟩ x0).heap[q]? = some (.cells #[x0, x1, .slice a HLs.length c, .bool key] 28) ∧ ((y.setCell ⟨q, 1, none⟩ x1).setCell ⟨q, 0, none⟩ x0).heap[p + 2]? = some (.cells #[.bool false, .int .i64 0, .slice none 0 0, .bool false] 28) ∧ OwnL w1.heap.size ((y.setCell ⟨q, 1, none⟩ x1).setCell ⟨q, 0, none⟩ x0) a c HLs ∧ w.grownBy ((y.setCell ⟨q, 1, none⟩ x1).setCell ⟨q, 0, none⟩ x0) none) := hidI (fun y hy x0 x1 => by
      obtain ⟨b1, b2, b3, b4⟩ := ZF.out y hy
      refine ⟨by have := at_set (at_set b1 1 x1) 0 x0; simpa using this, ?_, own_ne b3 (gr_set (gr_set (World.grownBy.refl _ _) _ _) _ _) (fun x hx e => hxq x hx (by injection e with e; exact e.symm)), gr_own (gr_own b4 (by omega) _ _) (by omega) _ _⟩
      rw [Below.heap_setCell _ _ _ _ (by simp; omega), Below.heap_setCell _ _ _ _ (by simp; omega)]
      exact b2)
    have ZT : Hid (∀ y : World, wc.grownBy y none → ∀ x0 x1 : Value, ((y.setCell ⟨q, 0, none⟩ x0).setCell ⟨q, 1, none⟩ x1).heap[q]? = some (.cells #[x0, x1, .slice a HLs.length c, .bool key] 28) ∧ ((y.setCell ⟨q, 0, none⟩ x0).setCell ⟨q, 1, none⟩ x1).heap[p + 2]? = some (.cells #[.bool false, .int .i64 0, .slice none 0 0, .bool false] 28) ∧ OwnL w1.heap.size ((y.setCell ⟨q, 0, none⟩ x0).setCell ⟨q, 1, none⟩ x1) a c HLs ∧ w.grownBy ((y.setCell ⟨q, 0, none⟩ x0).setCell ⟨q, 1, none⟩ x1) none) := hidI (fun y hy x0 x1 => by
      obtain ⟨b1, b2, b3, b4⟩ := ZF.out y hy
      refine ⟨by have := at_set (at_set b1 0 x0) 1 x1; simpa using this, ?_, own_ne b3 (gr_set (gr_set (World.grownBy.refl _ _) _ _) _ _) (fun x hx e => hxq x hx (by injection e with e; exact e.symm)), gr_own (gr_own b4 (by omega) _ _) (by omega) _ _⟩
      rw [Below.heap_setCell _ _ _ _ (by simp; omega), Below.heap_setCell _ _ _ _ (by simp; omega)]
      exact b2)
    clear hwp
    clear hq ho hgq hsq hxq w1a w1b w1c w1d w1e hc3 hc1 hc2 HC cH2
    cases d with
    | false =>
      have HNT : Hid (nextT de l ⟨false, f, hh, kk⟩ told key = ⟨decide (ixOf HLs (de + 1) ≠ -1), ixOf HLs (de + 1), HLs, key⟩) := hidI (by unfold nextT; dsimp only; rw [HHL.out]; simp)
      have cI := fun (X : World) (hX : wc.grownBy X none) => index_any HLs (de + 1) _ X (rd_grown hrc hX) (by rw [HHN.out]; omega)
      obtain ⟨r, hr⟩ : ∃ r, ixOf HLs (de + 1) = r := ⟨_, rfl⟩
      have hrg := ixOf_ge HLs (de + 1)
      rw [hr] at cI hrg HNT
      clear hr
      have HK2 : Hid (∀ X : World, wc.grownBy X none → X.cell? ⟨p, 0, none⟩ = some (.int .i64 se) ∧ X.cell? ⟨p, 1, none⟩ = some (.int .i64 de) ∧ X.cell? ⟨p, 2, none⟩ = some (.slice va n vc) ∧ X.cell? ⟨q, 2, none⟩ = some (.slice a HLs.length c)) := hidI (fun X hX => ⟨hX.cell i0 (by simp), hX.cell i1 (by simp), hX.cell i2 (by simp), hX.cell q2 (by simp)⟩)
      go_wp2_with fail
      go_region_held3 (fun X => X.cell? ⟨p, 0, none⟩ = some (.int .i64 se) ∧ X.cell? ⟨p, 1, none⟩ = some (.int .i64 de) ∧ X.cell? ⟨p, 2, none⟩ = some (.slice va n vc) ∧ X.cell? ⟨q, 2, none⟩ = some (.slice a HLs.length c)) (first | (go_keep; done) | exact HK2.out _ (by assumption) | exact HK2.out _ (gr_drew (by assumption)) | exact ⟨ck_set hnq (e1.cell i0 (by simp)), ck_set hnq (e1.cell i1 (by simp)), ck_set hnq (e1.cell i2 (by simp)), (at_cell (at_set (kept e1 HCC.out.1) 1 _) 2).trans rfl⟩)
        (first | (go_at_call 27; refine (most_any se de _ _ o3 o4).mono ?_; rintro e y1 ⟨rfl, e1'⟩; have e1 : wc.grownBy y1 none := (grown_join (by first | assumption | exact World.grownBy.refl _ _ | exact gr_drew (World.grownBy.refl _ _) | exact gr_drew (by assumption) | exact gr_alloc (World.grownBy.refl _ _) _ | exact gr_alloc (gr_drew (World.grownBy.refl _ _)) _ | exact gr_drew (gr_alloc (World.grownBy.refl _ _) _) | exact gr_drew (gr_alloc (gr_drew (World.grownBy.refl _ _)) _)) e1' (.inl rfl)); clear e1'; have hy := kept e1 HCC.out.1; obtain ⟨m0, m1, m2, m3⟩ := at4 hy; obtain ⟨n0, n1, n2, n3⟩ := fz4 hy; clear hy) | (go_at_call 26; refine (cI _ (by first | assumption | exact World.grownBy.refl _ _ | exact gr_drew (World.grownBy.refl _ _) | exact gr_drew (by assumption) | exact gr_alloc (World.grownBy.refl _ _) _ | exact gr_alloc (gr_drew (World.grownBy.refl _ _)) _ | exact gr_drew (gr_alloc (World.grownBy.refl _ _) _) | exact gr_drew (gr_alloc (gr_drew (World.grownBy.refl _ _)) _))).mono ?_; rintro e y2 ⟨rfl, e2⟩; subst e2))
      have HFI := hidI e1
      clear m0 m1 m2 m3 n0 n1 n2 n3 i0 i1 i2 j0 j1 j2 j3 k0 k1 k2 k3 f0 f1 f2 f3 q0 q1 q2 q3 h0 h1 h2 h3 e1 cI
      have x1 : (y1.setCell ⟨q, 1, none⟩ (.int .i64 r)).cell? ⟨q, 1, none⟩ = some (.int .i64 r) := (at_cell (at_set (ZF.out y1 HFI.out).1 1 _) 1).trans rfl
      have x0 : (y1.setCell ⟨q, 1, none⟩ (.int .i64 r)).cell? ⟨q, 0, none⟩ = some (.bool false) := (at_cell (at_set (ZF.out y1 HFI.out).1 1 _) 0).trans rfl
      have xf := at_frozen (at_set (ZF.out y1 HFI.out).1 1 (.int .i64 r)) 0
      by_cases hr1 : r = -1
      · subst hr1
        have HNT : Hid (nextT de l ⟨false, f, hh, kk⟩ told key = ⟨false, -1, HLs, key⟩) := hidI (by rw [HNT.out]; simp)
        have HZ := hidI (ZS.out y1 HFI.out (.bool false) (.int .i64 (-1)))
        go_upto_region 10 with fail
        generalize (y1.setCell ⟨q, 1, none⟩ (.int .i64 (-1))).setCell ⟨q, 0, none⟩ (.bool false) = Z at *
        clear x0 x1 xf
        obtain ⟨z1, z2, z3, z4⟩ := HZ.out
        obtain ⟨u0, u1, u2, u3⟩ := at4 z1
        obtain ⟨t0, t1, t2, t3⟩ := at4 z2
        obtain ⟨g0, g1', g2, g3⟩ := fz4 z2
        clear z1 z2 z3 z4
        go_wp2
        obtain ⟨z1, z2, z3, z4⟩ := HZ.out
        refine bodyPost_ret (results28 rfl _ _ (p + 2) ⟨false, -1, HLs, key⟩ (.slice a HLs.length c) rfl (box4 z2)) rfl ?_
        rw [HS.out, HE.out, HNT.out]
        have hp := HP.out
        exact ⟨_, rfl, a, c, rfl, own_low (own_but z3 (gr4 (World.grownBy.refl _ _)) (by have := HX.out.2.2; omega)) (by have := HX.out.2.2; omega), gr4n z4 (by omega)⟩
      · have HNT : Hid (nextT de l ⟨false, f, hh, kk⟩ told key = ⟨true, r, HLs, key⟩) := hidI (by rw [HNT.out]; simp [hr1])
        have HZ := hidI (ZS.out y1 HFI.out (.bool true) (.int .i64 r))
        have hrb1 : (r == -1) = false := by simpa using hr1
        have hrb2 : (r != -1) = true := by simpa using hr1
        go_upto_region 10 with fail
        generalize (y1.setCell ⟨q, 1, none⟩ (.int .i64 r)).setCell ⟨q, 0, none⟩ (.bool true) = Z at *
        clear x0 x1 xf
        obtain ⟨z1, z2, z3, z4⟩ := HZ.out
        obtain ⟨u0, u1, u2, u3⟩ := at4 z1
        obtain ⟨t0, t1, t2, t3⟩ := at4 z2
        obtain ⟨g0, g1', g2, g3⟩ := fz4 z2
        clear z1 z2 z3 z4
        go_wp2
        obtain ⟨z1, z2, z3, z4⟩ := HZ.out
        refine bodyPost_ret (results28 rfl _ _ (p + 2) ⟨true, r, HLs, key⟩ (.slice a HLs.length c) rfl (box4 z2)) rfl ?_
        rw [HS.out, HE.out, HNT.out]
        have hp := HP.out
        exact ⟨_, rfl, a, c, rfl, own_low (own_but z3 (gr4 (World.grownBy.refl _ _)) (by have := HX.out.2.2; omega)) (by have := HX.out.2.2; omega), gr4n z4 (by omega)⟩
    | true =>
      clear i0 i1 i2 f0 f1 f2 f3 k0 k1 k2 k3
      have HZ := hidI (ZF.out wc (World.grownBy.refl _ _))
      cases key with
      | false =>
        have HNT : Hid (nextT de l ⟨true, f, hh, kk⟩ told false = ⟨true, f, HLs, false⟩) := hidI (by unfold nextT; dsimp only; rw [HHL.out]; simp)
        go_upto_region 10 with fail
        clear q0 q1 q2 q3 h0 h1 h2 h3 j0 j1 j2 j3
        obtain ⟨z1, z2, z3, z4⟩ := HZ.out
        obtain ⟨u0, u1, u2, u3⟩ := at4 z1
        obtain ⟨t0, t1, t2, t3⟩ := at4 z2
        obtain ⟨g0, g1', g2, g3⟩ := fz4 z2
        clear z1 z2 z3 z4
        go_wp2
        obtain ⟨z1, z2, z3, z4⟩ := HZ.out
        refine bodyPost_ret (results28 rfl _ _ (p + 2) ⟨true, f, HLs, false⟩ (.slice a HLs.length c) rfl (box4 z2)) rfl ?_
        rw [HS.out, HE.out, HNT.out]
        have hp := HP.out
        exact ⟨_, rfl, a, c, rfl, own_low (own_but z3 (gr4 (World.grownBy.refl _ _)) (by have := HX.out.2.2; omega)) (by have := HX.out.2.2; omega), gr4n z4 (by omega)⟩
      | true =>
      cases kk with
      | true =>
        have HNT : Hid (nextT de l ⟨true, f, hh, true⟩ told true = ⟨true, f, HLs, true⟩) := hidI (by unfold nextT; dsimp only; rw [HHL.out]; simp)
        go_upto_region 10 with fail
        clear q0 q1 q2 q3 h0 h1 h2 h3 j0 j1 j2 j3
        obtain ⟨z1, z2, z3, z4⟩ := HZ.out
        obtain ⟨u0, u1, u2, u3⟩ := at4 z1
        obtain ⟨t0, t1, t2, t3⟩ := at4 z2
        obtain ⟨g0, g1', g2, g3⟩ := fz4 z2
        clear z1 z2 z3 z4
        go_wp2
        obtain ⟨z1, z2, z3, z4⟩ := HZ.out
        refine bodyPost_ret (results28 rfl _ _ (p + 2) ⟨true, f, HLs, true⟩ (.slice a HLs.length c) rfl (box4 z2)) rfl ?_
        rw [HS.out, HE.out, HNT.out]
        have hp := HP.out
        exact ⟨_, rfl, a, c, rfl, own_low (own_but z3 (gr4 (World.grownBy.refl _ _)) (by have := HX.out.2.2; omega)) (by have := HX.out.2.2; omega), gr4n z4 (by omega)⟩
      | false =>
      have cN := none_any HLs _ wc hrc (by rw [HHN.out]; omega)
      obtain ⟨Bb, hB⟩ : ∃ b, HLs.any (ou 0 0) = b := ⟨_, rfl⟩
      have HB := hidI hB
      rw [hB] at cN
      clear hB HZ
      go_wp2_with fail
      refine cN.mono ?_
      rintro e y1 ⟨rfl, e1⟩
      have hz1 := (ZF.out y1 e1).1
      clear q0 q1 q2 q3 h0 h1 h2 h3 j0 j1 j2 j3 cN
      cases Bb with
      | true =>
        have HNT : Hid (nextT de l ⟨true, f, hh, false⟩ told true = ⟨true, f, HLs, true⟩) := hidI (by unfold nextT; dsimp only; rw [HHL.out, HB.out]; simp)
        have HZ := hidI (ZF.out y1 e1)
        clear hz1 e1
        go_upto_region 10 with fail
        obtain ⟨z1, z2, z3, z4⟩ := HZ.out
        obtain ⟨u0, u1, u2, u3⟩ := at4 z1
        obtain ⟨t0, t1, t2, t3⟩ := at4 z2
        obtain ⟨g0, g1', g2, g3⟩ := fz4 z2
        clear z1 z2 z3 z4
        go_wp2
        obtain ⟨z1, z2, z3, z4⟩ := HZ.out
        refine bodyPost_ret (results28 rfl _ _ (p + 2) ⟨true, f, HLs, true⟩ (.slice a HLs.length c) rfl (box4 z2)) rfl ?_
        rw [HS.out, HE.out, HNT.out]
        have hp := HP.out
        exact ⟨_, rfl, a, c, rfl, own_low (own_but z3 (gr4 (World.grownBy.refl _ _)) (by have := HX.out.2.2; omega)) (by have := HX.out.2.2; omega), gr4n z4 (by omega)⟩
      | false =>
        have HNT : Hid (nextT de l ⟨true, f, hh, false⟩ told true = ⟨false, -1, HLs, true⟩) := hidI (by unfold nextT; dsimp only; rw [HHL.out, HB.out]; simp)
        have HZ := hidI (ZT.out y1 e1 (.bool false) (.int .i64 (-1)))
        obtain ⟨u0, u1, u2, u3⟩ := at4 hz1
        obtain ⟨v0, v1, v2, v3⟩ := fz4 hz1
        clear hz1 e1
        go_upto_region 10 with fail
        generalize (y1.setCell ⟨q, 0, none⟩ (.bool false)).setCell ⟨q, 1, none⟩ (.int .i64 (-1)) = Z at *
        clear u0 u1 u2 u3 v0 v1 v2 v3
        obtain ⟨z1, z2, z3, z4⟩ := HZ.out
        obtain ⟨u0, u1, u2, u3⟩ := at4 z1
        obtain ⟨t0, t1, t2, t3⟩ := at4 z2
        obtain ⟨g0, g1', g2, g3⟩ := fz4 z2
        clear z1 z2 z3 z4
        go_wp2
        obtain ⟨z1, z2, z3, z4⟩ := HZ.out
        refine bodyPost_ret (results28 rfl _ _ (p + 2) ⟨false, -1, HLs, true⟩ (.slice a HLs.length c) rfl (box4 z2)) rfl ?_
        rw [HS.out, HE.out, HNT.out]
        have hp := HP.out
        exact ⟨_, rfl, a, c, rfl, own_low (own_but z3 (gr4 (World.grownBy.refl _ _)) (by have := HX.out.2.2; omega)) (by have := HX.out.2.2; omega), gr4n z4 (by omega)⟩
end Go.Proofs.Ytefekafpmnaeoaa
