/- What is done to a side. -/
import Derived.Test.YtnklkhcldcljaaaC
namespace Go.Proofs.Ytnklkhcldcljaaa
open Go.RowKit
attribute [local go_sem ↓] Go.wp_at_zero Go.wp_at_succ
set_option linter.unusedVariables false
set_option linter.unusedSimpArgs false

def zeroS : Sd := ⟨0, false, 0, 0, [], 0, 0⟩
/-- A side of one's own, and an error. -/
def StE (w w' : World) (e : Ending) (R : Sd) (E : Nat) : Prop :=
  ∃ a c, e = .returned (.tuple #[sdV R (.slice a R.im.length c), .int .i64 (E : Int)]) ∧ OwnL w.heap.size w' a c R.im ∧ w.grownBy w' none
set_option maxRecDepth 10000 in
set_option maxHeartbeats 1000000 in
theorem step_gen (f : FuncId) (caps : Array Value) (L R : Sd) (E : Nat) (v u : Value) (w : World) (hv : rd w v L.im) (hu : rd w u R.im) (hl : L.im.length ≤ 17592186043904) (hr : R.im.length ≤ 17592186043904)
    (hf : ∀ (args : Array Value) (W : World), (callFunc f args).run Try.prog W = .ok (.enter f args) W)
    (hcall : canS L = true → ∀ (W : World) (q : Nat), w.grownBy W none → w.heap.size ≤ q → W.heap[q]? = some (.cells (sdA L v) 24) → Calls Try.prog f (#[.pointer (some ⟨q, 0, none⟩)] ++ caps) W fun e w' => e = .returned (.int .i64 (E : Int)) ∧ W.grownBy w' (some q) ∧ ∃ M x, w'.heap[q]? = some (.cells (sdA M x) 24) ∧ (E = 0 → M = R ∧ x = u)) :
    Calls Try.prog 36 #[sdV L v, .func (.func f) #[] caps] w fun e w' => StE w w' e (if canS L then (if E = 0 then R else L) else zeroS) (if canS L then E else 15) := by
  have cM := fun (X : World) (k : rd X v L.im) => mayBe_any L v X k hl
  generalize canS L = D at *
  obtain ⟨me, ac, te, cy, im, si, pa⟩ := L
  dsimp only [sdV, sdA] at *
  obtain ⟨va, vc, hva, _⟩ := id hv
  obtain ⟨ua, uc, hua, _⟩ := id hu
  subst hva hua
  obtain ⟨p, hp⟩ : ∃ p, w.heap.size = p := ⟨_, rfl⟩
  have hW1 : ((w.alloc (.cells #[.int .i64 me, .bool ac, .int .i64 te, .int .i64 cy, .slice va im.length vc, .int .i64 si, .int .i64 pa] 24)).alloc (.cells #[.int .i64 0, .bool false, .int .i64 0, .int .i64 0, .slice none 0 0, .int .i64 0, .int .i64 0] 24)).heap[p]? = some (.cells #[.int .i64 me, .bool ac, .int .i64 te, .int .i64 cy, .slice va im.length vc, .int .i64 si, .int .i64 pa] 24) := by
    rw [hp_old (by simp; omega)]; exact hp_new hp.symm _
  have hW2 : ((w.alloc (.cells #[.int .i64 me, .bool ac, .int .i64 te, .int .i64 cy, .slice va im.length vc, .int .i64 si, .int .i64 pa] 24)).alloc (.cells #[.int .i64 0, .bool false, .int .i64 0, .int .i64 0, .slice none 0 0, .int .i64 0, .int .i64 0] 24)).heap[p + 1]? = some (.cells #[.int .i64 0, .bool false, .int .i64 0, .int .i64 0, .slice none 0 0, .int .i64 0, .int .i64 0] 24) := hp_new (by simp; omega) _
  have hgW : w.grownBy ((w.alloc (.cells #[.int .i64 me, .bool ac, .int .i64 te, .int .i64 cy, .slice va im.length vc, .int .i64 si, .int .i64 pa] 24)).alloc (.cells #[.int .i64 0, .bool false, .int .i64 0, .int .i64 0, .slice none 0 0, .int .i64 0, .int .i64 0] 24)) none := gr_alloc (gr_alloc (World.grownBy.refl _ _) _) _
  go_enter Try.func36, Try.ntmps36
  go_upto_region 1 with fail
  have HP := hidI hp
  clear hp
  generalize (w.alloc (.cells #[.int .i64 me, .bool ac, .int .i64 te, .int .i64 cy, .slice va im.length vc, .int .i64 si, .int .i64 pa] 24)).alloc (.cells #[.int .i64 0, .bool false, .int .i64 0, .int .i64 0, .slice none 0 0, .int .i64 0, .int .i64 0] 24) = W at *
  obtain ⟨i0, i1, i2, i3, i4, i5, i6⟩ := at7 hW1
  have cM := cM W (rd_grown hv hgW)
  go_wp2_with fail
  refine cM.mono ?_
  rintro e w1 ⟨rfl, g1⟩
  clear i0 i1 i2 i3 i4 i5 i6
  have hW1 := kept g1 hW1
  have hW2 := kept g1 hW2
  have hgW := grown_join hgW g1 (.inl rfl)
  clear g1 cM
  obtain ⟨i0, i1, i2, i3, i4, i5, i6⟩ := at7 hW1
  obtain ⟨j0, j1, j2, j3, j4, j5, j6⟩ := at7 hW2
  obtain ⟨f0, f1, f2, f3, f4, f5, f6⟩ := fz7 hW2
  cases D with
  | false =>
    have HW := hidI (And.intro hW2 hgW)
    clear hW1 hW2 hgW
    go_wp2
    refine bodyPost_ret (results2 rfl _ _ (p + 1) zeroS (.slice none 0 0) rfl (box7 HW.out.1)) rfl ?_
    have hp := HP.out
    exact ⟨none, 0, rfl, OwnL.nil _ _, gr7n HW.out.2 (by omega)⟩
  | true =>
  have HW := hidI (And.intro hW1 (And.intro hW2 hgW))
  obtain ⟨q, hq⟩ : ∃ q, w1.heap.size = q := ⟨_, rfl⟩
  have hW3 : (w1.alloc (.cells #[.int .i64 me, .bool ac, .int .i64 te, .int .i64 cy, .slice va im.length vc, .int .i64 si, .int .i64 pa] 24)).heap[q]? = some (.cells #[.int .i64 me, .bool ac, .int .i64 te, .int .i64 cy, .slice va im.length vc, .int .i64 si, .int .i64 pa] 24) := hp_new hq.symm _
  have hgA := gr_alloc hgW (.cells #[.int .i64 me, .bool ac, .int .i64 te, .int .i64 cy, .slice va im.length vc, .int .i64 si, .int .i64 pa] 24)
  have hq2 : w.heap.size ≤ q := by rw [← hq]; exact hgW.size
  have cF := hcall rfl _ q hgA hq2 hW3
  have HQ := hidI (And.intro hq hq2)
  clear hcall
  go_wp2_with fail
  refine cF.mono ?_
  rintro e w2 ⟨rfl, g2, ⟨mme, mac, mte, mcy, mim, msi, mpa⟩, x, hM, hE0⟩
  clear i0 i1 i2 i3 i4 i5 i6 j0 j1 j2 j3 j4 j5 j6 f0 f1 f2 f3 f4 f5 f6 cF hf
  obtain ⟨hq, hq2⟩ := HQ.out
  have K1 : w2.heap[p]? = _ := keptBut g2 ((hp_old (at_lt hW1) _).trans hW1) (by have := at_lt hW1; omega)
  have K2 : w2.heap[p + 1]? = _ := keptBut g2 ((hp_old (at_lt hW2) _).trans hW2) (by have := at_lt hW2; omega)
  have g2 := grown_join hgA g2 (.inr fun y hy => by simp at hy; omega)
  have HNE := hidI (show p + 1 ≠ q by have := at_lt hW2; omega)
  clear hgA hW3 hq hq2 hW1 hW2 hgW HW
  dsimp only [sdA] at hM
  obtain ⟨k0, k1, k2, k3, k4, k5, k6⟩ := at7 hM
  obtain ⟨l0, l1, l2, l3, l4, l5, l6⟩ := fz7 hM
  obtain ⟨i0, i1, i2, i3, i4, i5, i6⟩ := at7 K1
  have HSZ := hidI (And.intro HP.out (And.intro (at_lt K2) (And.intro HQ.out.2 HNE.out)))
  by_cases hE : E = 0
  · subst hE
    obtain ⟨hM1, rfl⟩ := hE0 rfl
    subst hM1
    have cC := clone_any mim _ w2 (rd_grown hu g2) hr
    clear hE0
    go_wp2_with fail
    refine cC.mono ?_
    rintro e w3 ⟨a, c, rfl, o3, g3⟩
    clear k0 k1 k2 k3 k4 k5 k6 l0 l1 l2 l3 l4 l5 l6 i0 i1 i2 i3 i4 i5 i6
    have sz := HSZ.out
    have hM3 := kept g3 hM
    have K3 := kept g3 K2
    have g4 := grown_join g2 g3 (.inl rfl)
    have hX1 : (w3.setCell ⟨q, 4, none⟩ (.slice a mim.length c)).heap[q]? = some (.cells #[.int .i64 mme, .bool mac, .int .i64 mte, .int .i64 mcy, .slice a mim.length c, .int .i64 msi, .int .i64 mpa] 24) := by
      have := at_set hM3 4 (.slice a mim.length c)
      simpa using this
    have hX2 := (Below.heap_setCell w3 ⟨q, 4, none⟩ (.slice a mim.length c) (p + 1) (show p + 1 ≠ q by omega)).trans K3
    have gX : w.grownBy (w3.setCell ⟨q, 4, none⟩ (.slice a mim.length c)) none := gr_own g4 (by omega) _ _
    have oX : OwnL w2.heap.size (w3.setCell ⟨q, 4, none⟩ (.slice a mim.length c)) a c mim := own_but (p := q) o3 (gr_set (World.grownBy.refl _ _) _ _) (at_lt hM)
    have pB := hidI (And.intro (at_lt K2) g2.size)
    obtain ⟨k0, k1, k2, k3, k4, k5, k6⟩ := at7 hM3
    obtain ⟨l0, l1, l2, l3, l4, l5, l6⟩ := fz7 hM3
    clear hM3 K3 g4 o3 g3 sz
    go_upto_region 8 with fail
    generalize w3.setCell ⟨q, 4, none⟩ (.slice a mim.length c) = X at *
    clear k0 k1 k2 k3 k4 k5 k6 l0 l1 l2 l3 l4 l5 l6
    obtain ⟨k0, k1, k2, k3, k4, k5, k6⟩ := at7 hX1
    obtain ⟨m0, m1, m2, m3, m4, m5, m6⟩ := at7 hX2
    obtain ⟨l0, l1, l2, l3, l4, l5, l6⟩ := fz7 hX2
    have HX := hidI (And.intro hX2 (And.intro gX oX))
    clear hX1 hX2 gX oX
    go_wp2
    refine bodyPost_ret (results2 rfl _ _ (p + 1) ⟨mme, mac, mte, mcy, mim, msi, mpa⟩ (.slice a mim.length c) rfl (box7 HX.out.1)) rfl ?_
    obtain ⟨hX2, gX, oX⟩ := HX.out
    have hp := HP.out
    obtain ⟨pB1, pB2⟩ := pB.out
    exact ⟨a, c, rfl, own_low (own_but oX (gr7 (World.grownBy.refl _ _)) (by omega)) pB2, gr7n gX (by omega)⟩
  · have e1 : ((E : Int) != 0) = true := by simpa using hE
    have hB : ((((((((w2).setCell ⟨q, 0, none⟩ (.int .i64 me)).setCell ⟨q, 1, none⟩ (.bool ac)).setCell ⟨q, 2, none⟩ (.int .i64 te)).setCell ⟨q, 3, none⟩ (.int .i64 cy)).setCell ⟨q, 4, none⟩ (.slice va im.length vc)).setCell ⟨q, 5, none⟩ (.int .i64 si)).setCell ⟨q, 6, none⟩ (.int .i64 pa)).heap[q]? = _ := box7 hM
    have hG2 := gr7n (x0 := .int .i64 me) (x1 := .bool ac) (x2 := .int .i64 te) (x3 := .int .i64 cy) (x4 := .slice va im.length vc) (x5 := .int .i64 si) (x6 := .int .i64 pa) g2 HQ.out.2
    have hK2 := keptBut (gr7 (x0 := .int .i64 me) (x1 := .bool ac) (x2 := .int .i64 te) (x3 := .int .i64 cy) (x4 := .slice va im.length vc) (x5 := .int .i64 si) (x6 := .int .i64 pa) (World.grownBy.refl w2 (some q))) K2 HNE.out
    go_wp2_with fail
    clear hM K2 g2
    generalize ((((((((w2).setCell ⟨q, 0, none⟩ (.int .i64 me)).setCell ⟨q, 1, none⟩ (.bool ac)).setCell ⟨q, 2, none⟩ (.int .i64 te)).setCell ⟨q, 3, none⟩ (.int .i64 cy)).setCell ⟨q, 4, none⟩ (.slice va im.length vc)).setCell ⟨q, 5, none⟩ (.int .i64 si)).setCell ⟨q, 6, none⟩ (.int .i64 pa)) = X2 at *
    have hM := hB
    have g2 := hG2
    have K2 := hK2
    clear hB hG2 hK2
    have cC := clone_any im _ X2 (rd_grown hv g2) hl
    refine cC.mono ?_
    rintro e w3 ⟨a, c, rfl, o3, g3⟩
    clear k0 k1 k2 k3 k4 k5 k6 l0 l1 l2 l3 l4 l5 l6 i0 i1 i2 i3 i4 i5 i6
    have sz := HSZ.out
    have hM3 := kept g3 hM
    have K3 := kept g3 K2
    have g4 := grown_join g2 g3 (.inl rfl)
    have hX1 : (w3.setCell ⟨q, 4, none⟩ (.slice a im.length c)).heap[q]? = some (.cells #[.int .i64 me, .bool ac, .int .i64 te, .int .i64 cy, .slice a im.length c, .int .i64 si, .int .i64 pa] 24) := by
      have := at_set hM3 4 (.slice a im.length c)
      simpa using this
    have hX2 := (Below.heap_setCell w3 ⟨q, 4, none⟩ (.slice a im.length c) (p + 1) (show p + 1 ≠ q by omega)).trans K3
    have gX : w.grownBy (w3.setCell ⟨q, 4, none⟩ (.slice a im.length c)) none := gr_own g4 (by omega) _ _
    have oX : OwnL X2.heap.size (w3.setCell ⟨q, 4, none⟩ (.slice a im.length c)) a c im := own_but (p := q) o3 (gr_set (World.grownBy.refl _ _) _ _) (at_lt hM)
    have pB := hidI (And.intro (at_lt K2) g2.size)
    obtain ⟨k0, k1, k2, k3, k4, k5, k6⟩ := at7 hM3
    obtain ⟨l0, l1, l2, l3, l4, l5, l6⟩ := fz7 hM3
    clear hM3 K3 g4 o3 g3 sz
    go_upto_region 8 with fail
    generalize w3.setCell ⟨q, 4, none⟩ (.slice a im.length c) = X at *
    clear k0 k1 k2 k3 k4 k5 k6 l0 l1 l2 l3 l4 l5 l6
    obtain ⟨k0, k1, k2, k3, k4, k5, k6⟩ := at7 hX1
    obtain ⟨m0, m1, m2, m3, m4, m5, m6⟩ := at7 hX2
    obtain ⟨l0, l1, l2, l3, l4, l5, l6⟩ := fz7 hX2
    have HX := hidI (And.intro hX2 (And.intro gX oX))
    clear hX1 hX2 gX oX
    go_wp2
    refine bodyPost_ret (results2 rfl _ _ (p + 1) ⟨me, ac, te, cy, im, si, pa⟩ (.slice a im.length c) rfl (box7 HX.out.1)) rfl ?_
    obtain ⟨hX2, gX, oX⟩ := HX.out
    have hp := HP.out
    obtain ⟨pB1, pB2⟩ := pB.out
    exact ⟨a, c, rfl, own_low (own_but oX (gr7 (World.grownBy.refl _ _)) (by omega)) pB2, gr7n gX (by omega)⟩
end Go.Proofs.Ytnklkhcldcljaaa
