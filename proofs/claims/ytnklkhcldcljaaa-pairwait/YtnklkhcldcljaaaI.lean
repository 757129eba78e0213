/- The document's Waited. -/
import Derived.Test.YtnklkhcldcljaaaH
namespace Go.Proofs.Ytnklkhcldcljaaa
open Go.RowKit
attribute [local go_sem ↓] Go.wp_at_zero Go.wp_at_succ
set_option linter.unusedVariables false
set_option linter.unusedSimpArgs false

set_option maxRecDepth 10000 in
set_option maxHeartbeats 1000000 in
theorem waited_any (L : Sd) (v : Value) (w : World) (hv : rd w v L.im) : Calls Try.prog 21 #[sdV L v] w fun e w' => RfE w w' e (stS L (waitE L) (waitS L)) (refW L (waitE L) v v) (stE L (waitE L)) := by
  have HF := hidI (st_all L (waitS L) (waitE L) v v)
  have HE : Hid (waitE L = if L.ac then 0 else if L.si + 1 < L.pa then 0 else if L.te = 1000000 then 14 else 0) := hidI rfl
  have HR : Hid (waitS L = if L.ac then L else if L.si + 1 < L.pa then ⟨L.me, L.ac, L.te, L.cy, L.im, L.si + 1, L.pa⟩ else ⟨L.me, true, L.te + 1, L.cy, L.im, 0, L.pa⟩) := hidI rfl
  have HC := hidI (fun h => canS_parts (L := L) h)
  have cS := fun (X : World) (k : rd X v L.im) => stand_any L v X k
  generalize stS L (waitE L) (waitS L) = RR at *
  generalize refW L (waitE L) v v = VV at *
  generalize stE L (waitE L) = EE at *
  generalize canS L = D at *
  generalize waitS L = HS at *
  generalize waitE L = BE at *
  obtain ⟨p, hp⟩ : ∃ p, w.heap.size = p := ⟨_, rfl⟩
  obtain ⟨va, vc, rfl, _⟩ := id hv
  obtain ⟨me, ac, te, cy, im, si, pa⟩ := L
  dsimp only [sdV, sdA, btV, btA] at *
  have B1 : ((w.alloc (.cells #[.int .i64 me, .bool ac, .int .i64 te, .int .i64 cy, .slice va im.length vc, .int .i64 si, .int .i64 pa] 24)).alloc (.cells #[.int .i64 0, .bool false, .int .i64 0, .int .i64 0, .slice none 0 0, .int .i64 0, .int .i64 0] 24)).heap[p]? = some (.cells #[.int .i64 me, .bool ac, .int .i64 te, .int .i64 cy, .slice va im.length vc, .int .i64 si, .int .i64 pa] 24) := by
    rw [hp_old (by simp; omega)]; exact hp_new hp.symm _
  have B2 : ((w.alloc (.cells #[.int .i64 me, .bool ac, .int .i64 te, .int .i64 cy, .slice va im.length vc, .int .i64 si, .int .i64 pa] 24)).alloc (.cells #[.int .i64 0, .bool false, .int .i64 0, .int .i64 0, .slice none 0 0, .int .i64 0, .int .i64 0] 24)).heap[p + 1]? = some (.cells #[.int .i64 0, .bool false, .int .i64 0, .int .i64 0, .slice none 0 0, .int .i64 0, .int .i64 0] 24) := hp_new (by simp; omega) _
  have hgW : w.grownBy ((w.alloc (.cells #[.int .i64 me, .bool ac, .int .i64 te, .int .i64 cy, .slice va im.length vc, .int .i64 si, .int .i64 pa] 24)).alloc (.cells #[.int .i64 0, .bool false, .int .i64 0, .int .i64 0, .slice none 0 0, .int .i64 0, .int .i64 0] 24)) none := gr_alloc (gr_alloc (World.grownBy.refl _ _) _) _
  have cS := cS _ (rd_grown hv hgW)
  go_enter Try.func21, Try.ntmps21
  go_upto_region 1 with fail
  have HP := hidI hp
  clear hp
  generalize (w.alloc (.cells #[.int .i64 me, .bool ac, .int .i64 te, .int .i64 cy, .slice va im.length vc, .int .i64 si, .int .i64 pa] 24)).alloc (.cells #[.int .i64 0, .bool false, .int .i64 0, .int .i64 0, .slice none 0 0, .int .i64 0, .int .i64 0] 24) = W at *
  obtain ⟨i0, i1, i2, i3, i4, i5, i6⟩ := at7 B1
  go_wp2_with fail
  refine cS.mono ?_
  rintro e w1 ⟨rfl, g1⟩
  clear i0 i1 i2 i3 i4 i5 i6 cS
  have B1 := kept g1 B1
  have B2 := kept g1 B2
  have hgW := grown_join hgW g1 (.inl rfl)
  obtain ⟨i0, i1, i2, i3, i4, i5, i6⟩ := at7 B1
  obtain ⟨m0, m1, m2, m3, m4, m5, m6⟩ := at7 B2
  obtain ⟨f0, f1, f2, f3, f4, f5, f6⟩ := fz7 B2
  have HX := hidI (And.intro B2 hgW)
  have HY := hidI B1
  clear B1 B2 hgW hv g1
  cases D with
  | false =>
    go_wp2
    obtain ⟨B, hgW⟩ := HX.out
    refine bodyPost_ret (results2 rfl _ _ (p + 1) zeroS (.slice none 0 0) rfl (box7 B)) rfl ?_
    obtain ⟨a1, a2, a3⟩ := HF.out.1 (by simp)
    rw [a1, a2, a3]
    exact ⟨rfl, gr7n hgW (by have := HP.out; omega)⟩
  | true =>
  have HF1 := hidI (HF.out.2.1 rfl)
  have HF2 := hidI (HF.out.2.2 rfl)
  obtain ⟨-, ⟨b1, b2⟩, ⟨b3, b4⟩, -, -, b5, b6, -⟩ := HC.out rfl
  clear HF HC
  cases ac with
  | true =>
    have hE : BE = 0 := by rw [HE.out]; rfl
    subst hE
    have hR := HR.out
    rw [if_pos rfl] at hR
    subst hR
    go_wp2
    obtain ⟨B, hgW⟩ := HX.out
    refine bodyPost_ret (results2 rfl _ _ (p + 1) ⟨me, true, te, cy, im, si, pa⟩ (.slice va im.length vc) rfl (box7 B)) rfl ?_
    obtain ⟨a1, a2, a3⟩ := HF2.out (by simp)
    rw [a1, a2, a3]
    exact ⟨rfl, gr7n hgW (by have := HP.out; omega)⟩
  | false =>
  obtain ⟨q, hq⟩ : ∃ q, w1.heap.size = q := ⟨_, rfl⟩
  go_upto_region 7 with fail
  have K1 := (hp_old (at_lt HY.out) (.cells #[.int .i64 me, .bool false, .int .i64 te, .int .i64 cy, .slice va im.length vc, .int .i64 (si + 1), .int .i64 pa] 24)).trans HY.out
  have K2 := (hp_old (at_lt HX.out.1) (.cells #[.int .i64 me, .bool false, .int .i64 te, .int .i64 cy, .slice va im.length vc, .int .i64 (si + 1), .int .i64 pa] 24)).trans HX.out.1
  have K3 := hp_new hq.symm (.cells #[.int .i64 me, .bool false, .int .i64 te, .int .i64 cy, .slice va im.length vc, .int .i64 (si + 1), .int .i64 pa] 24)
  have gX := gr_alloc HX.out.2 (.cells #[.int .i64 me, .bool false, .int .i64 te, .int .i64 cy, .slice va im.length vc, .int .i64 (si + 1), .int .i64 pa] 24)
  have hne : p + 1 ≠ q := by have := at_lt HX.out.1; omega
  have hqw : w.heap.size ≤ q := by rw [← hq]; exact HX.out.2.size
  have HQ := hidI (And.intro hne hqw)
  clear HX HY hq hne hqw i0 i1 i2 i3 i4 i5 i6 m0 m1 m2 m3 m4 m5 m6 f0 f1 f2 f3 f4 f5 f6
  generalize w1.alloc (.cells #[.int .i64 me, .bool false, .int .i64 te, .int .i64 cy, .slice va im.length vc, .int .i64 (si + 1), .int .i64 pa] 24) = X at *
  obtain ⟨i0, i1, i2, i3, i4, i5, i6⟩ := at7 K1
  obtain ⟨m0, m1, m2, m3, m4, m5, m6⟩ := at7 K2
  obtain ⟨f0, f1, f2, f3, f4, f5, f6⟩ := fz7 K2
  obtain ⟨q0, q1, q2, q3, q4, q5, q6⟩ := at7 K3
  obtain ⟨r0, r1, r2, r3, r4, r5, r6⟩ := fz7 K3
  have HX := hidI (And.intro K2 gX)
  have HY := hidI K3
  clear K1 K2 K3 gX
  by_cases k1 : si + 1 < pa
  · have hE : BE = 0 := by rw [HE.out, if_neg (by decide), if_pos k1]
    subst hE
    have hR := HR.out
    rw [if_neg (by decide), if_pos k1] at hR
    subst hR
    have e1 : (si + 1 == pa) = false := by simpa using (show ¬ si + 1 = pa by omega)
    go_wp2
    obtain ⟨B, hgW⟩ := HX.out
    refine bodyPost_ret (results2 rfl _ _ (p + 1) ⟨me, false, te, cy, im, si + 1, pa⟩ (.slice va im.length vc) rfl (box7 B)) rfl ?_
    obtain ⟨a1, a2, a3⟩ := HF2.out (by simp)
    rw [a1, a2, a3]
    exact ⟨rfl, gr7n hgW (by have := HP.out; omega)⟩
  have k2 : si + 1 = pa := by omega
  have e1 : (si + 1 == pa) = true := by simpa using k2
  have HR2 := hidI (show HS = ⟨me, true, te + 1, cy, im, 0, pa⟩ by have := HR.out; rw [if_neg (by decide), if_neg k1] at this; exact this)
  have HE2 := hidI (show BE = if te = 1000000 then 14 else 0 by have := HE.out; rw [if_neg (by decide), if_neg k1] at this; exact this)
  clear HE HR k2 k1
  by_cases k3 : te = 1000000
  · subst k3
    have hE : BE = 14 := by rw [HE2.out, if_pos rfl]
    subst hE
    go_wp2
    obtain ⟨B, hgW⟩ := HX.out
    refine bodyPost_ret (results2 rfl _ _ (p + 1) ⟨me, false, 1000000, cy, im, si, pa⟩ (.slice va im.length vc) rfl (box7 B)) rfl ?_
    obtain ⟨a1, a2, a3⟩ := HF1.out (by simp)
    rw [a1, a2, a3]
    exact ⟨rfl, gr7n hgW (by have := HP.out; omega)⟩
  have e3 : (te == 1000000) = false := by simpa using k3
  have hE : BE = 0 := by rw [HE2.out, if_neg k3]
  subst hE
  have hR := HR2.out
  subst hR
  have hY1 : (((X.setCell ⟨q, 1, none⟩ (.bool true)).setCell ⟨q, 2, none⟩ (.int .i64 (te + 1))).setCell ⟨q, 5, none⟩ (.int .i64 0)).heap[q]? = some (.cells #[.int .i64 me, .bool true, .int .i64 (te + 1), .int .i64 cy, .slice va im.length vc, .int .i64 0, .int .i64 pa] 24) := by
    have := at_set (at_set (at_set HY.out 1 (.bool true)) 2 (.int .i64 (te + 1))) 5 (.int .i64 0)
    simpa using this
  have hY2 := keptBut (gr_set (gr_set (gr_set (World.grownBy.refl X (some q)) 1 (.bool true)) 2 (.int .i64 (te + 1))) 5 (.int .i64 0)) HX.out.1 HQ.out.1
  have hY3 : w.grownBy (((X.setCell ⟨q, 1, none⟩ (.bool true)).setCell ⟨q, 2, none⟩ (.int .i64 (te + 1))).setCell ⟨q, 5, none⟩ (.int .i64 0)) none := gr_own (gr_own (gr_own HX.out.2 HQ.out.2 _ _) HQ.out.2 _ _) HQ.out.2 _ _
  clear HX HY
  go_upto_region 13 with fail
  clear i0 i1 i2 i3 i4 i5 i6 m0 m1 m2 m3 m4 m5 m6 f0 f1 f2 f3 f4 f5 f6 q0 q1 q2 q3 q4 q5 q6 r0 r1 r2 r3 r4 r5 r6
  generalize ((X.setCell ⟨q, 1, none⟩ (.bool true)).setCell ⟨q, 2, none⟩ (.int .i64 (te + 1))).setCell ⟨q, 5, none⟩ (.int .i64 0) = Y at *
  obtain ⟨i0, i1, i2, i3, i4, i5, i6⟩ := at7 hY1
  obtain ⟨m0, m1, m2, m3, m4, m5, m6⟩ := at7 hY2
  obtain ⟨f0, f1, f2, f3, f4, f5, f6⟩ := fz7 hY2
  have HX := hidI (And.intro hY2 hY3)
  clear hY1 hY2 hY3
  go_wp2
  obtain ⟨B, hgW⟩ := HX.out
  refine bodyPost_ret (results2 rfl _ _ (p + 1) ⟨me, true, te + 1, cy, im, 0, pa⟩ (.slice va im.length vc) rfl (box7 B)) rfl ?_
  obtain ⟨a1, a2, a3⟩ := HF2.out (by simp)
  rw [a1, a2, a3]
  exact ⟨rfl, gr7n hgW (by have := HP.out; omega)⟩
end Go.Proofs.Ytnklkhcldcljaaa
