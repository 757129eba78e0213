/- The document's steps of a side. -/
import Derived.Test.YtnklkhcldcljaaaG
namespace Go.Proofs.Ytnklkhcldcljaaa
open Go.RowKit
attribute [local go_sem ↓] Go.wp_at_zero Go.wp_at_succ
set_option linter.unusedVariables false
set_option linter.unusedSimpArgs false

def refW (L : Sd) (E : Nat) (v u : Value) : Value := if canS L then (if E = 0 then u else v) else .slice none 0 0
theorem st_all (L R : Sd) (E : Nat) (v u : Value) : (canS L = false → stS L E R = zeroS ∧ stE L E = 15 ∧ refW L E v u = .slice none 0 0) ∧ (canS L = true → E ≠ 0 → stS L E R = L ∧ stE L E = E ∧ refW L E v u = v) ∧ (canS L = true → E = 0 → stS L E R = R ∧ stE L E = 0 ∧ refW L E v u = u) := by
  unfold stS stE refW
  refine ⟨fun h => ?_, fun h hE => ?_, fun h hE => ?_⟩
  · rw [h]; exact ⟨rfl, rfl, rfl⟩
  · rw [h, if_neg hE]; exact ⟨rfl, rfl, if_neg hE⟩
  · subst hE; rw [h]; exact ⟨rfl, rfl, rfl⟩
set_option maxRecDepth 10000 in
set_option maxHeartbeats 1000000 in
theorem heeded_any (L : Sd) (B : Bt) (v u : Value) (w : World) (hv : rd w v L.im) (hu : rd w u B.im) : Calls Try.prog 18 #[sdV L v, btV B u] w fun e w' => RfE w w' e (stS L (beatE L B) (hearS L B)) (refW L (beatE L B) v u) (stE L (beatE L B)) := by
  have HF := hidI (st_all L (hearS L B) (beatE L B) v u)
  have HE : Hid (beatE L B = if canB B then (if B.fr = L.me then 6 else if oldB L B then 18 else 0) else 3) := hidI rfl
  have HO : Hid (oldB L B = if B.te = L.te then (if L.ac then decide (L.me = 0) else decide (B.cy < L.cy)) else decide (B.te < L.te)) := hidI rfl
  have HR : Hid (hearS L B = ⟨L.me, false, B.te, B.cy, B.im, 0, L.pa⟩) := hidI rfl
  have cS := fun (X : World) (k : rd X v L.im) => stand_any L v X k
  have cB := fun (X : World) (k : rd X u B.im) => tell_any B.fr B.te B.cy B.im u X k
  change ∀ X, _ → Calls _ _ _ _ (fun e w' => e = .returned (.bool (canB B)) ∧ X = w') at cB
  generalize stS L (beatE L B) (hearS L B) = RR at *
  generalize refW L (beatE L B) v u = VV at *
  generalize stE L (beatE L B) = EE at *
  generalize canS L = D at *
  generalize canB B = C at *
  generalize hearS L B = HS at *
  generalize beatE L B = BE at *
  generalize oldB L B = OB at *
  obtain ⟨p, hp⟩ : ∃ p, w.heap.size = p := ⟨_, rfl⟩
  obtain ⟨va, vc, rfl, _⟩ := id hv
  obtain ⟨ua, uc, rfl, _⟩ := id hu
  obtain ⟨me, ac, te, cy, im, si, pa⟩ := L
  obtain ⟨fr, bte, bcy, bim⟩ := B
  dsimp only [sdV, sdA, btV, btA] at *
  have B1 : (((w.alloc (.cells #[.int .i64 me, .bool ac, .int .i64 te, .int .i64 cy, .slice va im.length vc, .int .i64 si, .int .i64 pa] 24)).alloc (.cells #[.int .i64 fr, .int .i64 bte, .int .i64 bcy, .slice ua bim.length uc] 32)).alloc (.cells #[.int .i64 0, .bool false, .int .i64 0, .int .i64 0, .slice none 0 0, .int .i64 0, .int .i64 0] 24)).heap[p]? = some (.cells #[.int .i64 me, .bool ac, .int .i64 te, .int .i64 cy, .slice va im.length vc, .int .i64 si, .int .i64 pa] 24) := by
    rw [hp_old (by simp; omega), hp_old (by simp; omega)]; exact hp_new hp.symm _
  have B2 : (((w.alloc (.cells #[.int .i64 me, .bool ac, .int .i64 te, .int .i64 cy, .slice va im.length vc, .int .i64 si, .int .i64 pa] 24)).alloc (.cells #[.int .i64 fr, .int .i64 bte, .int .i64 bcy, .slice ua bim.length uc] 32)).alloc (.cells #[.int .i64 0, .bool false, .int .i64 0, .int .i64 0, .slice none 0 0, .int .i64 0, .int .i64 0] 24)).heap[p + 1]? = some (.cells #[.int .i64 fr, .int .i64 bte, .int .i64 bcy, .slice ua bim.length uc] 32) := by
    rw [hp_old (by simp; omega)]; exact hp_new (by simp; omega) _
  have B3 : (((w.alloc (.cells #[.int .i64 me, .bool ac, .int .i64 te, .int .i64 cy, .slice va im.length vc, .int .i64 si, .int .i64 pa] 24)).alloc (.cells #[.int .i64 fr, .int .i64 bte, .int .i64 bcy, .slice ua bim.length uc] 32)).alloc (.cells #[.int .i64 0, .bool false, .int .i64 0, .int .i64 0, .slice none 0 0, .int .i64 0, .int .i64 0] 24)).heap[p + 2]? = some (.cells #[.int .i64 0, .bool false, .int .i64 0, .int .i64 0, .slice none 0 0, .int .i64 0, .int .i64 0] 24) := hp_new (by simp; omega) _
  have hgW : w.grownBy (((w.alloc (.cells #[.int .i64 me, .bool ac, .int .i64 te, .int .i64 cy, .slice va im.length vc, .int .i64 si, .int .i64 pa] 24)).alloc (.cells #[.int .i64 fr, .int .i64 bte, .int .i64 bcy, .slice ua bim.length uc] 32)).alloc (.cells #[.int .i64 0, .bool false, .int .i64 0, .int .i64 0, .slice none 0 0, .int .i64 0, .int .i64 0] 24)) none := gr_alloc (gr_alloc (gr_alloc (World.grownBy.refl _ _) _) _) _
  have cS := cS _ (rd_grown hv hgW)
  go_enter Try.func18, Try.ntmps18
  go_upto_region 1 with fail
  have HP := hidI hp
  clear hp
  generalize ((w.alloc (.cells #[.int .i64 me, .bool ac, .int .i64 te, .int .i64 cy, .slice va im.length vc, .int .i64 si, .int .i64 pa] 24)).alloc (.cells #[.int .i64 fr, .int .i64 bte, .int .i64 bcy, .slice ua bim.length uc] 32)).alloc (.cells #[.int .i64 0, .bool false, .int .i64 0, .int .i64 0, .slice none 0 0, .int .i64 0, .int .i64 0] 24) = W at *
  obtain ⟨i0, i1, i2, i3, i4, i5, i6⟩ := at7 B1
  go_wp2_with fail
  refine cS.mono ?_
  rintro e w1 ⟨rfl, g1⟩
  clear i0 i1 i2 i3 i4 i5 i6 cS
  have B1 := kept g1 B1
  have B2 := kept g1 B2
  have B3 := kept g1 B3
  have hgW := grown_join hgW g1 (.inl rfl)
  have cB := cB w1 (rd_grown hu hgW)
  obtain ⟨i0, i1, i2, i3, i4, i5, i6⟩ := at7 B1
  obtain ⟨j0, j1, j2, j3⟩ := at4 B2
  obtain ⟨m0, m1, m2, m3, m4, m5, m6⟩ := at7 B3
  obtain ⟨f0, f1, f2, f3, f4, f5, f6⟩ := fz7 B3
  have HX := hidI (And.intro B3 hgW)
  clear B1 B2 B3 hgW hv hu g1
  cases D with
  | false =>
    go_wp2
    obtain ⟨B, hgW⟩ := HX.out
    refine bodyPost_ret (results2 rfl _ _ (p + 2) zeroS (.slice none 0 0) rfl (box7 B)) rfl ?_
    obtain ⟨a1, a2, a3⟩ := HF.out.1 (by simp)
    rw [a1, a2, a3]
    exact ⟨rfl, gr7n hgW (by have := HP.out; omega)⟩
  | true =>
  have HF1 := hidI (HF.out.2.1 rfl)
  have HF2 := hidI (HF.out.2.2 rfl)
  clear HF
  go_wp2_with fail
  refine cB.mono ?_
  rintro e w' ⟨rfl, rfl⟩
  cases C with
  | false =>
    have hE : BE = 3 := by rw [HE.out]; rfl
    subst hE
    go_wp2
    obtain ⟨B, hgW⟩ := HX.out
    refine bodyPost_ret (results2 rfl _ _ (p + 2) ⟨me, ac, te, cy, im, si, pa⟩ (.slice va im.length vc) rfl (box7 B)) rfl ?_
    obtain ⟨a1, a2, a3⟩ := HF1.out (by simp)
    rw [a1, a2, a3]
    exact ⟨rfl, gr7n hgW (by have := HP.out; omega)⟩
  | true =>
  simp only [if_true] at HE
  by_cases k1 : fr = me
  · subst k1
    have hE : BE = 6 := by rw [HE.out, if_pos rfl]
    subst hE
    go_wp2
    obtain ⟨B, hgW⟩ := HX.out
    refine bodyPost_ret (results2 rfl _ _ (p + 2) ⟨fr, ac, te, cy, im, si, pa⟩ (.slice va im.length vc) rfl (box7 B)) rfl ?_
    obtain ⟨a1, a2, a3⟩ := HF1.out (by simp)
    rw [a1, a2, a3]
    exact ⟨rfl, gr7n hgW (by have := HP.out; omega)⟩
  rw [if_neg k1] at HE
  have e1 : (fr == me) = false := by simpa using k1
  by_cases k2 : bte < te
  · have hE : BE = 18 := by
      have ho := HO.out
      rw [if_neg (by omega), decide_eq_true k2] at ho
      rw [HE.out, ho]; rfl
    subst hE
    go_wp2
    obtain ⟨B, hgW⟩ := HX.out
    refine bodyPost_ret (results2 rfl _ _ (p + 2) ⟨me, ac, te, cy, im, si, pa⟩ (.slice va im.length vc) rfl (box7 B)) rfl ?_
    obtain ⟨a1, a2, a3⟩ := HF1.out (by simp)
    rw [a1, a2, a3]
    exact ⟨rfl, gr7n hgW (by have := HP.out; omega)⟩
  by_cases k3 : bte = te
  case neg =>
    have e3 : (bte == te) = false := by simpa using k3
    have hE : BE = 0 := by
      have ho := HO.out
      rw [if_neg k3, decide_eq_false k2] at ho
      rw [HE.out, ho]; rfl
    subst hE
    have hR := HR.out
    subst hR
    go_wp2
    obtain ⟨B, hgW⟩ := HX.out
    refine bodyPost_ret (results2 rfl _ _ (p + 2) ⟨me, false, bte, bcy, bim, 0, pa⟩ (.slice ua bim.length uc) rfl (box7 B)) rfl ?_
    obtain ⟨a1, a2, a3⟩ := HF2.out (by simp)
    rw [a1, a2, a3]
    exact ⟨rfl, gr7n hgW (by have := HP.out; omega)⟩
  subst k3
  have ho := HO.out
  rw [if_pos rfl] at ho
  clear HO
  have HO := hidI ho
  clear ho
  cases ac with
  | true =>
    by_cases k4 : me = 0
    · subst k4
      have hE : BE = 18 := by rw [HE.out, HO.out]; rfl
      subst hE
      go_wp2
      obtain ⟨B, hgW⟩ := HX.out
      refine bodyPost_ret (results2 rfl _ _ (p + 2) ⟨0, true, bte, cy, im, si, pa⟩ (.slice va im.length vc) rfl (box7 B)) rfl ?_
      obtain ⟨a1, a2, a3⟩ := HF1.out (by simp)
      rw [a1, a2, a3]
      exact ⟨rfl, gr7n hgW (by have := HP.out; omega)⟩
    · have e4 : (me == 0) = false := by simpa using k4
      have hE : BE = 0 := by rw [HE.out, HO.out, if_pos rfl, decide_eq_false k4]; rfl
      subst hE
      have hR := HR.out
      subst hR
      go_wp2
      obtain ⟨B, hgW⟩ := HX.out
      refine bodyPost_ret (results2 rfl _ _ (p + 2) ⟨me, false, bte, bcy, bim, 0, pa⟩ (.slice ua bim.length uc) rfl (box7 B)) rfl ?_
      obtain ⟨a1, a2, a3⟩ := HF2.out (by simp)
      rw [a1, a2, a3]
      exact ⟨rfl, gr7n hgW (by have := HP.out; omega)⟩
  | false =>
    by_cases k4 : bcy < cy
    · have hE : BE = 18 := by
        have ho := HO.out
        rw [if_neg (by decide), decide_eq_true k4] at ho
        rw [HE.out, ho]; rfl
      subst hE
      go_wp2
      obtain ⟨B, hgW⟩ := HX.out
      refine bodyPost_ret (results2 rfl _ _ (p + 2) ⟨me, false, bte, cy, im, si, pa⟩ (.slice va im.length vc) rfl (box7 B)) rfl ?_
      obtain ⟨a1, a2, a3⟩ := HF1.out (by simp)
      rw [a1, a2, a3]
      exact ⟨rfl, gr7n hgW (by have := HP.out; omega)⟩
    · have hE : BE = 0 := by
        have ho := HO.out
        rw [if_neg (by decide), decide_eq_false k4] at ho
        rw [HE.out, ho]; rfl
      subst hE
      have hR := HR.out
      subst hR
      go_wp2
      obtain ⟨B, hgW⟩ := HX.out
      refine bodyPost_ret (results2 rfl _ _ (p + 2) ⟨me, false, bte, bcy, bim, 0, pa⟩ (.slice ua bim.length uc) rfl (box7 B)) rfl ?_
      obtain ⟨a1, a2, a3⟩ := HF2.out (by simp)
      rw [a1, a2, a3]
      exact ⟨rfl, gr7n hgW (by have := HP.out; omega)⟩
set_option maxRecDepth 10000 in
set_option maxHeartbeats 1000000 in
theorem cycled_any (L : Sd) (l : List Int) (v u : Value) (w : World) (hv : rd w v L.im) (hu : rd w u l) : Calls Try.prog 24 #[sdV L v, u] w fun e w' => RfE w w' e (stS L (doneE L l.length) (doneS L l)) (refW L (doneE L l.length) v u) (stE L (doneE L l.length)) := by
  have HF := hidI (st_all L (doneS L l) (doneE L l.length) v u)
  have HE : Hid (doneE L l.length = if L.ac then (if l.length ≤ 20000 then (if L.cy = 999999999 then 14 else 0) else 4) else 18) := hidI rfl
  have HR : Hid (doneS L l = ⟨L.me, L.ac, L.te, L.cy + 1, l, L.si, L.pa⟩) := hidI rfl
  have HC := hidI (fun h => (canS_parts (L := L) h).2.2.2.1)
  have cS := fun (X : World) (k : rd X v L.im) => stand_any L v X k
  generalize stS L (doneE L l.length) (doneS L l) = RR at *
  generalize refW L (doneE L l.length) v u = VV at *
  generalize stE L (doneE L l.length) = EE at *
  generalize canS L = D at *
  generalize doneS L l = HS at *
  generalize doneE L l.length = BE at *
  obtain ⟨p, hp⟩ : ∃ p, w.heap.size = p := ⟨_, rfl⟩
  obtain ⟨va, vc, rfl, _⟩ := id hv
  obtain ⟨ua, uc, rfl, _⟩ := id hu
  obtain ⟨me, ac, te, cy, im, si, pa⟩ := L
  dsimp only [sdV, sdA, btV, btA] at *
  have B1 : ((w.alloc (.cells #[.int .i64 me, .bool ac, .int .i64 te, .int .i64 cy, .slice va im.length vc, .int .i64 si, .int .i64 pa] 24)).alloc (.cells #[.int .i64 0, .bool false, .int .i64 0, .int .i64 0, .slice none 0 0, .int .i64 0, .int .i64 0] 24)).heap[p]? = some (.cells #[.int .i64 me, .bool ac, .int .i64 te, .int .i64 cy, .slice va im.length vc, .int .i64 si, .int .i64 pa] 24) := by
    rw [hp_old (by simp; omega)]; exact hp_new hp.symm _
  have B2 : ((w.alloc (.cells #[.int .i64 me, .bool ac, .int .i64 te, .int .i64 cy, .slice va im.length vc, .int .i64 si, .int .i64 pa] 24)).alloc (.cells #[.int .i64 0, .bool false, .int .i64 0, .int .i64 0, .slice none 0 0, .int .i64 0, .int .i64 0] 24)).heap[p + 1]? = some (.cells #[.int .i64 0, .bool false, .int .i64 0, .int .i64 0, .slice none 0 0, .int .i64 0, .int .i64 0] 24) := hp_new (by simp; omega) _
  have hgW : w.grownBy ((w.alloc (.cells #[.int .i64 me, .bool ac, .int .i64 te, .int .i64 cy, .slice va im.length vc, .int .i64 si, .int .i64 pa] 24)).alloc (.cells #[.int .i64 0, .bool false, .int .i64 0, .int .i64 0, .slice none 0 0, .int .i64 0, .int .i64 0] 24)) none := gr_alloc (gr_alloc (World.grownBy.refl _ _) _) _
  have cS := cS _ (rd_grown hv hgW)
  go_enter Try.func24, Try.ntmps24
  go_upto_region 1 with fail
  have HP := hidI hp
  clear hp
  generalize (w.alloc (.cells #[.int .i64 me, .bool ac, .int .i64 te, .int .i64 cy, .slice va im.length vc, .int .i64 si, .int .i64 pa] 24)).alloc (.cells #[.int .i64 0, .bool false, .int .i64 0, .int .i64 0, .slice none 0 0, .int .i64 0, .int .i64 0] 24) = W at *
  obtain ⟨i0, i1, i2, i3, i4, i5, i6⟩ := at7 B1
  go_wp2_with fail
  refine cS.mono ?_
  rintro e w1 ⟨rfl, g1⟩
  clear i0 i1 i2 i3 i4 i5 i6 cS
  have B1 := kept g1 B1
  have B2 := kept g1 B2
  have hgW := grown_join hgW g1 (.inl rfl)
  obtain ⟨i0, i1, i2, i3, i4, i5, i6⟩ := at7 B1
  obtain ⟨g0, g1', g2, g3, g4, g5, g6⟩ := fz7 B1
  obtain ⟨m0, m1, m2, m3, m4, m5, m6⟩ := at7 B2
  obtain ⟨f0, f1, f2, f3, f4, f5, f6⟩ := fz7 B2
  have HX := hidI (And.intro B2 hgW)
  have HY := hidI B1
  clear B1 B2 hgW hv hu g1
  cases D with
  | false =>
    go_wp2
    obtain ⟨B, hgW⟩ := HX.out
    refine bodyPost_ret (results2 rfl _ _ (p + 1) zeroS (.slice none 0 0) rfl (box7 B)) rfl ?_
    obtain ⟨a1, a2, a3⟩ := HF.out.1 (by simp)
    rw [a1, a2, a3]
    exact ⟨rfl, gr7n hgW (by have := HP.out; omega)⟩
  | true =>
  have HF1 := hidI (HF.out.2.1 rfl)
  have HF2 := hidI (HF.out.2.2 rfl)
  obtain ⟨cy1, cy2⟩ := HC.out rfl
  clear HF HC
  cases ac with
  | false =>
    have hE : BE = 18 := by rw [HE.out]; rfl
    subst hE
    go_wp2
    obtain ⟨B, hgW⟩ := HX.out
    refine bodyPost_ret (results2 rfl _ _ (p + 1) ⟨me, false, te, cy, im, si, pa⟩ (.slice va im.length vc) rfl (box7 B)) rfl ?_
    obtain ⟨a1, a2, a3⟩ := HF1.out (by simp)
    rw [a1, a2, a3]
    exact ⟨rfl, gr7n hgW (by have := HP.out; omega)⟩
  | true =>
  by_cases k1 : l.length ≤ 20000
  case neg =>
    have k1' : (20000 : Int) < (l.length : Int) := by omega
    have hE : BE = 4 := by rw [HE.out, if_pos rfl, if_neg k1]
    subst hE
    go_wp2
    obtain ⟨B, hgW⟩ := HX.out
    refine bodyPost_ret (results2 rfl _ _ (p + 1) ⟨me, true, te, cy, im, si, pa⟩ (.slice va im.length vc) rfl (box7 B)) rfl ?_
    obtain ⟨a1, a2, a3⟩ := HF1.out (by simp)
    rw [a1, a2, a3]
    exact ⟨rfl, gr7n hgW (by have := HP.out; omega)⟩
  have k1' : ¬ (20000 : Int) < (l.length : Int) := by omega
  by_cases k2 : cy = 999999999
  · subst k2
    have hE : BE = 14 := by rw [HE.out, if_pos rfl, if_pos k1, if_pos rfl]
    subst hE
    go_wp2
    obtain ⟨B, hgW⟩ := HX.out
    refine bodyPost_ret (results2 rfl _ _ (p + 1) ⟨me, true, te, 999999999, im, si, pa⟩ (.slice va im.length vc) rfl (box7 B)) rfl ?_
    obtain ⟨a1, a2, a3⟩ := HF1.out (by simp)
    rw [a1, a2, a3]
    exact ⟨rfl, gr7n hgW (by have := HP.out; omega)⟩
  have k2' : (cy == 999999999) = false := by simpa using k2
  have hE : BE = 0 := by rw [HE.out, if_pos rfl, if_pos k1, if_neg k2]
  subst hE
  have hR := HR.out
  subst hR
  have HX1 : ((w1.setCell ⟨p, 3, none⟩ (.int .i64 (cy + 1))).setCell ⟨p, 4, none⟩ (.slice ua l.length uc)).heap[p]? = some (.cells #[.int .i64 me, .bool true, .int .i64 te, .int .i64 (cy + 1), .slice ua l.length uc, .int .i64 si, .int .i64 pa] 24) := by
    have := at_set (at_set HY.out 3 (.int .i64 (cy + 1))) 4 (.slice ua l.length uc)
    simpa using this
  have HX2 := keptBut (gr_set (gr_set (World.grownBy.refl w1 (some p)) 3 (.int .i64 (cy + 1))) 4 (.slice ua l.length uc)) HX.out.1 (by omega)
  have HX3 : w.grownBy ((w1.setCell ⟨p, 3, none⟩ (.int .i64 (cy + 1))).setCell ⟨p, 4, none⟩ (.slice ua l.length uc)) none := gr_own (gr_own HX.out.2 (by rw [HP.out]; exact Nat.le_refl _) _ _) (by rw [HP.out]; exact Nat.le_refl _) _ _
  clear HX
  go_upto_region 11 with fail
  clear i0 i1 i2 i3 i4 i5 i6 g0 g1' g2 g3 g4 g5 g6 m0 m1 m2 m3 m4 m5 m6 f0 f1 f2 f3 f4 f5 f6
  generalize (w1.setCell ⟨p, 3, none⟩ (.int .i64 (cy + 1))).setCell ⟨p, 4, none⟩ (.slice ua l.length uc) = X at *
  obtain ⟨i0, i1, i2, i3, i4, i5, i6⟩ := at7 HX1
  obtain ⟨m0, m1, m2, m3, m4, m5, m6⟩ := at7 HX2
  obtain ⟨f0, f1, f2, f3, f4, f5, f6⟩ := fz7 HX2
  have HX := hidI (And.intro HX2 HX3)
  clear HX1 HX2 HX3
  go_wp2
  obtain ⟨B, hgW⟩ := HX.out
  refine bodyPost_ret (results2 rfl _ _ (p + 1) ⟨me, true, te, cy + 1, l, si, pa⟩ (.slice ua l.length uc) rfl (box7 B)) rfl ?_
  obtain ⟨a1, a2, a3⟩ := HF2.out (by simp)
  rw [a1, a2, a3]
  exact ⟨rfl, gr7n hgW (by have := HP.out; omega)⟩
def RbE (w w' : World) (e : Ending) (R : Bt) (v : Value) (E : Nat) : Prop := e = .returned (.tuple #[btV R v, .int .i64 (E : Int)]) ∧ w.grownBy w' none
theorem send_all (L : Sd) (v : Value) : (canS L = false → sendB L = zeroB ∧ stE L (sendE L) = 15 ∧ refV (stE L (sendE L)) v = .slice none 0 0) ∧ (canS L = true → L.ac = false → sendB L = zeroB ∧ stE L (sendE L) = 18 ∧ refV (stE L (sendE L)) v = .slice none 0 0) ∧ (canS L = true → L.ac = true → sendB L = ⟨L.me, L.te, L.cy, L.im⟩ ∧ stE L (sendE L) = 0 ∧ refV (stE L (sendE L)) v = v) := by
  unfold sendB stE refV sendE
  refine ⟨fun h => ?_, fun h hE => ?_, fun h hE => ?_⟩
  · rw [h]; exact ⟨rfl, rfl, rfl⟩
  · rw [h, hE]; exact ⟨rfl, rfl, rfl⟩
  · rw [h, hE]; exact ⟨rfl, rfl, rfl⟩
set_option maxRecDepth 10000 in
set_option maxHeartbeats 1000000 in
theorem sent_any (L : Sd) (v : Value) (w : World) (hv : rd w v L.im) : Calls Try.prog 13 #[sdV L v] w fun e w' => RbE w w' e (sendB L) (refV (stE L (sendE L)) v) (stE L (sendE L)) := by
  have HF := hidI (send_all L v)
  have cS := fun (X : World) (k : rd X v L.im) => stand_any L v X k
  generalize sendB L = RR at *
  generalize refV (stE L (sendE L)) v = VV at *
  generalize stE L (sendE L) = EE at *
  generalize canS L = D at *
  obtain ⟨p, hp⟩ : ∃ p, w.heap.size = p := ⟨_, rfl⟩
  obtain ⟨va, vc, rfl, _⟩ := id hv
  obtain ⟨me, ac, te, cy, im, si, pa⟩ := L
  dsimp only [sdV, sdA, btV, btA] at *
  have B1 : ((w.alloc (.cells #[.int .i64 me, .bool ac, .int .i64 te, .int .i64 cy, .slice va im.length vc, .int .i64 si, .int .i64 pa] 24)).alloc (.cells #[.int .i64 0, .int .i64 0, .int .i64 0, .slice none 0 0] 32)).heap[p]? = some (.cells #[.int .i64 me, .bool ac, .int .i64 te, .int .i64 cy, .slice va im.length vc, .int .i64 si, .int .i64 pa] 24) := by
    rw [hp_old (by simp; omega)]; exact hp_new hp.symm _
  have B2 : ((w.alloc (.cells #[.int .i64 me, .bool ac, .int .i64 te, .int .i64 cy, .slice va im.length vc, .int .i64 si, .int .i64 pa] 24)).alloc (.cells #[.int .i64 0, .int .i64 0, .int .i64 0, .slice none 0 0] 32)).heap[p + 1]? = some (.cells #[.int .i64 0, .int .i64 0, .int .i64 0, .slice none 0 0] 32) := hp_new (by simp; omega) _
  have hgW : w.grownBy ((w.alloc (.cells #[.int .i64 me, .bool ac, .int .i64 te, .int .i64 cy, .slice va im.length vc, .int .i64 si, .int .i64 pa] 24)).alloc (.cells #[.int .i64 0, .int .i64 0, .int .i64 0, .slice none 0 0] 32)) none := gr_alloc (gr_alloc (World.grownBy.refl _ _) _) _
  have cS := cS _ (rd_grown hv hgW)
  go_enter Try.func13, Try.ntmps13
  go_upto_region 1 with fail
  have HP := hidI hp
  clear hp
  generalize (w.alloc (.cells #[.int .i64 me, .bool ac, .int .i64 te, .int .i64 cy, .slice va im.length vc, .int .i64 si, .int .i64 pa] 24)).alloc (.cells #[.int .i64 0, .int .i64 0, .int .i64 0, .slice none 0 0] 32) = W at *
  obtain ⟨i0, i1, i2, i3, i4, i5, i6⟩ := at7 B1
  go_wp2_with fail
  refine cS.mono ?_
  rintro e w1 ⟨rfl, g1⟩
  clear i0 i1 i2 i3 i4 i5 i6 cS
  have B1 := kept g1 B1
  have B2 := kept g1 B2
  have hgW := grown_join hgW g1 (.inl rfl)
  obtain ⟨i0, i1, i2, i3, i4, i5, i6⟩ := at7 B1
  obtain ⟨m0, m1, m2, m3⟩ := at4 B2
  obtain ⟨f0, f1, f2, f3⟩ := fz4 B2
  have HX := hidI (And.intro B2 hgW)
  clear B1 B2 hgW hv g1
  cases D with
  | false =>
    go_wp2
    obtain ⟨B, hgW⟩ := HX.out
    refine bodyPost_ret (results3 rfl _ _ (p + 1) zeroB (.slice none 0 0) rfl (box4 B)) rfl ?_
    obtain ⟨a1, a2, a3⟩ := HF.out.1 (by simp)
    rw [a1, a2, a3]
    exact ⟨rfl, gr4n hgW (by have := HP.out; omega)⟩
  | true =>
  have HF1 := hidI (HF.out.2.1 rfl)
  have HF2 := hidI (HF.out.2.2 rfl)
  clear HF
  cases ac with
  | false =>
    go_wp2
    obtain ⟨B, hgW⟩ := HX.out
    refine bodyPost_ret (results3 rfl _ _ (p + 1) zeroB (.slice none 0 0) rfl (box4 B)) rfl ?_
    obtain ⟨a1, a2, a3⟩ := HF1.out (by simp)
    rw [a1, a2, a3]
    exact ⟨rfl, gr4n hgW (by have := HP.out; omega)⟩
  | true =>
    go_wp2
    obtain ⟨B, hgW⟩ := HX.out
    refine bodyPost_ret (results3 rfl _ _ (p + 1) ⟨me, te, cy, im⟩ (.slice va im.length vc) rfl (box4 B)) rfl ?_
    obtain ⟨a1, a2, a3⟩ := HF2.out (by simp)
    rw [a1, a2, a3]
    exact ⟨rfl, gr4n hgW (by have := HP.out; omega)⟩
end Go.Proofs.Ytnklkhcldcljaaa
