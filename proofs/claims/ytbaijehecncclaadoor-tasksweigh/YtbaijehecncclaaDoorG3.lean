/- The document's answer: Bound. -/
import Derived.Test.YtbaijehecncclaaDoorG1
import Derived.Test.YtbaijehecncclaaDoorF1
import Derived.Test.YtbaijehecncclaaDoorP2
namespace Go.Proofs.YtbaijehecncclaaDoor
open Go.RowKit
attribute [local go_sem ↓] Go.wp_at_zero Go.wp_at_succ
set_option linter.unusedVariables false
set_option linter.unusedSimpArgs false

set_option maxRecDepth 10000 in
set_option maxHeartbeats 4000000 in
theorem rbound_any (tv bv : Value) (t : List Ins) (bds : List Int) (w : World) (hT : TxtAt w tv t) (hb : rd w bv bds) (hl : t.length ≤ 100000) (hlp : LpOk t ∧ Pairs t) (hB : Bs t)
    (hs : ∀ k, k < t.length → 1 ≤ stepS bds (nth t k) ∧ stepS bds (nth t k) ≤ 1000000001) (hr : ∀ k, k < t.length → (nth t k).d = 17 → 0 ≤ (nth t k).a ∧ (nth t k).a < bds.length) (hbl : bds.length ≤ 1000) :
    Calls Tryd.prog 14 #[tv, bv] w fun e w' => e = .returned (.int .i64 (sumT bds t)) ∧ w.grownBy w' none := by
  have cL := loops_any tv t w hT hl
  obtain ⟨ta, tcap, rfl, hT⟩ := hT
  obtain ⟨ba, bcap, rfl, hbd⟩ := hb
  have HT : Hid (t = [] ∨ ∃ b off, ta = some ⟨b, off, none⟩ ∧ ∀ i, i < t.length →
    w.cell? ⟨b, off + i * 4, none⟩ = some (.int .i64 (nth t i).d) ∧ w.cell? ⟨b, off + i * 4 + 1, none⟩ = some (.int .i64 (nth t i).a) ∧
    w.cell? ⟨b, off + i * 4 + 2, none⟩ = some (.int .i64 (nth t i).b) ∧ w.cell? ⟨b, off + i * 4 + 3, none⟩ = some (.int .i64 (nth t i).c)) := hT
  have HBD : Hid (bds = [] ∨ ∃ b off, ba = some ⟨b, off, none⟩ ∧ ∀ i, i < bds.length → w.cell? ⟨b, off + i, none⟩ = some (.int .i64 (bds.getD i 0))) := hbd
  have HB : Hid (Bs t) := hB
  have HS1 : Hid (∀ k, 1 ≤ (fun k => stepS bds (nth t k)) k) := fun k => by
    by_cases hk : k < t.length
    · exact (hs k hk).1
    · show 1 ≤ stepS bds (nth t k)
      rw [nth_of_ge (by omega)]; simp [stepS]
  have HS2 : Hid (∀ k, k < t.length → (fun k => stepS bds (nth t k)) k ≤ 1000000001) := fun k hk => (hs k hk).2
  have HR : Hid (∀ k, k < t.length → (nth t k).d = 17 → 0 ≤ (nth t k).a ∧ (nth t k).a < bds.length) := hr
  have HLP : Hid (LpOk t ∧ Pairs t) := hlp
  clear hT hbd hs hr hlp hB
  obtain ⟨n, hn⟩ : ∃ n, t.length = n := ⟨_, rfl⟩
  have HN : Hid (t.length = n) := hn
  rw [hn] at hl cL
  rw [hn]
  clear hn
  go_enter Tryd.func14, Tryd.ntmps14
  go_wp2_with fail
  refine cL.mono ?_
  rintro e w1 ⟨hgw1, hpost⟩
  clear cL
  rcases hpost with ⟨_, _, lv, rfl, hLps⟩ | ⟨hno, _⟩
  case inr => exact absurd HLP.out hno
  obtain ⟨la, lcap, rfl, hla⟩ := hLps
  have HLL : Hid (ents t t.length = [] ∨ ∃ b off, la = some ⟨b, off, none⟩ ∧ ∀ j, j < (ents t t.length).length →
    w1.cell? ⟨b, off + j * 4, none⟩ = some (.int .i64 ((((ents t t.length).getD j 0) : Nat) + 1 : Int)) ∧ w1.cell? ⟨b, off + j * 4 + 1, none⟩ = some (.int .i64 (rnd t ((ents t t.length).getD j 0 + 1))) ∧
    w1.cell? ⟨b, off + j * 4 + 2, none⟩ = some (.int .i64 (nth t ((ents t t.length).getD j 0)).a) ∧ w1.cell? ⟨b, off + j * 4 + 3, none⟩ = some (.int .i64 (nth t ((ents t t.length).getD j 0)).b)) := hla
  have hel := ents_len t t.length
  obtain ⟨m, hm⟩ : ∃ m, (ents t t.length).length = m := ⟨_, rfl⟩
  have HML : Hid ((ents t t.length).length = m) := hm
  have HW1 : Hid (w.grownBy w1 none) := hgw1
  rw [hm]
  rw [hm, HN.out] at hel
  clear hm hla
  go_wp2_with fail
  go_loopg [7, 8] n (fun gk s7 s8 wx => ∃ (k : Nat) (sm : Int), s8 = .int .i64 k ∧ k ≤ n ∧ gk = n - k ∧ s7 = .int .i64 sm ∧ sumP t (fun k => stepS bds (nth t k)) k = sm ∧ 0 ≤ sm ∧ sm ≤ 1000000000 ∧ w1.grownBy wx none)
  case atStart => exact ⟨0, 0, rfl, Nat.zero_le _, by omega, rfl, rfl, by omega, by omega, World.grownBy.refl _ _⟩
  case round =>
    obtain ⟨k, sm, rfl, hk, hgk, rfl, hsm, sm1, sm2, hgr⟩ := hrel
    have HG : Hid (gk = n - k) := hgk
    have HSM : Hid (sumP t (fun k => stepS bds (nth t k)) k = sm) := hsm
    clear hgk hsm
    by_cases hlt : k < n
    · have hkl : k < t.length := by rw [HN.out]; exact hlt
      rcases HT.out with h | ⟨b', off, rfl, hc⟩
      · subst h; simp at hkl
      obtain ⟨q0, q1, q2, q3⟩ := hc k hkl
      have q0 := (HW1.out.trans hgr).cell q0 (by simp)
      have q1 := (HW1.out.trans hgr).cell q1 (by simp)
      have q2 := (HW1.out.trans hgr).cell q2 (by simp)
      clear hc q3
      have HRK := HR.out k hkl
      obtain ⟨st, hst⟩ : ∃ st, stepS bds (nth t k) = st := ⟨_, rfl⟩
      have i1 : (0 : Int) ≤ (k : Int) := by omega
      have i2 : (k : Int) < (n : Int) := by omega
      by_cases h16 : (nth t k).d = 16
      · have hst2 : (nth t k).b = st := by rw [← hst]; simp [stepS, h16]
        rw [h16] at q0
        rw [hst2] at q2
        clear h16 hst2 HRK
        generalize (nth t k).a = a at q1
        have hF1 := HS1.out k
        have hF2 := HS2.out k hkl
        rw [hst] at hF1 hF2
        have HST : Hid (stepS bds (nth t k) = st) := hst
        clear hst
        obtain ⟨wl, hwl⟩ : ∃ wl, wl = wr := ⟨_, rfl⟩
        subst hwl
        have HGW : Hid (w1.grownBy wl none) := hgr
        go_wp2_with fail
        go_loopg [9, 10] m (fun gk s9 s10 wx => ∃ j : Nat, s10 = .int .i64 j ∧ j ≤ m ∧ gk = m - j ∧ s9 = .int .i64 (refJ t k st j) ∧ w1.grownBy wx none)
        case atStart => exact ⟨0, rfl, Nat.zero_le _, by omega, by rw [refJ_zero], hgr⟩
        case round =>
          obtain ⟨j, rfl, hj, hgj, rfl, hg5⟩ := hrel
          have HGJ : Hid (_ = m - j) := hgj
          clear hgj
          obtain ⟨rj1, rj2⟩ := refJ_bd HB.out k st hF1 hF2 j (by rw [HML.out]; exact hj)
          by_cases hjm : j < m
          · have hjl : j < (ents t t.length).length := by rw [HML.out]; exact hjm
            rcases HLL.out with h | ⟨bl, ol, rfl, hcl⟩
            · rw [h] at hjl; simp at hjl
            obtain ⟨y0, y1, y2, y3⟩ := hcl j hjl
            have y0 := hg5.cell y0 (by simp)
            have y1 := hg5.cell y1 (by simp)
            have y2 := hg5.cell y2 (by simp)
            have y3 := hg5.cell y3 (by simp)
            have eg : (ents t t.length).getD j 0 = (ents t t.length)[j] := by simp [List.getD, hjl]
            rw [eg] at y0 y1 y2 y3
            have HSU : Hid (refJ t k st (j + 1) = mulR t k (refJ t k st j) (ents t t.length)[j]) := refJ_succ t k st j hjl
            have hEe : isE t (ents t t.length)[j] = true := (mem_ents.1 (List.getElem_mem hjl)).2
            have hbe := HB.out _ hEe
            have hin := inL_loop (k := k) hEe
            have HMU : Hid (mulR t k (refJ t k st j) (ents t t.length)[j] = if inL t ((ents t t.length)[j] + 1) k && decide (refJ t k st j ≤ 1000000000) then refJ t k st j * (nth t (ents t t.length)[j]).b else refJ t k st j) := (rfl : mulR t k (refJ t k st j) (ents t t.length)[j] = _)
            rw [hin] at HMU
            clear hcl hin eg
            generalize (ents t t.length)[j] = e at *
            have ec : (((e + 1 : Nat)) : Int) = (e : Int) + 1 := by simp
            rw [ec] at HMU
            generalize ((rnd t (e + 1) : Nat) : Int) = To at y1 HMU
            generalize ((e : Nat) : Int) + 1 = Fr at y0 HMU
            generalize (nth t e).a = Cn at y2
            generalize (nth t e).b = Tm at y3 HMU hbe
            generalize refJ t k st j = x at *
            have cI : ∀ w, Calls Tryd.prog 12 #[.agg #[.int .i64 Fr, .int .i64 To, .int .i64 Cn, .int .i64 Tm], .int .i64 k] w fun e w' => e = .returned (.bool (decide (Fr ≤ (k : Int)) && decide ((k : Int) ≤ To))) ∧ w.grownBy w' none := fun w => inLoop_any Fr To Cn Tm k w
            generalize (decide (Fr ≤ (k : Int)) && decide ((k : Int) ≤ To)) = il at *
            have j1 : (0 : Int) ≤ (j : Int) := by omega
            have j2 : (j : Int) < (m : Int) := by omega
            go_wp2_with fail
            refine (cI _).mono ?_
            rintro e1 w5 ⟨rfl, hg6⟩
            have y3' := hg6.cell y3 (by simp)
            have hg7 := hg5.trans hg6
            clear y0 y1 y2 y3
            cases il with
            | false =>
              go_wp2_with fail
              have hgl := HGJ.out
              go_roundg (m - (j + 1))
              all_goals first | omega | exact ⟨j + 1, by go_num, by omega, by omega, by rw [HSU.out, HMU.out]; simp, hg7⟩
            | true =>
              by_cases hx : x ≤ 1000000000
              · have dx : decide (x ≤ 1000000000) = true := by simpa using hx
                have h3 : x * Tm ≤ 1000000000 * Tm := Int.mul_le_mul_of_nonneg_right hx (by omega)
                have h4 : (1000000000 : Int) * Tm ≤ 1000000000 * 10000 := Int.mul_le_mul_of_nonneg_left hbe.2 (by omega)
                have h5 := (mul_ge rj1 hbe.1).1
                have w1' : wrap64 (x * Tm) = x * Tm := by unfold wrap64; omega
                have w2' : IntKind.i64.wrap (x * Tm) = x * Tm := by rw [IntWalk.i64_left]; exact w1'
                clear h3 h4 h5
                go_wp2_with fail
                have hgl := HGJ.out
                go_roundg (m - (j + 1))
                all_goals first | omega | exact ⟨j + 1, by go_num, by omega, by omega, by rw [HSU.out, HMU.out, dx]; simp, hg7⟩
              · have dx : decide (x ≤ 1000000000) = false := by simp; omega
                go_wp2_with fail
                have hgl := HGJ.out
                go_roundg (m - (j + 1))
                all_goals first | omega | exact ⟨j + 1, by go_num, by omega, by omega, by rw [HSU.out, HMU.out, dx]; simp, hg7⟩
          · have hj' : ¬ ((j : Int) < (m : Int)) := by omega
            have hjm' : j = m := by omega
            have HRA : Hid (refJ t k st j = refN t k st t.length) := (by rw [hjm', ← HML.out]; exact refJ_all t k st : refJ t k st j = refN t k st t.length)
            clear hjm'
            generalize refJ t k st j = x at *
            have w1' : wrap64 (sm + x) = sm + x := by unfold wrap64; omega
            by_cases hbig : 1000000000 < sm + x
            · have HX : Hid (sumT bds t = 1000000001) := (by
                have := sumP_stop HB.out (fun k => stepS bds (nth t k)) HS1.out k t.length hkl (by omega) (HS2.out k hkl) (by rw [HSM.out]; omega) (by rw [HSM.out]; (try dsimp only); rw [HST.out, ← HRA.out]; exact hbig)
                exact this : sumT bds t = 1000000001)
              go_wp2_with fail
              go_ret
              exact ⟨by rw [HX.out]; first | done | simp, HW1.out.trans hg5⟩
            · have HX : Hid (sumP t (fun k => stepS bds (nth t k)) (k + 1) = sm + x) := (by
                have := sumP_next HB.out (fun k => stepS bds (nth t k)) HS1.out k hkl (HS2.out k hkl) (by rw [HSM.out]; omega) (by rw [HSM.out]; (try dsimp only); rw [HST.out, ← HRA.out]; omega)
                rw [this, HSM.out]; (try dsimp only); rw [HST.out, ← HRA.out] : sumP t (fun k => stepS bds (nth t k)) (k + 1) = sm + x)
              go_wp2_with fail
              have hgl := HG.out
              go_roundg (n - (k + 1))
              all_goals first | omega | exact ⟨k + 1, sm + x, by go_num, by omega, by omega, rfl, HX.out, by omega, by omega, hg5⟩
      · by_cases h17 : (nth t k).d = 17
        · obtain ⟨r1, r2⟩ := HRK h17
          obtain ⟨mm, hmm⟩ := Int.eq_ofNat_of_zero_le r1
          rcases HBD.out with h | ⟨b2, off2, rfl, hcb⟩
          · rw [h] at r2; simp at r2; omega
          have d0 := (HW1.out.trans hgr).cell (hcb mm (by omega)) (by simp)
          have hst2 : 1 + bds.getD mm 0 = st := by rw [← hst]; simp [stepS, h17, hmm]
          rw [h17] at q0
          rw [hmm] at q1 r2
          generalize (nth t k).b = b at q2
          have e3 : wrap64 (1 + bds.getD mm 0) = st := by
            have h1 := HS1.out k
            have h2 := HS2.out k hkl
            try dsimp only at h1 h2
            rw [hst] at h1 h2
            rw [hst2]; unfold wrap64; omega
          have e3' : IntKind.i64.wrap (1 + bds.getD mm 0) = st := by rw [IntWalk.i64_left]; exact e3
          clear hst2 h17 hmm HRK r1 h16 hcb
          generalize bds.getD mm 0 = z at *
          have j1' : (0 : Int) ≤ (mm : Int) := by omega
          have j2' : (mm : Int) < (bds.length : Int) := by omega
          have hF1 := HS1.out k
          have hF2 := HS2.out k hkl
          rw [hst] at hF1 hF2
          have HST : Hid (stepS bds (nth t k) = st) := hst
          clear hst
          obtain ⟨wl, hwl⟩ : ∃ wl, wl = wr := ⟨_, rfl⟩
          subst hwl
          have HGW : Hid (w1.grownBy wl none) := hgr
          go_wp2_with fail
          go_loopg [9, 10] m (fun gk s9 s10 wx => ∃ j : Nat, s10 = .int .i64 j ∧ j ≤ m ∧ gk = m - j ∧ s9 = .int .i64 (refJ t k st j) ∧ w1.grownBy wx none)
          case atStart => exact ⟨0, rfl, Nat.zero_le _, by omega, by rw [refJ_zero], hgr⟩
          case round =>
            obtain ⟨j, rfl, hj, hgj, rfl, hg5⟩ := hrel
            have HGJ : Hid (_ = m - j) := hgj
            clear hgj
            obtain ⟨rj1, rj2⟩ := refJ_bd HB.out k st hF1 hF2 j (by rw [HML.out]; exact hj)
            by_cases hjm : j < m
            · have hjl : j < (ents t t.length).length := by rw [HML.out]; exact hjm
              rcases HLL.out with h | ⟨bl, ol, rfl, hcl⟩
              · rw [h] at hjl; simp at hjl
              obtain ⟨y0, y1, y2, y3⟩ := hcl j hjl
              have y0 := hg5.cell y0 (by simp)
              have y1 := hg5.cell y1 (by simp)
              have y2 := hg5.cell y2 (by simp)
              have y3 := hg5.cell y3 (by simp)
              have eg : (ents t t.length).getD j 0 = (ents t t.length)[j] := by simp [List.getD, hjl]
              rw [eg] at y0 y1 y2 y3
              have HSU : Hid (refJ t k st (j + 1) = mulR t k (refJ t k st j) (ents t t.length)[j]) := refJ_succ t k st j hjl
              have hEe : isE t (ents t t.length)[j] = true := (mem_ents.1 (List.getElem_mem hjl)).2
              have hbe := HB.out _ hEe
              have hin := inL_loop (k := k) hEe
              have HMU : Hid (mulR t k (refJ t k st j) (ents t t.length)[j] = if inL t ((ents t t.length)[j] + 1) k && decide (refJ t k st j ≤ 1000000000) then refJ t k st j * (nth t (ents t t.length)[j]).b else refJ t k st j) := (rfl : mulR t k (refJ t k st j) (ents t t.length)[j] = _)
              rw [hin] at HMU
              clear hcl hin eg
              generalize (ents t t.length)[j] = e at *
              have ec : (((e + 1 : Nat)) : Int) = (e : Int) + 1 := by simp
              rw [ec] at HMU
              generalize ((rnd t (e + 1) : Nat) : Int) = To at y1 HMU
              generalize ((e : Nat) : Int) + 1 = Fr at y0 HMU
              generalize (nth t e).a = Cn at y2
              generalize (nth t e).b = Tm at y3 HMU hbe
              generalize refJ t k st j = x at *
              have cI : ∀ w, Calls Tryd.prog 12 #[.agg #[.int .i64 Fr, .int .i64 To, .int .i64 Cn, .int .i64 Tm], .int .i64 k] w fun e w' => e = .returned (.bool (decide (Fr ≤ (k : Int)) && decide ((k : Int) ≤ To))) ∧ w.grownBy w' none := fun w => inLoop_any Fr To Cn Tm k w
              generalize (decide (Fr ≤ (k : Int)) && decide ((k : Int) ≤ To)) = il at *
              have j1 : (0 : Int) ≤ (j : Int) := by omega
              have j2 : (j : Int) < (m : Int) := by omega
              go_wp2_with fail
              refine (cI _).mono ?_
              rintro e1 w5 ⟨rfl, hg6⟩
              have y3' := hg6.cell y3 (by simp)
              have hg7 := hg5.trans hg6
              clear y0 y1 y2 y3
              cases il with
              | false =>
                go_wp2_with fail
                have hgl := HGJ.out
                go_roundg (m - (j + 1))
                all_goals first | omega | exact ⟨j + 1, by go_num, by omega, by omega, by rw [HSU.out, HMU.out]; simp, hg7⟩
              | true =>
                by_cases hx : x ≤ 1000000000
                · have dx : decide (x ≤ 1000000000) = true := by simpa using hx
                  have h3 : x * Tm ≤ 1000000000 * Tm := Int.mul_le_mul_of_nonneg_right hx (by omega)
                  have h4 : (1000000000 : Int) * Tm ≤ 1000000000 * 10000 := Int.mul_le_mul_of_nonneg_left hbe.2 (by omega)
                  have h5 := (mul_ge rj1 hbe.1).1
                  have w1' : wrap64 (x * Tm) = x * Tm := by unfold wrap64; omega
                  have w2' : IntKind.i64.wrap (x * Tm) = x * Tm := by rw [IntWalk.i64_left]; exact w1'
                  clear h3 h4 h5
                  go_wp2_with fail
                  have hgl := HGJ.out
                  go_roundg (m - (j + 1))
                  all_goals first | omega | exact ⟨j + 1, by go_num, by omega, by omega, by rw [HSU.out, HMU.out, dx]; simp, hg7⟩
                · have dx : decide (x ≤ 1000000000) = false := by simp; omega
                  go_wp2_with fail
                  have hgl := HGJ.out
                  go_roundg (m - (j + 1))
                  all_goals first | omega | exact ⟨j + 1, by go_num, by omega, by omega, by rw [HSU.out, HMU.out, dx]; simp, hg7⟩
            · have hj' : ¬ ((j : Int) < (m : Int)) := by omega
              have hjm' : j = m := by omega
              have HRA : Hid (refJ t k st j = refN t k st t.length) := (by rw [hjm', ← HML.out]; exact refJ_all t k st : refJ t k st j = refN t k st t.length)
              clear hjm'
              generalize refJ t k st j = x at *
              have w1' : wrap64 (sm + x) = sm + x := by unfold wrap64; omega
              by_cases hbig : 1000000000 < sm + x
              · have HX : Hid (sumT bds t = 1000000001) := (by
                  have := sumP_stop HB.out (fun k => stepS bds (nth t k)) HS1.out k t.length hkl (by omega) (HS2.out k hkl) (by rw [HSM.out]; omega) (by rw [HSM.out]; (try dsimp only); rw [HST.out, ← HRA.out]; exact hbig)
                  exact this : sumT bds t = 1000000001)
                go_wp2_with fail
                go_ret
                exact ⟨by rw [HX.out]; first | done | simp, HW1.out.trans hg5⟩
              · have HX : Hid (sumP t (fun k => stepS bds (nth t k)) (k + 1) = sm + x) := (by
                  have := sumP_next HB.out (fun k => stepS bds (nth t k)) HS1.out k hkl (HS2.out k hkl) (by rw [HSM.out]; omega) (by rw [HSM.out]; (try dsimp only); rw [HST.out, ← HRA.out]; omega)
                  rw [this, HSM.out]; (try dsimp only); rw [HST.out, ← HRA.out] : sumP t (fun k => stepS bds (nth t k)) (k + 1) = sm + x)
                go_wp2_with fail
                have hgl := HG.out
                go_roundg (n - (k + 1))
                all_goals first | omega | exact ⟨k + 1, sm + x, by go_num, by omega, by omega, rfl, HX.out, by omega, by omega, hg5⟩
        · have hst2 : st = 1 := by rw [← hst]; simp [stepS, h16, h17]
          subst hst2
          have e16 : ((nth t k).d == 16) = false := by simpa using h16
          have e17 : ((nth t k).d == 17) = false := by simpa using h17
          generalize (nth t k).a = a at q1 HRK
          generalize (nth t k).b = b at q2
          generalize hdd : (nth t k).d = d at q0 e16 e17
          clear h16 h17 hdd HRK
          have hF1 := HS1.out k
          have hF2 := HS2.out k hkl
          rw [hst] at hF1 hF2
          have HST : Hid (stepS bds (nth t k) = 1) := hst
          clear hst
          obtain ⟨wl, hwl⟩ : ∃ wl, wl = wr := ⟨_, rfl⟩
          subst hwl
          have HGW : Hid (w1.grownBy wl none) := hgr
          go_wp2_with fail
          go_loopg [9, 10] m (fun gk s9 s10 wx => ∃ j : Nat, s10 = .int .i64 j ∧ j ≤ m ∧ gk = m - j ∧ s9 = .int .i64 (refJ t k 1 j) ∧ w1.grownBy wx none)
          case atStart => exact ⟨0, rfl, Nat.zero_le _, by omega, by rw [refJ_zero], hgr⟩
          case round =>
            obtain ⟨j, rfl, hj, hgj, rfl, hg5⟩ := hrel
            have HGJ : Hid (_ = m - j) := hgj
            clear hgj
            obtain ⟨rj1, rj2⟩ := refJ_bd HB.out k 1 hF1 hF2 j (by rw [HML.out]; exact hj)
            by_cases hjm : j < m
            · have hjl : j < (ents t t.length).length := by rw [HML.out]; exact hjm
              rcases HLL.out with h | ⟨bl, ol, rfl, hcl⟩
              · rw [h] at hjl; simp at hjl
              obtain ⟨y0, y1, y2, y3⟩ := hcl j hjl
              have y0 := hg5.cell y0 (by simp)
              have y1 := hg5.cell y1 (by simp)
              have y2 := hg5.cell y2 (by simp)
              have y3 := hg5.cell y3 (by simp)
              have eg : (ents t t.length).getD j 0 = (ents t t.length)[j] := by simp [List.getD, hjl]
              rw [eg] at y0 y1 y2 y3
              have HSU : Hid (refJ t k 1 (j + 1) = mulR t k (refJ t k 1 j) (ents t t.length)[j]) := refJ_succ t k 1 j hjl
              have hEe : isE t (ents t t.length)[j] = true := (mem_ents.1 (List.getElem_mem hjl)).2
              have hbe := HB.out _ hEe
              have hin := inL_loop (k := k) hEe
              have HMU : Hid (mulR t k (refJ t k 1 j) (ents t t.length)[j] = if inL t ((ents t t.length)[j] + 1) k && decide (refJ t k 1 j ≤ 1000000000) then refJ t k 1 j * (nth t (ents t t.length)[j]).b else refJ t k 1 j) := (rfl : mulR t k (refJ t k 1 j) (ents t t.length)[j] = _)
              rw [hin] at HMU
              clear hcl hin eg
              generalize (ents t t.length)[j] = e at *
              have ec : (((e + 1 : Nat)) : Int) = (e : Int) + 1 := by simp
              rw [ec] at HMU
              generalize ((rnd t (e + 1) : Nat) : Int) = To at y1 HMU
              generalize ((e : Nat) : Int) + 1 = Fr at y0 HMU
              generalize (nth t e).a = Cn at y2
              generalize (nth t e).b = Tm at y3 HMU hbe
              generalize refJ t k 1 j = x at *
              have cI : ∀ w, Calls Tryd.prog 12 #[.agg #[.int .i64 Fr, .int .i64 To, .int .i64 Cn, .int .i64 Tm], .int .i64 k] w fun e w' => e = .returned (.bool (decide (Fr ≤ (k : Int)) && decide ((k : Int) ≤ To))) ∧ w.grownBy w' none := fun w => inLoop_any Fr To Cn Tm k w
              generalize (decide (Fr ≤ (k : Int)) && decide ((k : Int) ≤ To)) = il at *
              have j1 : (0 : Int) ≤ (j : Int) := by omega
              have j2 : (j : Int) < (m : Int) := by omega
              go_wp2_with fail
              refine (cI _).mono ?_
              rintro e1 w5 ⟨rfl, hg6⟩
              have y3' := hg6.cell y3 (by simp)
              have hg7 := hg5.trans hg6
              clear y0 y1 y2 y3
              cases il with
              | false =>
                go_wp2_with fail
                have hgl := HGJ.out
                go_roundg (m - (j + 1))
                all_goals first | omega | exact ⟨j + 1, by go_num, by omega, by omega, by rw [HSU.out, HMU.out]; simp, hg7⟩
              | true =>
                by_cases hx : x ≤ 1000000000
                · have dx : decide (x ≤ 1000000000) = true := by simpa using hx
                  have h3 : x * Tm ≤ 1000000000 * Tm := Int.mul_le_mul_of_nonneg_right hx (by omega)
                  have h4 : (1000000000 : Int) * Tm ≤ 1000000000 * 10000 := Int.mul_le_mul_of_nonneg_left hbe.2 (by omega)
                  have h5 := (mul_ge rj1 hbe.1).1
                  have w1' : wrap64 (x * Tm) = x * Tm := by unfold wrap64; omega
                  have w2' : IntKind.i64.wrap (x * Tm) = x * Tm := by rw [IntWalk.i64_left]; exact w1'
                  clear h3 h4 h5
                  go_wp2_with fail
                  have hgl := HGJ.out
                  go_roundg (m - (j + 1))
                  all_goals first | omega | exact ⟨j + 1, by go_num, by omega, by omega, by rw [HSU.out, HMU.out, dx]; simp, hg7⟩
                · have dx : decide (x ≤ 1000000000) = false := by simp; omega
                  go_wp2_with fail
                  have hgl := HGJ.out
                  go_roundg (m - (j + 1))
                  all_goals first | omega | exact ⟨j + 1, by go_num, by omega, by omega, by rw [HSU.out, HMU.out, dx]; simp, hg7⟩
            · have hj' : ¬ ((j : Int) < (m : Int)) := by omega
              have hjm' : j = m := by omega
              have HRA : Hid (refJ t k 1 j = refN t k 1 t.length) := (by rw [hjm', ← HML.out]; exact refJ_all t k 1 : refJ t k 1 j = refN t k 1 t.length)
              clear hjm'
              generalize refJ t k 1 j = x at *
              have w1' : wrap64 (sm + x) = sm + x := by unfold wrap64; omega
              by_cases hbig : 1000000000 < sm + x
              · have HX : Hid (sumT bds t = 1000000001) := (by
                  have := sumP_stop HB.out (fun k => stepS bds (nth t k)) HS1.out k t.length hkl (by omega) (HS2.out k hkl) (by rw [HSM.out]; omega) (by rw [HSM.out]; (try dsimp only); rw [HST.out, ← HRA.out]; exact hbig)
                  exact this : sumT bds t = 1000000001)
                go_wp2_with fail
                go_ret
                exact ⟨by rw [HX.out]; first | done | simp, HW1.out.trans hg5⟩
              · have HX : Hid (sumP t (fun k => stepS bds (nth t k)) (k + 1) = sm + x) := (by
                  have := sumP_next HB.out (fun k => stepS bds (nth t k)) HS1.out k hkl (HS2.out k hkl) (by rw [HSM.out]; omega) (by rw [HSM.out]; (try dsimp only); rw [HST.out, ← HRA.out]; omega)
                  rw [this, HSM.out]; (try dsimp only); rw [HST.out, ← HRA.out] : sumP t (fun k => stepS bds (nth t k)) (k + 1) = sm + x)
                go_wp2_with fail
                have hgl := HG.out
                go_roundg (n - (k + 1))
                all_goals first | omega | exact ⟨k + 1, sm + x, by go_num, by omega, by omega, rfl, HX.out, by omega, by omega, hg5⟩
    · have hk' : ¬ ((k : Int) < (n : Int)) := by omega
      have hkn : k = n := by omega
      have HX : Hid (sumT bds t = sm) := (by unfold sumT; rw [HN.out, ← hkn]; exact HSM.out : sumT bds t = sm)
      clear hkn
      go_wp2_with fail
      go_ret
      exact ⟨by rw [HX.out]; first | done | simp, HW1.out.trans hgr⟩
end Go.Proofs.YtbaijehecncclaaDoor
