/- The walk of BlockLate. -/
import Derived.Test.YtphnadhkoigegaaO1
import Derived.Test.YtphnadhkoigegaaN
import Derived.Deep.DeepCutAuto
import Derived.Deep.LoopGhost
import Derived.Deep.QuietTactic
import Derived.BigQuiet
import Derived.Deep.RegionHeld3
namespace Go.Proofs.Ytphnadhkoigegaa
open Go.RowKit
attribute [local go_sem ↓] Go.wp_at_zero Go.wp_at_succ
set_option linter.unusedSimpArgs false
set_option linter.unusedVariables false

theorem rd_ofn {W : World} {c n : Nat} {l : List Int} (hl : l.length = n) (h : W.heap[c]? = some (.cells (intsA l) 3)) : rd W (.slice (some ⟨c, 0, none⟩) n n) l := by
  have := rd_of h
  rw [hl] at this
  exact this

set_option maxRecDepth 10000 in
set_option maxHeartbeats 4000000 in
theorem late_all (pt bg : Int) (b off cap len : Nat) (O : Nat → Bool) (D : Nat → Int) (w : World) (hc0 : ∀ i, i < len → w.cell? ⟨b, off + i * 2, none⟩ = some (.bool (O i))) (hc1 : ∀ i, i < len → w.cell? ⟨b, off + i * 2 + 1, none⟩ = some (.int .i64 (D i))) (hlen : len ≤ 9223372036854775807)  :
    Calls Try.prog 6 #[.int .i64 pt, .int .i64 bg, .slice (some ⟨b, off, none⟩) len cap] w fun e w' => e = .returned (.bool true) ∧ w.grownBy w' none := by
  have HC0 : Hid (∀ i, i < len → w.cell? ⟨b, off + i * 2, none⟩ = some (.bool (O i))) := hc0
  have HC1 : Hid (∀ i, i < len → w.cell? ⟨b, off + i * 2 + 1, none⟩ = some (.int .i64 (D i))) := hc1
  clear hc0 hc1
  have hmk := make4
  have hb0 := mask_bd bg 4294967295 (by omega) (by omega)
  obtain ⟨N0, hN0⟩ : ∃ n, bits .and .i64 bg 4294967295 = n := ⟨_, rfl⟩
  rw [hN0] at hb0
  go_enter Try.func6, Try.ntmps6
  go_upto_region 1 with fail
  go_cut [26] (fun s26 wx => ∃ q : Bool, s26 = .bool q ∧ (q = false → 0 ≤ pt ∧ pt ≤ 4294967295) ∧ w = wx)
  case first =>
    by_cases h1 : pt < 0
    · go_wp2_with fail
      go_meet
      exact ⟨true, rfl, by simp, rfl⟩
    · by_cases h2 : 4294967295 < pt
      · go_wp2_with fail
        go_meet
        exact ⟨true, rfl, by simp, rfl⟩
      · go_wp2_with fail
        go_meet
        exact ⟨false, rfl, fun _ => ⟨by omega, by omega⟩, rfl⟩
  case rest =>
  obtain ⟨q, rfl, hq, rfl⟩ := hcut
  go_upto_if 26 with fail
  go_cut [0] (fun s0 wx => ∃ p, s0 = .int .i64 p ∧ 0 ≤ p ∧ p ≤ 4294967295 ∧ w = wx)
  case first =>
    cases q
    · go_wp2_with fail
      go_meet
      exact ⟨pt, rfl, (hq (by simp)).1, (hq (by simp)).2, rfl⟩
    · go_wp2_with fail
      go_meet
      exact ⟨100, rfl, by omega, by omega, rfl⟩
  case rest =>
  obtain ⟨p, rfl, hp0, hp1, rfl⟩ := hcut
  go_upto_region 3 with fail
  go_cut [7, 8] (fun s7 s8 wx => ∃ c1 c2, s7 = .slice (some ⟨c1, 0, none⟩) 4 4 ∧ s8 = .slice (some ⟨c2, 0, none⟩) 4 4 ∧ Hid (wx.heap[c1]? = some (.cells (intsA [0, 0, 0, 0]) 3)) ∧ Hid (wx.heap[c2]? = some (.cells (intsA [0, 0, 0, 0]) 3)) ∧ w.grownBy wx none)
  case first =>
    go_region
    all_goals go_wp2_with fail
    all_goals go_meet
    all_goals
      refine ⟨_, _, rfl, rfl, ?_, ?_, ?_⟩
      · first | (refine (hp_drew _ _).trans (hp_new ?_ _); simp; done) | (refine (hp_drew _ _).trans ((hp_old (by simp) _).trans (hp_new ?_ _)); simp; done)
      · first | (refine (hp_drew _ _).trans (hp_new ?_ _); simp; done) | (refine (hp_drew _ _).trans ((hp_old (by simp) _).trans (hp_new ?_ _)); simp; done)
      · exact gr_drew (gr_alloc (gr_alloc (World.grownBy.refl _ _) _) _)
  case rest =>
    obtain ⟨c1, c2, rfl, rfl, hz1, hz2, hgc⟩ := hcut
    go_wp2
    go_loopg [7, 8, 9, 10, 11, 12, 13, 14] len (fun gk s7 s8 s9 s10 s11 s12 s13 s14 wx => ∃ (k c1 c2 : Nat) (N H L : Int) (late held : Bool) (l1 l2 : List Int), s14 = .int .i64 k ∧ k ≤ len ∧ gk = len - k ∧ k ≤ 60000 ∧ s7 = .slice (some ⟨c1, 0, none⟩) 4 4 ∧ s8 = .slice (some ⟨c2, 0, none⟩) 4 4 ∧ s9 = .int .i64 N ∧ s10 = .int .i64 H ∧ s11 = .int .i64 L ∧ s12 = .bool late ∧ s13 = .bool held ∧
      0 ≤ N ∧ N ≤ 4294967295 + 65535 * k ∧ -1 ≤ H ∧ H ≤ 65535 * k ∧ -1 ≤ L ∧ L ≤ 65535 * k ∧ OnI N H late l1 ∧ OffI N L held l2 ∧ wx.heap[c1]? = some (.cells (intsA l1) 3) ∧ wx.heap[c2]? = some (.cells (intsA l2) 3) ∧ w.grownBy wx none)
    case atStart => exact ⟨0, c1, c2, N0, -1, -1, false, false, [0, 0, 0, 0], [0, 0, 0, 0], rfl, Nat.zero_le _, by omega, by omega, rfl, rfl, rfl, rfl, rfl, rfl, rfl, by omega, by omega, by omega, by omega, by omega, by omega, .inl ⟨rfl, rfl, rfl⟩, .inl ⟨rfl, rfl⟩, hz1.out, hz2.out, hgc⟩
    case round =>
      obtain ⟨k, c1, c2, N, H, L, late, held, l1, l2, rfl, hk, hgk, hk6, rfl, rfl, rfl, rfl, rfl, rfl, rfl, hN0, hN1, hH0, hH1, hL0, hL1, hI1, hI2, hw1, hw2, hgr⟩ := hrel
      have HG : Hid (gk = len - k) := hgk
      have HI1 : Hid (OnI N H late l1) := hI1
      have HI2 : Hid (OffI N L held l2) := hI2
      have HW1 : Hid (wr.heap[c1]? = some (.cells (intsA l1) 3)) := hw1
      have HW2 : Hid (wr.heap[c2]? = some (.cells (intsA l2) 3)) := hw2
      clear hgk hI1 hI2 hw1 hw2
      by_cases hlt : k < len
      · by_cases h6 : k < 60000
        · have hcx := hgr.cell (HC0.out k hlt) (by simp)
          obtain ⟨dk, hDk⟩ : ∃ x, D k = x := ⟨_, rfl⟩
          have hd := mask_bd dk 65535 (by omega) (by omega)
          obtain ⟨d, hdd⟩ : ∃ x, bits .and .i64 dk 65535 = x := ⟨_, rfl⟩
          rw [hdd] at hd
          obtain ⟨hd0, hd1⟩ := hd
          have i1 : (0 : Int) ≤ (k : Int) := by omega
          have i2 : (k : Int) < (len : Int) := by omega
          have i3 : (k : Int) < 60000 := by omega
          cases hO : O k
          · rw [hO] at hcx
            have ht1 := ton_no hp0 hp1 HI1.out
            have HT1 : Hid (_ = _) := ht1
            clear ht1
            by_cases hL : L < 0
            · cases held
              · obtain ⟨m2, a2, ht2, ho2⟩ := tof_no (L' := 0) hp0 hp1 (by first | rw [if_pos (by omega)] | rw [if_neg (by omega)]) HI2.out
                simp only [Bool.false_and] at ht2 ho2
                obtain ⟨m1, a1, HT1, HO1⟩ : ∃ (m1 : List Int) (a1 : Int), Hid (tonF (wrapL [1, 5, 1, 5] l1) (wrapL [1, 5] [0, p]) (wrapK 5 N) = (m1, [0, a1])) ∧ Hid (OnI N (-1) false m1) := ⟨_, _, HT1, .inl ⟨rfl, rfl, rfl⟩⟩
                have HO2 : Hid (OffI N 0 false m2) := ho2
                have HT2 : Hid (tofF (wrapL [1, 5, 1, 5] l2) (wrapL [1, 5] [0, p]) (wrapK 5 N) = (m2, [0, a2])) := ht2
                clear ht2 ho2
                have e1 := on_step d HO1.out hd0 (by omega)
                have e2 := off_step d HO2.out hd0 (by omega)
                rw [if_neg (by omega)] at e1
                rw [if_pos (by omega)] at e2
                have HE1 : Hid (OnI (N + d) (-1) false m1) := e1
                have HE2 : Hid (OffI (N + d) (0 + d) false m2) := e2
                clear e1 e2
                go_wp2_with fail
                refine (stepC_ton _ _ l1 [0, p] _ _ ?_ ?_).mono ?_
                · exact rd_ofn (on_len HI1.out) (kept (gr_alloc (World.grownBy.refl _ _) _) HW1.out)
                · exact rd_of (l := [0, p]) (heap_alloc_new _ _)
                rintro e w2 ⟨d1, d2, rfl, g1, g2, gne, hd1, hd2, hg2⟩
                rw [HT1.out] at hd1 hd2
                have HD1 : Hid (w2.heap[d1]? = some (.cells (intsA m1) 3)) := hd1
                have HD2 : Hid (w2.heap[d2]? = some (.cells (intsA [0, a1]) 3)) := hd2
                clear hd1 hd2
                go_wp2_with fail
                refine (stepC_tof _ _ l2 [0, p] _ _ ?_ ?_).mono ?_
                · exact rd_ofn (off_len HI2.out) (kept (gr_alloc hg2 _) (kept (gr_alloc (World.grownBy.refl _ _) _) HW2.out))
                · exact rd_of (l := [0, p]) (heap_alloc_new _ _)
                rintro e w3 ⟨d3, d4, rfl, g3, g4, gne', hd3, hd4, hg3⟩
                rw [HT2.out] at hd3 hd4
                have hg23 := (gr_alloc (World.grownBy.refl w2 none) _).trans hg3
                have e0 := at_cell (kept hg23 HD2.out) 0
                have e2 := at_cell hd4 0
                simp [intsA] at e0 e2
                have hgw : w.grownBy w3 none := (gr_alloc hgr _).trans (hg2.trans hg23)
                have ec1 := hgw.cell (HC1.out k hlt) (by simp)
                have HD1' : Hid (w3.heap[d1]? = some (.cells (intsA m1) 3)) := kept hg23 HD1.out
                have HD3 : Hid (w3.heap[d3]? = some (.cells (intsA m2) 3)) := hd3
                clear hd3 hd4
                rw [hDk] at ec1
                go_wp2
                have hgl := HG.out
                go_roundg (len - (k + 1))
                all_goals first | omega | exact ⟨k + 1, d1, d3, N + d, -1, 0 + d, false, false, m1, m2, by go_num, by omega, by omega, by omega, rfl, rfl, by go_num, by go_num, by go_num, rfl, rfl, by omega, by omega, by omega, by omega, by omega, by omega, HE1.out, HE2.out, HD1'.out, HD3.out, hgw⟩
              · by_cases hq : 0 < p
                · obtain ⟨m2, a2, ht2, ho2⟩ := tof_no (L' := 0) hp0 hp1 (by first | rw [if_pos (by omega)] | rw [if_neg (by omega)]) HI2.out
                  rw [decide_eq_true hq] at ht2 ho2
                  obtain ⟨m1, a1, HT1, HO1⟩ : ∃ (m1 : List Int) (a1 : Int), Hid (tonF (wrapL [1, 5, 1, 5] l1) (wrapL [1, 5] [0, p]) (wrapK 5 N) = (m1, [0, a1])) ∧ Hid (OnI N (-1) false m1) := ⟨_, _, HT1, .inl ⟨rfl, rfl, rfl⟩⟩
                  have HO2 : Hid (OffI N 0 true m2) := ho2
                  have HT2 : Hid (tofF (wrapL [1, 5, 1, 5] l2) (wrapL [1, 5] [0, p]) (wrapK 5 N) = (m2, [1, a2])) := ht2
                  clear ht2 ho2
                  have e1 := on_step d HO1.out hd0 (by omega)
                  have e2 := off_step d HO2.out hd0 (by omega)
                  rw [if_neg (by omega)] at e1
                  rw [if_pos (by omega)] at e2
                  have HE1 : Hid (OnI (N + d) (-1) false m1) := e1
                  have HE2 : Hid (OffI (N + d) (0 + d) true m2) := e2
                  clear e1 e2
                  go_wp2_with fail
                  refine (stepC_ton _ _ l1 [0, p] _ _ ?_ ?_).mono ?_
                  · exact rd_ofn (on_len HI1.out) (kept (gr_alloc (World.grownBy.refl _ _) _) HW1.out)
                  · exact rd_of (l := [0, p]) (heap_alloc_new _ _)
                  rintro e w2 ⟨d1, d2, rfl, g1, g2, gne, hd1, hd2, hg2⟩
                  rw [HT1.out] at hd1 hd2
                  have HD1 : Hid (w2.heap[d1]? = some (.cells (intsA m1) 3)) := hd1
                  have HD2 : Hid (w2.heap[d2]? = some (.cells (intsA [0, a1]) 3)) := hd2
                  clear hd1 hd2
                  go_wp2_with fail
                  refine (stepC_tof _ _ l2 [0, p] _ _ ?_ ?_).mono ?_
                  · exact rd_ofn (off_len HI2.out) (kept (gr_alloc hg2 _) (kept (gr_alloc (World.grownBy.refl _ _) _) HW2.out))
                  · exact rd_of (l := [0, p]) (heap_alloc_new _ _)
                  rintro e w3 ⟨d3, d4, rfl, g3, g4, gne', hd3, hd4, hg3⟩
                  rw [HT2.out] at hd3 hd4
                  have hg23 := (gr_alloc (World.grownBy.refl w2 none) _).trans hg3
                  have e0 := at_cell (kept hg23 HD2.out) 0
                  have e2 := at_cell hd4 0
                  simp [intsA] at e0 e2
                  have hgw : w.grownBy w3 none := (gr_alloc hgr _).trans (hg2.trans hg23)
                  have ec1 := hgw.cell (HC1.out k hlt) (by simp)
                  have HD1' : Hid (w3.heap[d1]? = some (.cells (intsA m1) 3)) := kept hg23 HD1.out
                  have HD3 : Hid (w3.heap[d3]? = some (.cells (intsA m2) 3)) := hd3
                  clear hd3 hd4
                  rw [hDk] at ec1
                  go_wp2
                  have hgl := HG.out
                  go_roundg (len - (k + 1))
                  all_goals first | omega | exact ⟨k + 1, d1, d3, N + d, -1, 0 + d, false, true, m1, m2, by go_num, by omega, by omega, by omega, rfl, rfl, by go_num, by go_num, by go_num, rfl, rfl, by omega, by omega, by omega, by omega, by omega, by omega, HE1.out, HE2.out, HD1'.out, HD3.out, hgw⟩
                · obtain ⟨m2, a2, ht2, ho2⟩ := tof_no (L' := 0) hp0 hp1 (by first | rw [if_pos (by omega)] | rw [if_neg (by omega)]) HI2.out
                  rw [decide_eq_false hq] at ht2 ho2
                  obtain ⟨m1, a1, HT1, HO1⟩ : ∃ (m1 : List Int) (a1 : Int), Hid (tonF (wrapL [1, 5, 1, 5] l1) (wrapL [1, 5] [0, p]) (wrapK 5 N) = (m1, [0, a1])) ∧ Hid (OnI N (-1) false m1) := ⟨_, _, HT1, .inl ⟨rfl, rfl, rfl⟩⟩
                  have HO2 : Hid (OffI N 0 false m2) := ho2
                  have HT2 : Hid (tofF (wrapL [1, 5, 1, 5] l2) (wrapL [1, 5] [0, p]) (wrapK 5 N) = (m2, [0, a2])) := ht2
                  clear ht2 ho2
                  have e1 := on_step d HO1.out hd0 (by omega)
                  have e2 := off_step d HO2.out hd0 (by omega)
                  rw [if_neg (by omega)] at e1
                  rw [if_pos (by omega)] at e2
                  have HE1 : Hid (OnI (N + d) (-1) false m1) := e1
                  have HE2 : Hid (OffI (N + d) (0 + d) false m2) := e2
                  clear e1 e2
                  go_wp2_with fail
                  refine (stepC_ton _ _ l1 [0, p] _ _ ?_ ?_).mono ?_
                  · exact rd_ofn (on_len HI1.out) (kept (gr_alloc (World.grownBy.refl _ _) _) HW1.out)
                  · exact rd_of (l := [0, p]) (heap_alloc_new _ _)
                  rintro e w2 ⟨d1, d2, rfl, g1, g2, gne, hd1, hd2, hg2⟩
                  rw [HT1.out] at hd1 hd2
                  have HD1 : Hid (w2.heap[d1]? = some (.cells (intsA m1) 3)) := hd1
                  have HD2 : Hid (w2.heap[d2]? = some (.cells (intsA [0, a1]) 3)) := hd2
                  clear hd1 hd2
                  go_wp2_with fail
                  refine (stepC_tof _ _ l2 [0, p] _ _ ?_ ?_).mono ?_
                  · exact rd_ofn (off_len HI2.out) (kept (gr_alloc hg2 _) (kept (gr_alloc (World.grownBy.refl _ _) _) HW2.out))
                  · exact rd_of (l := [0, p]) (heap_alloc_new _ _)
                  rintro e w3 ⟨d3, d4, rfl, g3, g4, gne', hd3, hd4, hg3⟩
                  rw [HT2.out] at hd3 hd4
                  have hg23 := (gr_alloc (World.grownBy.refl w2 none) _).trans hg3
                  have e0 := at_cell (kept hg23 HD2.out) 0
                  have e2 := at_cell hd4 0
                  simp [intsA] at e0 e2
                  have hgw : w.grownBy w3 none := (gr_alloc hgr _).trans (hg2.trans hg23)
                  have ec1 := hgw.cell (HC1.out k hlt) (by simp)
                  have HD1' : Hid (w3.heap[d1]? = some (.cells (intsA m1) 3)) := kept hg23 HD1.out
                  have HD3 : Hid (w3.heap[d3]? = some (.cells (intsA m2) 3)) := hd3
                  clear hd3 hd4
                  rw [hDk] at ec1
                  go_wp2
                  have hgl := HG.out
                  go_roundg (len - (k + 1))
                  all_goals first | omega | exact ⟨k + 1, d1, d3, N + d, -1, 0 + d, false, false, m1, m2, by go_num, by omega, by omega, by omega, rfl, rfl, by go_num, by go_num, by go_num, rfl, rfl, by omega, by omega, by omega, by omega, by omega, by omega, HE1.out, HE2.out, HD1'.out, HD3.out, hgw⟩
            · cases held
              · obtain ⟨m2, a2, ht2, ho2⟩ := tof_no (L' := L) hp0 hp1 (by first | rw [if_pos (by omega)] | rw [if_neg (by omega)]) HI2.out
                simp only [Bool.false_and] at ht2 ho2
                obtain ⟨m1, a1, HT1, HO1⟩ : ∃ (m1 : List Int) (a1 : Int), Hid (tonF (wrapL [1, 5, 1, 5] l1) (wrapL [1, 5] [0, p]) (wrapK 5 N) = (m1, [0, a1])) ∧ Hid (OnI N (-1) false m1) := ⟨_, _, HT1, .inl ⟨rfl, rfl, rfl⟩⟩
                have HO2 : Hid (OffI N L false m2) := ho2
                have HT2 : Hid (tofF (wrapL [1, 5, 1, 5] l2) (wrapL [1, 5] [0, p]) (wrapK 5 N) = (m2, [0, a2])) := ht2
                clear ht2 ho2
                have e1 := on_step d HO1.out hd0 (by omega)
                have e2 := off_step d HO2.out hd0 (by omega)
                rw [if_neg (by omega)] at e1
                rw [if_pos (by omega)] at e2
                have HE1 : Hid (OnI (N + d) (-1) false m1) := e1
                have HE2 : Hid (OffI (N + d) (L + d) false m2) := e2
                clear e1 e2
                go_wp2_with fail
                refine (stepC_ton _ _ l1 [0, p] _ _ ?_ ?_).mono ?_
                · exact rd_ofn (on_len HI1.out) (kept (gr_alloc (World.grownBy.refl _ _) _) HW1.out)
                · exact rd_of (l := [0, p]) (heap_alloc_new _ _)
                rintro e w2 ⟨d1, d2, rfl, g1, g2, gne, hd1, hd2, hg2⟩
                rw [HT1.out] at hd1 hd2
                have HD1 : Hid (w2.heap[d1]? = some (.cells (intsA m1) 3)) := hd1
                have HD2 : Hid (w2.heap[d2]? = some (.cells (intsA [0, a1]) 3)) := hd2
                clear hd1 hd2
                go_wp2_with fail
                refine (stepC_tof _ _ l2 [0, p] _ _ ?_ ?_).mono ?_
                · exact rd_ofn (off_len HI2.out) (kept (gr_alloc hg2 _) (kept (gr_alloc (World.grownBy.refl _ _) _) HW2.out))
                · exact rd_of (l := [0, p]) (heap_alloc_new _ _)
                rintro e w3 ⟨d3, d4, rfl, g3, g4, gne', hd3, hd4, hg3⟩
                rw [HT2.out] at hd3 hd4
                have hg23 := (gr_alloc (World.grownBy.refl w2 none) _).trans hg3
                have e0 := at_cell (kept hg23 HD2.out) 0
                have e2 := at_cell hd4 0
                simp [intsA] at e0 e2
                have hgw : w.grownBy w3 none := (gr_alloc hgr _).trans (hg2.trans hg23)
                have ec1 := hgw.cell (HC1.out k hlt) (by simp)
                have HD1' : Hid (w3.heap[d1]? = some (.cells (intsA m1) 3)) := kept hg23 HD1.out
                have HD3 : Hid (w3.heap[d3]? = some (.cells (intsA m2) 3)) := hd3
                clear hd3 hd4
                rw [hDk] at ec1
                go_wp2
                have hgl := HG.out
                go_roundg (len - (k + 1))
                all_goals first | omega | exact ⟨k + 1, d1, d3, N + d, -1, L + d, false, false, m1, m2, by go_num, by omega, by omega, by omega, rfl, rfl, by go_num, by go_num, by go_num, rfl, rfl, by omega, by omega, by omega, by omega, by omega, by omega, HE1.out, HE2.out, HD1'.out, HD3.out, hgw⟩
              · by_cases hq : L < p
                · obtain ⟨m2, a2, ht2, ho2⟩ := tof_no (L' := L) hp0 hp1 (by first | rw [if_pos (by omega)] | rw [if_neg (by omega)]) HI2.out
                  rw [decide_eq_true hq] at ht2 ho2
                  obtain ⟨m1, a1, HT1, HO1⟩ : ∃ (m1 : List Int) (a1 : Int), Hid (tonF (wrapL [1, 5, 1, 5] l1) (wrapL [1, 5] [0, p]) (wrapK 5 N) = (m1, [0, a1])) ∧ Hid (OnI N (-1) false m1) := ⟨_, _, HT1, .inl ⟨rfl, rfl, rfl⟩⟩
                  have HO2 : Hid (OffI N L true m2) := ho2
                  have HT2 : Hid (tofF (wrapL [1, 5, 1, 5] l2) (wrapL [1, 5] [0, p]) (wrapK 5 N) = (m2, [1, a2])) := ht2
                  clear ht2 ho2
                  have e1 := on_step d HO1.out hd0 (by omega)
                  have e2 := off_step d HO2.out hd0 (by omega)
                  rw [if_neg (by omega)] at e1
                  rw [if_pos (by omega)] at e2
                  have HE1 : Hid (OnI (N + d) (-1) false m1) := e1
                  have HE2 : Hid (OffI (N + d) (L + d) true m2) := e2
                  clear e1 e2
                  go_wp2_with fail
                  refine (stepC_ton _ _ l1 [0, p] _ _ ?_ ?_).mono ?_
                  · exact rd_ofn (on_len HI1.out) (kept (gr_alloc (World.grownBy.refl _ _) _) HW1.out)
                  · exact rd_of (l := [0, p]) (heap_alloc_new _ _)
                  rintro e w2 ⟨d1, d2, rfl, g1, g2, gne, hd1, hd2, hg2⟩
                  rw [HT1.out] at hd1 hd2
                  have HD1 : Hid (w2.heap[d1]? = some (.cells (intsA m1) 3)) := hd1
                  have HD2 : Hid (w2.heap[d2]? = some (.cells (intsA [0, a1]) 3)) := hd2
                  clear hd1 hd2
                  go_wp2_with fail
                  refine (stepC_tof _ _ l2 [0, p] _ _ ?_ ?_).mono ?_
                  · exact rd_ofn (off_len HI2.out) (kept (gr_alloc hg2 _) (kept (gr_alloc (World.grownBy.refl _ _) _) HW2.out))
                  · exact rd_of (l := [0, p]) (heap_alloc_new _ _)
                  rintro e w3 ⟨d3, d4, rfl, g3, g4, gne', hd3, hd4, hg3⟩
                  rw [HT2.out] at hd3 hd4
                  have hg23 := (gr_alloc (World.grownBy.refl w2 none) _).trans hg3
                  have e0 := at_cell (kept hg23 HD2.out) 0
                  have e2 := at_cell hd4 0
                  simp [intsA] at e0 e2
                  have hgw : w.grownBy w3 none := (gr_alloc hgr _).trans (hg2.trans hg23)
                  have ec1 := hgw.cell (HC1.out k hlt) (by simp)
                  have HD1' : Hid (w3.heap[d1]? = some (.cells (intsA m1) 3)) := kept hg23 HD1.out
                  have HD3 : Hid (w3.heap[d3]? = some (.cells (intsA m2) 3)) := hd3
                  clear hd3 hd4
                  rw [hDk] at ec1
                  go_wp2
                  have hgl := HG.out
                  go_roundg (len - (k + 1))
                  all_goals first | omega | exact ⟨k + 1, d1, d3, N + d, -1, L + d, false, true, m1, m2, by go_num, by omega, by omega, by omega, rfl, rfl, by go_num, by go_num, by go_num, rfl, rfl, by omega, by omega, by omega, by omega, by omega, by omega, HE1.out, HE2.out, HD1'.out, HD3.out, hgw⟩
                · obtain ⟨m2, a2, ht2, ho2⟩ := tof_no (L' := L) hp0 hp1 (by first | rw [if_pos (by omega)] | rw [if_neg (by omega)]) HI2.out
                  rw [decide_eq_false hq] at ht2 ho2
                  obtain ⟨m1, a1, HT1, HO1⟩ : ∃ (m1 : List Int) (a1 : Int), Hid (tonF (wrapL [1, 5, 1, 5] l1) (wrapL [1, 5] [0, p]) (wrapK 5 N) = (m1, [0, a1])) ∧ Hid (OnI N (-1) false m1) := ⟨_, _, HT1, .inl ⟨rfl, rfl, rfl⟩⟩
                  have HO2 : Hid (OffI N L false m2) := ho2
                  have HT2 : Hid (tofF (wrapL [1, 5, 1, 5] l2) (wrapL [1, 5] [0, p]) (wrapK 5 N) = (m2, [0, a2])) := ht2
                  clear ht2 ho2
                  have e1 := on_step d HO1.out hd0 (by omega)
                  have e2 := off_step d HO2.out hd0 (by omega)
                  rw [if_neg (by omega)] at e1
                  rw [if_pos (by omega)] at e2
                  have HE1 : Hid (OnI (N + d) (-1) false m1) := e1
                  have HE2 : Hid (OffI (N + d) (L + d) false m2) := e2
                  clear e1 e2
                  go_wp2_with fail
                  refine (stepC_ton _ _ l1 [0, p] _ _ ?_ ?_).mono ?_
                  · exact rd_ofn (on_len HI1.out) (kept (gr_alloc (World.grownBy.refl _ _) _) HW1.out)
                  · exact rd_of (l := [0, p]) (heap_alloc_new _ _)
                  rintro e w2 ⟨d1, d2, rfl, g1, g2, gne, hd1, hd2, hg2⟩
                  rw [HT1.out] at hd1 hd2
                  have HD1 : Hid (w2.heap[d1]? = some (.cells (intsA m1) 3)) := hd1
                  have HD2 : Hid (w2.heap[d2]? = some (.cells (intsA [0, a1]) 3)) := hd2
                  clear hd1 hd2
                  go_wp2_with fail
                  refine (stepC_tof _ _ l2 [0, p] _ _ ?_ ?_).mono ?_
                  · exact rd_ofn (off_len HI2.out) (kept (gr_alloc hg2 _) (kept (gr_alloc (World.grownBy.refl _ _) _) HW2.out))
                  · exact rd_of (l := [0, p]) (heap_alloc_new _ _)
                  rintro e w3 ⟨d3, d4, rfl, g3, g4, gne', hd3, hd4, hg3⟩
                  rw [HT2.out] at hd3 hd4
                  have hg23 := (gr_alloc (World.grownBy.refl w2 none) _).trans hg3
                  have e0 := at_cell (kept hg23 HD2.out) 0
                  have e2 := at_cell hd4 0
                  simp [intsA] at e0 e2
                  have hgw : w.grownBy w3 none := (gr_alloc hgr _).trans (hg2.trans hg23)
                  have ec1 := hgw.cell (HC1.out k hlt) (by simp)
                  have HD1' : Hid (w3.heap[d1]? = some (.cells (intsA m1) 3)) := kept hg23 HD1.out
                  have HD3 : Hid (w3.heap[d3]? = some (.cells (intsA m2) 3)) := hd3
                  clear hd3 hd4
                  rw [hDk] at ec1
                  go_wp2
                  have hgl := HG.out
                  go_roundg (len - (k + 1))
                  all_goals first | omega | exact ⟨k + 1, d1, d3, N + d, -1, L + d, false, false, m1, m2, by go_num, by omega, by omega, by omega, rfl, rfl, by go_num, by go_num, by go_num, rfl, rfl, by omega, by omega, by omega, by omega, by omega, by omega, HE1.out, HE2.out, HD1'.out, HD3.out, hgw⟩
          · rw [hO] at hcx
            have ht2 := tof_yes hp0 hp1 HI2.out
            have HT2 : Hid (_ = _) := ht2
            clear ht2
            by_cases hH : H < 0
            · by_cases hq : p ≤ 0
              · have hHe : H = -1 := by omega
                have hh := HI1.out
                rw [hHe] at hh
                obtain ⟨hlf, m1, a1, ht1, ho1⟩ := ton_new hp0 hp1 hh
                clear hh
                rw [decide_eq_true hq] at ht1 ho1
                subst hlf
                obtain ⟨m2, a2, HT2, HO2⟩ : ∃ (m2 : List Int) (a2 : Int), Hid (tofF (wrapL [1, 5, 1, 5] l2) (wrapL [1, 5] [1, p]) (wrapK 5 N) = (m2, [1, a2])) ∧ Hid (OffI N (-1) true m2) := ⟨_, _, HT2, .inl ⟨rfl, rfl⟩⟩
                have HO1 : Hid (OnI N 0 true m1) := ho1
                have HT1 : Hid (tonF (wrapL [1, 5, 1, 5] l1) (wrapL [1, 5] [1, p]) (wrapK 5 N) = (m1, [1, a1])) := ht1
                clear ht1 ho1
                have e1 := on_step d HO1.out hd0 (by omega)
                have e2 := off_step d HO2.out hd0 (by omega)
                rw [if_pos (by omega)] at e1
                rw [if_neg (by omega)] at e2
                have HE1 : Hid (OnI (N + d) (0 + d) true m1) := e1
                have HE2 : Hid (OffI (N + d) (-1) true m2) := e2
                clear e1 e2
                go_wp2_with fail
                refine (stepC_ton _ _ l1 [1, p] _ _ ?_ ?_).mono ?_
                · exact rd_ofn (on_len HI1.out) (kept (gr_alloc (World.grownBy.refl _ _) _) HW1.out)
                · exact rd_of (l := [1, p]) (heap_alloc_new _ _)
                rintro e w2 ⟨d1, d2, rfl, g1, g2, gne, hd1, hd2, hg2⟩
                rw [HT1.out] at hd1 hd2
                have HD1 : Hid (w2.heap[d1]? = some (.cells (intsA m1) 3)) := hd1
                have HD2 : Hid (w2.heap[d2]? = some (.cells (intsA [1, a1]) 3)) := hd2
                clear hd1 hd2
                go_wp2_with fail
                refine (stepC_tof _ _ l2 [1, p] _ _ ?_ ?_).mono ?_
                · exact rd_ofn (off_len HI2.out) (kept (gr_alloc hg2 _) (kept (gr_alloc (World.grownBy.refl _ _) _) HW2.out))
                · exact rd_of (l := [1, p]) (heap_alloc_new _ _)
                rintro e w3 ⟨d3, d4, rfl, g3, g4, gne', hd3, hd4, hg3⟩
                rw [HT2.out] at hd3 hd4
                have hg23 := (gr_alloc (World.grownBy.refl w2 none) _).trans hg3
                have e0 := at_cell (kept hg23 HD2.out) 0
                have e2 := at_cell hd4 0
                simp [intsA] at e0 e2
                have hgw : w.grownBy w3 none := (gr_alloc hgr _).trans (hg2.trans hg23)
                have ec1 := hgw.cell (HC1.out k hlt) (by simp)
                have HD1' : Hid (w3.heap[d1]? = some (.cells (intsA m1) 3)) := kept hg23 HD1.out
                have HD3 : Hid (w3.heap[d3]? = some (.cells (intsA m2) 3)) := hd3
                clear hd3 hd4
                rw [hDk] at ec1
                go_wp2
                have hgl := HG.out
                go_roundg (len - (k + 1))
                all_goals first | omega | exact ⟨k + 1, d1, d3, N + d, 0 + d, -1, true, true, m1, m2, by go_num, by omega, by omega, by omega, rfl, rfl, by go_num, by go_num, by go_num, rfl, rfl, by omega, by omega, by omega, by omega, by omega, by omega, HE1.out, HE2.out, HD1'.out, HD3.out, hgw⟩
              · have hHe : H = -1 := by omega
                have hh := HI1.out
                rw [hHe] at hh
                obtain ⟨hlf, m1, a1, ht1, ho1⟩ := ton_new hp0 hp1 hh
                clear hh
                rw [decide_eq_false hq] at ht1 ho1
                subst hlf
                obtain ⟨m2, a2, HT2, HO2⟩ : ∃ (m2 : List Int) (a2 : Int), Hid (tofF (wrapL [1, 5, 1, 5] l2) (wrapL [1, 5] [1, p]) (wrapK 5 N) = (m2, [1, a2])) ∧ Hid (OffI N (-1) true m2) := ⟨_, _, HT2, .inl ⟨rfl, rfl⟩⟩
                have HO1 : Hid (OnI N 0 false m1) := ho1
                have HT1 : Hid (tonF (wrapL [1, 5, 1, 5] l1) (wrapL [1, 5] [1, p]) (wrapK 5 N) = (m1, [0, a1])) := ht1
                clear ht1 ho1
                have e1 := on_step d HO1.out hd0 (by omega)
                have e2 := off_step d HO2.out hd0 (by omega)
                rw [if_pos (by omega)] at e1
                rw [if_neg (by omega)] at e2
                have HE1 : Hid (OnI (N + d) (0 + d) false m1) := e1
                have HE2 : Hid (OffI (N + d) (-1) true m2) := e2
                clear e1 e2
                go_wp2_with fail
                refine (stepC_ton _ _ l1 [1, p] _ _ ?_ ?_).mono ?_
                · exact rd_ofn (on_len HI1.out) (kept (gr_alloc (World.grownBy.refl _ _) _) HW1.out)
                · exact rd_of (l := [1, p]) (heap_alloc_new _ _)
                rintro e w2 ⟨d1, d2, rfl, g1, g2, gne, hd1, hd2, hg2⟩
                rw [HT1.out] at hd1 hd2
                have HD1 : Hid (w2.heap[d1]? = some (.cells (intsA m1) 3)) := hd1
                have HD2 : Hid (w2.heap[d2]? = some (.cells (intsA [0, a1]) 3)) := hd2
                clear hd1 hd2
                go_wp2_with fail
                refine (stepC_tof _ _ l2 [1, p] _ _ ?_ ?_).mono ?_
                · exact rd_ofn (off_len HI2.out) (kept (gr_alloc hg2 _) (kept (gr_alloc (World.grownBy.refl _ _) _) HW2.out))
                · exact rd_of (l := [1, p]) (heap_alloc_new _ _)
                rintro e w3 ⟨d3, d4, rfl, g3, g4, gne', hd3, hd4, hg3⟩
                rw [HT2.out] at hd3 hd4
                have hg23 := (gr_alloc (World.grownBy.refl w2 none) _).trans hg3
                have e0 := at_cell (kept hg23 HD2.out) 0
                have e2 := at_cell hd4 0
                simp [intsA] at e0 e2
                have hgw : w.grownBy w3 none := (gr_alloc hgr _).trans (hg2.trans hg23)
                have ec1 := hgw.cell (HC1.out k hlt) (by simp)
                have HD1' : Hid (w3.heap[d1]? = some (.cells (intsA m1) 3)) := kept hg23 HD1.out
                have HD3 : Hid (w3.heap[d3]? = some (.cells (intsA m2) 3)) := hd3
                clear hd3 hd4
                rw [hDk] at ec1
                go_wp2
                have hgl := HG.out
                go_roundg (len - (k + 1))
                all_goals first | omega | exact ⟨k + 1, d1, d3, N + d, 0 + d, -1, false, true, m1, m2, by go_num, by omega, by omega, by omega, rfl, rfl, by go_num, by go_num, by go_num, rfl, rfl, by omega, by omega, by omega, by omega, by omega, by omega, HE1.out, HE2.out, HD1'.out, HD3.out, hgw⟩
            · cases late
              · by_cases hq : p ≤ H
                · obtain ⟨m1, a1, ht1, ho1⟩ := ton_old hp0 hp1 (by omega) HI1.out
                  rw [decide_eq_true hq] at ht1 ho1
                  simp only [Bool.false_or] at ht1 ho1
                  obtain ⟨m2, a2, HT2, HO2⟩ : ∃ (m2 : List Int) (a2 : Int), Hid (tofF (wrapL [1, 5, 1, 5] l2) (wrapL [1, 5] [1, p]) (wrapK 5 N) = (m2, [1, a2])) ∧ Hid (OffI N (-1) true m2) := ⟨_, _, HT2, .inl ⟨rfl, rfl⟩⟩
                  have HO1 : Hid (OnI N H true m1) := ho1
                  have HT1 : Hid (tonF (wrapL [1, 5, 1, 5] l1) (wrapL [1, 5] [1, p]) (wrapK 5 N) = (m1, [1, a1])) := ht1
                  clear ht1 ho1
                  have e1 := on_step d HO1.out hd0 (by omega)
                  have e2 := off_step d HO2.out hd0 (by omega)
                  rw [if_pos (by omega)] at e1
                  rw [if_neg (by omega)] at e2
                  have HE1 : Hid (OnI (N + d) (H + d) true m1) := e1
                  have HE2 : Hid (OffI (N + d) (-1) true m2) := e2
                  clear e1 e2
                  go_wp2_with fail
                  refine (stepC_ton _ _ l1 [1, p] _ _ ?_ ?_).mono ?_
                  · exact rd_ofn (on_len HI1.out) (kept (gr_alloc (World.grownBy.refl _ _) _) HW1.out)
                  · exact rd_of (l := [1, p]) (heap_alloc_new _ _)
                  rintro e w2 ⟨d1, d2, rfl, g1, g2, gne, hd1, hd2, hg2⟩
                  rw [HT1.out] at hd1 hd2
                  have HD1 : Hid (w2.heap[d1]? = some (.cells (intsA m1) 3)) := hd1
                  have HD2 : Hid (w2.heap[d2]? = some (.cells (intsA [1, a1]) 3)) := hd2
                  clear hd1 hd2
                  go_wp2_with fail
                  refine (stepC_tof _ _ l2 [1, p] _ _ ?_ ?_).mono ?_
                  · exact rd_ofn (off_len HI2.out) (kept (gr_alloc hg2 _) (kept (gr_alloc (World.grownBy.refl _ _) _) HW2.out))
                  · exact rd_of (l := [1, p]) (heap_alloc_new _ _)
                  rintro e w3 ⟨d3, d4, rfl, g3, g4, gne', hd3, hd4, hg3⟩
                  rw [HT2.out] at hd3 hd4
                  have hg23 := (gr_alloc (World.grownBy.refl w2 none) _).trans hg3
                  have e0 := at_cell (kept hg23 HD2.out) 0
                  have e2 := at_cell hd4 0
                  simp [intsA] at e0 e2
                  have hgw : w.grownBy w3 none := (gr_alloc hgr _).trans (hg2.trans hg23)
                  have ec1 := hgw.cell (HC1.out k hlt) (by simp)
                  have HD1' : Hid (w3.heap[d1]? = some (.cells (intsA m1) 3)) := kept hg23 HD1.out
                  have HD3 : Hid (w3.heap[d3]? = some (.cells (intsA m2) 3)) := hd3
                  clear hd3 hd4
                  rw [hDk] at ec1
                  go_wp2
                  have hgl := HG.out
                  go_roundg (len - (k + 1))
                  all_goals first | omega | exact ⟨k + 1, d1, d3, N + d, H + d, -1, true, true, m1, m2, by go_num, by omega, by omega, by omega, rfl, rfl, by go_num, by go_num, by go_num, rfl, rfl, by omega, by omega, by omega, by omega, by omega, by omega, HE1.out, HE2.out, HD1'.out, HD3.out, hgw⟩
                · obtain ⟨m1, a1, ht1, ho1⟩ := ton_old hp0 hp1 (by omega) HI1.out
                  rw [decide_eq_false hq] at ht1 ho1
                  simp only [Bool.false_or] at ht1 ho1
                  obtain ⟨m2, a2, HT2, HO2⟩ : ∃ (m2 : List Int) (a2 : Int), Hid (tofF (wrapL [1, 5, 1, 5] l2) (wrapL [1, 5] [1, p]) (wrapK 5 N) = (m2, [1, a2])) ∧ Hid (OffI N (-1) true m2) := ⟨_, _, HT2, .inl ⟨rfl, rfl⟩⟩
                  have HO1 : Hid (OnI N H false m1) := ho1
                  have HT1 : Hid (tonF (wrapL [1, 5, 1, 5] l1) (wrapL [1, 5] [1, p]) (wrapK 5 N) = (m1, [0, a1])) := ht1
                  clear ht1 ho1
                  have e1 := on_step d HO1.out hd0 (by omega)
                  have e2 := off_step d HO2.out hd0 (by omega)
                  rw [if_pos (by omega)] at e1
                  rw [if_neg (by omega)] at e2
                  have HE1 : Hid (OnI (N + d) (H + d) false m1) := e1
                  have HE2 : Hid (OffI (N + d) (-1) true m2) := e2
                  clear e1 e2
                  go_wp2_with fail
                  refine (stepC_ton _ _ l1 [1, p] _ _ ?_ ?_).mono ?_
                  · exact rd_ofn (on_len HI1.out) (kept (gr_alloc (World.grownBy.refl _ _) _) HW1.out)
                  · exact rd_of (l := [1, p]) (heap_alloc_new _ _)
                  rintro e w2 ⟨d1, d2, rfl, g1, g2, gne, hd1, hd2, hg2⟩
                  rw [HT1.out] at hd1 hd2
                  have HD1 : Hid (w2.heap[d1]? = some (.cells (intsA m1) 3)) := hd1
                  have HD2 : Hid (w2.heap[d2]? = some (.cells (intsA [0, a1]) 3)) := hd2
                  clear hd1 hd2
                  go_wp2_with fail
                  refine (stepC_tof _ _ l2 [1, p] _ _ ?_ ?_).mono ?_
                  · exact rd_ofn (off_len HI2.out) (kept (gr_alloc hg2 _) (kept (gr_alloc (World.grownBy.refl _ _) _) HW2.out))
                  · exact rd_of (l := [1, p]) (heap_alloc_new _ _)
                  rintro e w3 ⟨d3, d4, rfl, g3, g4, gne', hd3, hd4, hg3⟩
                  rw [HT2.out] at hd3 hd4
                  have hg23 := (gr_alloc (World.grownBy.refl w2 none) _).trans hg3
                  have e0 := at_cell (kept hg23 HD2.out) 0
                  have e2 := at_cell hd4 0
                  simp [intsA] at e0 e2
                  have hgw : w.grownBy w3 none := (gr_alloc hgr _).trans (hg2.trans hg23)
                  have ec1 := hgw.cell (HC1.out k hlt) (by simp)
                  have HD1' : Hid (w3.heap[d1]? = some (.cells (intsA m1) 3)) := kept hg23 HD1.out
                  have HD3 : Hid (w3.heap[d3]? = some (.cells (intsA m2) 3)) := hd3
                  clear hd3 hd4
                  rw [hDk] at ec1
                  go_wp2
                  have hgl := HG.out
                  go_roundg (len - (k + 1))
                  all_goals first | omega | exact ⟨k + 1, d1, d3, N + d, H + d, -1, false, true, m1, m2, by go_num, by omega, by omega, by omega, rfl, rfl, by go_num, by go_num, by go_num, rfl, rfl, by omega, by omega, by omega, by omega, by omega, by omega, HE1.out, HE2.out, HD1'.out, HD3.out, hgw⟩
              · obtain ⟨m1, a1, ht1, ho1⟩ := ton_old hp0 hp1 (by omega) HI1.out
                simp only [Bool.true_or] at ht1 ho1
                obtain ⟨m2, a2, HT2, HO2⟩ : ∃ (m2 : List Int) (a2 : Int), Hid (tofF (wrapL [1, 5, 1, 5] l2) (wrapL [1, 5] [1, p]) (wrapK 5 N) = (m2, [1, a2])) ∧ Hid (OffI N (-1) true m2) := ⟨_, _, HT2, .inl ⟨rfl, rfl⟩⟩
                have HO1 : Hid (OnI N H true m1) := ho1
                have HT1 : Hid (tonF (wrapL [1, 5, 1, 5] l1) (wrapL [1, 5] [1, p]) (wrapK 5 N) = (m1, [1, a1])) := ht1
                clear ht1 ho1
                have e1 := on_step d HO1.out hd0 (by omega)
                have e2 := off_step d HO2.out hd0 (by omega)
                rw [if_pos (by omega)] at e1
                rw [if_neg (by omega)] at e2
                have HE1 : Hid (OnI (N + d) (H + d) true m1) := e1
                have HE2 : Hid (OffI (N + d) (-1) true m2) := e2
                clear e1 e2
                go_wp2_with fail
                refine (stepC_ton _ _ l1 [1, p] _ _ ?_ ?_).mono ?_
                · exact rd_ofn (on_len HI1.out) (kept (gr_alloc (World.grownBy.refl _ _) _) HW1.out)
                · exact rd_of (l := [1, p]) (heap_alloc_new _ _)
                rintro e w2 ⟨d1, d2, rfl, g1, g2, gne, hd1, hd2, hg2⟩
                rw [HT1.out] at hd1 hd2
                have HD1 : Hid (w2.heap[d1]? = some (.cells (intsA m1) 3)) := hd1
                have HD2 : Hid (w2.heap[d2]? = some (.cells (intsA [1, a1]) 3)) := hd2
                clear hd1 hd2
                go_wp2_with fail
                refine (stepC_tof _ _ l2 [1, p] _ _ ?_ ?_).mono ?_
                · exact rd_ofn (off_len HI2.out) (kept (gr_alloc hg2 _) (kept (gr_alloc (World.grownBy.refl _ _) _) HW2.out))
                · exact rd_of (l := [1, p]) (heap_alloc_new _ _)
                rintro e w3 ⟨d3, d4, rfl, g3, g4, gne', hd3, hd4, hg3⟩
                rw [HT2.out] at hd3 hd4
                have hg23 := (gr_alloc (World.grownBy.refl w2 none) _).trans hg3
                have e0 := at_cell (kept hg23 HD2.out) 0
                have e2 := at_cell hd4 0
                simp [intsA] at e0 e2
                have hgw : w.grownBy w3 none := (gr_alloc hgr _).trans (hg2.trans hg23)
                have ec1 := hgw.cell (HC1.out k hlt) (by simp)
                have HD1' : Hid (w3.heap[d1]? = some (.cells (intsA m1) 3)) := kept hg23 HD1.out
                have HD3 : Hid (w3.heap[d3]? = some (.cells (intsA m2) 3)) := hd3
                clear hd3 hd4
                rw [hDk] at ec1
                go_wp2
                have hgl := HG.out
                go_roundg (len - (k + 1))
                all_goals first | omega | exact ⟨k + 1, d1, d3, N + d, H + d, -1, true, true, m1, m2, by go_num, by omega, by omega, by omega, rfl, rfl, by go_num, by go_num, by go_num, rfl, rfl, by omega, by omega, by omega, by omega, by omega, by omega, HE1.out, HE2.out, HD1'.out, HD3.out, hgw⟩
        · have i2 : (k : Int) < (len : Int) := by omega
          have i3 : ¬ (k : Int) < 60000 := by omega
          have hO2 : tonO.length = 2 := rfl
          go_wp2_with (first | (go_at_call 9; refine (shapeC_ton _).mono ?_; rintro e w' ⟨v, rfl, ⟨b1, b2, b3, rfl, hb1, hb2, hb3, n12, n13, n23, hB1, hB2, hB3⟩, hg1⟩))
          go_ret
          exact ⟨rfl, gr_alloc (hgr.trans hg1) _⟩
      · have hk' : ¬ ((k : Int) < (len : Int)) := by omega
        have hO2 : tonO.length = 2 := rfl
        go_wp2_with (first | (go_at_call 9; refine (shapeC_ton _).mono ?_; rintro e w' ⟨v, rfl, ⟨b1, b2, b3, rfl, hb1, hb2, hb3, n12, n13, n23, hB1, hB2, hB3⟩, hg1⟩))
        go_ret
        exact ⟨rfl, gr_alloc (hgr.trans hg1) _⟩
end Go.Proofs.Ytphnadhkoigegaa
