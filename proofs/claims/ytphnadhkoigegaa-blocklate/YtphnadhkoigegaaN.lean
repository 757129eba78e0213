/- The walk of BlockCounts. -/
import Derived.Test.YtphnadhkoigegaaL2
import Derived.Test.YtphnadhkoigegaaM
import Derived.Deep.LoopGhost
import Derived.Deep.QuietTactic
import Derived.BigQuiet
import Derived.Deep.RegionHeld3
namespace Go.Proofs.Ytphnadhkoigegaa
open Go.RowKit
attribute [local go_sem ↓] Go.wp_at_zero Go.wp_at_succ

theorem rd_of {W : World} {c : Nat} {l : List Int} (h : W.heap[c]? = some (.cells (intsA l) 3)) : rd W (.slice (some ⟨c, 0, none⟩) l.length l.length) l := by
  refine ⟨_, _, rfl, .inr ⟨c, 0, rfl, fun i hi => ?_⟩⟩
  rw [at_cell h]
  simp [intsA, hi]

theorem yes_one (b : Bool) : (yesN b == 1) = b := by cases b <;> rfl

/-- What ctu answers, at inputs within their kinds. -/
theorem ctu_is (was : Bool) (n u r pv now n' : Int) (hn0 : -32768 ≤ n) (hn1 : n ≤ 32767) (hu : u = 0 ∨ u = 1) (hr : r = 0 ∨ r = 1) (hp0 : -32768 ≤ pv) (hp1 : pv ≤ 32767)
    (h : n' = if r = 1 then 0 else if u = 1 ∧ was = false ∧ n < 32767 then n + 1 else n) :
    ctuF (wrapL [1, 2] [yesN was, n]) (wrapL [1, 1, 2] [u, r, pv]) now = ([u, n'], [yesN (decide (pv ≤ n')), n']) := by
  have e1 : wrapL [1, 2] [yesN was, n] = [yesN was, n] := by
    have : wrapK 1 (yesN was) = yesN was := by cases was <;> simp [yesN, wrapK]
    simp only [wrapL, List.length_cons, List.length_nil, if_true, List.zipWith_cons_cons, List.zipWith_nil_right, this, wrapK2]
    rw [show (n + 32768) % 65536 - 32768 = n by omega]
  have e2 : wrapL [1, 1, 2] [u, r, pv] = [u, r, pv] := by
    simp only [wrapL, List.length_cons, List.length_nil, if_true, List.zipWith_cons_cons, List.zipWith_nil_right, wrapK1, wrapK2]
    rw [show (pv + 32768) % 65536 - 32768 = pv by omega, show u % 2 = u by omega, show r % 2 = r by omega]
  rw [e1, e2, h]
  unfold ctuF moreN
  rcases hr with rfl | rfl <;> rcases hu with rfl | rfl <;> cases was
  all_goals simp [yesN]
  by_cases hlt : n < 32767
  · have : min (n + 1) 32767 = n + 1 := by omega
    simp [hlt, this]
  · have : min (n + 1) 32767 = n := by omega
    simp [hlt, this]

set_option maxRecDepth 10000 in
set_option maxHeartbeats 2000000 in
theorem counts_in (pv : Int) (b off cap len : Nat) (l : List Int) (w : World) (hc : ∀ i, i < len → w.cell? ⟨b, off + i, none⟩ = some (.int .i64 (l.getD i 0))) (hlen : len ≤ 9223372036854775807) (hp0 : -32768 ≤ pv) (hp1 : pv ≤ 32767) :
    Calls Try.prog 7 #[.int .i64 pv, .slice (some ⟨b, off, none⟩) len cap] w fun e w' => e = .returned (.bool true) ∧ w.grownBy w' none := by
  have h1 : ¬ pv < -32768 := by omega
  have h2 : ¬ 32767 < pv := by omega
  have HC : Hid (∀ i, i < len → w.cell? ⟨b, off + i, none⟩ = some (.int .i64 (l.getD i 0))) := hc
  clear hc
  go_enter Try.func7, Try.ntmps7
  go_wp2
  go_loopg [5, 6, 7, 8] len (fun gk s5 s6 s7 s8 wx => ∃ (k c : Nat) (n : Int) (was : Bool), s8 = .int .i64 k ∧ k ≤ len ∧ gk = len - k ∧ s5 = .slice (some ⟨c, 0, none⟩) 2 2 ∧ s6 = .int .i64 n ∧ s7 = .bool was ∧ 0 ≤ n ∧ n ≤ 32767 ∧
    wx.heap[c]? = some (.cells (intsA [yesN was, n]) 3) ∧ w.grownBy wx none)
  case atStart => exact ⟨0, w.heap.size, 0, false, rfl, Nat.zero_le _, by omega, rfl, rfl, rfl, by omega, by omega, heap_alloc_new _ _, gr_alloc (World.grownBy.refl _ _) _⟩
  case round =>
    obtain ⟨k, c, n, was, rfl, hk, hgk, rfl, rfl, rfl, hn0, hn1, hc0, hgr⟩ := hrel
    have HG : Hid (gk = len - k) := hgk
    have H0 : Hid (wr.heap[c]? = some (.cells (intsA [yesN was, n]) 3)) := hc0
    clear hgk hc0
    by_cases hlt : k < len
    · obtain ⟨x, hx⟩ : ∃ x, l.getD k 0 = x := ⟨_, rfl⟩
      have hcx : wr.cell? ⟨b, off + k, none⟩ = some (.int .i64 x) := hx ▸ hgr.cell (HC.out k hlt) (by simp)
      clear hx
      have i1 : (0 : Int) ≤ (k : Int) := by omega
      have i2 : (k : Int) < (len : Int) := by omega
      have hb := and1 x
      obtain ⟨u, hu⟩ : ∃ u, bits .and .i64 x 1 = u := ⟨_, rfl⟩
      have hu01 : u = 0 ∨ u = 1 := by omega
      obtain ⟨z, hz⟩ : ∃ z, bits .and .i64 x 6 = z := ⟨_, rfl⟩
      clear hb
      by_cases hz6 : z = 6
      · subst hz6
        rcases hu01 with rfl | rfl
        · have HF := ctu_is was n 0 1 pv (wrapK 5 k) 0 (by omega) hn1 (by simp) (by simp) hp0 hp1 (by simp <;> omega)
          have HF' : Hid (_ = _) := HF
          clear HF
          obtain ⟨y, hy, hy1⟩ : ∃ y, yesN (decide (pv ≤ 0)) = y ∧ (y == 1) = decide (pv ≤ 0) := ⟨_, rfl, yes_one _⟩
          have HY : Hid (yesN (decide (pv ≤ 0)) = y) := hy
          clear hy
          go_wp2
          go_region_held3 (fun w' => w'.cell? ⟨b, off + k, none⟩ = some (.int .i64 x)) (go_keep) (fail)
          go_wp2_with fail
          refine (stepC_ctu _ _ [yesN was, n] [0, 1, pv] _ _ ?_ ?_).mono ?_
          · exact rd_of (l := [yesN was, n]) (kept (gr_drew (gr_alloc (World.grownBy.refl _ _) _)) H0.out)
          · exact rd_of (l := [0, 1, pv]) ((hp_drew _ _).trans (heap_alloc_new _ _))
          rintro e w2 ⟨c1, c2, rfl, g1, g2, gne, hd1, hd2, hg2⟩
          rw [HF'.out] at hd1 hd2
          have e0 := at_cell hd2 0
          have e1 := at_cell hd2 1
          simp [intsA, HY.out] at e0 e1
          have HD : Hid (w2.heap[c1]? = some (.cells (intsA [0, 0]) 3)) := hd1
          clear hd1 hd2
          go_wp2
          have hgl := HG.out
          go_roundg (len - (k + 1))
          all_goals first | omega | exact ⟨k + 1, c1, 0, false, by go_num, by omega, by omega, rfl, rfl, rfl, by omega, by omega, HD.out, (gr_drew (gr_alloc hgr _)).trans hg2⟩
        · have HF := ctu_is was n 1 1 pv (wrapK 5 k) 0 (by omega) hn1 (by simp) (by simp) hp0 hp1 (by simp <;> omega)
          have HF' : Hid (_ = _) := HF
          clear HF
          obtain ⟨y, hy, hy1⟩ : ∃ y, yesN (decide (pv ≤ 0)) = y ∧ (y == 1) = decide (pv ≤ 0) := ⟨_, rfl, yes_one _⟩
          have HY : Hid (yesN (decide (pv ≤ 0)) = y) := hy
          clear hy
          go_wp2
          go_region_held3 (fun w' => w'.cell? ⟨b, off + k, none⟩ = some (.int .i64 x)) (go_keep) (fail)
          go_wp2_with fail
          refine (stepC_ctu _ _ [yesN was, n] [1, 1, pv] _ _ ?_ ?_).mono ?_
          · exact rd_of (l := [yesN was, n]) (kept (gr_drew (gr_alloc (World.grownBy.refl _ _) _)) H0.out)
          · exact rd_of (l := [1, 1, pv]) ((hp_drew _ _).trans (heap_alloc_new _ _))
          rintro e w2 ⟨c1, c2, rfl, g1, g2, gne, hd1, hd2, hg2⟩
          rw [HF'.out] at hd1 hd2
          have e0 := at_cell hd2 0
          have e1 := at_cell hd2 1
          simp [intsA, HY.out] at e0 e1
          have HD : Hid (w2.heap[c1]? = some (.cells (intsA [1, 0]) 3)) := hd1
          clear hd1 hd2
          go_wp2
          have hgl := HG.out
          go_roundg (len - (k + 1))
          all_goals first | omega | exact ⟨k + 1, c1, 0, true, by go_num, by omega, by omega, rfl, rfl, rfl, by omega, by omega, HD.out, (gr_drew (gr_alloc hgr _)).trans hg2⟩
      · have hz6' : (z == 6) = false := by simpa using hz6
        rcases hu01 with rfl | rfl
        · have HF := ctu_is was n 0 0 pv (wrapK 5 k) n (by omega) hn1 (by simp) (by simp) hp0 hp1 (by simp <;> omega)
          have HF' : Hid (_ = _) := HF
          clear HF
          obtain ⟨y, hy, hy1⟩ : ∃ y, yesN (decide (pv ≤ n)) = y ∧ (y == 1) = decide (pv ≤ n) := ⟨_, rfl, yes_one _⟩
          have HY : Hid (yesN (decide (pv ≤ n)) = y) := hy
          clear hy
          go_wp2
          go_region_held3 (fun w' => w'.cell? ⟨b, off + k, none⟩ = some (.int .i64 x)) (go_keep) (fail)
          go_wp2_with fail
          refine (stepC_ctu _ _ [yesN was, n] [0, 0, pv] _ _ ?_ ?_).mono ?_
          · exact rd_of (l := [yesN was, n]) (kept (gr_drew (gr_alloc (World.grownBy.refl _ _) _)) H0.out)
          · exact rd_of (l := [0, 0, pv]) ((hp_drew _ _).trans (heap_alloc_new _ _))
          rintro e w2 ⟨c1, c2, rfl, g1, g2, gne, hd1, hd2, hg2⟩
          rw [HF'.out] at hd1 hd2
          have e0 := at_cell hd2 0
          have e1 := at_cell hd2 1
          simp [intsA, HY.out] at e0 e1
          have HD : Hid (w2.heap[c1]? = some (.cells (intsA [0, n]) 3)) := hd1
          clear hd1 hd2
          go_wp2
          have hgl := HG.out
          go_roundg (len - (k + 1))
          all_goals first | omega | exact ⟨k + 1, c1, n, false, by go_num, by omega, by omega, rfl, rfl, rfl, by omega, by omega, HD.out, (gr_drew (gr_alloc hgr _)).trans hg2⟩
        · cases was
          · by_cases hn : n < 32767
            · have HF := ctu_is false n 1 0 pv (wrapK 5 k) (n + 1) (by omega) hn1 (by simp) (by simp) hp0 hp1 (by simp <;> omega)
              have HF' : Hid (_ = _) := HF
              clear HF
              obtain ⟨y, hy, hy1⟩ : ∃ y, yesN (decide (pv ≤ (n + 1))) = y ∧ (y == 1) = decide (pv ≤ (n + 1)) := ⟨_, rfl, yes_one _⟩
              have HY : Hid (yesN (decide (pv ≤ (n + 1))) = y) := hy
              clear hy
              go_wp2
              go_region_held3 (fun w' => w'.cell? ⟨b, off + k, none⟩ = some (.int .i64 x)) (go_keep) (fail)
              go_wp2_with fail
              refine (stepC_ctu _ _ [yesN false, n] [1, 0, pv] _ _ ?_ ?_).mono ?_
              · exact rd_of (l := [yesN false, n]) (kept (gr_drew (gr_alloc (World.grownBy.refl _ _) _)) H0.out)
              · exact rd_of (l := [1, 0, pv]) ((hp_drew _ _).trans (heap_alloc_new _ _))
              rintro e w2 ⟨c1, c2, rfl, g1, g2, gne, hd1, hd2, hg2⟩
              rw [HF'.out] at hd1 hd2
              have e0 := at_cell hd2 0
              have e1 := at_cell hd2 1
              simp [intsA, HY.out] at e0 e1
              have HD : Hid (w2.heap[c1]? = some (.cells (intsA [1, (n + 1)]) 3)) := hd1
              clear hd1 hd2
              go_wp2
              have hgl := HG.out
              go_roundg (len - (k + 1))
              all_goals first | omega | exact ⟨k + 1, c1, (n + 1), true, by go_num, by omega, by omega, rfl, rfl, rfl, by omega, by omega, HD.out, (gr_drew (gr_alloc hgr _)).trans hg2⟩
            · have HF := ctu_is false n 1 0 pv (wrapK 5 k) n (by omega) hn1 (by simp) (by simp) hp0 hp1 (by simp <;> omega)
              have HF' : Hid (_ = _) := HF
              clear HF
              obtain ⟨y, hy, hy1⟩ : ∃ y, yesN (decide (pv ≤ n)) = y ∧ (y == 1) = decide (pv ≤ n) := ⟨_, rfl, yes_one _⟩
              have HY : Hid (yesN (decide (pv ≤ n)) = y) := hy
              clear hy
              go_wp2
              go_region_held3 (fun w' => w'.cell? ⟨b, off + k, none⟩ = some (.int .i64 x)) (go_keep) (fail)
              go_wp2_with fail
              refine (stepC_ctu _ _ [yesN false, n] [1, 0, pv] _ _ ?_ ?_).mono ?_
              · exact rd_of (l := [yesN false, n]) (kept (gr_drew (gr_alloc (World.grownBy.refl _ _) _)) H0.out)
              · exact rd_of (l := [1, 0, pv]) ((hp_drew _ _).trans (heap_alloc_new _ _))
              rintro e w2 ⟨c1, c2, rfl, g1, g2, gne, hd1, hd2, hg2⟩
              rw [HF'.out] at hd1 hd2
              have e0 := at_cell hd2 0
              have e1 := at_cell hd2 1
              simp [intsA, HY.out] at e0 e1
              have HD : Hid (w2.heap[c1]? = some (.cells (intsA [1, n]) 3)) := hd1
              clear hd1 hd2
              go_wp2
              have hgl := HG.out
              go_roundg (len - (k + 1))
              all_goals first | omega | exact ⟨k + 1, c1, n, true, by go_num, by omega, by omega, rfl, rfl, rfl, by omega, by omega, HD.out, (gr_drew (gr_alloc hgr _)).trans hg2⟩
          · have HF := ctu_is true n 1 0 pv (wrapK 5 k) n (by omega) hn1 (by simp) (by simp) hp0 hp1 (by simp <;> omega)
            have HF' : Hid (_ = _) := HF
            clear HF
            obtain ⟨y, hy, hy1⟩ : ∃ y, yesN (decide (pv ≤ n)) = y ∧ (y == 1) = decide (pv ≤ n) := ⟨_, rfl, yes_one _⟩
            have HY : Hid (yesN (decide (pv ≤ n)) = y) := hy
            clear hy
            go_wp2
            go_region_held3 (fun w' => w'.cell? ⟨b, off + k, none⟩ = some (.int .i64 x)) (go_keep) (fail)
            go_wp2_with fail
            refine (stepC_ctu _ _ [yesN true, n] [1, 0, pv] _ _ ?_ ?_).mono ?_
            · exact rd_of (l := [yesN true, n]) (kept (gr_drew (gr_alloc (World.grownBy.refl _ _) _)) H0.out)
            · exact rd_of (l := [1, 0, pv]) ((hp_drew _ _).trans (heap_alloc_new _ _))
            rintro e w2 ⟨c1, c2, rfl, g1, g2, gne, hd1, hd2, hg2⟩
            rw [HF'.out] at hd1 hd2
            have e0 := at_cell hd2 0
            have e1 := at_cell hd2 1
            simp [intsA, HY.out] at e0 e1
            have HD : Hid (w2.heap[c1]? = some (.cells (intsA [1, n]) 3)) := hd1
            clear hd1 hd2
            go_wp2
            have hgl := HG.out
            go_roundg (len - (k + 1))
            all_goals first | omega | exact ⟨k + 1, c1, n, true, by go_num, by omega, by omega, rfl, rfl, rfl, by omega, by omega, HD.out, (gr_drew (gr_alloc hgr _)).trans hg2⟩
    · have hk' : ¬ ((k : Int) < (len : Int)) := by omega
      go_wp2_with (first | (go_at_call 9; refine (shapeC_ctu _).mono ?_; rintro e w' ⟨v, rfl, ⟨b1, b2, b3, rfl, hb1, hb2, hb3, n12, n13, n23, hB1, hB2, hB3⟩, hg1⟩))
      go_ret
      exact ⟨rfl, gr_alloc (hgr.trans hg1) _⟩
end Go.Proofs.Ytphnadhkoigegaa
