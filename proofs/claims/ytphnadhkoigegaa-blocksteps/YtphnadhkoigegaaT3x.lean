/- The document's count: ctud. -/
import Derived.Test.YtphnadhkoigegaaT1
import Derived.Test.YtphnadhkoigegaaI
import Derived.Test.YtphnadhkoigegaaT3q
import Derived.BigQuiet
import Derived.Deep.QuietTactic
import Derived.Deep.RegionHeld3
namespace Go.Proofs.Ytphnadhkoigegaa
open Go.RowKit
attribute [local go_sem ↓] Go.wp_at_zero Go.wp_at_succ
set_option linter.unusedVariables false
set_option linter.unusedSimpArgs false

set_option maxRecDepth 10000 in
set_option maxHeartbeats 8000000 in
theorem refCount_ctud0 (b c : Nat) (u d n cu cd r ld pv : Int) (w : World) (h_u : u = 0 ∨ u = 1) (h_d : d = 0 ∨ d = 1) (h_n : -32768 ≤ n ∧ n ≤ 32767) (h_cu : cu = 0 ∨ cu = 1) (h_cd : cd = 0 ∨ cd = 1) (h_r : r = 0 ∨ r = 1) (h_ld : ld = 0 ∨ ld = 1) (h_pv : -32768 ≤ pv ∧ pv ≤ 32767) (cu0 : cu = 0) (hb : w.heap[b]? = some (.cells (intsA [u, d, n]) 3)) (hc : w.heap[c]? = some (.cells (intsA [cu, cd, r, ld, pv]) 3)) :
    Calls Try.prog 24 #[.string ctudName, .slice (some ⟨b, 0, none⟩) 3 3, .slice (some ⟨c, 0, none⟩) 5 5] w (StepPost 3 3 (ctudF [u, d, n] [cu, cd, r, ld, pv] 0) w) := by
  subst cu0
  have d0 := at_cell hb 0
  have d1 := at_cell hb 1
  have d2 := at_cell hb 2
  have e0 := at_cell hc 0
  have e1 := at_cell hc 1
  have e2 := at_cell hc 2
  have e3 := at_cell hc 3
  have e4 := at_cell hc 4
  simp [intsA] at d0 d1 d2 e0 e1 e2 e3 e4
  have lb := at_lt hb
  have lc := at_lt hc
  clear hb hc
  unfold ctudName
  rcases h_cd with rfl | rfl
  · rcases h_r with rfl | rfl
    · rcases h_ld with rfl | rfl
      · skip
        have hF : ctudF [u, d, n] [0, 0, 0, 0, pv] 0 = ([0, 0, n], [yesN (decide (pv ≤ n)), yesN (decide (n ≤ 0)), n]) := by simp [ctudF, udN, yesN]
        rw [hF]
        have HF : Hid (_ = _) := hF
        clear hF
        go_enter Try.func24, Try.ntmps24
        go_wp2_with fail
        go_quiet (fail)
        go_wp2_with fail
        go_region_held3 (fun w' => w'.cell? ⟨c, 0, none⟩ = some (.int .i64 0) ∧ w'.cell? ⟨c, 1, none⟩ = some (.int .i64 0) ∧ w'.cell? ⟨c, 2, none⟩ = some (.int .i64 0) ∧ w'.cell? ⟨c, 3, none⟩ = some (.int .i64 0) ∧ w'.cell? ⟨c, 4, none⟩ = some (.int .i64 pv)) (refine ⟨?_, ?_, ?_, ?_, ?_⟩ <;> (repeat (first | assumption | with_reducible refine ck_drew ?_ | with_reducible refine ck_drewN ?_ | refine ck_old (by first | omega | (simp; omega) | simp) ?_))) (first | (go_at_call 25; refine (yes_keep _ _).mono ?_; rintro e w' ⟨rfl, rfl⟩))
        all_goals go_wp2_with (first | (go_at_call 25; refine (yes_keep _ _).mono ?_; rintro e w' ⟨rfl, rfl⟩))
        all_goals go_ret2
        all_goals first | exact post_abn _ _ _ _ _ | exact post_ban _ _ _ _ _
      · skip
        have hF : ctudF [u, d, n] [0, 0, 0, 1, pv] 0 = ([0, 0, pv], [1, yesN (decide (pv ≤ 0)), pv]) := by simp [ctudF, udN, yesN]
        rw [hF]
        have HF : Hid (_ = _) := hF
        clear hF
        go_enter Try.func24, Try.ntmps24
        go_wp2_with fail
        go_quiet (fail)
        go_wp2_with fail
        go_region_held3 (fun w' => w'.cell? ⟨c, 0, none⟩ = some (.int .i64 0) ∧ w'.cell? ⟨c, 1, none⟩ = some (.int .i64 0) ∧ w'.cell? ⟨c, 2, none⟩ = some (.int .i64 0) ∧ w'.cell? ⟨c, 3, none⟩ = some (.int .i64 1) ∧ w'.cell? ⟨c, 4, none⟩ = some (.int .i64 pv)) (refine ⟨?_, ?_, ?_, ?_, ?_⟩ <;> (repeat (first | assumption | with_reducible refine ck_drew ?_ | with_reducible refine ck_drewN ?_ | refine ck_old (by first | omega | (simp; omega) | simp) ?_))) (first | (go_at_call 25; refine (yes_keep _ _).mono ?_; rintro e w' ⟨rfl, rfl⟩))
        all_goals go_wp2_with (first | (go_at_call 25; refine (yes_keep _ _).mono ?_; rintro e w' ⟨rfl, rfl⟩))
        all_goals go_ret2
        all_goals first | exact post_abn _ _ _ _ _ | exact post_ban _ _ _ _ _
    · skip
      have hF : ctudF [u, d, n] [0, 0, 1, ld, pv] 0 = ([0, 0, 0], [yesN (decide (pv ≤ 0)), 1, 0]) := by simp [ctudF, udN, yesN]
      rw [hF]
      have HF : Hid (_ = _) := hF
      clear hF
      go_enter Try.func24, Try.ntmps24
      go_wp2_with fail
      go_quiet (fail)
      go_wp2_with fail
      go_region_held3 (fun w' => w'.cell? ⟨c, 0, none⟩ = some (.int .i64 0) ∧ w'.cell? ⟨c, 1, none⟩ = some (.int .i64 0) ∧ w'.cell? ⟨c, 2, none⟩ = some (.int .i64 1) ∧ w'.cell? ⟨c, 3, none⟩ = some (.int .i64 ld) ∧ w'.cell? ⟨c, 4, none⟩ = some (.int .i64 pv)) (refine ⟨?_, ?_, ?_, ?_, ?_⟩ <;> (repeat (first | assumption | with_reducible refine ck_drew ?_ | with_reducible refine ck_drewN ?_ | refine ck_old (by first | omega | (simp; omega) | simp) ?_))) (first | (go_at_call 25; refine (yes_keep _ _).mono ?_; rintro e w' ⟨rfl, rfl⟩))
      all_goals go_wp2_with (first | (go_at_call 25; refine (yes_keep _ _).mono ?_; rintro e w' ⟨rfl, rfl⟩))
      all_goals go_ret2
      all_goals first | exact post_abn _ _ _ _ _ | exact post_ban _ _ _ _ _
  · rcases h_d with rfl | rfl
    · rcases h_r with rfl | rfl
      · rcases h_ld with rfl | rfl
        · by_cases hq : -32768 < n
          · have hq2 : max (n - 1) (-32768) = n - 1 := by omega
            have hF : ctudF [u, 0, n] [0, 1, 0, 0, pv] 0 = ([0, 1, (n - 1)], [yesN (decide (pv ≤ n - 1)), yesN (decide (n - 1 ≤ 0)), (n - 1)]) := by simp [ctudF, udN, yesN, moreN, lessN, hq2]
            rw [hF]
            have HF : Hid (_ = _) := hF
            clear hF
            go_enter Try.func24, Try.ntmps24
            go_wp2_with fail
            go_quiet (fail)
            go_wp2_with fail
            go_region_held3 (fun w' => w'.cell? ⟨c, 0, none⟩ = some (.int .i64 0) ∧ w'.cell? ⟨c, 1, none⟩ = some (.int .i64 1) ∧ w'.cell? ⟨c, 2, none⟩ = some (.int .i64 0) ∧ w'.cell? ⟨c, 3, none⟩ = some (.int .i64 0) ∧ w'.cell? ⟨c, 4, none⟩ = some (.int .i64 pv)) (refine ⟨?_, ?_, ?_, ?_, ?_⟩ <;> (repeat (first | assumption | with_reducible refine ck_drew ?_ | with_reducible refine ck_drewN ?_ | refine ck_old (by first | omega | (simp; omega) | simp) ?_))) (first | (go_at_call 25; refine (yes_keep _ _).mono ?_; rintro e w' ⟨rfl, rfl⟩))
            all_goals go_wp2_with (first | (go_at_call 25; refine (yes_keep _ _).mono ?_; rintro e w' ⟨rfl, rfl⟩))
            all_goals go_ret2
            all_goals first | exact post_abn _ _ _ _ _ | exact post_ban _ _ _ _ _
          · have hq2 : max (n - 1) (-32768) = n := by omega
            have hF : ctudF [u, 0, n] [0, 1, 0, 0, pv] 0 = ([0, 1, n], [yesN (decide (pv ≤ n)), yesN (decide (n ≤ 0)), n]) := by simp [ctudF, udN, yesN, moreN, lessN, hq2]
            rw [hF]
            have HF : Hid (_ = _) := hF
            clear hF
            go_enter Try.func24, Try.ntmps24
            go_wp2_with fail
            go_quiet (fail)
            go_wp2_with fail
            go_region_held3 (fun w' => w'.cell? ⟨c, 0, none⟩ = some (.int .i64 0) ∧ w'.cell? ⟨c, 1, none⟩ = some (.int .i64 1) ∧ w'.cell? ⟨c, 2, none⟩ = some (.int .i64 0) ∧ w'.cell? ⟨c, 3, none⟩ = some (.int .i64 0) ∧ w'.cell? ⟨c, 4, none⟩ = some (.int .i64 pv)) (refine ⟨?_, ?_, ?_, ?_, ?_⟩ <;> (repeat (first | assumption | with_reducible refine ck_drew ?_ | with_reducible refine ck_drewN ?_ | refine ck_old (by first | omega | (simp; omega) | simp) ?_))) (first | (go_at_call 25; refine (yes_keep _ _).mono ?_; rintro e w' ⟨rfl, rfl⟩))
            all_goals go_wp2_with (first | (go_at_call 25; refine (yes_keep _ _).mono ?_; rintro e w' ⟨rfl, rfl⟩))
            all_goals go_ret2
            all_goals first | exact post_abn _ _ _ _ _ | exact post_ban _ _ _ _ _
        · skip
          have hF : ctudF [u, 0, n] [0, 1, 0, 1, pv] 0 = ([0, 1, pv], [1, yesN (decide (pv ≤ 0)), pv]) := by simp [ctudF, udN, yesN]
          rw [hF]
          have HF : Hid (_ = _) := hF
          clear hF
          go_enter Try.func24, Try.ntmps24
          go_wp2_with fail
          go_quiet (fail)
          go_wp2_with fail
          go_region_held3 (fun w' => w'.cell? ⟨c, 0, none⟩ = some (.int .i64 0) ∧ w'.cell? ⟨c, 1, none⟩ = some (.int .i64 1) ∧ w'.cell? ⟨c, 2, none⟩ = some (.int .i64 0) ∧ w'.cell? ⟨c, 3, none⟩ = some (.int .i64 1) ∧ w'.cell? ⟨c, 4, none⟩ = some (.int .i64 pv)) (refine ⟨?_, ?_, ?_, ?_, ?_⟩ <;> (repeat (first | assumption | with_reducible refine ck_drew ?_ | with_reducible refine ck_drewN ?_ | refine ck_old (by first | omega | (simp; omega) | simp) ?_))) (first | (go_at_call 25; refine (yes_keep _ _).mono ?_; rintro e w' ⟨rfl, rfl⟩))
          all_goals go_wp2_with (first | (go_at_call 25; refine (yes_keep _ _).mono ?_; rintro e w' ⟨rfl, rfl⟩))
          all_goals go_ret2
          all_goals first | exact post_abn _ _ _ _ _ | exact post_ban _ _ _ _ _
      · skip
        have hF : ctudF [u, 0, n] [0, 1, 1, ld, pv] 0 = ([0, 1, 0], [yesN (decide (pv ≤ 0)), 1, 0]) := by simp [ctudF, udN, yesN]
        rw [hF]
        have HF : Hid (_ = _) := hF
        clear hF
        go_enter Try.func24, Try.ntmps24
        go_wp2_with fail
        go_quiet (fail)
        go_wp2_with fail
        go_region_held3 (fun w' => w'.cell? ⟨c, 0, none⟩ = some (.int .i64 0) ∧ w'.cell? ⟨c, 1, none⟩ = some (.int .i64 1) ∧ w'.cell? ⟨c, 2, none⟩ = some (.int .i64 1) ∧ w'.cell? ⟨c, 3, none⟩ = some (.int .i64 ld) ∧ w'.cell? ⟨c, 4, none⟩ = some (.int .i64 pv)) (refine ⟨?_, ?_, ?_, ?_, ?_⟩ <;> (repeat (first | assumption | with_reducible refine ck_drew ?_ | with_reducible refine ck_drewN ?_ | refine ck_old (by first | omega | (simp; omega) | simp) ?_))) (first | (go_at_call 25; refine (yes_keep _ _).mono ?_; rintro e w' ⟨rfl, rfl⟩))
        all_goals go_wp2_with (first | (go_at_call 25; refine (yes_keep _ _).mono ?_; rintro e w' ⟨rfl, rfl⟩))
        all_goals go_ret2
        all_goals first | exact post_abn _ _ _ _ _ | exact post_ban _ _ _ _ _
    · rcases h_r with rfl | rfl
      · rcases h_ld with rfl | rfl
        · skip
          have hF : ctudF [u, 1, n] [0, 1, 0, 0, pv] 0 = ([0, 1, n], [yesN (decide (pv ≤ n)), yesN (decide (n ≤ 0)), n]) := by simp [ctudF, udN, yesN]
          rw [hF]
          have HF : Hid (_ = _) := hF
          clear hF
          go_enter Try.func24, Try.ntmps24
          go_wp2_with fail
          go_quiet (fail)
          go_wp2_with fail
          go_region_held3 (fun w' => w'.cell? ⟨c, 0, none⟩ = some (.int .i64 0) ∧ w'.cell? ⟨c, 1, none⟩ = some (.int .i64 1) ∧ w'.cell? ⟨c, 2, none⟩ = some (.int .i64 0) ∧ w'.cell? ⟨c, 3, none⟩ = some (.int .i64 0) ∧ w'.cell? ⟨c, 4, none⟩ = some (.int .i64 pv)) (refine ⟨?_, ?_, ?_, ?_, ?_⟩ <;> (repeat (first | assumption | with_reducible refine ck_drew ?_ | with_reducible refine ck_drewN ?_ | refine ck_old (by first | omega | (simp; omega) | simp) ?_))) (first | (go_at_call 25; refine (yes_keep _ _).mono ?_; rintro e w' ⟨rfl, rfl⟩))
          all_goals go_wp2_with (first | (go_at_call 25; refine (yes_keep _ _).mono ?_; rintro e w' ⟨rfl, rfl⟩))
          all_goals go_ret2
          all_goals first | exact post_abn _ _ _ _ _ | exact post_ban _ _ _ _ _
        · skip
          have hF : ctudF [u, 1, n] [0, 1, 0, 1, pv] 0 = ([0, 1, pv], [1, yesN (decide (pv ≤ 0)), pv]) := by simp [ctudF, udN, yesN]
          rw [hF]
          have HF : Hid (_ = _) := hF
          clear hF
          go_enter Try.func24, Try.ntmps24
          go_wp2_with fail
          go_quiet (fail)
          go_wp2_with fail
          go_region_held3 (fun w' => w'.cell? ⟨c, 0, none⟩ = some (.int .i64 0) ∧ w'.cell? ⟨c, 1, none⟩ = some (.int .i64 1) ∧ w'.cell? ⟨c, 2, none⟩ = some (.int .i64 0) ∧ w'.cell? ⟨c, 3, none⟩ = some (.int .i64 1) ∧ w'.cell? ⟨c, 4, none⟩ = some (.int .i64 pv)) (refine ⟨?_, ?_, ?_, ?_, ?_⟩ <;> (repeat (first | assumption | with_reducible refine ck_drew ?_ | with_reducible refine ck_drewN ?_ | refine ck_old (by first | omega | (simp; omega) | simp) ?_))) (first | (go_at_call 25; refine (yes_keep _ _).mono ?_; rintro e w' ⟨rfl, rfl⟩))
          all_goals go_wp2_with (first | (go_at_call 25; refine (yes_keep _ _).mono ?_; rintro e w' ⟨rfl, rfl⟩))
          all_goals go_ret2
          all_goals first | exact post_abn _ _ _ _ _ | exact post_ban _ _ _ _ _
      · skip
        have hF : ctudF [u, 1, n] [0, 1, 1, ld, pv] 0 = ([0, 1, 0], [yesN (decide (pv ≤ 0)), 1, 0]) := by simp [ctudF, udN, yesN]
        rw [hF]
        have HF : Hid (_ = _) := hF
        clear hF
        go_enter Try.func24, Try.ntmps24
        go_wp2_with fail
        go_quiet (fail)
        go_wp2_with fail
        go_region_held3 (fun w' => w'.cell? ⟨c, 0, none⟩ = some (.int .i64 0) ∧ w'.cell? ⟨c, 1, none⟩ = some (.int .i64 1) ∧ w'.cell? ⟨c, 2, none⟩ = some (.int .i64 1) ∧ w'.cell? ⟨c, 3, none⟩ = some (.int .i64 ld) ∧ w'.cell? ⟨c, 4, none⟩ = some (.int .i64 pv)) (refine ⟨?_, ?_, ?_, ?_, ?_⟩ <;> (repeat (first | assumption | with_reducible refine ck_drew ?_ | with_reducible refine ck_drewN ?_ | refine ck_old (by first | omega | (simp; omega) | simp) ?_))) (first | (go_at_call 25; refine (yes_keep _ _).mono ?_; rintro e w' ⟨rfl, rfl⟩))
        all_goals go_wp2_with (first | (go_at_call 25; refine (yes_keep _ _).mono ?_; rintro e w' ⟨rfl, rfl⟩))
        all_goals go_ret2
        all_goals first | exact post_abn _ _ _ _ _ | exact post_ban _ _ _ _ _
end Go.Proofs.Ytphnadhkoigegaa
