/- The document's count: ctu, ctd. -/
import Derived.Test.YtphnadhkoigegaaT1
import Derived.Test.YtphnadhkoigegaaI
import Derived.Test.YtphnadhkoigegaaT2
import Derived.BigQuiet
import Derived.Deep.QuietTactic
import Derived.Deep.RegionHeld3
namespace Go.Proofs.Ytphnadhkoigegaa
open Go.RowKit
attribute [local go_sem ↓] Go.wp_at_zero Go.wp_at_succ
set_option linter.unusedVariables false
set_option linter.unusedSimpArgs false

theorem post_ab (n m : Nat) (R : List Int × List Int) (w : World) : StepPost n m R w (.returned (.tuple #[.slice (some ⟨w.heap.size, 0, none⟩) n n, .slice (some ⟨w.heap.size + 1, 0, none⟩) m m])) ((w.alloc (.cells (intsA R.1) 3)).alloc (.cells (intsA R.2) 3)).drew :=
  ⟨w.heap.size, w.heap.size + 1, rfl, by omega, by omega, by omega, (hp_old (by simp) _).trans (hp_new (by simp) _), hp_new (by simp) _, gr_drew (gr_alloc (gr_alloc (World.grownBy.refl _ _) _) _)⟩
theorem post_ba (n m : Nat) (R : List Int × List Int) (w : World) : StepPost n m R w (.returned (.tuple #[.slice (some ⟨w.heap.size + 1, 0, none⟩) n n, .slice (some ⟨w.heap.size, 0, none⟩) m m])) ((w.alloc (.cells (intsA R.2) 3)).alloc (.cells (intsA R.1) 3)).drew :=
  ⟨w.heap.size + 1, w.heap.size, rfl, by omega, by omega, by omega, hp_new (by simp) _, (hp_old (by simp) _).trans (hp_new (by simp) _), gr_drew (gr_alloc (gr_alloc (World.grownBy.refl _ _) _) _)⟩

set_option maxRecDepth 10000 in
set_option maxHeartbeats 8000000 in
theorem refCount_ctu (b c : Nat) (p n c0 r pv : Int) (w : World) (h_p : p = 0 ∨ p = 1) (h_n : -32768 ≤ n ∧ n ≤ 32767) (h_c0 : c0 = 0 ∨ c0 = 1) (h_r : r = 0 ∨ r = 1) (h_pv : -32768 ≤ pv ∧ pv ≤ 32767) (hb : w.heap[b]? = some (.cells (intsA [p, n]) 3)) (hc : w.heap[c]? = some (.cells (intsA [c0, r, pv]) 3)) :
    Calls Try.prog 24 #[.string ctuName, .slice (some ⟨b, 0, none⟩) 2 2, .slice (some ⟨c, 0, none⟩) 3 3] w (StepPost 2 2 (ctuF [p, n] [c0, r, pv] 0) w) := by
  have d0 := at_cell hb 0
  have d1 := at_cell hb 1
  have e0 := at_cell hc 0
  have e1 := at_cell hc 1
  have e2 := at_cell hc 2
  simp [intsA] at d0 d1 e0 e1 e2
  have lb := at_lt hb
  have lc := at_lt hc
  clear hb hc
  unfold ctuName
  rcases h_c0 with rfl | rfl
  · rcases h_r with rfl | rfl
    · skip
      have hF : ctuF [p, n] [0, 0, pv] 0 = ([0, n], [yesN (decide (pv ≤ n)), n]) := by simp [ctuF, udN, yesN]
      rw [hF]
      have HF : Hid (_ = _) := hF
      clear hF
      go_enter Try.func24, Try.ntmps24
      go_wp2_with fail
      go_region_held3 (fun w' => w'.cell? ⟨c, 0, none⟩ = some (.int .i64 0) ∧ w'.cell? ⟨c, 1, none⟩ = some (.int .i64 0) ∧ w'.cell? ⟨c, 2, none⟩ = some (.int .i64 pv)) (refine ⟨?_, ?_, ?_⟩ <;> (repeat (first | assumption | with_reducible refine ck_drew ?_ | refine ck_old (by first | omega | (simp; omega) | simp) ?_))) (first | (go_at_call 25; refine (yes_keep _ _).mono ?_; rintro e w' ⟨rfl, rfl⟩))
      all_goals go_wp2_with (first | (go_at_call 25; refine (yes_keep _ _).mono ?_; rintro e w' ⟨rfl, rfl⟩))
      all_goals go_ret2
      all_goals first | exact post_ab _ _ _ _ | exact post_ba _ _ _ _
    · skip
      have hF : ctuF [p, n] [0, 1, pv] 0 = ([0, 0], [yesN (decide (pv ≤ 0)), 0]) := by simp [ctuF, udN, yesN]
      rw [hF]
      have HF : Hid (_ = _) := hF
      clear hF
      go_enter Try.func24, Try.ntmps24
      go_wp2_with fail
      go_region_held3 (fun w' => w'.cell? ⟨c, 0, none⟩ = some (.int .i64 0) ∧ w'.cell? ⟨c, 1, none⟩ = some (.int .i64 1) ∧ w'.cell? ⟨c, 2, none⟩ = some (.int .i64 pv)) (refine ⟨?_, ?_, ?_⟩ <;> (repeat (first | assumption | with_reducible refine ck_drew ?_ | refine ck_old (by first | omega | (simp; omega) | simp) ?_))) (first | (go_at_call 25; refine (yes_keep _ _).mono ?_; rintro e w' ⟨rfl, rfl⟩))
      all_goals go_wp2_with (first | (go_at_call 25; refine (yes_keep _ _).mono ?_; rintro e w' ⟨rfl, rfl⟩))
      all_goals go_ret2
      all_goals first | exact post_ab _ _ _ _ | exact post_ba _ _ _ _
  · rcases h_p with rfl | rfl
    · rcases h_r with rfl | rfl
      · by_cases hq : n < 32767
        · have hq2 : min (n + 1) 32767 = n + 1 := by omega
          have hF : ctuF [0, n] [1, 0, pv] 0 = ([1, (n + 1)], [yesN (decide (pv ≤ (n + 1))), (n + 1)]) := by simp [ctuF, udN, yesN, moreN, lessN, hq2]
          rw [hF]
          have HF : Hid (_ = _) := hF
          clear hF
          go_enter Try.func24, Try.ntmps24
          go_wp2_with fail
          go_region_held3 (fun w' => w'.cell? ⟨c, 0, none⟩ = some (.int .i64 1) ∧ w'.cell? ⟨c, 1, none⟩ = some (.int .i64 0) ∧ w'.cell? ⟨c, 2, none⟩ = some (.int .i64 pv)) (refine ⟨?_, ?_, ?_⟩ <;> (repeat (first | assumption | with_reducible refine ck_drew ?_ | refine ck_old (by first | omega | (simp; omega) | simp) ?_))) (first | (go_at_call 25; refine (yes_keep _ _).mono ?_; rintro e w' ⟨rfl, rfl⟩))
          all_goals go_wp2_with (first | (go_at_call 25; refine (yes_keep _ _).mono ?_; rintro e w' ⟨rfl, rfl⟩))
          all_goals go_ret2
          all_goals first | exact post_ab _ _ _ _ | exact post_ba _ _ _ _
        · have hq2 : min (n + 1) 32767 = n := by omega
          have hF : ctuF [0, n] [1, 0, pv] 0 = ([1, n], [yesN (decide (pv ≤ n)), n]) := by simp [ctuF, udN, yesN, moreN, lessN, hq2]
          rw [hF]
          have HF : Hid (_ = _) := hF
          clear hF
          go_enter Try.func24, Try.ntmps24
          go_wp2_with fail
          go_region_held3 (fun w' => w'.cell? ⟨c, 0, none⟩ = some (.int .i64 1) ∧ w'.cell? ⟨c, 1, none⟩ = some (.int .i64 0) ∧ w'.cell? ⟨c, 2, none⟩ = some (.int .i64 pv)) (refine ⟨?_, ?_, ?_⟩ <;> (repeat (first | assumption | with_reducible refine ck_drew ?_ | refine ck_old (by first | omega | (simp; omega) | simp) ?_))) (first | (go_at_call 25; refine (yes_keep _ _).mono ?_; rintro e w' ⟨rfl, rfl⟩))
          all_goals go_wp2_with (first | (go_at_call 25; refine (yes_keep _ _).mono ?_; rintro e w' ⟨rfl, rfl⟩))
          all_goals go_ret2
          all_goals first | exact post_ab _ _ _ _ | exact post_ba _ _ _ _
      · skip
        have hF : ctuF [0, n] [1, 1, pv] 0 = ([1, 0], [yesN (decide (pv ≤ 0)), 0]) := by simp [ctuF, udN, yesN]
        rw [hF]
        have HF : Hid (_ = _) := hF
        clear hF
        go_enter Try.func24, Try.ntmps24
        go_wp2_with fail
        go_region_held3 (fun w' => w'.cell? ⟨c, 0, none⟩ = some (.int .i64 1) ∧ w'.cell? ⟨c, 1, none⟩ = some (.int .i64 1) ∧ w'.cell? ⟨c, 2, none⟩ = some (.int .i64 pv)) (refine ⟨?_, ?_, ?_⟩ <;> (repeat (first | assumption | with_reducible refine ck_drew ?_ | refine ck_old (by first | omega | (simp; omega) | simp) ?_))) (first | (go_at_call 25; refine (yes_keep _ _).mono ?_; rintro e w' ⟨rfl, rfl⟩))
        all_goals go_wp2_with (first | (go_at_call 25; refine (yes_keep _ _).mono ?_; rintro e w' ⟨rfl, rfl⟩))
        all_goals go_ret2
        all_goals first | exact post_ab _ _ _ _ | exact post_ba _ _ _ _
    · rcases h_r with rfl | rfl
      · skip
        have hF : ctuF [1, n] [1, 0, pv] 0 = ([1, n], [yesN (decide (pv ≤ n)), n]) := by simp [ctuF, udN, yesN]
        rw [hF]
        have HF : Hid (_ = _) := hF
        clear hF
        go_enter Try.func24, Try.ntmps24
        go_wp2_with fail
        go_region_held3 (fun w' => w'.cell? ⟨c, 0, none⟩ = some (.int .i64 1) ∧ w'.cell? ⟨c, 1, none⟩ = some (.int .i64 0) ∧ w'.cell? ⟨c, 2, none⟩ = some (.int .i64 pv)) (refine ⟨?_, ?_, ?_⟩ <;> (repeat (first | assumption | with_reducible refine ck_drew ?_ | refine ck_old (by first | omega | (simp; omega) | simp) ?_))) (first | (go_at_call 25; refine (yes_keep _ _).mono ?_; rintro e w' ⟨rfl, rfl⟩))
        all_goals go_wp2_with (first | (go_at_call 25; refine (yes_keep _ _).mono ?_; rintro e w' ⟨rfl, rfl⟩))
        all_goals go_ret2
        all_goals first | exact post_ab _ _ _ _ | exact post_ba _ _ _ _
      · skip
        have hF : ctuF [1, n] [1, 1, pv] 0 = ([1, 0], [yesN (decide (pv ≤ 0)), 0]) := by simp [ctuF, udN, yesN]
        rw [hF]
        have HF : Hid (_ = _) := hF
        clear hF
        go_enter Try.func24, Try.ntmps24
        go_wp2_with fail
        go_region_held3 (fun w' => w'.cell? ⟨c, 0, none⟩ = some (.int .i64 1) ∧ w'.cell? ⟨c, 1, none⟩ = some (.int .i64 1) ∧ w'.cell? ⟨c, 2, none⟩ = some (.int .i64 pv)) (refine ⟨?_, ?_, ?_⟩ <;> (repeat (first | assumption | with_reducible refine ck_drew ?_ | refine ck_old (by first | omega | (simp; omega) | simp) ?_))) (first | (go_at_call 25; refine (yes_keep _ _).mono ?_; rintro e w' ⟨rfl, rfl⟩))
        all_goals go_wp2_with (first | (go_at_call 25; refine (yes_keep _ _).mono ?_; rintro e w' ⟨rfl, rfl⟩))
        all_goals go_ret2
        all_goals first | exact post_ab _ _ _ _ | exact post_ba _ _ _ _

set_option maxRecDepth 10000 in
set_option maxHeartbeats 8000000 in
theorem refCount_ctd (b c : Nat) (p n c0 r pv : Int) (w : World) (h_p : p = 0 ∨ p = 1) (h_n : -32768 ≤ n ∧ n ≤ 32767) (h_c0 : c0 = 0 ∨ c0 = 1) (h_r : r = 0 ∨ r = 1) (h_pv : -32768 ≤ pv ∧ pv ≤ 32767) (hb : w.heap[b]? = some (.cells (intsA [p, n]) 3)) (hc : w.heap[c]? = some (.cells (intsA [c0, r, pv]) 3)) :
    Calls Try.prog 24 #[.string ctdName, .slice (some ⟨b, 0, none⟩) 2 2, .slice (some ⟨c, 0, none⟩) 3 3] w (StepPost 2 2 (ctdF [p, n] [c0, r, pv] 0) w) := by
  have d0 := at_cell hb 0
  have d1 := at_cell hb 1
  have e0 := at_cell hc 0
  have e1 := at_cell hc 1
  have e2 := at_cell hc 2
  simp [intsA] at d0 d1 e0 e1 e2
  have lb := at_lt hb
  have lc := at_lt hc
  clear hb hc
  unfold ctdName
  rcases h_c0 with rfl | rfl
  · rcases h_r with rfl | rfl
    · skip
      have hF : ctdF [p, n] [0, 0, pv] 0 = ([0, n], [yesN (decide (n ≤ 0)), n]) := by simp [ctdF, udN, yesN]
      rw [hF]
      have HF : Hid (_ = _) := hF
      clear hF
      go_enter Try.func24, Try.ntmps24
      go_wp2_with fail
      go_region_held3 (fun w' => w'.cell? ⟨c, 0, none⟩ = some (.int .i64 0) ∧ w'.cell? ⟨c, 1, none⟩ = some (.int .i64 0) ∧ w'.cell? ⟨c, 2, none⟩ = some (.int .i64 pv)) (refine ⟨?_, ?_, ?_⟩ <;> (repeat (first | assumption | with_reducible refine ck_drew ?_ | refine ck_old (by first | omega | (simp; omega) | simp) ?_))) (first | (go_at_call 25; refine (yes_keep _ _).mono ?_; rintro e w' ⟨rfl, rfl⟩))
      all_goals go_wp2_with (first | (go_at_call 25; refine (yes_keep _ _).mono ?_; rintro e w' ⟨rfl, rfl⟩))
      all_goals go_ret2
      all_goals first | exact post_ab _ _ _ _ | exact post_ba _ _ _ _
    · skip
      have hF : ctdF [p, n] [0, 1, pv] 0 = ([0, pv], [yesN (decide (pv ≤ 0)), pv]) := by simp [ctdF, udN, yesN]
      rw [hF]
      have HF : Hid (_ = _) := hF
      clear hF
      go_enter Try.func24, Try.ntmps24
      go_wp2_with fail
      go_region_held3 (fun w' => w'.cell? ⟨c, 0, none⟩ = some (.int .i64 0) ∧ w'.cell? ⟨c, 1, none⟩ = some (.int .i64 1) ∧ w'.cell? ⟨c, 2, none⟩ = some (.int .i64 pv)) (refine ⟨?_, ?_, ?_⟩ <;> (repeat (first | assumption | with_reducible refine ck_drew ?_ | refine ck_old (by first | omega | (simp; omega) | simp) ?_))) (first | (go_at_call 25; refine (yes_keep _ _).mono ?_; rintro e w' ⟨rfl, rfl⟩))
      all_goals go_wp2_with (first | (go_at_call 25; refine (yes_keep _ _).mono ?_; rintro e w' ⟨rfl, rfl⟩))
      all_goals go_ret2
      all_goals first | exact post_ab _ _ _ _ | exact post_ba _ _ _ _
  · rcases h_p with rfl | rfl
    · rcases h_r with rfl | rfl
      · by_cases hq : -32768 < n
        · have hq2 : max (n - 1) (-32768) = n - 1 := by omega
          have hF : ctdF [0, n] [1, 0, pv] 0 = ([1, (n - 1)], [yesN (decide ((n - 1) ≤ 0)), (n - 1)]) := by simp [ctdF, udN, yesN, moreN, lessN, hq2]
          rw [hF]
          have HF : Hid (_ = _) := hF
          clear hF
          go_enter Try.func24, Try.ntmps24
          go_wp2_with fail
          go_region_held3 (fun w' => w'.cell? ⟨c, 0, none⟩ = some (.int .i64 1) ∧ w'.cell? ⟨c, 1, none⟩ = some (.int .i64 0) ∧ w'.cell? ⟨c, 2, none⟩ = some (.int .i64 pv)) (refine ⟨?_, ?_, ?_⟩ <;> (repeat (first | assumption | with_reducible refine ck_drew ?_ | refine ck_old (by first | omega | (simp; omega) | simp) ?_))) (first | (go_at_call 25; refine (yes_keep _ _).mono ?_; rintro e w' ⟨rfl, rfl⟩))
          all_goals go_wp2_with (first | (go_at_call 25; refine (yes_keep _ _).mono ?_; rintro e w' ⟨rfl, rfl⟩))
          all_goals go_ret2
          all_goals first | exact post_ab _ _ _ _ | exact post_ba _ _ _ _
        · have hq2 : max (n - 1) (-32768) = n := by omega
          have hF : ctdF [0, n] [1, 0, pv] 0 = ([1, n], [yesN (decide (n ≤ 0)), n]) := by simp [ctdF, udN, yesN, moreN, lessN, hq2]
          rw [hF]
          have HF : Hid (_ = _) := hF
          clear hF
          go_enter Try.func24, Try.ntmps24
          go_wp2_with fail
          go_region_held3 (fun w' => w'.cell? ⟨c, 0, none⟩ = some (.int .i64 1) ∧ w'.cell? ⟨c, 1, none⟩ = some (.int .i64 0) ∧ w'.cell? ⟨c, 2, none⟩ = some (.int .i64 pv)) (refine ⟨?_, ?_, ?_⟩ <;> (repeat (first | assumption | with_reducible refine ck_drew ?_ | refine ck_old (by first | omega | (simp; omega) | simp) ?_))) (first | (go_at_call 25; refine (yes_keep _ _).mono ?_; rintro e w' ⟨rfl, rfl⟩))
          all_goals go_wp2_with (first | (go_at_call 25; refine (yes_keep _ _).mono ?_; rintro e w' ⟨rfl, rfl⟩))
          all_goals go_ret2
          all_goals first | exact post_ab _ _ _ _ | exact post_ba _ _ _ _
      · skip
        have hF : ctdF [0, n] [1, 1, pv] 0 = ([1, pv], [yesN (decide (pv ≤ 0)), pv]) := by simp [ctdF, udN, yesN]
        rw [hF]
        have HF : Hid (_ = _) := hF
        clear hF
        go_enter Try.func24, Try.ntmps24
        go_wp2_with fail
        go_region_held3 (fun w' => w'.cell? ⟨c, 0, none⟩ = some (.int .i64 1) ∧ w'.cell? ⟨c, 1, none⟩ = some (.int .i64 1) ∧ w'.cell? ⟨c, 2, none⟩ = some (.int .i64 pv)) (refine ⟨?_, ?_, ?_⟩ <;> (repeat (first | assumption | with_reducible refine ck_drew ?_ | refine ck_old (by first | omega | (simp; omega) | simp) ?_))) (first | (go_at_call 25; refine (yes_keep _ _).mono ?_; rintro e w' ⟨rfl, rfl⟩))
        all_goals go_wp2_with (first | (go_at_call 25; refine (yes_keep _ _).mono ?_; rintro e w' ⟨rfl, rfl⟩))
        all_goals go_ret2
        all_goals first | exact post_ab _ _ _ _ | exact post_ba _ _ _ _
    · rcases h_r with rfl | rfl
      · skip
        have hF : ctdF [1, n] [1, 0, pv] 0 = ([1, n], [yesN (decide (n ≤ 0)), n]) := by simp [ctdF, udN, yesN]
        rw [hF]
        have HF : Hid (_ = _) := hF
        clear hF
        go_enter Try.func24, Try.ntmps24
        go_wp2_with fail
        go_region_held3 (fun w' => w'.cell? ⟨c, 0, none⟩ = some (.int .i64 1) ∧ w'.cell? ⟨c, 1, none⟩ = some (.int .i64 0) ∧ w'.cell? ⟨c, 2, none⟩ = some (.int .i64 pv)) (refine ⟨?_, ?_, ?_⟩ <;> (repeat (first | assumption | with_reducible refine ck_drew ?_ | refine ck_old (by first | omega | (simp; omega) | simp) ?_))) (first | (go_at_call 25; refine (yes_keep _ _).mono ?_; rintro e w' ⟨rfl, rfl⟩))
        all_goals go_wp2_with (first | (go_at_call 25; refine (yes_keep _ _).mono ?_; rintro e w' ⟨rfl, rfl⟩))
        all_goals go_ret2
        all_goals first | exact post_ab _ _ _ _ | exact post_ba _ _ _ _
      · skip
        have hF : ctdF [1, n] [1, 1, pv] 0 = ([1, pv], [yesN (decide (pv ≤ 0)), pv]) := by simp [ctdF, udN, yesN]
        rw [hF]
        have HF : Hid (_ = _) := hF
        clear hF
        go_enter Try.func24, Try.ntmps24
        go_wp2_with fail
        go_region_held3 (fun w' => w'.cell? ⟨c, 0, none⟩ = some (.int .i64 1) ∧ w'.cell? ⟨c, 1, none⟩ = some (.int .i64 1) ∧ w'.cell? ⟨c, 2, none⟩ = some (.int .i64 pv)) (refine ⟨?_, ?_, ?_⟩ <;> (repeat (first | assumption | with_reducible refine ck_drew ?_ | refine ck_old (by first | omega | (simp; omega) | simp) ?_))) (first | (go_at_call 25; refine (yes_keep _ _).mono ?_; rintro e w' ⟨rfl, rfl⟩))
        all_goals go_wp2_with (first | (go_at_call 25; refine (yes_keep _ _).mono ?_; rintro e w' ⟨rfl, rfl⟩))
        all_goals go_ret2
        all_goals first | exact post_ab _ _ _ _ | exact post_ba _ _ _ _
end Go.Proofs.Ytphnadhkoigegaa
