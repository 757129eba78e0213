/- The document's timer. -/
import Derived.Test.YtphnadhkoigegaaT1
import Derived.Test.YtphnadhkoigegaaI
import Derived.Test.YtphnadhkoigegaaE
import Derived.BigQuiet
import Derived.Deep.QuietTactic
import Derived.Deep.RegionHeld3
namespace Go.Proofs.Ytphnadhkoigegaa
open Go.RowKit
attribute [local go_sem ↓] Go.wp_at_zero Go.wp_at_succ
set_option linter.unusedVariables false
set_option linter.unusedSimpArgs false

theorem yes_keep (b : Bool) (w : World) : Calls Try.prog 25 #[.bool b] w fun e w' => e = .returned (.int .i64 (yesN b)) ∧ w = w' := (yes_any b w).mono fun _ _ h => ⟨h.1, h.2.symm⟩

set_option maxRecDepth 10000 in
set_option maxHeartbeats 4000000 in
theorem refTimer_ton (b : Nat) (r s m a pt now : Int) (x : Bool) (w : World) (hr : r = 0 ∨ r = 1) (hs : 0 ≤ s ∧ s ≤ 4294967295) (hm : m = 0 ∨ m = 1) (ha : 0 ≤ a ∧ a ≤ 4294967295) (hp : 0 ≤ pt ∧ pt ≤ 4294967295) (hn : 0 ≤ now ∧ now ≤ 4294967295) (hb : w.heap[b]? = some (.cells (intsA [r, s, m, a]) 3)) :
    Calls Try.prog 23 #[.string tonName, .slice (some ⟨b, 0, none⟩) 4 4, .bool x, .int .i64 pt, .int .i64 now] w (StepPost 4 2 (tonF [r, s, m, a] [yesN x, pt] now) w) := by
  have d0 := at_cell hb 0
  have d1 := at_cell hb 1
  have d2 := at_cell hb 2
  have d3 := at_cell hb 3
  simp [intsA] at d0 d1 d2 d3
  clear hb
  have hz : wrapK 5 0 = 0 := wrapK_zero 5
  have hgn : goneN now now = 0 := by unfold goneN; rw [Int.sub_self]; exact hz
  obtain ⟨g, hg, hg0⟩ : ∃ g, goneN now s = g ∧ wrapK 5 (now - s) = g := ⟨_, rfl, rfl⟩
  unfold tonName
  cases x
  · skip
    have hF : tonF [r, s, m, a] [yesN false, pt] now = ([0, 0, 0, 0], [0, 0]) := by simp [tonF, outF, yesN, hg, hgn]
    rw [hF]
    have HF : Hid (_ = _) := hF
    clear hF
    go_enter Try.func23, Try.ntmps23
    go_wp2_with fail
    go_region_held3 (fun w' => w'.cell? ⟨b, 0, none⟩ = some (.int .i64 r) ∧ w'.cell? ⟨b, 1, none⟩ = some (.int .i64 s) ∧ w'.cell? ⟨b, 2, none⟩ = some (.int .i64 m) ∧ w'.cell? ⟨b, 3, none⟩ = some (.int .i64 a)) (go_keep) (fail)
    go_wp2_with (first | (go_at_call 22; refine (rwrap_keep _ _ _).mono ?_; rintro e w' ⟨rfl, rfl⟩) | (go_at_call 25; refine (yes_keep _ _).mono ?_; rintro e w' ⟨rfl, rfl⟩))
    all_goals go_ret2
    all_goals exact ⟨w.heap.size, w.heap.size + 1, by simp, by omega, by omega, by omega, (hp_old (by simp) _).trans (hp_new (by simp) _), hp_new (by simp) _, gr_alloc (gr_alloc (gr_drew (World.grownBy.refl _ _)) _) _⟩
  · rcases hr with rfl | rfl
    · by_cases hq : pt ≤ 0
      · skip
        have hF : tonF [0, s, m, a] [yesN true, pt] now = ([1, now, 1, pt], [1, pt]) := by simp [tonF, outF, yesN, hg, hgn, hq, Int.min_eq_right hq]
        rw [hF]
        have HF : Hid (_ = _) := hF
        clear hF
        go_enter Try.func23, Try.ntmps23
        go_wp2_with fail
        go_region_held3 (fun w' => w'.cell? ⟨b, 0, none⟩ = some (.int .i64 0) ∧ w'.cell? ⟨b, 1, none⟩ = some (.int .i64 s) ∧ w'.cell? ⟨b, 2, none⟩ = some (.int .i64 m) ∧ w'.cell? ⟨b, 3, none⟩ = some (.int .i64 a)) (go_keep) (fail)
        go_wp2_with (first | (go_at_call 22; refine (rwrap_keep _ _ _).mono ?_; rintro e w' ⟨rfl, rfl⟩) | (go_at_call 25; refine (yes_keep _ _).mono ?_; rintro e w' ⟨rfl, rfl⟩))
        all_goals go_ret2
        all_goals exact ⟨w.heap.size, w.heap.size + 1, by simp, by omega, by omega, by omega, (hp_old (by simp) _).trans (hp_new (by simp) _), hp_new (by simp) _, gr_alloc (gr_alloc (gr_drew (World.grownBy.refl _ _)) _) _⟩
      · have hq2 : min 0 pt = 0 := by omega
        have hF : tonF [0, s, m, a] [yesN true, pt] now = ([1, now, 0, 0], [0, 0]) := by simp [tonF, outF, yesN, hg, hgn, hq, hq2]
        rw [hF]
        have HF : Hid (_ = _) := hF
        clear hF
        go_enter Try.func23, Try.ntmps23
        go_wp2_with fail
        go_region_held3 (fun w' => w'.cell? ⟨b, 0, none⟩ = some (.int .i64 0) ∧ w'.cell? ⟨b, 1, none⟩ = some (.int .i64 s) ∧ w'.cell? ⟨b, 2, none⟩ = some (.int .i64 m) ∧ w'.cell? ⟨b, 3, none⟩ = some (.int .i64 a)) (go_keep) (fail)
        go_wp2_with (first | (go_at_call 22; refine (rwrap_keep _ _ _).mono ?_; rintro e w' ⟨rfl, rfl⟩) | (go_at_call 25; refine (yes_keep _ _).mono ?_; rintro e w' ⟨rfl, rfl⟩))
        all_goals go_ret2
        all_goals exact ⟨w.heap.size, w.heap.size + 1, by simp, by omega, by omega, by omega, (hp_old (by simp) _).trans (hp_new (by simp) _), hp_new (by simp) _, gr_alloc (gr_alloc (gr_drew (World.grownBy.refl _ _)) _) _⟩
    · rcases hm with rfl | rfl
      · by_cases hq : pt ≤ g
        · skip
          have hF : tonF [1, s, 0, a] [yesN true, pt] now = ([1, s, 1, pt], [1, pt]) := by simp [tonF, outF, yesN, hg, hgn, hq, Int.min_eq_right hq]
          rw [hF]
          have HF : Hid (_ = _) := hF
          clear hF
          go_enter Try.func23, Try.ntmps23
          go_wp2_with fail
          go_region_held3 (fun w' => w'.cell? ⟨b, 0, none⟩ = some (.int .i64 1) ∧ w'.cell? ⟨b, 1, none⟩ = some (.int .i64 s) ∧ w'.cell? ⟨b, 2, none⟩ = some (.int .i64 0) ∧ w'.cell? ⟨b, 3, none⟩ = some (.int .i64 a)) (go_keep) (fail)
          go_wp2_with (first | (go_at_call 22; refine (rwrap_keep _ _ _).mono ?_; rintro e w' ⟨rfl, rfl⟩) | (go_at_call 25; refine (yes_keep _ _).mono ?_; rintro e w' ⟨rfl, rfl⟩))
          all_goals go_ret2
          all_goals exact ⟨w.heap.size, w.heap.size + 1, by simp, by omega, by omega, by omega, (hp_old (by simp) _).trans (hp_new (by simp) _), hp_new (by simp) _, gr_alloc (gr_alloc (gr_drew (World.grownBy.refl _ _)) _) _⟩
        · have hq2 : min g pt = g := by omega
          have hF : tonF [1, s, 0, a] [yesN true, pt] now = ([1, s, 0, g], [0, g]) := by simp [tonF, outF, yesN, hg, hgn, hq, hq2]
          rw [hF]
          have HF : Hid (_ = _) := hF
          clear hF
          go_enter Try.func23, Try.ntmps23
          go_wp2_with fail
          go_region_held3 (fun w' => w'.cell? ⟨b, 0, none⟩ = some (.int .i64 1) ∧ w'.cell? ⟨b, 1, none⟩ = some (.int .i64 s) ∧ w'.cell? ⟨b, 2, none⟩ = some (.int .i64 0) ∧ w'.cell? ⟨b, 3, none⟩ = some (.int .i64 a)) (go_keep) (fail)
          go_wp2_with (first | (go_at_call 22; refine (rwrap_keep _ _ _).mono ?_; rintro e w' ⟨rfl, rfl⟩) | (go_at_call 25; refine (yes_keep _ _).mono ?_; rintro e w' ⟨rfl, rfl⟩))
          all_goals go_ret2
          all_goals exact ⟨w.heap.size, w.heap.size + 1, by simp, by omega, by omega, by omega, (hp_old (by simp) _).trans (hp_new (by simp) _), hp_new (by simp) _, gr_alloc (gr_alloc (gr_drew (World.grownBy.refl _ _)) _) _⟩
      · skip
        have hF : tonF [1, s, 1, a] [yesN true, pt] now = ([1, s, 1, a], [1, a]) := by simp [tonF, outF, yesN, hg, hgn]
        rw [hF]
        have HF : Hid (_ = _) := hF
        clear hF
        go_enter Try.func23, Try.ntmps23
        go_wp2_with fail
        go_region_held3 (fun w' => w'.cell? ⟨b, 0, none⟩ = some (.int .i64 1) ∧ w'.cell? ⟨b, 1, none⟩ = some (.int .i64 s) ∧ w'.cell? ⟨b, 2, none⟩ = some (.int .i64 1) ∧ w'.cell? ⟨b, 3, none⟩ = some (.int .i64 a)) (go_keep) (fail)
        go_wp2_with (first | (go_at_call 22; refine (rwrap_keep _ _ _).mono ?_; rintro e w' ⟨rfl, rfl⟩) | (go_at_call 25; refine (yes_keep _ _).mono ?_; rintro e w' ⟨rfl, rfl⟩))
        all_goals go_ret2
        all_goals exact ⟨w.heap.size, w.heap.size + 1, by simp, by omega, by omega, by omega, (hp_old (by simp) _).trans (hp_new (by simp) _), hp_new (by simp) _, gr_alloc (gr_alloc (gr_drew (World.grownBy.refl _ _)) _) _⟩

set_option maxRecDepth 10000 in
set_option maxHeartbeats 4000000 in
theorem refTimer_tof (b : Nat) (r s m a pt now : Int) (x : Bool) (w : World) (hr : r = 0 ∨ r = 1) (hs : 0 ≤ s ∧ s ≤ 4294967295) (hm : m = 0 ∨ m = 1) (ha : 0 ≤ a ∧ a ≤ 4294967295) (hp : 0 ≤ pt ∧ pt ≤ 4294967295) (hn : 0 ≤ now ∧ now ≤ 4294967295) (hb : w.heap[b]? = some (.cells (intsA [r, s, m, a]) 3)) :
    Calls Try.prog 23 #[.string tofName, .slice (some ⟨b, 0, none⟩) 4 4, .bool x, .int .i64 pt, .int .i64 now] w (StepPost 4 2 (tofF [r, s, m, a] [yesN x, pt] now) w) := by
  have d0 := at_cell hb 0
  have d1 := at_cell hb 1
  have d2 := at_cell hb 2
  have d3 := at_cell hb 3
  simp [intsA] at d0 d1 d2 d3
  clear hb
  have hz : wrapK 5 0 = 0 := wrapK_zero 5
  have hgn : goneN now now = 0 := by unfold goneN; rw [Int.sub_self]; exact hz
  obtain ⟨g, hg, hg0⟩ : ∃ g, goneN now s = g ∧ wrapK 5 (now - s) = g := ⟨_, rfl, rfl⟩
  unfold tofName
  cases x
  · rcases hm with rfl | rfl
    · skip
      have hF : tofF [r, s, 0, a] [yesN false, pt] now = ([r, s, 0, a], [0, a]) := by simp [tofF, outF, yesN, hg, hgn]
      rw [hF]
      have HF : Hid (_ = _) := hF
      clear hF
      go_enter Try.func23, Try.ntmps23
      go_wp2_with fail
      go_region_held3 (fun w' => w'.cell? ⟨b, 0, none⟩ = some (.int .i64 r) ∧ w'.cell? ⟨b, 1, none⟩ = some (.int .i64 s) ∧ w'.cell? ⟨b, 2, none⟩ = some (.int .i64 0) ∧ w'.cell? ⟨b, 3, none⟩ = some (.int .i64 a)) (go_keep) (fail)
      go_wp2_with (first | (go_at_call 22; refine (rwrap_keep _ _ _).mono ?_; rintro e w' ⟨rfl, rfl⟩) | (go_at_call 25; refine (yes_keep _ _).mono ?_; rintro e w' ⟨rfl, rfl⟩))
      all_goals go_ret2
      all_goals exact ⟨w.heap.size, w.heap.size + 1, by simp, by omega, by omega, by omega, (hp_old (by simp) _).trans (hp_new (by simp) _), hp_new (by simp) _, gr_alloc (gr_alloc (gr_drew (World.grownBy.refl _ _)) _) _⟩
    · rcases hr with rfl | rfl
      · by_cases hq : pt ≤ 0
        · skip
          have hF : tofF [0, s, 1, a] [yesN false, pt] now = ([0, 0, 0, pt], [0, pt]) := by simp [tofF, outF, yesN, hg, hgn, hq, Int.min_eq_right hq]
          rw [hF]
          have HF : Hid (_ = _) := hF
          clear hF
          go_enter Try.func23, Try.ntmps23
          go_wp2_with fail
          go_region_held3 (fun w' => w'.cell? ⟨b, 0, none⟩ = some (.int .i64 0) ∧ w'.cell? ⟨b, 1, none⟩ = some (.int .i64 s) ∧ w'.cell? ⟨b, 2, none⟩ = some (.int .i64 1) ∧ w'.cell? ⟨b, 3, none⟩ = some (.int .i64 a)) (go_keep) (fail)
          go_wp2_with (first | (go_at_call 22; refine (rwrap_keep _ _ _).mono ?_; rintro e w' ⟨rfl, rfl⟩) | (go_at_call 25; refine (yes_keep _ _).mono ?_; rintro e w' ⟨rfl, rfl⟩))
          all_goals go_ret2
          all_goals exact ⟨w.heap.size, w.heap.size + 1, by simp, by omega, by omega, by omega, (hp_old (by simp) _).trans (hp_new (by simp) _), hp_new (by simp) _, gr_alloc (gr_alloc (gr_drew (World.grownBy.refl _ _)) _) _⟩
        · have hq2 : min 0 pt = 0 := by omega
          have hF : tofF [0, s, 1, a] [yesN false, pt] now = ([1, now, 1, 0], [1, 0]) := by simp [tofF, outF, yesN, hg, hgn, hq, hq2]
          rw [hF]
          have HF : Hid (_ = _) := hF
          clear hF
          go_enter Try.func23, Try.ntmps23
          go_wp2_with fail
          go_region_held3 (fun w' => w'.cell? ⟨b, 0, none⟩ = some (.int .i64 0) ∧ w'.cell? ⟨b, 1, none⟩ = some (.int .i64 s) ∧ w'.cell? ⟨b, 2, none⟩ = some (.int .i64 1) ∧ w'.cell? ⟨b, 3, none⟩ = some (.int .i64 a)) (go_keep) (fail)
          go_wp2_with (first | (go_at_call 22; refine (rwrap_keep _ _ _).mono ?_; rintro e w' ⟨rfl, rfl⟩) | (go_at_call 25; refine (yes_keep _ _).mono ?_; rintro e w' ⟨rfl, rfl⟩))
          all_goals go_ret2
          all_goals exact ⟨w.heap.size, w.heap.size + 1, by simp, by omega, by omega, by omega, (hp_old (by simp) _).trans (hp_new (by simp) _), hp_new (by simp) _, gr_alloc (gr_alloc (gr_drew (World.grownBy.refl _ _)) _) _⟩
      · by_cases hq : pt ≤ g
        · skip
          have hF : tofF [1, s, 1, a] [yesN false, pt] now = ([0, 0, 0, pt], [0, pt]) := by simp [tofF, outF, yesN, hg, hgn, hq, Int.min_eq_right hq]
          rw [hF]
          have HF : Hid (_ = _) := hF
          clear hF
          go_enter Try.func23, Try.ntmps23
          go_wp2_with fail
          go_region_held3 (fun w' => w'.cell? ⟨b, 0, none⟩ = some (.int .i64 1) ∧ w'.cell? ⟨b, 1, none⟩ = some (.int .i64 s) ∧ w'.cell? ⟨b, 2, none⟩ = some (.int .i64 1) ∧ w'.cell? ⟨b, 3, none⟩ = some (.int .i64 a)) (go_keep) (fail)
          go_wp2_with (first | (go_at_call 22; refine (rwrap_keep _ _ _).mono ?_; rintro e w' ⟨rfl, rfl⟩) | (go_at_call 25; refine (yes_keep _ _).mono ?_; rintro e w' ⟨rfl, rfl⟩))
          all_goals go_ret2
          all_goals exact ⟨w.heap.size, w.heap.size + 1, by simp, by omega, by omega, by omega, (hp_old (by simp) _).trans (hp_new (by simp) _), hp_new (by simp) _, gr_alloc (gr_alloc (gr_drew (World.grownBy.refl _ _)) _) _⟩
        · have hq2 : min g pt = g := by omega
          have hF : tofF [1, s, 1, a] [yesN false, pt] now = ([1, s, 1, g], [1, g]) := by simp [tofF, outF, yesN, hg, hgn, hq, hq2]
          rw [hF]
          have HF : Hid (_ = _) := hF
          clear hF
          go_enter Try.func23, Try.ntmps23
          go_wp2_with fail
          go_region_held3 (fun w' => w'.cell? ⟨b, 0, none⟩ = some (.int .i64 1) ∧ w'.cell? ⟨b, 1, none⟩ = some (.int .i64 s) ∧ w'.cell? ⟨b, 2, none⟩ = some (.int .i64 1) ∧ w'.cell? ⟨b, 3, none⟩ = some (.int .i64 a)) (go_keep) (fail)
          go_wp2_with (first | (go_at_call 22; refine (rwrap_keep _ _ _).mono ?_; rintro e w' ⟨rfl, rfl⟩) | (go_at_call 25; refine (yes_keep _ _).mono ?_; rintro e w' ⟨rfl, rfl⟩))
          all_goals go_ret2
          all_goals exact ⟨w.heap.size, w.heap.size + 1, by simp, by omega, by omega, by omega, (hp_old (by simp) _).trans (hp_new (by simp) _), hp_new (by simp) _, gr_alloc (gr_alloc (gr_drew (World.grownBy.refl _ _)) _) _⟩
  · skip
    have hF : tofF [r, s, m, a] [yesN true, pt] now = ([0, 0, 1, 0], [1, 0]) := by simp [tofF, outF, yesN, hg, hgn]
    rw [hF]
    have HF : Hid (_ = _) := hF
    clear hF
    go_enter Try.func23, Try.ntmps23
    go_wp2_with fail
    go_region_held3 (fun w' => w'.cell? ⟨b, 0, none⟩ = some (.int .i64 r) ∧ w'.cell? ⟨b, 1, none⟩ = some (.int .i64 s) ∧ w'.cell? ⟨b, 2, none⟩ = some (.int .i64 m) ∧ w'.cell? ⟨b, 3, none⟩ = some (.int .i64 a)) (go_keep) (fail)
    go_wp2_with (first | (go_at_call 22; refine (rwrap_keep _ _ _).mono ?_; rintro e w' ⟨rfl, rfl⟩) | (go_at_call 25; refine (yes_keep _ _).mono ?_; rintro e w' ⟨rfl, rfl⟩))
    all_goals go_ret2
    all_goals exact ⟨w.heap.size, w.heap.size + 1, by simp, by omega, by omega, by omega, (hp_old (by simp) _).trans (hp_new (by simp) _), hp_new (by simp) _, gr_alloc (gr_alloc (gr_drew (World.grownBy.refl _ _)) _) _⟩

set_option maxRecDepth 10000 in
set_option maxHeartbeats 4000000 in
theorem refTimer_tp (b : Nat) (r s m a pt now : Int) (x : Bool) (w : World) (hr : r = 0 ∨ r = 1) (hs : 0 ≤ s ∧ s ≤ 4294967295) (hm : m = 0 ∨ m = 1) (ha : 0 ≤ a ∧ a ≤ 4294967295) (hp : 0 ≤ pt ∧ pt ≤ 4294967295) (hn : 0 ≤ now ∧ now ≤ 4294967295) (hb : w.heap[b]? = some (.cells (intsA [r, s, m, a]) 3)) :
    Calls Try.prog 23 #[.string tpName, .slice (some ⟨b, 0, none⟩) 4 4, .bool x, .int .i64 pt, .int .i64 now] w (StepPost 4 2 (tpF [r, s, m, a] [yesN x, pt] now) w) := by
  have d0 := at_cell hb 0
  have d1 := at_cell hb 1
  have d2 := at_cell hb 2
  have d3 := at_cell hb 3
  simp [intsA] at d0 d1 d2 d3
  clear hb
  have hz : wrapK 5 0 = 0 := wrapK_zero 5
  have hgn : goneN now now = 0 := by unfold goneN; rw [Int.sub_self]; exact hz
  obtain ⟨g, hg, hg0⟩ : ∃ g, goneN now s = g ∧ wrapK 5 (now - s) = g := ⟨_, rfl, rfl⟩
  unfold tpName
  rcases hr with rfl | rfl
  · cases x
    · skip
      have hF : tpF [0, s, m, a] [yesN false, pt] now = ([0, s, 0, 0], [0, 0]) := by simp [tpF, outF, yesN, hg, hgn]
      rw [hF]
      have HF : Hid (_ = _) := hF
      clear hF
      go_enter Try.func23, Try.ntmps23
      go_wp2_with fail
      go_region_held3 (fun w' => w'.cell? ⟨b, 0, none⟩ = some (.int .i64 0) ∧ w'.cell? ⟨b, 1, none⟩ = some (.int .i64 s) ∧ w'.cell? ⟨b, 2, none⟩ = some (.int .i64 m) ∧ w'.cell? ⟨b, 3, none⟩ = some (.int .i64 a)) (go_keep) (fail)
      go_wp2_with (first | (go_at_call 22; refine (rwrap_keep _ _ _).mono ?_; rintro e w' ⟨rfl, rfl⟩) | (go_at_call 25; refine (yes_keep _ _).mono ?_; rintro e w' ⟨rfl, rfl⟩))
      all_goals go_ret2
      all_goals exact ⟨w.heap.size, w.heap.size + 1, by simp, by omega, by omega, by omega, (hp_old (by simp) _).trans (hp_new (by simp) _), hp_new (by simp) _, gr_alloc (gr_alloc (gr_drew (World.grownBy.refl _ _)) _) _⟩
    · rcases hm with rfl | rfl
      · by_cases hq : pt ≤ 0
        · skip
          have hF : tpF [0, s, 0, a] [yesN true, pt] now = ([0, 0, 1, pt], [0, pt]) := by simp [tpF, outF, yesN, hg, hgn, hq, Int.min_eq_right hq]
          rw [hF]
          have HF : Hid (_ = _) := hF
          clear hF
          go_enter Try.func23, Try.ntmps23
          go_wp2_with fail
          go_region_held3 (fun w' => w'.cell? ⟨b, 0, none⟩ = some (.int .i64 0) ∧ w'.cell? ⟨b, 1, none⟩ = some (.int .i64 s) ∧ w'.cell? ⟨b, 2, none⟩ = some (.int .i64 0) ∧ w'.cell? ⟨b, 3, none⟩ = some (.int .i64 a)) (go_keep) (fail)
          go_wp2_with (first | (go_at_call 22; refine (rwrap_keep _ _ _).mono ?_; rintro e w' ⟨rfl, rfl⟩) | (go_at_call 25; refine (yes_keep _ _).mono ?_; rintro e w' ⟨rfl, rfl⟩))
          all_goals go_ret2
          all_goals exact ⟨w.heap.size, w.heap.size + 1, by simp, by omega, by omega, by omega, (hp_old (by simp) _).trans (hp_new (by simp) _), hp_new (by simp) _, gr_alloc (gr_alloc (gr_drew (World.grownBy.refl _ _)) _) _⟩
        · have hq2 : min 0 pt = 0 := by omega
          have hF : tpF [0, s, 0, a] [yesN true, pt] now = ([1, now, 1, 0], [1, 0]) := by simp [tpF, outF, yesN, hg, hgn, hq, hq2]
          rw [hF]
          have HF : Hid (_ = _) := hF
          clear hF
          go_enter Try.func23, Try.ntmps23
          go_wp2_with fail
          go_region_held3 (fun w' => w'.cell? ⟨b, 0, none⟩ = some (.int .i64 0) ∧ w'.cell? ⟨b, 1, none⟩ = some (.int .i64 s) ∧ w'.cell? ⟨b, 2, none⟩ = some (.int .i64 0) ∧ w'.cell? ⟨b, 3, none⟩ = some (.int .i64 a)) (go_keep) (fail)
          go_wp2_with (first | (go_at_call 22; refine (rwrap_keep _ _ _).mono ?_; rintro e w' ⟨rfl, rfl⟩) | (go_at_call 25; refine (yes_keep _ _).mono ?_; rintro e w' ⟨rfl, rfl⟩))
          all_goals go_ret2
          all_goals exact ⟨w.heap.size, w.heap.size + 1, by simp, by omega, by omega, by omega, (hp_old (by simp) _).trans (hp_new (by simp) _), hp_new (by simp) _, gr_alloc (gr_alloc (gr_drew (World.grownBy.refl _ _)) _) _⟩
      · skip
        have hF : tpF [0, s, 1, a] [yesN true, pt] now = ([0, s, 1, a], [0, a]) := by simp [tpF, outF, yesN, hg, hgn]
        rw [hF]
        have HF : Hid (_ = _) := hF
        clear hF
        go_enter Try.func23, Try.ntmps23
        go_wp2_with fail
        go_region_held3 (fun w' => w'.cell? ⟨b, 0, none⟩ = some (.int .i64 0) ∧ w'.cell? ⟨b, 1, none⟩ = some (.int .i64 s) ∧ w'.cell? ⟨b, 2, none⟩ = some (.int .i64 1) ∧ w'.cell? ⟨b, 3, none⟩ = some (.int .i64 a)) (go_keep) (fail)
        go_wp2_with (first | (go_at_call 22; refine (rwrap_keep _ _ _).mono ?_; rintro e w' ⟨rfl, rfl⟩) | (go_at_call 25; refine (yes_keep _ _).mono ?_; rintro e w' ⟨rfl, rfl⟩))
        all_goals go_ret2
        all_goals exact ⟨w.heap.size, w.heap.size + 1, by simp, by omega, by omega, by omega, (hp_old (by simp) _).trans (hp_new (by simp) _), hp_new (by simp) _, gr_alloc (gr_alloc (gr_drew (World.grownBy.refl _ _)) _) _⟩
  · by_cases hq : pt ≤ g
    · cases x
      · skip
        have hF : tpF [1, s, m, a] [yesN false, pt] now = ([0, 0, 0, pt], [0, pt]) := by simp [tpF, outF, yesN, hg, hgn, hq, Int.min_eq_right hq]
        rw [hF]
        have HF : Hid (_ = _) := hF
        clear hF
        go_enter Try.func23, Try.ntmps23
        go_wp2_with fail
        go_region_held3 (fun w' => w'.cell? ⟨b, 0, none⟩ = some (.int .i64 1) ∧ w'.cell? ⟨b, 1, none⟩ = some (.int .i64 s) ∧ w'.cell? ⟨b, 2, none⟩ = some (.int .i64 m) ∧ w'.cell? ⟨b, 3, none⟩ = some (.int .i64 a)) (go_keep) (fail)
        go_wp2_with (first | (go_at_call 22; refine (rwrap_keep _ _ _).mono ?_; rintro e w' ⟨rfl, rfl⟩) | (go_at_call 25; refine (yes_keep _ _).mono ?_; rintro e w' ⟨rfl, rfl⟩))
        all_goals go_ret2
        all_goals exact ⟨w.heap.size, w.heap.size + 1, by simp, by omega, by omega, by omega, (hp_old (by simp) _).trans (hp_new (by simp) _), hp_new (by simp) _, gr_alloc (gr_alloc (gr_drew (World.grownBy.refl _ _)) _) _⟩
      · skip
        have hF : tpF [1, s, m, a] [yesN true, pt] now = ([0, 0, 1, pt], [0, pt]) := by simp [tpF, outF, yesN, hg, hgn, hq, Int.min_eq_right hq]
        rw [hF]
        have HF : Hid (_ = _) := hF
        clear hF
        go_enter Try.func23, Try.ntmps23
        go_wp2_with fail
        go_region_held3 (fun w' => w'.cell? ⟨b, 0, none⟩ = some (.int .i64 1) ∧ w'.cell? ⟨b, 1, none⟩ = some (.int .i64 s) ∧ w'.cell? ⟨b, 2, none⟩ = some (.int .i64 m) ∧ w'.cell? ⟨b, 3, none⟩ = some (.int .i64 a)) (go_keep) (fail)
        go_wp2_with (first | (go_at_call 22; refine (rwrap_keep _ _ _).mono ?_; rintro e w' ⟨rfl, rfl⟩) | (go_at_call 25; refine (yes_keep _ _).mono ?_; rintro e w' ⟨rfl, rfl⟩))
        all_goals go_ret2
        all_goals exact ⟨w.heap.size, w.heap.size + 1, by simp, by omega, by omega, by omega, (hp_old (by simp) _).trans (hp_new (by simp) _), hp_new (by simp) _, gr_alloc (gr_alloc (gr_drew (World.grownBy.refl _ _)) _) _⟩
    · have hq2 : min g pt = g := by omega
      cases x
      · skip
        have hF : tpF [1, s, m, a] [yesN false, pt] now = ([1, s, 0, g], [1, g]) := by simp [tpF, outF, yesN, hg, hgn, hq, hq2]
        rw [hF]
        have HF : Hid (_ = _) := hF
        clear hF
        go_enter Try.func23, Try.ntmps23
        go_wp2_with fail
        go_region_held3 (fun w' => w'.cell? ⟨b, 0, none⟩ = some (.int .i64 1) ∧ w'.cell? ⟨b, 1, none⟩ = some (.int .i64 s) ∧ w'.cell? ⟨b, 2, none⟩ = some (.int .i64 m) ∧ w'.cell? ⟨b, 3, none⟩ = some (.int .i64 a)) (go_keep) (fail)
        go_wp2_with (first | (go_at_call 22; refine (rwrap_keep _ _ _).mono ?_; rintro e w' ⟨rfl, rfl⟩) | (go_at_call 25; refine (yes_keep _ _).mono ?_; rintro e w' ⟨rfl, rfl⟩))
        all_goals go_ret2
        all_goals exact ⟨w.heap.size, w.heap.size + 1, by simp, by omega, by omega, by omega, (hp_old (by simp) _).trans (hp_new (by simp) _), hp_new (by simp) _, gr_alloc (gr_alloc (gr_drew (World.grownBy.refl _ _)) _) _⟩
      · skip
        have hF : tpF [1, s, m, a] [yesN true, pt] now = ([1, s, 1, g], [1, g]) := by simp [tpF, outF, yesN, hg, hgn, hq, hq2]
        rw [hF]
        have HF : Hid (_ = _) := hF
        clear hF
        go_enter Try.func23, Try.ntmps23
        go_wp2_with fail
        go_region_held3 (fun w' => w'.cell? ⟨b, 0, none⟩ = some (.int .i64 1) ∧ w'.cell? ⟨b, 1, none⟩ = some (.int .i64 s) ∧ w'.cell? ⟨b, 2, none⟩ = some (.int .i64 m) ∧ w'.cell? ⟨b, 3, none⟩ = some (.int .i64 a)) (go_keep) (fail)
        go_wp2_with (first | (go_at_call 22; refine (rwrap_keep _ _ _).mono ?_; rintro e w' ⟨rfl, rfl⟩) | (go_at_call 25; refine (yes_keep _ _).mono ?_; rintro e w' ⟨rfl, rfl⟩))
        all_goals go_ret2
        all_goals exact ⟨w.heap.size, w.heap.size + 1, by simp, by omega, by omega, by omega, (hp_old (by simp) _).trans (hp_new (by simp) _), hp_new (by simp) _, gr_alloc (gr_alloc (gr_drew (World.grownBy.refl _ _)) _) _⟩
end Go.Proofs.Ytphnadhkoigegaa
