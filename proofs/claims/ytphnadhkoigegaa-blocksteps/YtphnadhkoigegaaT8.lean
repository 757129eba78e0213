/- The document's BlockStep: sr, rs. -/
import Derived.Test.YtphnadhkoigegaaT3
import Derived.Test.YtphnadhkoigegaaT4
import Derived.Test.YtphnadhkoigegaaR1
namespace Go.Proofs.Ytphnadhkoigegaa
open Go.RowKit
attribute [local go_sem ↓] Go.wp_at_zero Go.wp_at_succ
set_option linter.unusedVariables false
set_option linter.unusedSimpArgs false

theorem post_ab' (n m : Nat) (R : List Int × List Int) (w : World) : StepPost n m R w (.returned (.tuple #[.slice (some ⟨w.heap.size, 0, none⟩) n n, .slice (some ⟨w.heap.size + 1, 0, none⟩) m m])) ((w.alloc (.cells (intsA R.1) 3)).alloc (.cells (intsA R.2) 3)) :=
  ⟨w.heap.size, w.heap.size + 1, rfl, by omega, by omega, by omega, (hp_old (by simp) _).trans (hp_new (by simp) _), hp_new (by simp) _, gr_alloc (gr_alloc (World.grownBy.refl _ _) _) _⟩

set_option maxRecDepth 10000 in
set_option maxHeartbeats 8000000 in
theorem refStep_sr : RefStepC srName 1 1 [1] [1, 1] srF := by
  intro vs vi l li now w hr hri
  obtain ⟨a0, e⟩ := form1 1 l
  obtain ⟨c0, c1, e'⟩ := form2 1 1 li
  have HR : Hid (rd w vs l) := hr
  have HRI : Hid (rd w vi li) := hri
  have HE : Hid (wrapL (kindsOf srS) l = _) := e
  have HE' : Hid (wrapL (kindsOf srI) li = _) := e'
  rw [e, e']
  clear hr hri e e'
  have h_x0 := bitK a0
  have h_i0 := bitK c0
  have h_i1 := bitK c1
  have h_now := timK now
  generalize wrapK 1 a0 = x0 at *
  generalize wrapK 1 c0 = i0 at *
  generalize wrapK 1 c1 = i1 at *
  have hlS : srS.length = 1 := rfl
  have hlI : srI.length = 2 := rfl
  unfold srName
  rcases h_x0 with rfl | rfl
  · rcases h_i0 with rfl | rfl
    · rcases h_i1 with rfl | rfl
      · skip
        have hF : srF [0] [0, 0] (wrapK 5 now) = ([0], [0]) := by simp [srF, srN, rsN, rampN, hystN]
        rw [hF]
        clear hF
        go_enter Try.func13, Try.ntmps13
        go_wp2_with fail
        refine (refShape_sr _).mono ?_
        rintro e w1 ⟨v, rfl, ⟨r1, r2, r3, rfl, _, _, _, _, _, _, R1, R2, R3⟩, hg1⟩
        go_wp2_with fail
        refine (taken_all srS (by decide) r3 vs l _ ?_ ?_).mono ?_
        · exact (hp_old (at_lt R3) _).trans R3
        · exact rd_grown HR.out (gr_alloc hg1 _)
        rintro e w2 ⟨rfl, S2, hg2⟩
        have X2 := at_cell (kept hg2 (heap_alloc_new w1 _)) 0
        simp at X2
        go_wp2_with fail
        refine (taken_all srI (by decide) r1 vi li _ ?_ ?_).mono ?_
        · exact kept hg2 ((hp_old (at_lt R1) _).trans R1)
        · exact rd_grown HRI.out ((gr_alloc hg1 _).trans hg2)
        rintro e w3 ⟨rfl, I3, hg3⟩
        have S3 := kept hg3 S2
        rw [HE.out] at S3
        rw [HE'.out] at I3
        have hgw : w.grownBy w3 none := ((gr_alloc hg1 _).trans hg2).trans hg3
        have ls := at_lt S3
        have li3 := at_lt I3
        clear X2 R1 R2 R3 S2 hg1 hg2 hg3
        simp only [World.size_alloc] at S3 ls
        generalize w1.heap.size + 1 = cs at S3 ls ⊢
        generalize w2.heap.size = ci at I3 li3 ⊢
        have p0 := at_cell S3 0
        have q0 := at_cell I3 0
        have q1 := at_cell I3 1
        simp [intsA] at p0 q0 q1
        go_wp2_with (first | (go_at_call 25; refine (yes_keep _ _).mono ?_; rintro e w' ⟨rfl, rfl⟩) | (go_at_call 22; refine (rwrap_keep _ _ _).mono ?_; rintro e w' ⟨rfl, rfl⟩))
        all_goals go_ret2
        all_goals first | exact post_to (post_ab' _ _ _ _) hgw | exact post_to (post_ab _ _ _ _) hgw
      · skip
        have hF : srF [0] [0, 1] (wrapK 5 now) = ([0], [0]) := by simp [srF, srN, rsN, rampN, hystN]
        rw [hF]
        clear hF
        go_enter Try.func13, Try.ntmps13
        go_wp2_with fail
        refine (refShape_sr _).mono ?_
        rintro e w1 ⟨v, rfl, ⟨r1, r2, r3, rfl, _, _, _, _, _, _, R1, R2, R3⟩, hg1⟩
        go_wp2_with fail
        refine (taken_all srS (by decide) r3 vs l _ ?_ ?_).mono ?_
        · exact (hp_old (at_lt R3) _).trans R3
        · exact rd_grown HR.out (gr_alloc hg1 _)
        rintro e w2 ⟨rfl, S2, hg2⟩
        have X2 := at_cell (kept hg2 (heap_alloc_new w1 _)) 0
        simp at X2
        go_wp2_with fail
        refine (taken_all srI (by decide) r1 vi li _ ?_ ?_).mono ?_
        · exact kept hg2 ((hp_old (at_lt R1) _).trans R1)
        · exact rd_grown HRI.out ((gr_alloc hg1 _).trans hg2)
        rintro e w3 ⟨rfl, I3, hg3⟩
        have S3 := kept hg3 S2
        rw [HE.out] at S3
        rw [HE'.out] at I3
        have hgw : w.grownBy w3 none := ((gr_alloc hg1 _).trans hg2).trans hg3
        have ls := at_lt S3
        have li3 := at_lt I3
        clear X2 R1 R2 R3 S2 hg1 hg2 hg3
        simp only [World.size_alloc] at S3 ls
        generalize w1.heap.size + 1 = cs at S3 ls ⊢
        generalize w2.heap.size = ci at I3 li3 ⊢
        have p0 := at_cell S3 0
        have q0 := at_cell I3 0
        have q1 := at_cell I3 1
        simp [intsA] at p0 q0 q1
        go_wp2_with (first | (go_at_call 25; refine (yes_keep _ _).mono ?_; rintro e w' ⟨rfl, rfl⟩) | (go_at_call 22; refine (rwrap_keep _ _ _).mono ?_; rintro e w' ⟨rfl, rfl⟩))
        all_goals go_ret2
        all_goals first | exact post_to (post_ab' _ _ _ _) hgw | exact post_to (post_ab _ _ _ _) hgw
    · rcases h_i1 with rfl | rfl
      · skip
        have hF : srF [0] [1, 0] (wrapK 5 now) = ([1], [1]) := by simp [srF, srN, rsN, rampN, hystN]
        rw [hF]
        clear hF
        go_enter Try.func13, Try.ntmps13
        go_wp2_with fail
        refine (refShape_sr _).mono ?_
        rintro e w1 ⟨v, rfl, ⟨r1, r2, r3, rfl, _, _, _, _, _, _, R1, R2, R3⟩, hg1⟩
        go_wp2_with fail
        refine (taken_all srS (by decide) r3 vs l _ ?_ ?_).mono ?_
        · exact (hp_old (at_lt R3) _).trans R3
        · exact rd_grown HR.out (gr_alloc hg1 _)
        rintro e w2 ⟨rfl, S2, hg2⟩
        have X2 := at_cell (kept hg2 (heap_alloc_new w1 _)) 0
        simp at X2
        go_wp2_with fail
        refine (taken_all srI (by decide) r1 vi li _ ?_ ?_).mono ?_
        · exact kept hg2 ((hp_old (at_lt R1) _).trans R1)
        · exact rd_grown HRI.out ((gr_alloc hg1 _).trans hg2)
        rintro e w3 ⟨rfl, I3, hg3⟩
        have S3 := kept hg3 S2
        rw [HE.out] at S3
        rw [HE'.out] at I3
        have hgw : w.grownBy w3 none := ((gr_alloc hg1 _).trans hg2).trans hg3
        have ls := at_lt S3
        have li3 := at_lt I3
        clear X2 R1 R2 R3 S2 hg1 hg2 hg3
        simp only [World.size_alloc] at S3 ls
        generalize w1.heap.size + 1 = cs at S3 ls ⊢
        generalize w2.heap.size = ci at I3 li3 ⊢
        have p0 := at_cell S3 0
        have q0 := at_cell I3 0
        have q1 := at_cell I3 1
        simp [intsA] at p0 q0 q1
        go_wp2_with (first | (go_at_call 25; refine (yes_keep _ _).mono ?_; rintro e w' ⟨rfl, rfl⟩) | (go_at_call 22; refine (rwrap_keep _ _ _).mono ?_; rintro e w' ⟨rfl, rfl⟩))
        all_goals go_ret2
        all_goals first | exact post_to (post_ab' _ _ _ _) hgw | exact post_to (post_ab _ _ _ _) hgw
      · skip
        have hF : srF [0] [1, 1] (wrapK 5 now) = ([1], [1]) := by simp [srF, srN, rsN, rampN, hystN]
        rw [hF]
        clear hF
        go_enter Try.func13, Try.ntmps13
        go_wp2_with fail
        refine (refShape_sr _).mono ?_
        rintro e w1 ⟨v, rfl, ⟨r1, r2, r3, rfl, _, _, _, _, _, _, R1, R2, R3⟩, hg1⟩
        go_wp2_with fail
        refine (taken_all srS (by decide) r3 vs l _ ?_ ?_).mono ?_
        · exact (hp_old (at_lt R3) _).trans R3
        · exact rd_grown HR.out (gr_alloc hg1 _)
        rintro e w2 ⟨rfl, S2, hg2⟩
        have X2 := at_cell (kept hg2 (heap_alloc_new w1 _)) 0
        simp at X2
        go_wp2_with fail
        refine (taken_all srI (by decide) r1 vi li _ ?_ ?_).mono ?_
        · exact kept hg2 ((hp_old (at_lt R1) _).trans R1)
        · exact rd_grown HRI.out ((gr_alloc hg1 _).trans hg2)
        rintro e w3 ⟨rfl, I3, hg3⟩
        have S3 := kept hg3 S2
        rw [HE.out] at S3
        rw [HE'.out] at I3
        have hgw : w.grownBy w3 none := ((gr_alloc hg1 _).trans hg2).trans hg3
        have ls := at_lt S3
        have li3 := at_lt I3
        clear X2 R1 R2 R3 S2 hg1 hg2 hg3
        simp only [World.size_alloc] at S3 ls
        generalize w1.heap.size + 1 = cs at S3 ls ⊢
        generalize w2.heap.size = ci at I3 li3 ⊢
        have p0 := at_cell S3 0
        have q0 := at_cell I3 0
        have q1 := at_cell I3 1
        simp [intsA] at p0 q0 q1
        go_wp2_with (first | (go_at_call 25; refine (yes_keep _ _).mono ?_; rintro e w' ⟨rfl, rfl⟩) | (go_at_call 22; refine (rwrap_keep _ _ _).mono ?_; rintro e w' ⟨rfl, rfl⟩))
        all_goals go_ret2
        all_goals first | exact post_to (post_ab' _ _ _ _) hgw | exact post_to (post_ab _ _ _ _) hgw
  · rcases h_i0 with rfl | rfl
    · rcases h_i1 with rfl | rfl
      · skip
        have hF : srF [1] [0, 0] (wrapK 5 now) = ([1], [1]) := by simp [srF, srN, rsN, rampN, hystN]
        rw [hF]
        clear hF
        go_enter Try.func13, Try.ntmps13
        go_wp2_with fail
        refine (refShape_sr _).mono ?_
        rintro e w1 ⟨v, rfl, ⟨r1, r2, r3, rfl, _, _, _, _, _, _, R1, R2, R3⟩, hg1⟩
        go_wp2_with fail
        refine (taken_all srS (by decide) r3 vs l _ ?_ ?_).mono ?_
        · exact (hp_old (at_lt R3) _).trans R3
        · exact rd_grown HR.out (gr_alloc hg1 _)
        rintro e w2 ⟨rfl, S2, hg2⟩
        have X2 := at_cell (kept hg2 (heap_alloc_new w1 _)) 0
        simp at X2
        go_wp2_with fail
        refine (taken_all srI (by decide) r1 vi li _ ?_ ?_).mono ?_
        · exact kept hg2 ((hp_old (at_lt R1) _).trans R1)
        · exact rd_grown HRI.out ((gr_alloc hg1 _).trans hg2)
        rintro e w3 ⟨rfl, I3, hg3⟩
        have S3 := kept hg3 S2
        rw [HE.out] at S3
        rw [HE'.out] at I3
        have hgw : w.grownBy w3 none := ((gr_alloc hg1 _).trans hg2).trans hg3
        have ls := at_lt S3
        have li3 := at_lt I3
        clear X2 R1 R2 R3 S2 hg1 hg2 hg3
        simp only [World.size_alloc] at S3 ls
        generalize w1.heap.size + 1 = cs at S3 ls ⊢
        generalize w2.heap.size = ci at I3 li3 ⊢
        have p0 := at_cell S3 0
        have q0 := at_cell I3 0
        have q1 := at_cell I3 1
        simp [intsA] at p0 q0 q1
        go_wp2_with (first | (go_at_call 25; refine (yes_keep _ _).mono ?_; rintro e w' ⟨rfl, rfl⟩) | (go_at_call 22; refine (rwrap_keep _ _ _).mono ?_; rintro e w' ⟨rfl, rfl⟩))
        all_goals go_ret2
        all_goals first | exact post_to (post_ab' _ _ _ _) hgw | exact post_to (post_ab _ _ _ _) hgw
      · skip
        have hF : srF [1] [0, 1] (wrapK 5 now) = ([0], [0]) := by simp [srF, srN, rsN, rampN, hystN]
        rw [hF]
        clear hF
        go_enter Try.func13, Try.ntmps13
        go_wp2_with fail
        refine (refShape_sr _).mono ?_
        rintro e w1 ⟨v, rfl, ⟨r1, r2, r3, rfl, _, _, _, _, _, _, R1, R2, R3⟩, hg1⟩
        go_wp2_with fail
        refine (taken_all srS (by decide) r3 vs l _ ?_ ?_).mono ?_
        · exact (hp_old (at_lt R3) _).trans R3
        · exact rd_grown HR.out (gr_alloc hg1 _)
        rintro e w2 ⟨rfl, S2, hg2⟩
        have X2 := at_cell (kept hg2 (heap_alloc_new w1 _)) 0
        simp at X2
        go_wp2_with fail
        refine (taken_all srI (by decide) r1 vi li _ ?_ ?_).mono ?_
        · exact kept hg2 ((hp_old (at_lt R1) _).trans R1)
        · exact rd_grown HRI.out ((gr_alloc hg1 _).trans hg2)
        rintro e w3 ⟨rfl, I3, hg3⟩
        have S3 := kept hg3 S2
        rw [HE.out] at S3
        rw [HE'.out] at I3
        have hgw : w.grownBy w3 none := ((gr_alloc hg1 _).trans hg2).trans hg3
        have ls := at_lt S3
        have li3 := at_lt I3
        clear X2 R1 R2 R3 S2 hg1 hg2 hg3
        simp only [World.size_alloc] at S3 ls
        generalize w1.heap.size + 1 = cs at S3 ls ⊢
        generalize w2.heap.size = ci at I3 li3 ⊢
        have p0 := at_cell S3 0
        have q0 := at_cell I3 0
        have q1 := at_cell I3 1
        simp [intsA] at p0 q0 q1
        go_wp2_with (first | (go_at_call 25; refine (yes_keep _ _).mono ?_; rintro e w' ⟨rfl, rfl⟩) | (go_at_call 22; refine (rwrap_keep _ _ _).mono ?_; rintro e w' ⟨rfl, rfl⟩))
        all_goals go_ret2
        all_goals first | exact post_to (post_ab' _ _ _ _) hgw | exact post_to (post_ab _ _ _ _) hgw
    · rcases h_i1 with rfl | rfl
      · skip
        have hF : srF [1] [1, 0] (wrapK 5 now) = ([1], [1]) := by simp [srF, srN, rsN, rampN, hystN]
        rw [hF]
        clear hF
        go_enter Try.func13, Try.ntmps13
        go_wp2_with fail
        refine (refShape_sr _).mono ?_
        rintro e w1 ⟨v, rfl, ⟨r1, r2, r3, rfl, _, _, _, _, _, _, R1, R2, R3⟩, hg1⟩
        go_wp2_with fail
        refine (taken_all srS (by decide) r3 vs l _ ?_ ?_).mono ?_
        · exact (hp_old (at_lt R3) _).trans R3
        · exact rd_grown HR.out (gr_alloc hg1 _)
        rintro e w2 ⟨rfl, S2, hg2⟩
        have X2 := at_cell (kept hg2 (heap_alloc_new w1 _)) 0
        simp at X2
        go_wp2_with fail
        refine (taken_all srI (by decide) r1 vi li _ ?_ ?_).mono ?_
        · exact kept hg2 ((hp_old (at_lt R1) _).trans R1)
        · exact rd_grown HRI.out ((gr_alloc hg1 _).trans hg2)
        rintro e w3 ⟨rfl, I3, hg3⟩
        have S3 := kept hg3 S2
        rw [HE.out] at S3
        rw [HE'.out] at I3
        have hgw : w.grownBy w3 none := ((gr_alloc hg1 _).trans hg2).trans hg3
        have ls := at_lt S3
        have li3 := at_lt I3
        clear X2 R1 R2 R3 S2 hg1 hg2 hg3
        simp only [World.size_alloc] at S3 ls
        generalize w1.heap.size + 1 = cs at S3 ls ⊢
        generalize w2.heap.size = ci at I3 li3 ⊢
        have p0 := at_cell S3 0
        have q0 := at_cell I3 0
        have q1 := at_cell I3 1
        simp [intsA] at p0 q0 q1
        go_wp2_with (first | (go_at_call 25; refine (yes_keep _ _).mono ?_; rintro e w' ⟨rfl, rfl⟩) | (go_at_call 22; refine (rwrap_keep _ _ _).mono ?_; rintro e w' ⟨rfl, rfl⟩))
        all_goals go_ret2
        all_goals first | exact post_to (post_ab' _ _ _ _) hgw | exact post_to (post_ab _ _ _ _) hgw
      · skip
        have hF : srF [1] [1, 1] (wrapK 5 now) = ([1], [1]) := by simp [srF, srN, rsN, rampN, hystN]
        rw [hF]
        clear hF
        go_enter Try.func13, Try.ntmps13
        go_wp2_with fail
        refine (refShape_sr _).mono ?_
        rintro e w1 ⟨v, rfl, ⟨r1, r2, r3, rfl, _, _, _, _, _, _, R1, R2, R3⟩, hg1⟩
        go_wp2_with fail
        refine (taken_all srS (by decide) r3 vs l _ ?_ ?_).mono ?_
        · exact (hp_old (at_lt R3) _).trans R3
        · exact rd_grown HR.out (gr_alloc hg1 _)
        rintro e w2 ⟨rfl, S2, hg2⟩
        have X2 := at_cell (kept hg2 (heap_alloc_new w1 _)) 0
        simp at X2
        go_wp2_with fail
        refine (taken_all srI (by decide) r1 vi li _ ?_ ?_).mono ?_
        · exact kept hg2 ((hp_old (at_lt R1) _).trans R1)
        · exact rd_grown HRI.out ((gr_alloc hg1 _).trans hg2)
        rintro e w3 ⟨rfl, I3, hg3⟩
        have S3 := kept hg3 S2
        rw [HE.out] at S3
        rw [HE'.out] at I3
        have hgw : w.grownBy w3 none := ((gr_alloc hg1 _).trans hg2).trans hg3
        have ls := at_lt S3
        have li3 := at_lt I3
        clear X2 R1 R2 R3 S2 hg1 hg2 hg3
        simp only [World.size_alloc] at S3 ls
        generalize w1.heap.size + 1 = cs at S3 ls ⊢
        generalize w2.heap.size = ci at I3 li3 ⊢
        have p0 := at_cell S3 0
        have q0 := at_cell I3 0
        have q1 := at_cell I3 1
        simp [intsA] at p0 q0 q1
        go_wp2_with (first | (go_at_call 25; refine (yes_keep _ _).mono ?_; rintro e w' ⟨rfl, rfl⟩) | (go_at_call 22; refine (rwrap_keep _ _ _).mono ?_; rintro e w' ⟨rfl, rfl⟩))
        all_goals go_ret2
        all_goals first | exact post_to (post_ab' _ _ _ _) hgw | exact post_to (post_ab _ _ _ _) hgw

set_option maxRecDepth 10000 in
set_option maxHeartbeats 8000000 in
theorem refStep_rs : RefStepC rsName 1 1 [1] [1, 1] rsF := by
  intro vs vi l li now w hr hri
  obtain ⟨a0, e⟩ := form1 1 l
  obtain ⟨c0, c1, e'⟩ := form2 1 1 li
  have HR : Hid (rd w vs l) := hr
  have HRI : Hid (rd w vi li) := hri
  have HE : Hid (wrapL (kindsOf rsS) l = _) := e
  have HE' : Hid (wrapL (kindsOf rsI) li = _) := e'
  rw [e, e']
  clear hr hri e e'
  have h_x0 := bitK a0
  have h_i0 := bitK c0
  have h_i1 := bitK c1
  have h_now := timK now
  generalize wrapK 1 a0 = x0 at *
  generalize wrapK 1 c0 = i0 at *
  generalize wrapK 1 c1 = i1 at *
  have hlS : rsS.length = 1 := rfl
  have hlI : rsI.length = 2 := rfl
  unfold rsName
  rcases h_x0 with rfl | rfl
  · rcases h_i0 with rfl | rfl
    · rcases h_i1 with rfl | rfl
      · skip
        have hF : rsF [0] [0, 0] (wrapK 5 now) = ([0], [0]) := by simp [rsF, srN, rsN, rampN, hystN]
        rw [hF]
        clear hF
        go_enter Try.func13, Try.ntmps13
        go_wp2_with fail
        refine (refShape_rs _).mono ?_
        rintro e w1 ⟨v, rfl, ⟨r1, r2, r3, rfl, _, _, _, _, _, _, R1, R2, R3⟩, hg1⟩
        go_wp2_with fail
        refine (taken_all rsS (by decide) r3 vs l _ ?_ ?_).mono ?_
        · exact (hp_old (at_lt R3) _).trans R3
        · exact rd_grown HR.out (gr_alloc hg1 _)
        rintro e w2 ⟨rfl, S2, hg2⟩
        have X2 := at_cell (kept hg2 (heap_alloc_new w1 _)) 0
        simp at X2
        go_wp2_with fail
        refine (taken_all rsI (by decide) r1 vi li _ ?_ ?_).mono ?_
        · exact kept hg2 ((hp_old (at_lt R1) _).trans R1)
        · exact rd_grown HRI.out ((gr_alloc hg1 _).trans hg2)
        rintro e w3 ⟨rfl, I3, hg3⟩
        have S3 := kept hg3 S2
        rw [HE.out] at S3
        rw [HE'.out] at I3
        have hgw : w.grownBy w3 none := ((gr_alloc hg1 _).trans hg2).trans hg3
        have ls := at_lt S3
        have li3 := at_lt I3
        clear X2 R1 R2 R3 S2 hg1 hg2 hg3
        simp only [World.size_alloc] at S3 ls
        generalize w1.heap.size + 1 = cs at S3 ls ⊢
        generalize w2.heap.size = ci at I3 li3 ⊢
        have p0 := at_cell S3 0
        have q0 := at_cell I3 0
        have q1 := at_cell I3 1
        simp [intsA] at p0 q0 q1
        go_wp2_with (first | (go_at_call 25; refine (yes_keep _ _).mono ?_; rintro e w' ⟨rfl, rfl⟩) | (go_at_call 22; refine (rwrap_keep _ _ _).mono ?_; rintro e w' ⟨rfl, rfl⟩))
        all_goals go_ret2
        all_goals first | exact post_to (post_ab' _ _ _ _) hgw | exact post_to (post_ab _ _ _ _) hgw
      · skip
        have hF : rsF [0] [0, 1] (wrapK 5 now) = ([0], [0]) := by simp [rsF, srN, rsN, rampN, hystN]
        rw [hF]
        clear hF
        go_enter Try.func13, Try.ntmps13
        go_wp2_with fail
        refine (refShape_rs _).mono ?_
        rintro e w1 ⟨v, rfl, ⟨r1, r2, r3, rfl, _, _, _, _, _, _, R1, R2, R3⟩, hg1⟩
        go_wp2_with fail
        refine (taken_all rsS (by decide) r3 vs l _ ?_ ?_).mono ?_
        · exact (hp_old (at_lt R3) _).trans R3
        · exact rd_grown HR.out (gr_alloc hg1 _)
        rintro e w2 ⟨rfl, S2, hg2⟩
        have X2 := at_cell (kept hg2 (heap_alloc_new w1 _)) 0
        simp at X2
        go_wp2_with fail
        refine (taken_all rsI (by decide) r1 vi li _ ?_ ?_).mono ?_
        · exact kept hg2 ((hp_old (at_lt R1) _).trans R1)
        · exact rd_grown HRI.out ((gr_alloc hg1 _).trans hg2)
        rintro e w3 ⟨rfl, I3, hg3⟩
        have S3 := kept hg3 S2
        rw [HE.out] at S3
        rw [HE'.out] at I3
        have hgw : w.grownBy w3 none := ((gr_alloc hg1 _).trans hg2).trans hg3
        have ls := at_lt S3
        have li3 := at_lt I3
        clear X2 R1 R2 R3 S2 hg1 hg2 hg3
        simp only [World.size_alloc] at S3 ls
        generalize w1.heap.size + 1 = cs at S3 ls ⊢
        generalize w2.heap.size = ci at I3 li3 ⊢
        have p0 := at_cell S3 0
        have q0 := at_cell I3 0
        have q1 := at_cell I3 1
        simp [intsA] at p0 q0 q1
        go_wp2_with (first | (go_at_call 25; refine (yes_keep _ _).mono ?_; rintro e w' ⟨rfl, rfl⟩) | (go_at_call 22; refine (rwrap_keep _ _ _).mono ?_; rintro e w' ⟨rfl, rfl⟩))
        all_goals go_ret2
        all_goals first | exact post_to (post_ab' _ _ _ _) hgw | exact post_to (post_ab _ _ _ _) hgw
    · rcases h_i1 with rfl | rfl
      · skip
        have hF : rsF [0] [1, 0] (wrapK 5 now) = ([1], [1]) := by simp [rsF, srN, rsN, rampN, hystN]
        rw [hF]
        clear hF
        go_enter Try.func13, Try.ntmps13
        go_wp2_with fail
        refine (refShape_rs _).mono ?_
        rintro e w1 ⟨v, rfl, ⟨r1, r2, r3, rfl, _, _, _, _, _, _, R1, R2, R3⟩, hg1⟩
        go_wp2_with fail
        refine (taken_all rsS (by decide) r3 vs l _ ?_ ?_).mono ?_
        · exact (hp_old (at_lt R3) _).trans R3
        · exact rd_grown HR.out (gr_alloc hg1 _)
        rintro e w2 ⟨rfl, S2, hg2⟩
        have X2 := at_cell (kept hg2 (heap_alloc_new w1 _)) 0
        simp at X2
        go_wp2_with fail
        refine (taken_all rsI (by decide) r1 vi li _ ?_ ?_).mono ?_
        · exact kept hg2 ((hp_old (at_lt R1) _).trans R1)
        · exact rd_grown HRI.out ((gr_alloc hg1 _).trans hg2)
        rintro e w3 ⟨rfl, I3, hg3⟩
        have S3 := kept hg3 S2
        rw [HE.out] at S3
        rw [HE'.out] at I3
        have hgw : w.grownBy w3 none := ((gr_alloc hg1 _).trans hg2).trans hg3
        have ls := at_lt S3
        have li3 := at_lt I3
        clear X2 R1 R2 R3 S2 hg1 hg2 hg3
        simp only [World.size_alloc] at S3 ls
        generalize w1.heap.size + 1 = cs at S3 ls ⊢
        generalize w2.heap.size = ci at I3 li3 ⊢
        have p0 := at_cell S3 0
        have q0 := at_cell I3 0
        have q1 := at_cell I3 1
        simp [intsA] at p0 q0 q1
        go_wp2_with (first | (go_at_call 25; refine (yes_keep _ _).mono ?_; rintro e w' ⟨rfl, rfl⟩) | (go_at_call 22; refine (rwrap_keep _ _ _).mono ?_; rintro e w' ⟨rfl, rfl⟩))
        all_goals go_ret2
        all_goals first | exact post_to (post_ab' _ _ _ _) hgw | exact post_to (post_ab _ _ _ _) hgw
      · skip
        have hF : rsF [0] [1, 1] (wrapK 5 now) = ([0], [0]) := by simp [rsF, srN, rsN, rampN, hystN]
        rw [hF]
        clear hF
        go_enter Try.func13, Try.ntmps13
        go_wp2_with fail
        refine (refShape_rs _).mono ?_
        rintro e w1 ⟨v, rfl, ⟨r1, r2, r3, rfl, _, _, _, _, _, _, R1, R2, R3⟩, hg1⟩
        go_wp2_with fail
        refine (taken_all rsS (by decide) r3 vs l _ ?_ ?_).mono ?_
        · exact (hp_old (at_lt R3) _).trans R3
        · exact rd_grown HR.out (gr_alloc hg1 _)
        rintro e w2 ⟨rfl, S2, hg2⟩
        have X2 := at_cell (kept hg2 (heap_alloc_new w1 _)) 0
        simp at X2
        go_wp2_with fail
        refine (taken_all rsI (by decide) r1 vi li _ ?_ ?_).mono ?_
        · exact kept hg2 ((hp_old (at_lt R1) _).trans R1)
        · exact rd_grown HRI.out ((gr_alloc hg1 _).trans hg2)
        rintro e w3 ⟨rfl, I3, hg3⟩
        have S3 := kept hg3 S2
        rw [HE.out] at S3
        rw [HE'.out] at I3
        have hgw : w.grownBy w3 none := ((gr_alloc hg1 _).trans hg2).trans hg3
        have ls := at_lt S3
        have li3 := at_lt I3
        clear X2 R1 R2 R3 S2 hg1 hg2 hg3
        simp only [World.size_alloc] at S3 ls
        generalize w1.heap.size + 1 = cs at S3 ls ⊢
        generalize w2.heap.size = ci at I3 li3 ⊢
        have p0 := at_cell S3 0
        have q0 := at_cell I3 0
        have q1 := at_cell I3 1
        simp [intsA] at p0 q0 q1
        go_wp2_with (first | (go_at_call 25; refine (yes_keep _ _).mono ?_; rintro e w' ⟨rfl, rfl⟩) | (go_at_call 22; refine (rwrap_keep _ _ _).mono ?_; rintro e w' ⟨rfl, rfl⟩))
        all_goals go_ret2
        all_goals first | exact post_to (post_ab' _ _ _ _) hgw | exact post_to (post_ab _ _ _ _) hgw
  · rcases h_i0 with rfl | rfl
    · rcases h_i1 with rfl | rfl
      · skip
        have hF : rsF [1] [0, 0] (wrapK 5 now) = ([1], [1]) := by simp [rsF, srN, rsN, rampN, hystN]
        rw [hF]
        clear hF
        go_enter Try.func13, Try.ntmps13
        go_wp2_with fail
        refine (refShape_rs _).mono ?_
        rintro e w1 ⟨v, rfl, ⟨r1, r2, r3, rfl, _, _, _, _, _, _, R1, R2, R3⟩, hg1⟩
        go_wp2_with fail
        refine (taken_all rsS (by decide) r3 vs l _ ?_ ?_).mono ?_
        · exact (hp_old (at_lt R3) _).trans R3
        · exact rd_grown HR.out (gr_alloc hg1 _)
        rintro e w2 ⟨rfl, S2, hg2⟩
        have X2 := at_cell (kept hg2 (heap_alloc_new w1 _)) 0
        simp at X2
        go_wp2_with fail
        refine (taken_all rsI (by decide) r1 vi li _ ?_ ?_).mono ?_
        · exact kept hg2 ((hp_old (at_lt R1) _).trans R1)
        · exact rd_grown HRI.out ((gr_alloc hg1 _).trans hg2)
        rintro e w3 ⟨rfl, I3, hg3⟩
        have S3 := kept hg3 S2
        rw [HE.out] at S3
        rw [HE'.out] at I3
        have hgw : w.grownBy w3 none := ((gr_alloc hg1 _).trans hg2).trans hg3
        have ls := at_lt S3
        have li3 := at_lt I3
        clear X2 R1 R2 R3 S2 hg1 hg2 hg3
        simp only [World.size_alloc] at S3 ls
        generalize w1.heap.size + 1 = cs at S3 ls ⊢
        generalize w2.heap.size = ci at I3 li3 ⊢
        have p0 := at_cell S3 0
        have q0 := at_cell I3 0
        have q1 := at_cell I3 1
        simp [intsA] at p0 q0 q1
        go_wp2_with (first | (go_at_call 25; refine (yes_keep _ _).mono ?_; rintro e w' ⟨rfl, rfl⟩) | (go_at_call 22; refine (rwrap_keep _ _ _).mono ?_; rintro e w' ⟨rfl, rfl⟩))
        all_goals go_ret2
        all_goals first | exact post_to (post_ab' _ _ _ _) hgw | exact post_to (post_ab _ _ _ _) hgw
      · skip
        have hF : rsF [1] [0, 1] (wrapK 5 now) = ([0], [0]) := by simp [rsF, srN, rsN, rampN, hystN]
        rw [hF]
        clear hF
        go_enter Try.func13, Try.ntmps13
        go_wp2_with fail
        refine (refShape_rs _).mono ?_
        rintro e w1 ⟨v, rfl, ⟨r1, r2, r3, rfl, _, _, _, _, _, _, R1, R2, R3⟩, hg1⟩
        go_wp2_with fail
        refine (taken_all rsS (by decide) r3 vs l _ ?_ ?_).mono ?_
        · exact (hp_old (at_lt R3) _).trans R3
        · exact rd_grown HR.out (gr_alloc hg1 _)
        rintro e w2 ⟨rfl, S2, hg2⟩
        have X2 := at_cell (kept hg2 (heap_alloc_new w1 _)) 0
        simp at X2
        go_wp2_with fail
        refine (taken_all rsI (by decide) r1 vi li _ ?_ ?_).mono ?_
        · exact kept hg2 ((hp_old (at_lt R1) _).trans R1)
        · exact rd_grown HRI.out ((gr_alloc hg1 _).trans hg2)
        rintro e w3 ⟨rfl, I3, hg3⟩
        have S3 := kept hg3 S2
        rw [HE.out] at S3
        rw [HE'.out] at I3
        have hgw : w.grownBy w3 none := ((gr_alloc hg1 _).trans hg2).trans hg3
        have ls := at_lt S3
        have li3 := at_lt I3
        clear X2 R1 R2 R3 S2 hg1 hg2 hg3
        simp only [World.size_alloc] at S3 ls
        generalize w1.heap.size + 1 = cs at S3 ls ⊢
        generalize w2.heap.size = ci at I3 li3 ⊢
        have p0 := at_cell S3 0
        have q0 := at_cell I3 0
        have q1 := at_cell I3 1
        simp [intsA] at p0 q0 q1
        go_wp2_with (first | (go_at_call 25; refine (yes_keep _ _).mono ?_; rintro e w' ⟨rfl, rfl⟩) | (go_at_call 22; refine (rwrap_keep _ _ _).mono ?_; rintro e w' ⟨rfl, rfl⟩))
        all_goals go_ret2
        all_goals first | exact post_to (post_ab' _ _ _ _) hgw | exact post_to (post_ab _ _ _ _) hgw
    · rcases h_i1 with rfl | rfl
      · skip
        have hF : rsF [1] [1, 0] (wrapK 5 now) = ([1], [1]) := by simp [rsF, srN, rsN, rampN, hystN]
        rw [hF]
        clear hF
        go_enter Try.func13, Try.ntmps13
        go_wp2_with fail
        refine (refShape_rs _).mono ?_
        rintro e w1 ⟨v, rfl, ⟨r1, r2, r3, rfl, _, _, _, _, _, _, R1, R2, R3⟩, hg1⟩
        go_wp2_with fail
        refine (taken_all rsS (by decide) r3 vs l _ ?_ ?_).mono ?_
        · exact (hp_old (at_lt R3) _).trans R3
        · exact rd_grown HR.out (gr_alloc hg1 _)
        rintro e w2 ⟨rfl, S2, hg2⟩
        have X2 := at_cell (kept hg2 (heap_alloc_new w1 _)) 0
        simp at X2
        go_wp2_with fail
        refine (taken_all rsI (by decide) r1 vi li _ ?_ ?_).mono ?_
        · exact kept hg2 ((hp_old (at_lt R1) _).trans R1)
        · exact rd_grown HRI.out ((gr_alloc hg1 _).trans hg2)
        rintro e w3 ⟨rfl, I3, hg3⟩
        have S3 := kept hg3 S2
        rw [HE.out] at S3
        rw [HE'.out] at I3
        have hgw : w.grownBy w3 none := ((gr_alloc hg1 _).trans hg2).trans hg3
        have ls := at_lt S3
        have li3 := at_lt I3
        clear X2 R1 R2 R3 S2 hg1 hg2 hg3
        simp only [World.size_alloc] at S3 ls
        generalize w1.heap.size + 1 = cs at S3 ls ⊢
        generalize w2.heap.size = ci at I3 li3 ⊢
        have p0 := at_cell S3 0
        have q0 := at_cell I3 0
        have q1 := at_cell I3 1
        simp [intsA] at p0 q0 q1
        go_wp2_with (first | (go_at_call 25; refine (yes_keep _ _).mono ?_; rintro e w' ⟨rfl, rfl⟩) | (go_at_call 22; refine (rwrap_keep _ _ _).mono ?_; rintro e w' ⟨rfl, rfl⟩))
        all_goals go_ret2
        all_goals first | exact post_to (post_ab' _ _ _ _) hgw | exact post_to (post_ab _ _ _ _) hgw
      · skip
        have hF : rsF [1] [1, 1] (wrapK 5 now) = ([0], [0]) := by simp [rsF, srN, rsN, rampN, hystN]
        rw [hF]
        clear hF
        go_enter Try.func13, Try.ntmps13
        go_wp2_with fail
        refine (refShape_rs _).mono ?_
        rintro e w1 ⟨v, rfl, ⟨r1, r2, r3, rfl, _, _, _, _, _, _, R1, R2, R3⟩, hg1⟩
        go_wp2_with fail
        refine (taken_all rsS (by decide) r3 vs l _ ?_ ?_).mono ?_
        · exact (hp_old (at_lt R3) _).trans R3
        · exact rd_grown HR.out (gr_alloc hg1 _)
        rintro e w2 ⟨rfl, S2, hg2⟩
        have X2 := at_cell (kept hg2 (heap_alloc_new w1 _)) 0
        simp at X2
        go_wp2_with fail
        refine (taken_all rsI (by decide) r1 vi li _ ?_ ?_).mono ?_
        · exact kept hg2 ((hp_old (at_lt R1) _).trans R1)
        · exact rd_grown HRI.out ((gr_alloc hg1 _).trans hg2)
        rintro e w3 ⟨rfl, I3, hg3⟩
        have S3 := kept hg3 S2
        rw [HE.out] at S3
        rw [HE'.out] at I3
        have hgw : w.grownBy w3 none := ((gr_alloc hg1 _).trans hg2).trans hg3
        have ls := at_lt S3
        have li3 := at_lt I3
        clear X2 R1 R2 R3 S2 hg1 hg2 hg3
        simp only [World.size_alloc] at S3 ls
        generalize w1.heap.size + 1 = cs at S3 ls ⊢
        generalize w2.heap.size = ci at I3 li3 ⊢
        have p0 := at_cell S3 0
        have q0 := at_cell I3 0
        have q1 := at_cell I3 1
        simp [intsA] at p0 q0 q1
        go_wp2_with (first | (go_at_call 25; refine (yes_keep _ _).mono ?_; rintro e w' ⟨rfl, rfl⟩) | (go_at_call 22; refine (rwrap_keep _ _ _).mono ?_; rintro e w' ⟨rfl, rfl⟩))
        all_goals go_ret2
        all_goals first | exact post_to (post_ab' _ _ _ _) hgw | exact post_to (post_ab _ _ _ _) hgw
end Go.Proofs.Ytphnadhkoigegaa
