/- The document's BlockStep: ramp, hyst. -/
import Derived.Test.YtphnadhkoigegaaT8
import Derived.Test.YtphnadhkoigegaaR1
namespace Go.Proofs.Ytphnadhkoigegaa
open Go.RowKit
attribute [local go_sem ↓] Go.wp_at_zero Go.wp_at_succ
set_option linter.unusedVariables false
set_option linter.unusedSimpArgs false

set_option maxRecDepth 10000 in
set_option maxHeartbeats 8000000 in
theorem refStep_ramp : RefStepC rampName 1 1 [2] [2, 2] rampF := by
  intro vs vi l li now w hr hri
  obtain ⟨a0, e⟩ := form1 2 l
  obtain ⟨c0, c1, e'⟩ := form2 2 2 li
  have HR : Hid (rd w vs l) := hr
  have HRI : Hid (rd w vi li) := hri
  have HE : Hid (wrapL (kindsOf rampS) l = _) := e
  have HE' : Hid (wrapL (kindsOf rampI) li = _) := e'
  rw [e, e']
  clear hr hri e e'
  have h_x0 := intK a0
  have h_i0 := intK c0
  have h_i1 := intK c1
  have h_now := timK now
  generalize wrapK 2 a0 = x0 at *
  generalize wrapK 2 c0 = i0 at *
  generalize wrapK 2 c1 = i1 at *
  have hlS : rampS.length = 1 := rfl
  have hlI : rampI.length = 2 := rfl
  unfold rampName
  by_cases k0 : 0 < i1
  · by_cases k1 : x0 < i0
    · by_cases k2 : i0 < x0 + i1
      · have hv : rampN x0 i0 i1 = i0 := by unfold rampN; repeat' split
                                            all_goals omega
        have hF : rampF [x0] [i0, i1] (wrapK 5 now) = ([i0], [i0]) := by simp only [rampF, hv]
        rw [hF]
        clear hF
        go_enter Try.func13, Try.ntmps13
        go_wp2_with fail
        refine (refShape_ramp _).mono ?_
        rintro e w1 ⟨v, rfl, ⟨r1, r2, r3, rfl, _, _, _, _, _, _, R1, R2, R3⟩, hg1⟩
        go_wp2_with fail
        refine (taken_all rampS (by decide) r3 vs l _ ?_ ?_).mono ?_
        · exact (hp_old (at_lt R3) _).trans R3
        · exact rd_grown HR.out (gr_alloc hg1 _)
        rintro e w2 ⟨rfl, S2, hg2⟩
        have X2 := at_cell (kept hg2 (heap_alloc_new w1 _)) 0
        simp at X2
        go_wp2_with fail
        refine (taken_all rampI (by decide) r1 vi li _ ?_ ?_).mono ?_
        · exact kept hg2 ((hp_old (at_lt R1) _).trans R1)
        · exact rd_grown HRI.out ((gr_alloc hg1 _).trans hg2)
        rintro e w3 ⟨rfl, I3, hg3⟩
        have S3 := kept hg3 S2
        rw [HE.out] at S3
        rw [HE'.out] at I3
        have hgw : w.grownBy w3 none := ((gr_alloc hg1 _).trans hg2).trans hg3
        have ls := at_lt S3
        have li3 := at_lt I3
        clear X2 R1 R2 R3 S2 hg1 hg2 hg3
        simp only [World.size_alloc] at S3 ls
        generalize w1.heap.size + 1 = cs at S3 ls ⊢
        generalize w2.heap.size = ci at I3 li3 ⊢
        have p0 := at_cell S3 0
        have q0 := at_cell I3 0
        have q1 := at_cell I3 1
        simp [intsA] at p0 q0 q1
        go_wp2_with (first | (go_at_call 25; refine (yes_keep _ _).mono ?_; rintro e w' ⟨rfl, rfl⟩) | (go_at_call 22; refine (rwrap_keep _ _ _).mono ?_; rintro e w' ⟨rfl, rfl⟩))
        all_goals go_ret2
        all_goals first | exact post_to (post_ab' _ _ _ _) hgw | exact post_to (post_ab _ _ _ _) hgw
      · have hv : rampN x0 i0 i1 = x0 + i1 := by unfold rampN; repeat' split
                                                 all_goals omega
        have hF : rampF [x0] [i0, i1] (wrapK 5 now) = ([x0 + i1], [x0 + i1]) := by simp only [rampF, hv]
        rw [hF]
        clear hF
        go_enter Try.func13, Try.ntmps13
        go_wp2_with fail
        refine (refShape_ramp _).mono ?_
        rintro e w1 ⟨v, rfl, ⟨r1, r2, r3, rfl, _, _, _, _, _, _, R1, R2, R3⟩, hg1⟩
        go_wp2_with fail
        refine (taken_all rampS (by decide) r3 vs l _ ?_ ?_).mono ?_
        · exact (hp_old (at_lt R3) _).trans R3
        · exact rd_grown HR.out (gr_alloc hg1 _)
        rintro e w2 ⟨rfl, S2, hg2⟩
        have X2 := at_cell (kept hg2 (heap_alloc_new w1 _)) 0
        simp at X2
        go_wp2_with fail
        refine (taken_all rampI (by decide) r1 vi li _ ?_ ?_).mono ?_
        · exact kept hg2 ((hp_old (at_lt R1) _).trans R1)
        · exact rd_grown HRI.out ((gr_alloc hg1 _).trans hg2)
        rintro e w3 ⟨rfl, I3, hg3⟩
        have S3 := kept hg3 S2
        rw [HE.out] at S3
        rw [HE'.out] at I3
        have hgw : w.grownBy w3 none := ((gr_alloc hg1 _).trans hg2).trans hg3
        have ls := at_lt S3
        have li3 := at_lt I3
        clear X2 R1 R2 R3 S2 hg1 hg2 hg3
        simp only [World.size_alloc] at S3 ls
        generalize w1.heap.size + 1 = cs at S3 ls ⊢
        generalize w2.heap.size = ci at I3 li3 ⊢
        have p0 := at_cell S3 0
        have q0 := at_cell I3 0
        have q1 := at_cell I3 1
        simp [intsA] at p0 q0 q1
        go_wp2_with (first | (go_at_call 25; refine (yes_keep _ _).mono ?_; rintro e w' ⟨rfl, rfl⟩) | (go_at_call 22; refine (rwrap_keep _ _ _).mono ?_; rintro e w' ⟨rfl, rfl⟩))
        all_goals go_ret2
        all_goals first | exact post_to (post_ab' _ _ _ _) hgw | exact post_to (post_ab _ _ _ _) hgw
    · by_cases k3 : i0 < x0
      · by_cases k2 : x0 - i1 < i0
        · have hv : rampN x0 i0 i1 = i0 := by unfold rampN; repeat' split
                                              all_goals omega
          have hF : rampF [x0] [i0, i1] (wrapK 5 now) = ([i0], [i0]) := by simp only [rampF, hv]
          rw [hF]
          clear hF
          go_enter Try.func13, Try.ntmps13
          go_wp2_with fail
          refine (refShape_ramp _).mono ?_
          rintro e w1 ⟨v, rfl, ⟨r1, r2, r3, rfl, _, _, _, _, _, _, R1, R2, R3⟩, hg1⟩
          go_wp2_with fail
          refine (taken_all rampS (by decide) r3 vs l _ ?_ ?_).mono ?_
          · exact (hp_old (at_lt R3) _).trans R3
          · exact rd_grown HR.out (gr_alloc hg1 _)
          rintro e w2 ⟨rfl, S2, hg2⟩
          have X2 := at_cell (kept hg2 (heap_alloc_new w1 _)) 0
          simp at X2
          go_wp2_with fail
          refine (taken_all rampI (by decide) r1 vi li _ ?_ ?_).mono ?_
          · exact kept hg2 ((hp_old (at_lt R1) _).trans R1)
          · exact rd_grown HRI.out ((gr_alloc hg1 _).trans hg2)
          rintro e w3 ⟨rfl, I3, hg3⟩
          have S3 := kept hg3 S2
          rw [HE.out] at S3
          rw [HE'.out] at I3
          have hgw : w.grownBy w3 none := ((gr_alloc hg1 _).trans hg2).trans hg3
          have ls := at_lt S3
          have li3 := at_lt I3
          clear X2 R1 R2 R3 S2 hg1 hg2 hg3
          simp only [World.size_alloc] at S3 ls
          generalize w1.heap.size + 1 = cs at S3 ls ⊢
          generalize w2.heap.size = ci at I3 li3 ⊢
          have p0 := at_cell S3 0
          have q0 := at_cell I3 0
          have q1 := at_cell I3 1
          simp [intsA] at p0 q0 q1
          go_wp2_with (first | (go_at_call 25; refine (yes_keep _ _).mono ?_; rintro e w' ⟨rfl, rfl⟩) | (go_at_call 22; refine (rwrap_keep _ _ _).mono ?_; rintro e w' ⟨rfl, rfl⟩))
          all_goals go_ret2
          all_goals first | exact post_to (post_ab' _ _ _ _) hgw | exact post_to (post_ab _ _ _ _) hgw
        · have hv : rampN x0 i0 i1 = x0 - i1 := by unfold rampN; repeat' split
                                                   all_goals omega
          have hF : rampF [x0] [i0, i1] (wrapK 5 now) = ([x0 - i1], [x0 - i1]) := by simp only [rampF, hv]
          rw [hF]
          clear hF
          go_enter Try.func13, Try.ntmps13
          go_wp2_with fail
          refine (refShape_ramp _).mono ?_
          rintro e w1 ⟨v, rfl, ⟨r1, r2, r3, rfl, _, _, _, _, _, _, R1, R2, R3⟩, hg1⟩
          go_wp2_with fail
          refine (taken_all rampS (by decide) r3 vs l _ ?_ ?_).mono ?_
          · exact (hp_old (at_lt R3) _).trans R3
          · exact rd_grown HR.out (gr_alloc hg1 _)
          rintro e w2 ⟨rfl, S2, hg2⟩
          have X2 := at_cell (kept hg2 (heap_alloc_new w1 _)) 0
          simp at X2
          go_wp2_with fail
          refine (taken_all rampI (by decide) r1 vi li _ ?_ ?_).mono ?_
          · exact kept hg2 ((hp_old (at_lt R1) _).trans R1)
          · exact rd_grown HRI.out ((gr_alloc hg1 _).trans hg2)
          rintro e w3 ⟨rfl, I3, hg3⟩
          have S3 := kept hg3 S2
          rw [HE.out] at S3
          rw [HE'.out] at I3
          have hgw : w.grownBy w3 none := ((gr_alloc hg1 _).trans hg2).trans hg3
          have ls := at_lt S3
          have li3 := at_lt I3
          clear X2 R1 R2 R3 S2 hg1 hg2 hg3
          simp only [World.size_alloc] at S3 ls
          generalize w1.heap.size + 1 = cs at S3 ls ⊢
          generalize w2.heap.size = ci at I3 li3 ⊢
          have p0 := at_cell S3 0
          have q0 := at_cell I3 0
          have q1 := at_cell I3 1
          simp [intsA] at p0 q0 q1
          go_wp2_with (first | (go_at_call 25; refine (yes_keep _ _).mono ?_; rintro e w' ⟨rfl, rfl⟩) | (go_at_call 22; refine (rwrap_keep _ _ _).mono ?_; rintro e w' ⟨rfl, rfl⟩))
          all_goals go_ret2
          all_goals first | exact post_to (post_ab' _ _ _ _) hgw | exact post_to (post_ab _ _ _ _) hgw
      · have hv : rampN x0 i0 i1 = x0 := by unfold rampN; repeat' split
                                            all_goals omega
        have hF : rampF [x0] [i0, i1] (wrapK 5 now) = ([x0], [x0]) := by simp only [rampF, hv]
        rw [hF]
        clear hF
        go_enter Try.func13, Try.ntmps13
        go_wp2_with fail
        refine (refShape_ramp _).mono ?_
        rintro e w1 ⟨v, rfl, ⟨r1, r2, r3, rfl, _, _, _, _, _, _, R1, R2, R3⟩, hg1⟩
        go_wp2_with fail
        refine (taken_all rampS (by decide) r3 vs l _ ?_ ?_).mono ?_
        · exact (hp_old (at_lt R3) _).trans R3
        · exact rd_grown HR.out (gr_alloc hg1 _)
        rintro e w2 ⟨rfl, S2, hg2⟩
        have X2 := at_cell (kept hg2 (heap_alloc_new w1 _)) 0
        simp at X2
        go_wp2_with fail
        refine (taken_all rampI (by decide) r1 vi li _ ?_ ?_).mono ?_
        · exact kept hg2 ((hp_old (at_lt R1) _).trans R1)
        · exact rd_grown HRI.out ((gr_alloc hg1 _).trans hg2)
        rintro e w3 ⟨rfl, I3, hg3⟩
        have S3 := kept hg3 S2
        rw [HE.out] at S3
        rw [HE'.out] at I3
        have hgw : w.grownBy w3 none := ((gr_alloc hg1 _).trans hg2).trans hg3
        have ls := at_lt S3
        have li3 := at_lt I3
        clear X2 R1 R2 R3 S2 hg1 hg2 hg3
        simp only [World.size_alloc] at S3 ls
        generalize w1.heap.size + 1 = cs at S3 ls ⊢
        generalize w2.heap.size = ci at I3 li3 ⊢
        have p0 := at_cell S3 0
        have q0 := at_cell I3 0
        have q1 := at_cell I3 1
        simp [intsA] at p0 q0 q1
        go_wp2_with (first | (go_at_call 25; refine (yes_keep _ _).mono ?_; rintro e w' ⟨rfl, rfl⟩) | (go_at_call 22; refine (rwrap_keep _ _ _).mono ?_; rintro e w' ⟨rfl, rfl⟩))
        all_goals go_ret2
        all_goals first | exact post_to (post_ab' _ _ _ _) hgw | exact post_to (post_ab _ _ _ _) hgw
  · have hv : rampN x0 i0 i1 = x0 := by unfold rampN; repeat' split
                                        all_goals omega
    have hF : rampF [x0] [i0, i1] (wrapK 5 now) = ([x0], [x0]) := by simp only [rampF, hv]
    rw [hF]
    clear hF
    go_enter Try.func13, Try.ntmps13
    go_wp2_with fail
    refine (refShape_ramp _).mono ?_
    rintro e w1 ⟨v, rfl, ⟨r1, r2, r3, rfl, _, _, _, _, _, _, R1, R2, R3⟩, hg1⟩
    go_wp2_with fail
    refine (taken_all rampS (by decide) r3 vs l _ ?_ ?_).mono ?_
    · exact (hp_old (at_lt R3) _).trans R3
    · exact rd_grown HR.out (gr_alloc hg1 _)
    rintro e w2 ⟨rfl, S2, hg2⟩
    have X2 := at_cell (kept hg2 (heap_alloc_new w1 _)) 0
    simp at X2
    go_wp2_with fail
    refine (taken_all rampI (by decide) r1 vi li _ ?_ ?_).mono ?_
    · exact kept hg2 ((hp_old (at_lt R1) _).trans R1)
    · exact rd_grown HRI.out ((gr_alloc hg1 _).trans hg2)
    rintro e w3 ⟨rfl, I3, hg3⟩
    have S3 := kept hg3 S2
    rw [HE.out] at S3
    rw [HE'.out] at I3
    have hgw : w.grownBy w3 none := ((gr_alloc hg1 _).trans hg2).trans hg3
    have ls := at_lt S3
    have li3 := at_lt I3
    clear X2 R1 R2 R3 S2 hg1 hg2 hg3
    simp only [World.size_alloc] at S3 ls
    generalize w1.heap.size + 1 = cs at S3 ls ⊢
    generalize w2.heap.size = ci at I3 li3 ⊢
    have p0 := at_cell S3 0
    have q0 := at_cell I3 0
    have q1 := at_cell I3 1
    simp [intsA] at p0 q0 q1
    go_wp2_with (first | (go_at_call 25; refine (yes_keep _ _).mono ?_; rintro e w' ⟨rfl, rfl⟩) | (go_at_call 22; refine (rwrap_keep _ _ _).mono ?_; rintro e w' ⟨rfl, rfl⟩))
    all_goals go_ret2
    all_goals first | exact post_to (post_ab' _ _ _ _) hgw | exact post_to (post_ab _ _ _ _) hgw

set_option maxRecDepth 10000 in
set_option maxHeartbeats 8000000 in
theorem refStep_hyst : RefStepC hystName 1 1 [1] [2, 2, 2] hystF := by
  intro vs vi l li now w hr hri
  obtain ⟨a0, e⟩ := form1 1 l
  obtain ⟨c0, c1, c2, e'⟩ := form3 2 2 2 li
  have HR : Hid (rd w vs l) := hr
  have HRI : Hid (rd w vi li) := hri
  have HE : Hid (wrapL (kindsOf hystS) l = _) := e
  have HE' : Hid (wrapL (kindsOf hystI) li = _) := e'
  rw [e, e']
  clear hr hri e e'
  have h_x0 := bitK a0
  have h_i0 := intK c0
  have h_i1 := intK c1
  have h_i2 := intK c2
  have h_now := timK now
  generalize wrapK 1 a0 = x0 at *
  generalize wrapK 2 c0 = i0 at *
  generalize wrapK 2 c1 = i1 at *
  generalize wrapK 2 c2 = i2 at *
  have hlS : hystS.length = 1 := rfl
  have hlI : hystI.length = 3 := rfl
  unfold hystName
  by_cases k0 : i1 ≤ i0
  · skip
    have hF : hystF [x0] [i0, i1, i2] (wrapK 5 now) = ([1], [1]) := by simp [hystF, srN, rsN, rampN, hystN, k0]
    rw [hF]
    clear hF
    go_enter Try.func13, Try.ntmps13
    go_wp2_with fail
    refine (refShape_hyst _).mono ?_
    rintro e w1 ⟨v, rfl, ⟨r1, r2, r3, rfl, _, _, _, _, _, _, R1, R2, R3⟩, hg1⟩
    go_wp2_with fail
    refine (taken_all hystS (by decide) r3 vs l _ ?_ ?_).mono ?_
    · exact (hp_old (at_lt R3) _).trans R3
    · exact rd_grown HR.out (gr_alloc hg1 _)
    rintro e w2 ⟨rfl, S2, hg2⟩
    have X2 := at_cell (kept hg2 (heap_alloc_new w1 _)) 0
    simp at X2
    go_wp2_with fail
    refine (taken_all hystI (by decide) r1 vi li _ ?_ ?_).mono ?_
    · exact kept hg2 ((hp_old (at_lt R1) _).trans R1)
    · exact rd_grown HRI.out ((gr_alloc hg1 _).trans hg2)
    rintro e w3 ⟨rfl, I3, hg3⟩
    have S3 := kept hg3 S2
    rw [HE.out] at S3
    rw [HE'.out] at I3
    have hgw : w.grownBy w3 none := ((gr_alloc hg1 _).trans hg2).trans hg3
    have ls := at_lt S3
    have li3 := at_lt I3
    clear X2 R1 R2 R3 S2 hg1 hg2 hg3
    simp only [World.size_alloc] at S3 ls
    generalize w1.heap.size + 1 = cs at S3 ls ⊢
    generalize w2.heap.size = ci at I3 li3 ⊢
    have p0 := at_cell S3 0
    have q0 := at_cell I3 0
    have q1 := at_cell I3 1
    have q2 := at_cell I3 2
    simp [intsA] at p0 q0 q1 q2
    go_wp2_with (first | (go_at_call 25; refine (yes_keep _ _).mono ?_; rintro e w' ⟨rfl, rfl⟩) | (go_at_call 22; refine (rwrap_keep _ _ _).mono ?_; rintro e w' ⟨rfl, rfl⟩))
    go_region_held3 (fun w' => w'.cell? ⟨cs, 0, none⟩ = some (.int .i64 x0) ∧ w'.cell? ⟨ci, 0, none⟩ = some (.int .i64 i0) ∧ w'.cell? ⟨ci, 1, none⟩ = some (.int .i64 i1) ∧ w'.cell? ⟨ci, 2, none⟩ = some (.int .i64 i2)) (go_keep) (fail)
    all_goals go_wp2_with fail
    all_goals go_ret2
    all_goals first | exact post_to (post_ab _ _ _ _) (gr_drew hgw) | exact post_to (post_ab' _ _ _ _) (gr_drew hgw) | exact post_to (post_ab _ _ _ _) hgw
  · by_cases k1 : i0 ≤ i2
    · skip
      have hF : hystF [x0] [i0, i1, i2] (wrapK 5 now) = ([0], [0]) := by simp [hystF, srN, rsN, rampN, hystN, k0, k1]
      rw [hF]
      clear hF
      go_enter Try.func13, Try.ntmps13
      go_wp2_with fail
      refine (refShape_hyst _).mono ?_
      rintro e w1 ⟨v, rfl, ⟨r1, r2, r3, rfl, _, _, _, _, _, _, R1, R2, R3⟩, hg1⟩
      go_wp2_with fail
      refine (taken_all hystS (by decide) r3 vs l _ ?_ ?_).mono ?_
      · exact (hp_old (at_lt R3) _).trans R3
      · exact rd_grown HR.out (gr_alloc hg1 _)
      rintro e w2 ⟨rfl, S2, hg2⟩
      have X2 := at_cell (kept hg2 (heap_alloc_new w1 _)) 0
      simp at X2
      go_wp2_with fail
      refine (taken_all hystI (by decide) r1 vi li _ ?_ ?_).mono ?_
      · exact kept hg2 ((hp_old (at_lt R1) _).trans R1)
      · exact rd_grown HRI.out ((gr_alloc hg1 _).trans hg2)
      rintro e w3 ⟨rfl, I3, hg3⟩
      have S3 := kept hg3 S2
      rw [HE.out] at S3
      rw [HE'.out] at I3
      have hgw : w.grownBy w3 none := ((gr_alloc hg1 _).trans hg2).trans hg3
      have ls := at_lt S3
      have li3 := at_lt I3
      clear X2 R1 R2 R3 S2 hg1 hg2 hg3
      simp only [World.size_alloc] at S3 ls
      generalize w1.heap.size + 1 = cs at S3 ls ⊢
      generalize w2.heap.size = ci at I3 li3 ⊢
      have p0 := at_cell S3 0
      have q0 := at_cell I3 0
      have q1 := at_cell I3 1
      have q2 := at_cell I3 2
      simp [intsA] at p0 q0 q1 q2
      go_wp2_with (first | (go_at_call 25; refine (yes_keep _ _).mono ?_; rintro e w' ⟨rfl, rfl⟩) | (go_at_call 22; refine (rwrap_keep _ _ _).mono ?_; rintro e w' ⟨rfl, rfl⟩))
      go_region_held3 (fun w' => w'.cell? ⟨cs, 0, none⟩ = some (.int .i64 x0) ∧ w'.cell? ⟨ci, 0, none⟩ = some (.int .i64 i0) ∧ w'.cell? ⟨ci, 1, none⟩ = some (.int .i64 i1) ∧ w'.cell? ⟨ci, 2, none⟩ = some (.int .i64 i2)) (go_keep) (fail)
      all_goals go_wp2_with fail
      go_region_held3 (fun w' => w'.cell? ⟨cs, 0, none⟩ = some (.int .i64 x0) ∧ w'.cell? ⟨ci, 0, none⟩ = some (.int .i64 i0) ∧ w'.cell? ⟨ci, 1, none⟩ = some (.int .i64 i1) ∧ w'.cell? ⟨ci, 2, none⟩ = some (.int .i64 i2)) (go_keep) (fail)
      all_goals go_wp2_with fail
      all_goals go_ret2
      all_goals first | exact post_to (post_ab _ _ _ _) (gr_drew (gr_drew hgw)) | exact post_to (post_ab' _ _ _ _) (gr_drew (gr_drew hgw)) | exact post_to (post_ab _ _ _ _) (gr_drew hgw)
    · skip
      have hF : hystF [x0] [i0, i1, i2] (wrapK 5 now) = ([x0], [x0]) := by simp [hystF, srN, rsN, rampN, hystN, k0, k1]
      rw [hF]
      clear hF
      go_enter Try.func13, Try.ntmps13
      go_wp2_with fail
      refine (refShape_hyst _).mono ?_
      rintro e w1 ⟨v, rfl, ⟨r1, r2, r3, rfl, _, _, _, _, _, _, R1, R2, R3⟩, hg1⟩
      go_wp2_with fail
      refine (taken_all hystS (by decide) r3 vs l _ ?_ ?_).mono ?_
      · exact (hp_old (at_lt R3) _).trans R3
      · exact rd_grown HR.out (gr_alloc hg1 _)
      rintro e w2 ⟨rfl, S2, hg2⟩
      have X2 := at_cell (kept hg2 (heap_alloc_new w1 _)) 0
      simp at X2
      go_wp2_with fail
      refine (taken_all hystI (by decide) r1 vi li _ ?_ ?_).mono ?_
      · exact kept hg2 ((hp_old (at_lt R1) _).trans R1)
      · exact rd_grown HRI.out ((gr_alloc hg1 _).trans hg2)
      rintro e w3 ⟨rfl, I3, hg3⟩
      have S3 := kept hg3 S2
      rw [HE.out] at S3
      rw [HE'.out] at I3
      have hgw : w.grownBy w3 none := ((gr_alloc hg1 _).trans hg2).trans hg3
      have ls := at_lt S3
      have li3 := at_lt I3
      clear X2 R1 R2 R3 S2 hg1 hg2 hg3
      simp only [World.size_alloc] at S3 ls
      generalize w1.heap.size + 1 = cs at S3 ls ⊢
      generalize w2.heap.size = ci at I3 li3 ⊢
      have p0 := at_cell S3 0
      have q0 := at_cell I3 0
      have q1 := at_cell I3 1
      have q2 := at_cell I3 2
      simp [intsA] at p0 q0 q1 q2
      go_wp2_with (first | (go_at_call 25; refine (yes_keep _ _).mono ?_; rintro e w' ⟨rfl, rfl⟩) | (go_at_call 22; refine (rwrap_keep _ _ _).mono ?_; rintro e w' ⟨rfl, rfl⟩))
      go_region_held3 (fun w' => w'.cell? ⟨cs, 0, none⟩ = some (.int .i64 x0) ∧ w'.cell? ⟨ci, 0, none⟩ = some (.int .i64 i0) ∧ w'.cell? ⟨ci, 1, none⟩ = some (.int .i64 i1) ∧ w'.cell? ⟨ci, 2, none⟩ = some (.int .i64 i2)) (go_keep) (fail)
      all_goals go_wp2_with fail
      go_region_held3 (fun w' => w'.cell? ⟨cs, 0, none⟩ = some (.int .i64 x0) ∧ w'.cell? ⟨ci, 0, none⟩ = some (.int .i64 i0) ∧ w'.cell? ⟨ci, 1, none⟩ = some (.int .i64 i1) ∧ w'.cell? ⟨ci, 2, none⟩ = some (.int .i64 i2)) (go_keep) (fail)
      all_goals go_wp2_with fail
      all_goals go_ret2
      all_goals first | exact post_to (post_ab _ _ _ _) (gr_drew (gr_drew hgw)) | exact post_to (post_ab' _ _ _ _) (gr_drew (gr_drew hgw)) | exact post_to (post_ab _ _ _ _) (gr_drew hgw)
end Go.Proofs.Ytphnadhkoigegaa
