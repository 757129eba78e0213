/- The document's BlockStep: timers. -/
import Derived.Test.YtphnadhkoigegaaT2
import Derived.Test.YtphnadhkoigegaaR1
namespace Go.Proofs.Ytphnadhkoigegaa
open Go.RowKit
attribute [local go_sem ↓] Go.wp_at_zero Go.wp_at_succ
set_option linter.unusedVariables false
set_option linter.unusedSimpArgs false

/-- What is asked of the document's BlockStep at one name. -/
def RefStepC (nm : ByteArray) (n m : Nat) (kS kI : List Int) (F : List Int → List Int → Int → List Int × List Int) : Prop :=
  ∀ (vs vi : Value) (l li : List Int) (now : Int) (w : World), rd w vs l → rd w vi li → Calls Try.prog 13 #[.string nm, vs, vi, .int .i64 now] w (StepPost n m (F (wrapL kS l) (wrapL kI li) (wrapK 5 now)) w)
theorem post_to {n m : Nat} {R : List Int × List Int} {w w3 w4 : World} {e : Ending} (h : StepPost n m R w3 e w4) (hg : w.grownBy w3 none) : StepPost n m R w e w4 := by
  obtain ⟨c1, c2, he, g1, g2, gne, h1, h2, hg4⟩ := h
  exact ⟨c1, c2, he, Nat.le_trans hg.size g1, Nat.le_trans hg.size g2, gne, h1, h2, hg.trans hg4⟩
theorem yes_dec {x : Int} (h : x = 0 ∨ x = 1) : yesN (decide (x = 1)) = x := by rcases h with rfl | rfl <;> rfl
theorem yes_beq {x : Int} (h : x = 0 ∨ x = 1) : yesN (x == 1) = x := by rcases h with rfl | rfl <;> rfl

set_option maxRecDepth 10000 in
set_option maxHeartbeats 2000000 in
theorem refStep_none (s : ByteArray) (hs : NoName s) (vs vi : Value) (now : Int) (w : World) : Calls Try.prog 13 #[.string s, vs, vi, .int .i64 now] w fun e w' => e = .returned (.tuple #[.slice none 0 0, .slice none 0 0]) ∧ w.grownBy w' none := by
  have hn := fun w => refShape_none s hs w
  clear hs
  go_enter Try.func13, Try.ntmps13
  go_wp2_with fail
  refine (hn _).mono ?_
  rintro e w1 ⟨rfl, hg1⟩
  go_wp2_with fail
  go_ret2
  exact ⟨rfl, gr_alloc hg1 _⟩

set_option maxRecDepth 10000 in
set_option maxHeartbeats 8000000 in
theorem refStep_ton : RefStepC tonName 4 2 [1, 5, 1, 5] [1, 5] tonF := by
  intro vs vi l li now w hr hri
  obtain ⟨a0, a1, a2, a3, e⟩ := form4 1 5 1 5 l
  obtain ⟨c0, c1, e'⟩ := form2 1 5 li
  have HR : Hid (rd w vs l) := hr
  have HRI : Hid (rd w vi li) := hri
  have HE : Hid (wrapL (kindsOf tonS) l = _) := e
  have HE' : Hid (wrapL (kindsOf tonI) li = _) := e'
  rw [e, e']
  clear hr hri e e'
  have h_x0 := bitK a0
  have h_x1 := timK a1
  have h_x2 := bitK a2
  have h_x3 := timK a3
  have h_i0 := bitK c0
  have h_i1 := timK c1
  have h_now := timK now
  generalize wrapK 1 a0 = x0 at *
  generalize wrapK 5 a1 = x1 at *
  generalize wrapK 1 a2 = x2 at *
  generalize wrapK 5 a3 = x3 at *
  generalize wrapK 1 c0 = i0 at *
  generalize wrapK 5 c1 = i1 at *
  have hlS : tonS.length = 4 := rfl
  have hlI : tonI.length = 2 := rfl
  unfold tonName
  go_enter Try.func13, Try.ntmps13
  go_wp2_with fail
  refine (refShape_ton _).mono ?_
  rintro e w1 ⟨v, rfl, ⟨r1, r2, r3, rfl, _, _, _, _, _, _, R1, R2, R3⟩, hg1⟩
  go_wp2_with fail
  refine (taken_all tonS (by decide) r3 vs l _ ?_ ?_).mono ?_
  · exact (hp_old (at_lt R3) _).trans R3
  · exact rd_grown HR.out (gr_alloc hg1 _)
  rintro e w2 ⟨rfl, S2, hg2⟩
  have X2 := at_cell (kept hg2 (heap_alloc_new w1 _)) 0
  simp at X2
  go_wp2_with fail
  refine (taken_all tonI (by decide) r1 vi li _ ?_ ?_).mono ?_
  · exact kept hg2 ((hp_old (at_lt R1) _).trans R1)
  · exact rd_grown HRI.out ((gr_alloc hg1 _).trans hg2)
  rintro e w3 ⟨rfl, I3, hg3⟩
  have S3 := kept hg3 S2
  rw [HE.out] at S3
  rw [HE'.out] at I3
  have hgw : w.grownBy w3 none := ((gr_alloc hg1 _).trans hg2).trans hg3
  have ls := at_lt S3
  have li3 := at_lt I3
  clear X2 R1 R2 R3 S2 hg1 hg2 hg3
  simp only [World.size_alloc] at S3 ls
  generalize w1.heap.size + 1 = cs at S3 ls ⊢
  generalize w2.heap.size = ci at I3 li3 ⊢
  have q0 := at_cell I3 0
  have q1 := at_cell I3 1
  simp [intsA] at q0 q1
  go_wp2_with (first | (go_at_call 22; refine (rwrap_keep _ _ _).mono ?_; rintro e w' ⟨rfl, rfl⟩))
  go_region_held3 (fun w' => w'.cell? ⟨ci, 0, none⟩ = some (.int .i64 i0) ∧ w'.cell? ⟨ci, 1, none⟩ = some (.int .i64 i1)) (go_keep)
    (first | (go_at_call 23; go_must (refine (refTimer_ton cs x0 x1 x2 x3 i1 (wrapK 5 now) _ _ h_x0 h_x1 h_x2 h_x3 h_i1 h_now ?_).mono ?_); (exact (hp_drew _ _).trans S3); (rintro e w4 ⟨d1, d2, rfl, g1, g2, gne, h1, h2, hg4⟩); have q2 := hg4.cell (ck_drew q0) (by simp); have q3 := hg4.cell (ck_drew q1) (by simp)))
  go_wp2_with fail
  go_ret2
  first | rw [yes_dec h_i0] at h1 h2 | rw [yes_beq h_i0] at h1 h2
  exact post_to ⟨d1, d2, rfl, g1, g2, gne, h1, h2, hg4⟩ (gr_drew hgw)

set_option maxRecDepth 10000 in
set_option maxHeartbeats 8000000 in
theorem refStep_tof : RefStepC tofName 4 2 [1, 5, 1, 5] [1, 5] tofF := by
  intro vs vi l li now w hr hri
  obtain ⟨a0, a1, a2, a3, e⟩ := form4 1 5 1 5 l
  obtain ⟨c0, c1, e'⟩ := form2 1 5 li
  have HR : Hid (rd w vs l) := hr
  have HRI : Hid (rd w vi li) := hri
  have HE : Hid (wrapL (kindsOf tofS) l = _) := e
  have HE' : Hid (wrapL (kindsOf tofI) li = _) := e'
  rw [e, e']
  clear hr hri e e'
  have h_x0 := bitK a0
  have h_x1 := timK a1
  have h_x2 := bitK a2
  have h_x3 := timK a3
  have h_i0 := bitK c0
  have h_i1 := timK c1
  have h_now := timK now
  generalize wrapK 1 a0 = x0 at *
  generalize wrapK 5 a1 = x1 at *
  generalize wrapK 1 a2 = x2 at *
  generalize wrapK 5 a3 = x3 at *
  generalize wrapK 1 c0 = i0 at *
  generalize wrapK 5 c1 = i1 at *
  have hlS : tofS.length = 4 := rfl
  have hlI : tofI.length = 2 := rfl
  unfold tofName
  go_enter Try.func13, Try.ntmps13
  go_wp2_with fail
  refine (refShape_tof _).mono ?_
  rintro e w1 ⟨v, rfl, ⟨r1, r2, r3, rfl, _, _, _, _, _, _, R1, R2, R3⟩, hg1⟩
  go_wp2_with fail
  refine (taken_all tofS (by decide) r3 vs l _ ?_ ?_).mono ?_
  · exact (hp_old (at_lt R3) _).trans R3
  · exact rd_grown HR.out (gr_alloc hg1 _)
  rintro e w2 ⟨rfl, S2, hg2⟩
  have X2 := at_cell (kept hg2 (heap_alloc_new w1 _)) 0
  simp at X2
  go_wp2_with fail
  refine (taken_all tofI (by decide) r1 vi li _ ?_ ?_).mono ?_
  · exact kept hg2 ((hp_old (at_lt R1) _).trans R1)
  · exact rd_grown HRI.out ((gr_alloc hg1 _).trans hg2)
  rintro e w3 ⟨rfl, I3, hg3⟩
  have S3 := kept hg3 S2
  rw [HE.out] at S3
  rw [HE'.out] at I3
  have hgw : w.grownBy w3 none := ((gr_alloc hg1 _).trans hg2).trans hg3
  have ls := at_lt S3
  have li3 := at_lt I3
  clear X2 R1 R2 R3 S2 hg1 hg2 hg3
  simp only [World.size_alloc] at S3 ls
  generalize w1.heap.size + 1 = cs at S3 ls ⊢
  generalize w2.heap.size = ci at I3 li3 ⊢
  have q0 := at_cell I3 0
  have q1 := at_cell I3 1
  simp [intsA] at q0 q1
  go_wp2_with (first | (go_at_call 22; refine (rwrap_keep _ _ _).mono ?_; rintro e w' ⟨rfl, rfl⟩))
  go_region_held3 (fun w' => w'.cell? ⟨ci, 0, none⟩ = some (.int .i64 i0) ∧ w'.cell? ⟨ci, 1, none⟩ = some (.int .i64 i1)) (go_keep)
    (first | (go_at_call 23; go_must (refine (refTimer_tof cs x0 x1 x2 x3 i1 (wrapK 5 now) _ _ h_x0 h_x1 h_x2 h_x3 h_i1 h_now ?_).mono ?_); (exact (hp_drew _ _).trans S3); (rintro e w4 ⟨d1, d2, rfl, g1, g2, gne, h1, h2, hg4⟩); have q2 := hg4.cell (ck_drew q0) (by simp); have q3 := hg4.cell (ck_drew q1) (by simp)))
  go_wp2_with fail
  go_ret2
  first | rw [yes_dec h_i0] at h1 h2 | rw [yes_beq h_i0] at h1 h2
  exact post_to ⟨d1, d2, rfl, g1, g2, gne, h1, h2, hg4⟩ (gr_drew hgw)

set_option maxRecDepth 10000 in
set_option maxHeartbeats 8000000 in
theorem refStep_tp : RefStepC tpName 4 2 [1, 5, 1, 5] [1, 5] tpF := by
  intro vs vi l li now w hr hri
  obtain ⟨a0, a1, a2, a3, e⟩ := form4 1 5 1 5 l
  obtain ⟨c0, c1, e'⟩ := form2 1 5 li
  have HR : Hid (rd w vs l) := hr
  have HRI : Hid (rd w vi li) := hri
  have HE : Hid (wrapL (kindsOf tpS) l = _) := e
  have HE' : Hid (wrapL (kindsOf tpI) li = _) := e'
  rw [e, e']
  clear hr hri e e'
  have h_x0 := bitK a0
  have h_x1 := timK a1
  have h_x2 := bitK a2
  have h_x3 := timK a3
  have h_i0 := bitK c0
  have h_i1 := timK c1
  have h_now := timK now
  generalize wrapK 1 a0 = x0 at *
  generalize wrapK 5 a1 = x1 at *
  generalize wrapK 1 a2 = x2 at *
  generalize wrapK 5 a3 = x3 at *
  generalize wrapK 1 c0 = i0 at *
  generalize wrapK 5 c1 = i1 at *
  have hlS : tpS.length = 4 := rfl
  have hlI : tpI.length = 2 := rfl
  unfold tpName
  go_enter Try.func13, Try.ntmps13
  go_wp2_with fail
  refine (refShape_tp _).mono ?_
  rintro e w1 ⟨v, rfl, ⟨r1, r2, r3, rfl, _, _, _, _, _, _, R1, R2, R3⟩, hg1⟩
  go_wp2_with fail
  refine (taken_all tpS (by decide) r3 vs l _ ?_ ?_).mono ?_
  · exact (hp_old (at_lt R3) _).trans R3
  · exact rd_grown HR.out (gr_alloc hg1 _)
  rintro e w2 ⟨rfl, S2, hg2⟩
  have X2 := at_cell (kept hg2 (heap_alloc_new w1 _)) 0
  simp at X2
  go_wp2_with fail
  refine (taken_all tpI (by decide) r1 vi li _ ?_ ?_).mono ?_
  · exact kept hg2 ((hp_old (at_lt R1) _).trans R1)
  · exact rd_grown HRI.out ((gr_alloc hg1 _).trans hg2)
  rintro e w3 ⟨rfl, I3, hg3⟩
  have S3 := kept hg3 S2
  rw [HE.out] at S3
  rw [HE'.out] at I3
  have hgw : w.grownBy w3 none := ((gr_alloc hg1 _).trans hg2).trans hg3
  have ls := at_lt S3
  have li3 := at_lt I3
  clear X2 R1 R2 R3 S2 hg1 hg2 hg3
  simp only [World.size_alloc] at S3 ls
  generalize w1.heap.size + 1 = cs at S3 ls ⊢
  generalize w2.heap.size = ci at I3 li3 ⊢
  have q0 := at_cell I3 0
  have q1 := at_cell I3 1
  simp [intsA] at q0 q1
  go_wp2_with (first | (go_at_call 22; refine (rwrap_keep _ _ _).mono ?_; rintro e w' ⟨rfl, rfl⟩))
  go_region_held3 (fun w' => w'.cell? ⟨ci, 0, none⟩ = some (.int .i64 i0) ∧ w'.cell? ⟨ci, 1, none⟩ = some (.int .i64 i1)) (go_keep)
    (first | (go_at_call 23; go_must (refine (refTimer_tp cs x0 x1 x2 x3 i1 (wrapK 5 now) _ _ h_x0 h_x1 h_x2 h_x3 h_i1 h_now ?_).mono ?_); (exact (hp_drew _ _).trans S3); (rintro e w4 ⟨d1, d2, rfl, g1, g2, gne, h1, h2, hg4⟩); have q2 := hg4.cell (ck_drew q0) (by simp); have q3 := hg4.cell (ck_drew q1) (by simp)))
  go_wp2_with fail
  go_ret2
  first | rw [yes_dec h_i0] at h1 h2 | rw [yes_beq h_i0] at h1 h2
  exact post_to ⟨d1, d2, rfl, g1, g2, gne, h1, h2, hg4⟩ (gr_drew hgw)
end Go.Proofs.Ytphnadhkoigegaa
