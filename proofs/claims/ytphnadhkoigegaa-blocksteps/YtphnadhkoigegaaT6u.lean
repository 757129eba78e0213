/- The document's BlockStep: ctud. -/
import Derived.Test.YtphnadhkoigegaaT3v
import Derived.Test.YtphnadhkoigegaaT4
import Derived.Test.YtphnadhkoigegaaR1
namespace Go.Proofs.Ytphnadhkoigegaa
open Go.RowKit
attribute [local go_sem ↓] Go.wp_at_zero Go.wp_at_succ
set_option linter.unusedVariables false
set_option linter.unusedSimpArgs false

set_option maxRecDepth 10000 in
set_option maxHeartbeats 8000000 in
theorem refStep_ctud : RefStepC ctudName 3 3 [1, 1, 2] [1, 1, 1, 1, 2] ctudF := by
  intro vs vi l li now w hr hri
  obtain ⟨a0, a1, a2, e⟩ := form3 1 1 2 l
  obtain ⟨c0, c1, c2, c3, c4, e'⟩ := form5 1 1 1 1 2 li
  have HR : Hid (rd w vs l) := hr
  have HRI : Hid (rd w vi li) := hri
  have HE : Hid (wrapL (kindsOf ctudS) l = _) := e
  have HE' : Hid (wrapL (kindsOf ctudI) li = _) := e'
  rw [e, e']
  clear hr hri e e'
  have h_x0 := bitK a0
  have h_x1 := bitK a1
  have h_x2 := intK a2
  have h_i0 := bitK c0
  have h_i1 := bitK c1
  have h_i2 := bitK c2
  have h_i3 := bitK c3
  have h_i4 := intK c4
  have h_now := timK now
  generalize wrapK 1 a0 = x0 at *
  generalize wrapK 1 a1 = x1 at *
  generalize wrapK 2 a2 = x2 at *
  generalize wrapK 1 c0 = i0 at *
  generalize wrapK 1 c1 = i1 at *
  generalize wrapK 1 c2 = i2 at *
  generalize wrapK 1 c3 = i3 at *
  generalize wrapK 2 c4 = i4 at *
  have hlS : ctudS.length = 3 := rfl
  have hlI : ctudI.length = 5 := rfl
  unfold ctudName
  go_enter Try.func13, Try.ntmps13
  go_wp2_with fail
  refine (refShape_ctud _).mono ?_
  rintro e w1 ⟨v, rfl, ⟨r1, r2, r3, rfl, _, _, _, _, _, _, R1, R2, R3⟩, hg1⟩
  go_wp2_with fail
  refine (taken_all ctudS (by decide) r3 vs l _ ?_ ?_).mono ?_
  · exact (hp_old (at_lt R3) _).trans R3
  · exact rd_grown HR.out (gr_alloc hg1 _)
  rintro e w2 ⟨rfl, S2, hg2⟩
  have X2 := at_cell (kept hg2 (heap_alloc_new w1 _)) 0
  simp at X2
  go_wp2_with fail
  refine (taken_all ctudI (by decide) r1 vi li _ ?_ ?_).mono ?_
  · exact kept hg2 ((hp_old (at_lt R1) _).trans R1)
  · exact rd_grown HRI.out ((gr_alloc hg1 _).trans hg2)
  rintro e w3 ⟨rfl, I3, hg3⟩
  have S3 := kept hg3 S2
  rw [HE.out] at S3
  rw [HE'.out] at I3
  have hgw : w.grownBy w3 none := ((gr_alloc hg1 _).trans hg2).trans hg3
  have ls := at_lt S3
  have li3 := at_lt I3
  clear X2 R1 R2 R3 S2 hg1 hg2 hg3
  simp only [World.size_alloc] at S3 ls
  generalize w1.heap.size + 1 = cs at S3 ls ⊢
  generalize w2.heap.size = ci at I3 li3 ⊢
  go_wp2_with (first | (go_at_call 22; refine (rwrap_keep _ _ _).mono ?_; rintro e w' ⟨rfl, rfl⟩))
  refine (refCount_ctud cs ci x0 x1 x2 i0 i1 i2 i3 i4 _ h_x0 h_x1 h_x2 h_i0 h_i1 h_i2 h_i3 h_i4 S3 I3).mono ?_
  rintro e w4 ⟨d1, d2, rfl, g1, g2, gne, h1, h2, hg4⟩
  go_wp2_with fail
  go_ret2
  exact post_to ⟨d1, d2, rfl, g1, g2, gne, h1, h2, hg4⟩ hgw
end Go.Proofs.Ytphnadhkoigegaa
