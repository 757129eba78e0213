/- The document's Shape, at each name. -/
import Derived.Test.YtbaijehecncclaaDoorR0
namespace Go.Proofs.YtbaijehecncclaaDoor
open Go.RowKit
attribute [local go_sem ↓] Go.wp_at_zero Go.wp_at_succ
set_option linter.unusedVariables false
set_option linter.unusedSimpArgs false

set_option maxRecDepth 10000 in
set_option maxHeartbeats 2000000 in
theorem refShape_ton : RefShapeC tonName tonI tonO tonS := by
  intro w
  unfold tonName
  go_enter Tryd.func26, Tryd.ntmps26
  go_wp2_with (first | (go_at_call 33; refine (pin_any _ _ _).mono ?_; rintro e w' ⟨rfl, rfl⟩))
  refine bodyPost_ret (v := .tuple #[.agg #[.slice (some ⟨w.heap.size + 4, 0, none⟩) 2 2, .slice (some ⟨w.heap.size + 7, 0, none⟩) 2 2, .slice (some ⟨w.heap.size + 12, 0, none⟩) 4 4], .bool true]) (by simp [results, Tryd.results26, go_sem]) rfl ⟨_, rfl, ⟨w.heap.size + 4, w.heap.size + 7, w.heap.size + 12, rfl, by omega, by omega, by omega, by omega, by omega, by omega, ?_, ?_, ?_⟩, gr_alloc (gr_alloc (gr_alloc (gr_alloc (gr_alloc (gr_alloc (gr_alloc (gr_alloc (gr_alloc (gr_alloc (gr_alloc (gr_alloc (gr_alloc (World.grownBy.refl _ _) _) _) _) _) _) _) _) _) _) _) _) _) _⟩
  all_goals (repeat (first | exact hp_new (by simp) _ | refine (hp_old (by simp) _).trans ?_))

set_option maxRecDepth 10000 in
set_option maxHeartbeats 2000000 in
theorem refShape_tof : RefShapeC tofName tofI tofO tofS := by
  intro w
  unfold tofName
  go_enter Tryd.func26, Tryd.ntmps26
  go_wp2_with (first | (go_at_call 33; refine (pin_any _ _ _).mono ?_; rintro e w' ⟨rfl, rfl⟩))
  refine bodyPost_ret (v := .tuple #[.agg #[.slice (some ⟨w.heap.size + 4, 0, none⟩) 2 2, .slice (some ⟨w.heap.size + 7, 0, none⟩) 2 2, .slice (some ⟨w.heap.size + 12, 0, none⟩) 4 4], .bool true]) (by simp [results, Tryd.results26, go_sem]) rfl ⟨_, rfl, ⟨w.heap.size + 4, w.heap.size + 7, w.heap.size + 12, rfl, by omega, by omega, by omega, by omega, by omega, by omega, ?_, ?_, ?_⟩, gr_alloc (gr_alloc (gr_alloc (gr_alloc (gr_alloc (gr_alloc (gr_alloc (gr_alloc (gr_alloc (gr_alloc (gr_alloc (gr_alloc (gr_alloc (World.grownBy.refl _ _) _) _) _) _) _) _) _) _) _) _) _) _) _⟩
  all_goals (repeat (first | exact hp_new (by simp) _ | refine (hp_old (by simp) _).trans ?_))

set_option maxRecDepth 10000 in
set_option maxHeartbeats 2000000 in
theorem refShape_tp : RefShapeC tpName tpI tpO tpS := by
  intro w
  unfold tpName
  go_enter Tryd.func26, Tryd.ntmps26
  go_wp2_with (first | (go_at_call 33; refine (pin_any _ _ _).mono ?_; rintro e w' ⟨rfl, rfl⟩))
  refine bodyPost_ret (v := .tuple #[.agg #[.slice (some ⟨w.heap.size + 4, 0, none⟩) 2 2, .slice (some ⟨w.heap.size + 7, 0, none⟩) 2 2, .slice (some ⟨w.heap.size + 12, 0, none⟩) 4 4], .bool true]) (by simp [results, Tryd.results26, go_sem]) rfl ⟨_, rfl, ⟨w.heap.size + 4, w.heap.size + 7, w.heap.size + 12, rfl, by omega, by omega, by omega, by omega, by omega, by omega, ?_, ?_, ?_⟩, gr_alloc (gr_alloc (gr_alloc (gr_alloc (gr_alloc (gr_alloc (gr_alloc (gr_alloc (gr_alloc (gr_alloc (gr_alloc (gr_alloc (gr_alloc (World.grownBy.refl _ _) _) _) _) _) _) _) _) _) _) _) _) _) _⟩
  all_goals (repeat (first | exact hp_new (by simp) _ | refine (hp_old (by simp) _).trans ?_))

set_option maxRecDepth 10000 in
set_option maxHeartbeats 2000000 in
theorem refShape_ctu : RefShapeC ctuName ctuI ctuO ctuS := by
  intro w
  unfold ctuName
  go_enter Tryd.func26, Tryd.ntmps26
  go_wp2_with (first | (go_at_call 33; refine (pin_any _ _ _).mono ?_; rintro e w' ⟨rfl, rfl⟩))
  refine bodyPost_ret (v := .tuple #[.agg #[.slice (some ⟨w.heap.size + 5, 0, none⟩) 3 3, .slice (some ⟨w.heap.size + 8, 0, none⟩) 2 2, .slice (some ⟨w.heap.size + 11, 0, none⟩) 2 2], .bool true]) (by simp [results, Tryd.results26, go_sem]) rfl ⟨_, rfl, ⟨w.heap.size + 5, w.heap.size + 8, w.heap.size + 11, rfl, by omega, by omega, by omega, by omega, by omega, by omega, ?_, ?_, ?_⟩, gr_alloc (gr_alloc (gr_alloc (gr_alloc (gr_alloc (gr_alloc (gr_alloc (gr_alloc (gr_alloc (gr_alloc (gr_alloc (gr_alloc (World.grownBy.refl _ _) _) _) _) _) _) _) _) _) _) _) _) _⟩
  all_goals (repeat (first | exact hp_new (by simp) _ | refine (hp_old (by simp) _).trans ?_))

set_option maxRecDepth 10000 in
set_option maxHeartbeats 2000000 in
theorem refShape_ctd : RefShapeC ctdName ctdI ctdO ctdS := by
  intro w
  unfold ctdName
  go_enter Tryd.func26, Tryd.ntmps26
  go_wp2_with (first | (go_at_call 33; refine (pin_any _ _ _).mono ?_; rintro e w' ⟨rfl, rfl⟩))
  refine bodyPost_ret (v := .tuple #[.agg #[.slice (some ⟨w.heap.size + 5, 0, none⟩) 3 3, .slice (some ⟨w.heap.size + 8, 0, none⟩) 2 2, .slice (some ⟨w.heap.size + 11, 0, none⟩) 2 2], .bool true]) (by simp [results, Tryd.results26, go_sem]) rfl ⟨_, rfl, ⟨w.heap.size + 5, w.heap.size + 8, w.heap.size + 11, rfl, by omega, by omega, by omega, by omega, by omega, by omega, ?_, ?_, ?_⟩, gr_alloc (gr_alloc (gr_alloc (gr_alloc (gr_alloc (gr_alloc (gr_alloc (gr_alloc (gr_alloc (gr_alloc (gr_alloc (gr_alloc (World.grownBy.refl _ _) _) _) _) _) _) _) _) _) _) _) _) _⟩
  all_goals (repeat (first | exact hp_new (by simp) _ | refine (hp_old (by simp) _).trans ?_))

set_option maxRecDepth 10000 in
set_option maxHeartbeats 2000000 in
theorem refShape_ctud : RefShapeC ctudName ctudI ctudO ctudS := by
  intro w
  unfold ctudName
  go_enter Tryd.func26, Tryd.ntmps26
  go_wp2_with (first | (go_at_call 33; refine (pin_any _ _ _).mono ?_; rintro e w' ⟨rfl, rfl⟩))
  refine bodyPost_ret (v := .tuple #[.agg #[.slice (some ⟨w.heap.size + 7, 0, none⟩) 5 5, .slice (some ⟨w.heap.size + 11, 0, none⟩) 3 3, .slice (some ⟨w.heap.size + 15, 0, none⟩) 3 3], .bool true]) (by simp [results, Tryd.results26, go_sem]) rfl ⟨_, rfl, ⟨w.heap.size + 7, w.heap.size + 11, w.heap.size + 15, rfl, by omega, by omega, by omega, by omega, by omega, by omega, ?_, ?_, ?_⟩, gr_alloc (gr_alloc (gr_alloc (gr_alloc (gr_alloc (gr_alloc (gr_alloc (gr_alloc (gr_alloc (gr_alloc (gr_alloc (gr_alloc (gr_alloc (gr_alloc (gr_alloc (gr_alloc (World.grownBy.refl _ _) _) _) _) _) _) _) _) _) _) _) _) _) _) _) _) _⟩
  all_goals (repeat (first | exact hp_new (by simp) _ | refine (hp_old (by simp) _).trans ?_))

set_option maxRecDepth 10000 in
set_option maxHeartbeats 2000000 in
theorem refShape_rtrig : RefShapeC rtrigName edgeI edgeO edgeS := by
  intro w
  unfold rtrigName
  go_enter Tryd.func26, Tryd.ntmps26
  go_wp2_with (first | (go_at_call 33; refine (pin_any _ _ _).mono ?_; rintro e w' ⟨rfl, rfl⟩))
  refine bodyPost_ret (v := .tuple #[.agg #[.slice (some ⟨w.heap.size + 3, 0, none⟩) 1 1, .slice (some ⟨w.heap.size + 5, 0, none⟩) 1 1, .slice (some ⟨w.heap.size + 7, 0, none⟩) 1 1], .bool true]) (by simp [results, Tryd.results26, go_sem]) rfl ⟨_, rfl, ⟨w.heap.size + 3, w.heap.size + 5, w.heap.size + 7, rfl, by omega, by omega, by omega, by omega, by omega, by omega, ?_, ?_, ?_⟩, gr_alloc (gr_alloc (gr_alloc (gr_alloc (gr_alloc (gr_alloc (gr_alloc (gr_alloc (World.grownBy.refl _ _) _) _) _) _) _) _) _) _⟩
  all_goals (repeat (first | exact hp_new (by simp) _ | refine (hp_old (by simp) _).trans ?_))

set_option maxRecDepth 10000 in
set_option maxHeartbeats 2000000 in
theorem refShape_ftrig : RefShapeC ftrigName edgeI edgeO edgeS := by
  intro w
  unfold ftrigName
  go_enter Tryd.func26, Tryd.ntmps26
  go_wp2_with (first | (go_at_call 33; refine (pin_any _ _ _).mono ?_; rintro e w' ⟨rfl, rfl⟩))
  refine bodyPost_ret (v := .tuple #[.agg #[.slice (some ⟨w.heap.size + 3, 0, none⟩) 1 1, .slice (some ⟨w.heap.size + 5, 0, none⟩) 1 1, .slice (some ⟨w.heap.size + 7, 0, none⟩) 1 1], .bool true]) (by simp [results, Tryd.results26, go_sem]) rfl ⟨_, rfl, ⟨w.heap.size + 3, w.heap.size + 5, w.heap.size + 7, rfl, by omega, by omega, by omega, by omega, by omega, by omega, ?_, ?_, ?_⟩, gr_alloc (gr_alloc (gr_alloc (gr_alloc (gr_alloc (gr_alloc (gr_alloc (gr_alloc (World.grownBy.refl _ _) _) _) _) _) _) _) _) _⟩
  all_goals (repeat (first | exact hp_new (by simp) _ | refine (hp_old (by simp) _).trans ?_))

set_option maxRecDepth 10000 in
set_option maxHeartbeats 2000000 in
theorem refShape_sr : RefShapeC srName srI srO srS := by
  intro w
  unfold srName
  go_enter Tryd.func26, Tryd.ntmps26
  go_wp2_with (first | (go_at_call 33; refine (pin_any _ _ _).mono ?_; rintro e w' ⟨rfl, rfl⟩))
  refine bodyPost_ret (v := .tuple #[.agg #[.slice (some ⟨w.heap.size + 4, 0, none⟩) 2 2, .slice (some ⟨w.heap.size + 6, 0, none⟩) 1 1, .slice (some ⟨w.heap.size + 8, 0, none⟩) 1 1], .bool true]) (by simp [results, Tryd.results26, go_sem]) rfl ⟨_, rfl, ⟨w.heap.size + 4, w.heap.size + 6, w.heap.size + 8, rfl, by omega, by omega, by omega, by omega, by omega, by omega, ?_, ?_, ?_⟩, gr_alloc (gr_alloc (gr_alloc (gr_alloc (gr_alloc (gr_alloc (gr_alloc (gr_alloc (gr_alloc (World.grownBy.refl _ _) _) _) _) _) _) _) _) _) _⟩
  all_goals (repeat (first | exact hp_new (by simp) _ | refine (hp_old (by simp) _).trans ?_))

set_option maxRecDepth 10000 in
set_option maxHeartbeats 2000000 in
theorem refShape_rs : RefShapeC rsName rsI rsO rsS := by
  intro w
  unfold rsName
  go_enter Tryd.func26, Tryd.ntmps26
  go_wp2_with (first | (go_at_call 33; refine (pin_any _ _ _).mono ?_; rintro e w' ⟨rfl, rfl⟩))
  refine bodyPost_ret (v := .tuple #[.agg #[.slice (some ⟨w.heap.size + 4, 0, none⟩) 2 2, .slice (some ⟨w.heap.size + 6, 0, none⟩) 1 1, .slice (some ⟨w.heap.size + 8, 0, none⟩) 1 1], .bool true]) (by simp [results, Tryd.results26, go_sem]) rfl ⟨_, rfl, ⟨w.heap.size + 4, w.heap.size + 6, w.heap.size + 8, rfl, by omega, by omega, by omega, by omega, by omega, by omega, ?_, ?_, ?_⟩, gr_alloc (gr_alloc (gr_alloc (gr_alloc (gr_alloc (gr_alloc (gr_alloc (gr_alloc (gr_alloc (World.grownBy.refl _ _) _) _) _) _) _) _) _) _) _⟩
  all_goals (repeat (first | exact hp_new (by simp) _ | refine (hp_old (by simp) _).trans ?_))

set_option maxRecDepth 10000 in
set_option maxHeartbeats 2000000 in
theorem refShape_ramp : RefShapeC rampName rampI rampO rampS := by
  intro w
  unfold rampName
  go_enter Tryd.func26, Tryd.ntmps26
  go_wp2_with (first | (go_at_call 33; refine (pin_any _ _ _).mono ?_; rintro e w' ⟨rfl, rfl⟩))
  refine bodyPost_ret (v := .tuple #[.agg #[.slice (some ⟨w.heap.size + 4, 0, none⟩) 2 2, .slice (some ⟨w.heap.size + 6, 0, none⟩) 1 1, .slice (some ⟨w.heap.size + 8, 0, none⟩) 1 1], .bool true]) (by simp [results, Tryd.results26, go_sem]) rfl ⟨_, rfl, ⟨w.heap.size + 4, w.heap.size + 6, w.heap.size + 8, rfl, by omega, by omega, by omega, by omega, by omega, by omega, ?_, ?_, ?_⟩, gr_alloc (gr_alloc (gr_alloc (gr_alloc (gr_alloc (gr_alloc (gr_alloc (gr_alloc (gr_alloc (World.grownBy.refl _ _) _) _) _) _) _) _) _) _) _⟩
  all_goals (repeat (first | exact hp_new (by simp) _ | refine (hp_old (by simp) _).trans ?_))

set_option maxRecDepth 10000 in
set_option maxHeartbeats 2000000 in
theorem refShape_hyst : RefShapeC hystName hystI hystO hystS := by
  intro w
  unfold hystName
  go_enter Tryd.func26, Tryd.ntmps26
  go_wp2_with (first | (go_at_call 33; refine (pin_any _ _ _).mono ?_; rintro e w' ⟨rfl, rfl⟩))
  refine bodyPost_ret (v := .tuple #[.agg #[.slice (some ⟨w.heap.size + 5, 0, none⟩) 3 3, .slice (some ⟨w.heap.size + 7, 0, none⟩) 1 1, .slice (some ⟨w.heap.size + 9, 0, none⟩) 1 1], .bool true]) (by simp [results, Tryd.results26, go_sem]) rfl ⟨_, rfl, ⟨w.heap.size + 5, w.heap.size + 7, w.heap.size + 9, rfl, by omega, by omega, by omega, by omega, by omega, by omega, ?_, ?_, ?_⟩, gr_alloc (gr_alloc (gr_alloc (gr_alloc (gr_alloc (gr_alloc (gr_alloc (gr_alloc (gr_alloc (gr_alloc (World.grownBy.refl _ _) _) _) _) _) _) _) _) _) _) _⟩
  all_goals (repeat (first | exact hp_new (by simp) _ | refine (hp_old (by simp) _).trans ?_))

set_option maxRecDepth 10000 in
set_option maxHeartbeats 2000000 in
theorem refShape_none (s : ByteArray) (hs : NoName s) (w : World) : Calls Tryd.prog 26 #[.string s] w fun e w' => e = .returned (.tuple #[.agg #[.slice none 0 0, .slice none 0 0, .slice none 0 0], .bool false]) ∧ w.grownBy w' none := by
  obtain ⟨h0, h1, h2, h3, h4, h5, h6, h7, h8, h9, h10, h11⟩ := hs
  go_enter Tryd.func26, Tryd.ntmps26
  go_wp2_with fail
  exact bodyPost_ret (v := .tuple #[.agg #[.slice none 0 0, .slice none 0 0, .slice none 0 0], .bool false]) (by simp [results, Tryd.results26, go_sem]) rfl ⟨rfl, gr_alloc (gr_alloc (World.grownBy.refl _ _) _) _⟩
end Go.Proofs.YtbaijehecncclaaDoor
