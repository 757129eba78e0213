/- Texts put together: R6. -/
import Derived.Test.YtdcoidmbainkmaaGreatDoorQ03
namespace Go.Proofs.YtdcoidmbainkmaaGreatDoor
open Go.RowKit
attribute [local go_sem ↓] Go.wp_at_zero Go.wp_at_succ
set_option linter.unusedVariables false
set_option linter.unusedSimpArgs false
theorem kwi0 (w : World) : Sem.run Tryz.prog (Instr.index 124 (.agg #[.string ⟨#[]⟩,.string ⟨#[98,111,111,108]⟩,.string ⟨#[105,110,116]⟩,.string ⟨#[100,105,110,116]⟩,.string ⟨#[119,111,114,100]⟩,.string ⟨#[116,105,109,101]⟩]) (.int .i64 0)) w = .ok (.string ⟨#[]⟩) w := by kernel_rfl
theorem kwi1 (w : World) : Sem.run Tryz.prog (Instr.index 124 (.agg #[.string ⟨#[]⟩,.string ⟨#[98,111,111,108]⟩,.string ⟨#[105,110,116]⟩,.string ⟨#[100,105,110,116]⟩,.string ⟨#[119,111,114,100]⟩,.string ⟨#[116,105,109,101]⟩]) (.int .i64 1)) w = .ok (.string ⟨#[98,111,111,108]⟩) w := by kernel_rfl
theorem kwi2 (w : World) : Sem.run Tryz.prog (Instr.index 124 (.agg #[.string ⟨#[]⟩,.string ⟨#[98,111,111,108]⟩,.string ⟨#[105,110,116]⟩,.string ⟨#[100,105,110,116]⟩,.string ⟨#[119,111,114,100]⟩,.string ⟨#[116,105,109,101]⟩]) (.int .i64 2)) w = .ok (.string ⟨#[105,110,116]⟩) w := by kernel_rfl
theorem kwi3 (w : World) : Sem.run Tryz.prog (Instr.index 124 (.agg #[.string ⟨#[]⟩,.string ⟨#[98,111,111,108]⟩,.string ⟨#[105,110,116]⟩,.string ⟨#[100,105,110,116]⟩,.string ⟨#[119,111,114,100]⟩,.string ⟨#[116,105,109,101]⟩]) (.int .i64 3)) w = .ok (.string ⟨#[100,105,110,116]⟩) w := by kernel_rfl
theorem kwi4 (w : World) : Sem.run Tryz.prog (Instr.index 124 (.agg #[.string ⟨#[]⟩,.string ⟨#[98,111,111,108]⟩,.string ⟨#[105,110,116]⟩,.string ⟨#[100,105,110,116]⟩,.string ⟨#[119,111,114,100]⟩,.string ⟨#[116,105,109,101]⟩]) (.int .i64 4)) w = .ok (.string ⟨#[119,111,114,100]⟩) w := by kernel_rfl
theorem kwi5 (w : World) : Sem.run Tryz.prog (Instr.index 124 (.agg #[.string ⟨#[]⟩,.string ⟨#[98,111,111,108]⟩,.string ⟨#[105,110,116]⟩,.string ⟨#[100,105,110,116]⟩,.string ⟨#[119,111,114,100]⟩,.string ⟨#[116,105,109,101]⟩]) (.int .i64 5)) w = .ok (.string ⟨#[116,105,109,101]⟩) w := by kernel_rfl
theorem rwi0 (w : World) : Sem.run Tryz.prog (Instr.index 124 (.agg #[.string ⟨#[]⟩,.string ⟨#[118,97,114]⟩,.string ⟨#[118,97,114,95,105,110,112,117,116]⟩,.string ⟨#[118,97,114,95,111,117,116,112,117,116]⟩,.string ⟨#[118,97,114,95,101,120,116,101,114,110,97,108]⟩,.string ⟨#[118,97,114,32,114,101,116,97,105,110]⟩]) (.int .i64 0)) w = .ok (.string ⟨#[]⟩) w := by kernel_rfl
theorem rwi1 (w : World) : Sem.run Tryz.prog (Instr.index 124 (.agg #[.string ⟨#[]⟩,.string ⟨#[118,97,114]⟩,.string ⟨#[118,97,114,95,105,110,112,117,116]⟩,.string ⟨#[118,97,114,95,111,117,116,112,117,116]⟩,.string ⟨#[118,97,114,95,101,120,116,101,114,110,97,108]⟩,.string ⟨#[118,97,114,32,114,101,116,97,105,110]⟩]) (.int .i64 1)) w = .ok (.string ⟨#[118,97,114]⟩) w := by kernel_rfl
theorem rwi2 (w : World) : Sem.run Tryz.prog (Instr.index 124 (.agg #[.string ⟨#[]⟩,.string ⟨#[118,97,114]⟩,.string ⟨#[118,97,114,95,105,110,112,117,116]⟩,.string ⟨#[118,97,114,95,111,117,116,112,117,116]⟩,.string ⟨#[118,97,114,95,101,120,116,101,114,110,97,108]⟩,.string ⟨#[118,97,114,32,114,101,116,97,105,110]⟩]) (.int .i64 2)) w = .ok (.string ⟨#[118,97,114,95,105,110,112,117,116]⟩) w := by kernel_rfl
theorem rwi3 (w : World) : Sem.run Tryz.prog (Instr.index 124 (.agg #[.string ⟨#[]⟩,.string ⟨#[118,97,114]⟩,.string ⟨#[118,97,114,95,105,110,112,117,116]⟩,.string ⟨#[118,97,114,95,111,117,116,112,117,116]⟩,.string ⟨#[118,97,114,95,101,120,116,101,114,110,97,108]⟩,.string ⟨#[118,97,114,32,114,101,116,97,105,110]⟩]) (.int .i64 3)) w = .ok (.string ⟨#[118,97,114,95,111,117,116,112,117,116]⟩) w := by kernel_rfl
theorem rwi4 (w : World) : Sem.run Tryz.prog (Instr.index 124 (.agg #[.string ⟨#[]⟩,.string ⟨#[118,97,114]⟩,.string ⟨#[118,97,114,95,105,110,112,117,116]⟩,.string ⟨#[118,97,114,95,111,117,116,112,117,116]⟩,.string ⟨#[118,97,114,95,101,120,116,101,114,110,97,108]⟩,.string ⟨#[118,97,114,32,114,101,116,97,105,110]⟩]) (.int .i64 4)) w = .ok (.string ⟨#[118,97,114,95,101,120,116,101,114,110,97,108]⟩) w := by kernel_rfl
theorem rwi5 (w : World) : Sem.run Tryz.prog (Instr.index 124 (.agg #[.string ⟨#[]⟩,.string ⟨#[118,97,114]⟩,.string ⟨#[118,97,114,95,105,110,112,117,116]⟩,.string ⟨#[118,97,114,95,111,117,116,112,117,116]⟩,.string ⟨#[118,97,114,95,101,120,116,101,114,110,97,108]⟩,.string ⟨#[118,97,114,32,114,101,116,97,105,110]⟩]) (.int .i64 5)) w = .ok (.string ⟨#[118,97,114,32,114,101,116,97,105,110]⟩) w := by kernel_rfl
theorem uwi0 (w : World) : Sem.run Tryz.prog (Instr.index 82 (.agg #[.string ⟨#[]⟩,.string ⟨#[112,114,111,103,114,97,109]⟩,.string ⟨#[102,117,110,99,116,105,111,110]⟩,.string ⟨#[102,117,110,99,116,105,111,110,95,98,108,111,99,107]⟩]) (.int .i64 0)) w = .ok (.string ⟨#[]⟩) w := by kernel_rfl
theorem uwi1 (w : World) : Sem.run Tryz.prog (Instr.index 82 (.agg #[.string ⟨#[]⟩,.string ⟨#[112,114,111,103,114,97,109]⟩,.string ⟨#[102,117,110,99,116,105,111,110]⟩,.string ⟨#[102,117,110,99,116,105,111,110,95,98,108,111,99,107]⟩]) (.int .i64 1)) w = .ok (.string ⟨#[112,114,111,103,114,97,109]⟩) w := by kernel_rfl
theorem uwi2 (w : World) : Sem.run Tryz.prog (Instr.index 82 (.agg #[.string ⟨#[]⟩,.string ⟨#[112,114,111,103,114,97,109]⟩,.string ⟨#[102,117,110,99,116,105,111,110]⟩,.string ⟨#[102,117,110,99,116,105,111,110,95,98,108,111,99,107]⟩]) (.int .i64 2)) w = .ok (.string ⟨#[102,117,110,99,116,105,111,110]⟩) w := by kernel_rfl
theorem uwi3 (w : World) : Sem.run Tryz.prog (Instr.index 82 (.agg #[.string ⟨#[]⟩,.string ⟨#[112,114,111,103,114,97,109]⟩,.string ⟨#[102,117,110,99,116,105,111,110]⟩,.string ⟨#[102,117,110,99,116,105,111,110,95,98,108,111,99,107]⟩]) (.int .i64 3)) w = .ok (.string ⟨#[102,117,110,99,116,105,111,110,95,98,108,111,99,107]⟩) w := by kernel_rfl
theorem owi0 (w : World) : Sem.run Tryz.prog (Instr.index 201 (.agg #[.string ⟨#[]⟩,.string ⟨#[43]⟩,.string ⟨#[45]⟩,.string ⟨#[42]⟩,.string ⟨#[47]⟩,.string ⟨#[109,111,100]⟩,.string ⟨#[97,110,100]⟩,.string ⟨#[111,114]⟩,.string ⟨#[120,111,114]⟩,.string ⟨#[61]⟩,.string ⟨#[60,62]⟩,.string ⟨#[60]⟩,.string ⟨#[60,61]⟩,.string ⟨#[62]⟩,.string ⟨#[62,61]⟩]) (.int .i64 0)) w = .ok (.string ⟨#[]⟩) w := by kernel_rfl
theorem owi1 (w : World) : Sem.run Tryz.prog (Instr.index 201 (.agg #[.string ⟨#[]⟩,.string ⟨#[43]⟩,.string ⟨#[45]⟩,.string ⟨#[42]⟩,.string ⟨#[47]⟩,.string ⟨#[109,111,100]⟩,.string ⟨#[97,110,100]⟩,.string ⟨#[111,114]⟩,.string ⟨#[120,111,114]⟩,.string ⟨#[61]⟩,.string ⟨#[60,62]⟩,.string ⟨#[60]⟩,.string ⟨#[60,61]⟩,.string ⟨#[62]⟩,.string ⟨#[62,61]⟩]) (.int .i64 1)) w = .ok (.string ⟨#[43]⟩) w := by kernel_rfl
theorem owi2 (w : World) : Sem.run Tryz.prog (Instr.index 201 (.agg #[.string ⟨#[]⟩,.string ⟨#[43]⟩,.string ⟨#[45]⟩,.string ⟨#[42]⟩,.string ⟨#[47]⟩,.string ⟨#[109,111,100]⟩,.string ⟨#[97,110,100]⟩,.string ⟨#[111,114]⟩,.string ⟨#[120,111,114]⟩,.string ⟨#[61]⟩,.string ⟨#[60,62]⟩,.string ⟨#[60]⟩,.string ⟨#[60,61]⟩,.string ⟨#[62]⟩,.string ⟨#[62,61]⟩]) (.int .i64 2)) w = .ok (.string ⟨#[45]⟩) w := by kernel_rfl
theorem owi3 (w : World) : Sem.run Tryz.prog (Instr.index 201 (.agg #[.string ⟨#[]⟩,.string ⟨#[43]⟩,.string ⟨#[45]⟩,.string ⟨#[42]⟩,.string ⟨#[47]⟩,.string ⟨#[109,111,100]⟩,.string ⟨#[97,110,100]⟩,.string ⟨#[111,114]⟩,.string ⟨#[120,111,114]⟩,.string ⟨#[61]⟩,.string ⟨#[60,62]⟩,.string ⟨#[60]⟩,.string ⟨#[60,61]⟩,.string ⟨#[62]⟩,.string ⟨#[62,61]⟩]) (.int .i64 3)) w = .ok (.string ⟨#[42]⟩) w := by kernel_rfl
theorem owi4 (w : World) : Sem.run Tryz.prog (Instr.index 201 (.agg #[.string ⟨#[]⟩,.string ⟨#[43]⟩,.string ⟨#[45]⟩,.string ⟨#[42]⟩,.string ⟨#[47]⟩,.string ⟨#[109,111,100]⟩,.string ⟨#[97,110,100]⟩,.string ⟨#[111,114]⟩,.string ⟨#[120,111,114]⟩,.string ⟨#[61]⟩,.string ⟨#[60,62]⟩,.string ⟨#[60]⟩,.string ⟨#[60,61]⟩,.string ⟨#[62]⟩,.string ⟨#[62,61]⟩]) (.int .i64 4)) w = .ok (.string ⟨#[47]⟩) w := by kernel_rfl
theorem owi5 (w : World) : Sem.run Tryz.prog (Instr.index 201 (.agg #[.string ⟨#[]⟩,.string ⟨#[43]⟩,.string ⟨#[45]⟩,.string ⟨#[42]⟩,.string ⟨#[47]⟩,.string ⟨#[109,111,100]⟩,.string ⟨#[97,110,100]⟩,.string ⟨#[111,114]⟩,.string ⟨#[120,111,114]⟩,.string ⟨#[61]⟩,.string ⟨#[60,62]⟩,.string ⟨#[60]⟩,.string ⟨#[60,61]⟩,.string ⟨#[62]⟩,.string ⟨#[62,61]⟩]) (.int .i64 5)) w = .ok (.string ⟨#[109,111,100]⟩) w := by kernel_rfl
theorem owi6 (w : World) : Sem.run Tryz.prog (Instr.index 201 (.agg #[.string ⟨#[]⟩,.string ⟨#[43]⟩,.string ⟨#[45]⟩,.string ⟨#[42]⟩,.string ⟨#[47]⟩,.string ⟨#[109,111,100]⟩,.string ⟨#[97,110,100]⟩,.string ⟨#[111,114]⟩,.string ⟨#[120,111,114]⟩,.string ⟨#[61]⟩,.string ⟨#[60,62]⟩,.string ⟨#[60]⟩,.string ⟨#[60,61]⟩,.string ⟨#[62]⟩,.string ⟨#[62,61]⟩]) (.int .i64 6)) w = .ok (.string ⟨#[97,110,100]⟩) w := by kernel_rfl
theorem owi7 (w : World) : Sem.run Tryz.prog (Instr.index 201 (.agg #[.string ⟨#[]⟩,.string ⟨#[43]⟩,.string ⟨#[45]⟩,.string ⟨#[42]⟩,.string ⟨#[47]⟩,.string ⟨#[109,111,100]⟩,.string ⟨#[97,110,100]⟩,.string ⟨#[111,114]⟩,.string ⟨#[120,111,114]⟩,.string ⟨#[61]⟩,.string ⟨#[60,62]⟩,.string ⟨#[60]⟩,.string ⟨#[60,61]⟩,.string ⟨#[62]⟩,.string ⟨#[62,61]⟩]) (.int .i64 7)) w = .ok (.string ⟨#[111,114]⟩) w := by kernel_rfl
theorem owi8 (w : World) : Sem.run Tryz.prog (Instr.index 201 (.agg #[.string ⟨#[]⟩,.string ⟨#[43]⟩,.string ⟨#[45]⟩,.string ⟨#[42]⟩,.string ⟨#[47]⟩,.string ⟨#[109,111,100]⟩,.string ⟨#[97,110,100]⟩,.string ⟨#[111,114]⟩,.string ⟨#[120,111,114]⟩,.string ⟨#[61]⟩,.string ⟨#[60,62]⟩,.string ⟨#[60]⟩,.string ⟨#[60,61]⟩,.string ⟨#[62]⟩,.string ⟨#[62,61]⟩]) (.int .i64 8)) w = .ok (.string ⟨#[120,111,114]⟩) w := by kernel_rfl
theorem owi9 (w : World) : Sem.run Tryz.prog (Instr.index 201 (.agg #[.string ⟨#[]⟩,.string ⟨#[43]⟩,.string ⟨#[45]⟩,.string ⟨#[42]⟩,.string ⟨#[47]⟩,.string ⟨#[109,111,100]⟩,.string ⟨#[97,110,100]⟩,.string ⟨#[111,114]⟩,.string ⟨#[120,111,114]⟩,.string ⟨#[61]⟩,.string ⟨#[60,62]⟩,.string ⟨#[60]⟩,.string ⟨#[60,61]⟩,.string ⟨#[62]⟩,.string ⟨#[62,61]⟩]) (.int .i64 9)) w = .ok (.string ⟨#[61]⟩) w := by kernel_rfl
theorem owi10 (w : World) : Sem.run Tryz.prog (Instr.index 201 (.agg #[.string ⟨#[]⟩,.string ⟨#[43]⟩,.string ⟨#[45]⟩,.string ⟨#[42]⟩,.string ⟨#[47]⟩,.string ⟨#[109,111,100]⟩,.string ⟨#[97,110,100]⟩,.string ⟨#[111,114]⟩,.string ⟨#[120,111,114]⟩,.string ⟨#[61]⟩,.string ⟨#[60,62]⟩,.string ⟨#[60]⟩,.string ⟨#[60,61]⟩,.string ⟨#[62]⟩,.string ⟨#[62,61]⟩]) (.int .i64 10)) w = .ok (.string ⟨#[60,62]⟩) w := by kernel_rfl
theorem owi11 (w : World) : Sem.run Tryz.prog (Instr.index 201 (.agg #[.string ⟨#[]⟩,.string ⟨#[43]⟩,.string ⟨#[45]⟩,.string ⟨#[42]⟩,.string ⟨#[47]⟩,.string ⟨#[109,111,100]⟩,.string ⟨#[97,110,100]⟩,.string ⟨#[111,114]⟩,.string ⟨#[120,111,114]⟩,.string ⟨#[61]⟩,.string ⟨#[60,62]⟩,.string ⟨#[60]⟩,.string ⟨#[60,61]⟩,.string ⟨#[62]⟩,.string ⟨#[62,61]⟩]) (.int .i64 11)) w = .ok (.string ⟨#[60]⟩) w := by kernel_rfl
theorem owi12 (w : World) : Sem.run Tryz.prog (Instr.index 201 (.agg #[.string ⟨#[]⟩,.string ⟨#[43]⟩,.string ⟨#[45]⟩,.string ⟨#[42]⟩,.string ⟨#[47]⟩,.string ⟨#[109,111,100]⟩,.string ⟨#[97,110,100]⟩,.string ⟨#[111,114]⟩,.string ⟨#[120,111,114]⟩,.string ⟨#[61]⟩,.string ⟨#[60,62]⟩,.string ⟨#[60]⟩,.string ⟨#[60,61]⟩,.string ⟨#[62]⟩,.string ⟨#[62,61]⟩]) (.int .i64 12)) w = .ok (.string ⟨#[60,61]⟩) w := by kernel_rfl
theorem owi13 (w : World) : Sem.run Tryz.prog (Instr.index 201 (.agg #[.string ⟨#[]⟩,.string ⟨#[43]⟩,.string ⟨#[45]⟩,.string ⟨#[42]⟩,.string ⟨#[47]⟩,.string ⟨#[109,111,100]⟩,.string ⟨#[97,110,100]⟩,.string ⟨#[111,114]⟩,.string ⟨#[120,111,114]⟩,.string ⟨#[61]⟩,.string ⟨#[60,62]⟩,.string ⟨#[60]⟩,.string ⟨#[60,61]⟩,.string ⟨#[62]⟩,.string ⟨#[62,61]⟩]) (.int .i64 13)) w = .ok (.string ⟨#[62]⟩) w := by kernel_rfl
theorem owi14 (w : World) : Sem.run Tryz.prog (Instr.index 201 (.agg #[.string ⟨#[]⟩,.string ⟨#[43]⟩,.string ⟨#[45]⟩,.string ⟨#[42]⟩,.string ⟨#[47]⟩,.string ⟨#[109,111,100]⟩,.string ⟨#[97,110,100]⟩,.string ⟨#[111,114]⟩,.string ⟨#[120,111,114]⟩,.string ⟨#[61]⟩,.string ⟨#[60,62]⟩,.string ⟨#[60]⟩,.string ⟨#[60,61]⟩,.string ⟨#[62]⟩,.string ⟨#[62,61]⟩]) (.int .i64 14)) w = .ok (.string ⟨#[62,61]⟩) w := by kernel_rfl
set_option maxRecDepth 20000 in
theorem kind_1 {V w : World} (hT : Tabs V) (hV : Vs V w) : Calls Tryz.prog 67 #[.string ⟨#[98,111,111,108]⟩] w fun e w' => e = .returned (.int .i64 1) ∧ w = w' := by
 have X := (hV 1 (by decide)).trans hT.kw
 have x := at_cell X
 clear hT hV
 have i0 := kwi0
 have i1 := kwi1
 go_enter Tryz.func67,Tryz.ntmps67
 go_wp2
 refine wp_loop_rounds 3 ?_
 rw [rounds_succ]
 go_wp2
 rw [rounds_succ]
 go_wp2
 go_ret
 exact ⟨rfl,rfl⟩
set_option maxRecDepth 20000 in
theorem kind_2 {V w : World} (hT : Tabs V) (hV : Vs V w) : Calls Tryz.prog 67 #[.string ⟨#[105,110,116]⟩] w fun e w' => e = .returned (.int .i64 2) ∧ w = w' := by
 have X := (hV 1 (by decide)).trans hT.kw
 have x := at_cell X
 clear hT hV
 have i0 := kwi0
 have i1 := kwi1
 have i2 := kwi2
 go_enter Tryz.func67,Tryz.ntmps67
 go_wp2
 refine wp_loop_rounds 4 ?_
 rw [rounds_succ]
 go_wp2
 rw [rounds_succ]
 go_wp2
 rw [rounds_succ]
 go_wp2
 go_ret
 exact ⟨rfl,rfl⟩
set_option maxRecDepth 20000 in
theorem kind_3 {V w : World} (hT : Tabs V) (hV : Vs V w) : Calls Tryz.prog 67 #[.string ⟨#[100,105,110,116]⟩] w fun e w' => e = .returned (.int .i64 3) ∧ w = w' := by
 have X := (hV 1 (by decide)).trans hT.kw
 have x := at_cell X
 clear hT hV
 have i0 := kwi0
 have i1 := kwi1
 have i2 := kwi2
 have i3 := kwi3
 go_enter Tryz.func67,Tryz.ntmps67
 go_wp2
 refine wp_loop_rounds 5 ?_
 rw [rounds_succ]
 go_wp2
 rw [rounds_succ]
 go_wp2
 rw [rounds_succ]
 go_wp2
 rw [rounds_succ]
 go_wp2
 go_ret
 exact ⟨rfl,rfl⟩
set_option maxRecDepth 20000 in
theorem kind_4 {V w : World} (hT : Tabs V) (hV : Vs V w) : Calls Tryz.prog 67 #[.string ⟨#[119,111,114,100]⟩] w fun e w' => e = .returned (.int .i64 4) ∧ w = w' := by
 have X := (hV 1 (by decide)).trans hT.kw
 have x := at_cell X
 clear hT hV
 have i0 := kwi0
 have i1 := kwi1
 have i2 := kwi2
 have i3 := kwi3
 have i4 := kwi4
 go_enter Tryz.func67,Tryz.ntmps67
 go_wp2
 refine wp_loop_rounds 6 ?_
 rw [rounds_succ]
 go_wp2
 rw [rounds_succ]
 go_wp2
 rw [rounds_succ]
 go_wp2
 rw [rounds_succ]
 go_wp2
 rw [rounds_succ]
 go_wp2
 go_ret
 exact ⟨rfl,rfl⟩
set_option maxRecDepth 20000 in
theorem kind_5 {V w : World} (hT : Tabs V) (hV : Vs V w) : Calls Tryz.prog 67 #[.string ⟨#[116,105,109,101]⟩] w fun e w' => e = .returned (.int .i64 5) ∧ w = w' := by
 have X := (hV 1 (by decide)).trans hT.kw
 have x := at_cell X
 clear hT hV
 have i0 := kwi0
 have i1 := kwi1
 have i2 := kwi2
 have i3 := kwi3
 have i4 := kwi4
 have i5 := kwi5
 go_enter Tryz.func67,Tryz.ntmps67
 go_wp2
 refine wp_loop_rounds 7 ?_
 rw [rounds_succ]
 go_wp2
 rw [rounds_succ]
 go_wp2
 rw [rounds_succ]
 go_wp2
 rw [rounds_succ]
 go_wp2
 rw [rounds_succ]
 go_wp2
 rw [rounds_succ]
 go_wp2
 go_ret
 exact ⟨rfl,rfl⟩
set_option maxRecDepth 20000 in
theorem role_1 {V w : World} (hT : Tabs V) (hV : Vs V w) : Calls Tryz.prog 108 #[.string ⟨#[118,97,114]⟩] w fun e w' => e = .returned (.int .i64 1) ∧ w = w' := by
 have X := (hV 2 (by decide)).trans hT.rw
 have x := at_cell X
 clear hT hV
 have i0 := rwi0
 have i1 := rwi1
 go_enter Tryz.func108,Tryz.ntmps108
 go_wp2
 refine wp_loop_rounds 3 ?_
 rw [rounds_succ]
 go_wp2
 rw [rounds_succ]
 go_wp2
 go_ret
 exact ⟨rfl,rfl⟩
set_option maxRecDepth 20000 in
theorem role_2 {V w : World} (hT : Tabs V) (hV : Vs V w) : Calls Tryz.prog 108 #[.string ⟨#[118,97,114,95,105,110,112,117,116]⟩] w fun e w' => e = .returned (.int .i64 2) ∧ w = w' := by
 have X := (hV 2 (by decide)).trans hT.rw
 have x := at_cell X
 clear hT hV
 have i0 := rwi0
 have i1 := rwi1
 have i2 := rwi2
 go_enter Tryz.func108,Tryz.ntmps108
 go_wp2
 refine wp_loop_rounds 4 ?_
 rw [rounds_succ]
 go_wp2
 rw [rounds_succ]
 go_wp2
 rw [rounds_succ]
 go_wp2
 go_ret
 exact ⟨rfl,rfl⟩
set_option maxRecDepth 20000 in
theorem role_3 {V w : World} (hT : Tabs V) (hV : Vs V w) : Calls Tryz.prog 108 #[.string ⟨#[118,97,114,95,111,117,116,112,117,116]⟩] w fun e w' => e = .returned (.int .i64 3) ∧ w = w' := by
 have X := (hV 2 (by decide)).trans hT.rw
 have x := at_cell X
 clear hT hV
 have i0 := rwi0
 have i1 := rwi1
 have i2 := rwi2
 have i3 := rwi3
 go_enter Tryz.func108,Tryz.ntmps108
 go_wp2
 refine wp_loop_rounds 5 ?_
 rw [rounds_succ]
 go_wp2
 rw [rounds_succ]
 go_wp2
 rw [rounds_succ]
 go_wp2
 rw [rounds_succ]
 go_wp2
 go_ret
 exact ⟨rfl,rfl⟩
set_option maxRecDepth 20000 in
theorem role_4 {V w : World} (hT : Tabs V) (hV : Vs V w) : Calls Tryz.prog 108 #[.string ⟨#[118,97,114,95,101,120,116,101,114,110,97,108]⟩] w fun e w' => e = .returned (.int .i64 4) ∧ w = w' := by
 have X := (hV 2 (by decide)).trans hT.rw
 have x := at_cell X
 clear hT hV
 have i0 := rwi0
 have i1 := rwi1
 have i2 := rwi2
 have i3 := rwi3
 have i4 := rwi4
 go_enter Tryz.func108,Tryz.ntmps108
 go_wp2
 refine wp_loop_rounds 6 ?_
 rw [rounds_succ]
 go_wp2
 rw [rounds_succ]
 go_wp2
 rw [rounds_succ]
 go_wp2
 rw [rounds_succ]
 go_wp2
 rw [rounds_succ]
 go_wp2
 go_ret
 exact ⟨rfl,rfl⟩
set_option maxRecDepth 20000 in
theorem unit_1 {V w : World} (hT : Tabs V) (hV : Vs V w) : Calls Tryz.prog 43 #[.string ⟨#[112,114,111,103,114,97,109]⟩] w fun e w' => e = .returned (.int .i64 1) ∧ w = w' := by
 have X := (hV 0 (by decide)).trans hT.uw
 have x := at_cell X
 clear hT hV
 have i0 := uwi0
 have i1 := uwi1
 go_enter Tryz.func43,Tryz.ntmps43
 go_wp2
 refine wp_loop_rounds 3 ?_
 rw [rounds_succ]
 go_wp2
 rw [rounds_succ]
 go_wp2
 go_ret
 exact ⟨rfl,rfl⟩
set_option maxRecDepth 20000 in
theorem unit_2 {V w : World} (hT : Tabs V) (hV : Vs V w) : Calls Tryz.prog 43 #[.string ⟨#[102,117,110,99,116,105,111,110]⟩] w fun e w' => e = .returned (.int .i64 2) ∧ w = w' := by
 have X := (hV 0 (by decide)).trans hT.uw
 have x := at_cell X
 clear hT hV
 have i0 := uwi0
 have i1 := uwi1
 have i2 := uwi2
 go_enter Tryz.func43,Tryz.ntmps43
 go_wp2
 refine wp_loop_rounds 4 ?_
 rw [rounds_succ]
 go_wp2
 rw [rounds_succ]
 go_wp2
 rw [rounds_succ]
 go_wp2
 go_ret
 exact ⟨rfl,rfl⟩
set_option maxRecDepth 20000 in
theorem unit_3 {V w : World} (hT : Tabs V) (hV : Vs V w) : Calls Tryz.prog 43 #[.string ⟨#[102,117,110,99,116,105,111,110,95,98,108,111,99,107]⟩] w fun e w' => e = .returned (.int .i64 3) ∧ w = w' := by
 have X := (hV 0 (by decide)).trans hT.uw
 have x := at_cell X
 clear hT hV
 have i0 := uwi0
 have i1 := uwi1
 have i2 := uwi2
 have i3 := uwi3
 go_enter Tryz.func43,Tryz.ntmps43
 go_wp2
 refine wp_loop_rounds 5 ?_
 rw [rounds_succ]
 go_wp2
 rw [rounds_succ]
 go_wp2
 rw [rounds_succ]
 go_wp2
 rw [rounds_succ]
 go_wp2
 go_ret
 exact ⟨rfl,rfl⟩
set_option maxRecDepth 20000 in
theorem op_and {V w : World} (hT : Tabs V) (hV : Vs V w) : Calls Tryz.prog 208 #[.string ⟨#[38]⟩] w fun e w' => e = .returned (.int .i64 6) ∧ w = w' := by
 have X := (hV 9 (by decide)).trans hT.ow
 have x' := at_cell X
 clear hT hV
 go_enter Tryz.func208,Tryz.ntmps208
 go_wp2
 go_ret
 exact ⟨rfl,rfl⟩
set_option maxRecDepth 20000 in
theorem op_1 {V w : World} (hT : Tabs V) (hV : Vs V w) : Calls Tryz.prog 208 #[.string ⟨#[43]⟩] w fun e w' => e = .returned (.int .i64 1) ∧ w = w' := by
 have X := (hV 9 (by decide)).trans hT.ow
 have x' := at_cell X
 clear hT hV
 have i0 := owi0
 have i1 := owi1
 go_enter Tryz.func208,Tryz.ntmps208
 go_wp2
 refine wp_loop_rounds 3 ?_
 rw [rounds_succ]
 go_wp2
 rw [rounds_succ]
 go_wp2
 go_ret
 exact ⟨rfl,rfl⟩
set_option maxRecDepth 20000 in
theorem op_2 {V w : World} (hT : Tabs V) (hV : Vs V w) : Calls Tryz.prog 208 #[.string ⟨#[45]⟩] w fun e w' => e = .returned (.int .i64 2) ∧ w = w' := by
 have X := (hV 9 (by decide)).trans hT.ow
 have x' := at_cell X
 clear hT hV
 have i0 := owi0
 have i1 := owi1
 have i2 := owi2
 go_enter Tryz.func208,Tryz.ntmps208
 go_wp2
 refine wp_loop_rounds 4 ?_
 rw [rounds_succ]
 go_wp2
 rw [rounds_succ]
 go_wp2
 rw [rounds_succ]
 go_wp2
 go_ret
 exact ⟨rfl,rfl⟩
set_option maxRecDepth 20000 in
theorem op_3 {V w : World} (hT : Tabs V) (hV : Vs V w) : Calls Tryz.prog 208 #[.string ⟨#[42]⟩] w fun e w' => e = .returned (.int .i64 3) ∧ w = w' := by
 have X := (hV 9 (by decide)).trans hT.ow
 have x' := at_cell X
 clear hT hV
 have i0 := owi0
 have i1 := owi1
 have i2 := owi2
 have i3 := owi3
 go_enter Tryz.func208,Tryz.ntmps208
 go_wp2
 refine wp_loop_rounds 5 ?_
 rw [rounds_succ]
 go_wp2
 rw [rounds_succ]
 go_wp2
 rw [rounds_succ]
 go_wp2
 rw [rounds_succ]
 go_wp2
 go_ret
 exact ⟨rfl,rfl⟩
set_option maxRecDepth 20000 in
theorem op_4 {V w : World} (hT : Tabs V) (hV : Vs V w) : Calls Tryz.prog 208 #[.string ⟨#[47]⟩] w fun e w' => e = .returned (.int .i64 4) ∧ w = w' := by
 have X := (hV 9 (by decide)).trans hT.ow
 have x' := at_cell X
 clear hT hV
 have i0 := owi0
 have i1 := owi1
 have i2 := owi2
 have i3 := owi3
 have i4 := owi4
 go_enter Tryz.func208,Tryz.ntmps208
 go_wp2
 refine wp_loop_rounds 6 ?_
 rw [rounds_succ]
 go_wp2
 rw [rounds_succ]
 go_wp2
 rw [rounds_succ]
 go_wp2
 rw [rounds_succ]
 go_wp2
 rw [rounds_succ]
 go_wp2
 go_ret
 exact ⟨rfl,rfl⟩
set_option maxRecDepth 20000 in
theorem op_5 {V w : World} (hT : Tabs V) (hV : Vs V w) : Calls Tryz.prog 208 #[.string ⟨#[109,111,100]⟩] w fun e w' => e = .returned (.int .i64 5) ∧ w = w' := by
 have X := (hV 9 (by decide)).trans hT.ow
 have x' := at_cell X
 clear hT hV
 have i0 := owi0
 have i1 := owi1
 have i2 := owi2
 have i3 := owi3
 have i4 := owi4
 have i5 := owi5
 go_enter Tryz.func208,Tryz.ntmps208
 go_wp2
 refine wp_loop_rounds 7 ?_
 rw [rounds_succ]
 go_wp2
 rw [rounds_succ]
 go_wp2
 rw [rounds_succ]
 go_wp2
 rw [rounds_succ]
 go_wp2
 rw [rounds_succ]
 go_wp2
 rw [rounds_succ]
 go_wp2
 go_ret
 exact ⟨rfl,rfl⟩
set_option maxRecDepth 20000 in
theorem op_6 {V w : World} (hT : Tabs V) (hV : Vs V w) : Calls Tryz.prog 208 #[.string ⟨#[97,110,100]⟩] w fun e w' => e = .returned (.int .i64 6) ∧ w = w' := by
 have X := (hV 9 (by decide)).trans hT.ow
 have x' := at_cell X
 clear hT hV
 have i0 := owi0
 have i1 := owi1
 have i2 := owi2
 have i3 := owi3
 have i4 := owi4
 have i5 := owi5
 have i6 := owi6
 go_enter Tryz.func208,Tryz.ntmps208
 go_wp2
 refine wp_loop_rounds 8 ?_
 rw [rounds_succ]
 go_wp2
 rw [rounds_succ]
 go_wp2
 rw [rounds_succ]
 go_wp2
 rw [rounds_succ]
 go_wp2
 rw [rounds_succ]
 go_wp2
 rw [rounds_succ]
 go_wp2
 rw [rounds_succ]
 go_wp2
 go_ret
 exact ⟨rfl,rfl⟩
set_option maxRecDepth 20000 in
theorem op_7 {V w : World} (hT : Tabs V) (hV : Vs V w) : Calls Tryz.prog 208 #[.string ⟨#[111,114]⟩] w fun e w' => e = .returned (.int .i64 7) ∧ w = w' := by
 have X := (hV 9 (by decide)).trans hT.ow
 have x' := at_cell X
 clear hT hV
 have i0 := owi0
 have i1 := owi1
 have i2 := owi2
 have i3 := owi3
 have i4 := owi4
 have i5 := owi5
 have i6 := owi6
 have i7 := owi7
 go_enter Tryz.func208,Tryz.ntmps208
 go_wp2
 refine wp_loop_rounds 9 ?_
 rw [rounds_succ]
 go_wp2
 rw [rounds_succ]
 go_wp2
 rw [rounds_succ]
 go_wp2
 rw [rounds_succ]
 go_wp2
 rw [rounds_succ]
 go_wp2
 rw [rounds_succ]
 go_wp2
 rw [rounds_succ]
 go_wp2
 rw [rounds_succ]
 go_wp2
 go_ret
 exact ⟨rfl,rfl⟩
set_option maxRecDepth 20000 in
theorem op_8 {V w : World} (hT : Tabs V) (hV : Vs V w) : Calls Tryz.prog 208 #[.string ⟨#[120,111,114]⟩] w fun e w' => e = .returned (.int .i64 8) ∧ w = w' := by
 have X := (hV 9 (by decide)).trans hT.ow
 have x' := at_cell X
 clear hT hV
 have i0 := owi0
 have i1 := owi1
 have i2 := owi2
 have i3 := owi3
 have i4 := owi4
 have i5 := owi5
 have i6 := owi6
 have i7 := owi7
 have i8 := owi8
 go_enter Tryz.func208,Tryz.ntmps208
 go_wp2
 refine wp_loop_rounds 10 ?_
 rw [rounds_succ]
 go_wp2
 rw [rounds_succ]
 go_wp2
 rw [rounds_succ]
 go_wp2
 rw [rounds_succ]
 go_wp2
 rw [rounds_succ]
 go_wp2
 rw [rounds_succ]
 go_wp2
 rw [rounds_succ]
 go_wp2
 rw [rounds_succ]
 go_wp2
 rw [rounds_succ]
 go_wp2
 go_ret
 exact ⟨rfl,rfl⟩
set_option maxRecDepth 20000 in
theorem op_9 {V w : World} (hT : Tabs V) (hV : Vs V w) : Calls Tryz.prog 208 #[.string ⟨#[61]⟩] w fun e w' => e = .returned (.int .i64 9) ∧ w = w' := by
 have X := (hV 9 (by decide)).trans hT.ow
 have x' := at_cell X
 clear hT hV
 have i0 := owi0
 have i1 := owi1
 have i2 := owi2
 have i3 := owi3
 have i4 := owi4
 have i5 := owi5
 have i6 := owi6
 have i7 := owi7
 have i8 := owi8
 have i9 := owi9
 go_enter Tryz.func208,Tryz.ntmps208
 go_wp2
 refine wp_loop_rounds 11 ?_
 rw [rounds_succ]
 go_wp2
 rw [rounds_succ]
 go_wp2
 rw [rounds_succ]
 go_wp2
 rw [rounds_succ]
 go_wp2
 rw [rounds_succ]
 go_wp2
 rw [rounds_succ]
 go_wp2
 rw [rounds_succ]
 go_wp2
 rw [rounds_succ]
 go_wp2
 rw [rounds_succ]
 go_wp2
 rw [rounds_succ]
 go_wp2
 go_ret
 exact ⟨rfl,rfl⟩
set_option maxRecDepth 20000 in
theorem op_10 {V w : World} (hT : Tabs V) (hV : Vs V w) : Calls Tryz.prog 208 #[.string ⟨#[60,62]⟩] w fun e w' => e = .returned (.int .i64 10) ∧ w = w' := by
 have X := (hV 9 (by decide)).trans hT.ow
 have x' := at_cell X
 clear hT hV
 have i0 := owi0
 have i1 := owi1
 have i2 := owi2
 have i3 := owi3
 have i4 := owi4
 have i5 := owi5
 have i6 := owi6
 have i7 := owi7
 have i8 := owi8
 have i9 := owi9
 have i10 := owi10
 go_enter Tryz.func208,Tryz.ntmps208
 go_wp2
 refine wp_loop_rounds 12 ?_
 rw [rounds_succ]
 go_wp2
 rw [rounds_succ]
 go_wp2
 rw [rounds_succ]
 go_wp2
 rw [rounds_succ]
 go_wp2
 rw [rounds_succ]
 go_wp2
 rw [rounds_succ]
 go_wp2
 rw [rounds_succ]
 go_wp2
 rw [rounds_succ]
 go_wp2
 rw [rounds_succ]
 go_wp2
 rw [rounds_succ]
 go_wp2
 rw [rounds_succ]
 go_wp2
 go_ret
 exact ⟨rfl,rfl⟩
set_option maxRecDepth 20000 in
theorem op_11 {V w : World} (hT : Tabs V) (hV : Vs V w) : Calls Tryz.prog 208 #[.string ⟨#[60]⟩] w fun e w' => e = .returned (.int .i64 11) ∧ w = w' := by
 have X := (hV 9 (by decide)).trans hT.ow
 have x' := at_cell X
 clear hT hV
 have i0 := owi0
 have i1 := owi1
 have i2 := owi2
 have i3 := owi3
 have i4 := owi4
 have i5 := owi5
 have i6 := owi6
 have i7 := owi7
 have i8 := owi8
 have i9 := owi9
 have i10 := owi10
 have i11 := owi11
 go_enter Tryz.func208,Tryz.ntmps208
 go_wp2
 refine wp_loop_rounds 13 ?_
 rw [rounds_succ]
 go_wp2
 rw [rounds_succ]
 go_wp2
 rw [rounds_succ]
 go_wp2
 rw [rounds_succ]
 go_wp2
 rw [rounds_succ]
 go_wp2
 rw [rounds_succ]
 go_wp2
 rw [rounds_succ]
 go_wp2
 rw [rounds_succ]
 go_wp2
 rw [rounds_succ]
 go_wp2
 rw [rounds_succ]
 go_wp2
 rw [rounds_succ]
 go_wp2
 rw [rounds_succ]
 go_wp2
 go_ret
 exact ⟨rfl,rfl⟩
set_option maxRecDepth 20000 in
theorem op_12 {V w : World} (hT : Tabs V) (hV : Vs V w) : Calls Tryz.prog 208 #[.string ⟨#[60,61]⟩] w fun e w' => e = .returned (.int .i64 12) ∧ w = w' := by
 have X := (hV 9 (by decide)).trans hT.ow
 have x' := at_cell X
 clear hT hV
 have i0 := owi0
 have i1 := owi1
 have i2 := owi2
 have i3 := owi3
 have i4 := owi4
 have i5 := owi5
 have i6 := owi6
 have i7 := owi7
 have i8 := owi8
 have i9 := owi9
 have i10 := owi10
 have i11 := owi11
 have i12 := owi12
 go_enter Tryz.func208,Tryz.ntmps208
 go_wp2
 refine wp_loop_rounds 14 ?_
 rw [rounds_succ]
 go_wp2
 rw [rounds_succ]
 go_wp2
 rw [rounds_succ]
 go_wp2
 rw [rounds_succ]
 go_wp2
 rw [rounds_succ]
 go_wp2
 rw [rounds_succ]
 go_wp2
 rw [rounds_succ]
 go_wp2
 rw [rounds_succ]
 go_wp2
 rw [rounds_succ]
 go_wp2
 rw [rounds_succ]
 go_wp2
 rw [rounds_succ]
 go_wp2
 rw [rounds_succ]
 go_wp2
 rw [rounds_succ]
 go_wp2
 go_ret
 exact ⟨rfl,rfl⟩
set_option maxRecDepth 20000 in
theorem op_13 {V w : World} (hT : Tabs V) (hV : Vs V w) : Calls Tryz.prog 208 #[.string ⟨#[62]⟩] w fun e w' => e = .returned (.int .i64 13) ∧ w = w' := by
 have X := (hV 9 (by decide)).trans hT.ow
 have x' := at_cell X
 clear hT hV
 have i0 := owi0
 have i1 := owi1
 have i2 := owi2
 have i3 := owi3
 have i4 := owi4
 have i5 := owi5
 have i6 := owi6
 have i7 := owi7
 have i8 := owi8
 have i9 := owi9
 have i10 := owi10
 have i11 := owi11
 have i12 := owi12
 have i13 := owi13
 go_enter Tryz.func208,Tryz.ntmps208
 go_wp2
 refine wp_loop_rounds 15 ?_
 rw [rounds_succ]
 go_wp2
 rw [rounds_succ]
 go_wp2
 rw [rounds_succ]
 go_wp2
 rw [rounds_succ]
 go_wp2
 rw [rounds_succ]
 go_wp2
 rw [rounds_succ]
 go_wp2
 rw [rounds_succ]
 go_wp2
 rw [rounds_succ]
 go_wp2
 rw [rounds_succ]
 go_wp2
 rw [rounds_succ]
 go_wp2
 rw [rounds_succ]
 go_wp2
 rw [rounds_succ]
 go_wp2
 rw [rounds_succ]
 go_wp2
 rw [rounds_succ]
 go_wp2
 go_ret
 exact ⟨rfl,rfl⟩
set_option maxRecDepth 20000 in
theorem op_14 {V w : World} (hT : Tabs V) (hV : Vs V w) : Calls Tryz.prog 208 #[.string ⟨#[62,61]⟩] w fun e w' => e = .returned (.int .i64 14) ∧ w = w' := by
 have X := (hV 9 (by decide)).trans hT.ow
 have x' := at_cell X
 clear hT hV
 have i0 := owi0
 have i1 := owi1
 have i2 := owi2
 have i3 := owi3
 have i4 := owi4
 have i5 := owi5
 have i6 := owi6
 have i7 := owi7
 have i8 := owi8
 have i9 := owi9
 have i10 := owi10
 have i11 := owi11
 have i12 := owi12
 have i13 := owi13
 have i14 := owi14
 go_enter Tryz.func208,Tryz.ntmps208
 go_wp2
 refine wp_loop_rounds 16 ?_
 rw [rounds_succ]
 go_wp2
 rw [rounds_succ]
 go_wp2
 rw [rounds_succ]
 go_wp2
 rw [rounds_succ]
 go_wp2
 rw [rounds_succ]
 go_wp2
 rw [rounds_succ]
 go_wp2
 rw [rounds_succ]
 go_wp2
 rw [rounds_succ]
 go_wp2
 rw [rounds_succ]
 go_wp2
 rw [rounds_succ]
 go_wp2
 rw [rounds_succ]
 go_wp2
 rw [rounds_succ]
 go_wp2
 rw [rounds_succ]
 go_wp2
 rw [rounds_succ]
 go_wp2
 rw [rounds_succ]
 go_wp2
 go_ret
 exact ⟨rfl,rfl⟩
set_option maxRecDepth 20000 in
theorem op_none {V w : World} (hT : Tabs V) (hV : Vs V w) (x : ByteArray) (h1 : ([43] == x.toList) = false) (h2 : ([45] == x.toList) = false) (h3 : ([42] == x.toList) = false) (h4 : ([47] == x.toList) = false) (h5 : ([109,111,100] == x.toList) = false) (h6 : ([97,110,100] == x.toList) = false) (h7 : ([111,114] == x.toList) = false) (h8 : ([120,111,114] == x.toList) = false) (h9 : ([61] == x.toList) = false) (h10 : ([60,62] == x.toList) = false) (h11 : ([60] == x.toList) = false) (h12 : ([60,61] == x.toList) = false) (h13 : ([62] == x.toList) = false) (h14 : ([62,61] == x.toList) = false) (ha : (x.toList == [38]) = false) : Calls Tryz.prog 208 #[.string x] w fun e w' => e = .returned (.int .i64 0) ∧ w = w' := by
 have X := (hV 9 (by decide)).trans hT.ow
 have x' := at_cell X
 clear hT hV
 have i0 := owi0
 have i1 := owi1
 have i2 := owi2
 have i3 := owi3
 have i4 := owi4
 have i5 := owi5
 have i6 := owi6
 have i7 := owi7
 have i8 := owi8
 have i9 := owi9
 have i10 := owi10
 have i11 := owi11
 have i12 := owi12
 have i13 := owi13
 have i14 := owi14
 go_enter Tryz.func208,Tryz.ntmps208
 go_wp2
 refine wp_loop_rounds 17 ?_
 rw [rounds_succ]
 go_wp2
 rw [rounds_succ]
 go_wp2
 rw [rounds_succ]
 go_wp2
 rw [rounds_succ]
 go_wp2
 rw [rounds_succ]
 go_wp2
 rw [rounds_succ]
 go_wp2
 rw [rounds_succ]
 go_wp2
 rw [rounds_succ]
 go_wp2
 rw [rounds_succ]
 go_wp2
 rw [rounds_succ]
 go_wp2
 rw [rounds_succ]
 go_wp2
 rw [rounds_succ]
 go_wp2
 rw [rounds_succ]
 go_wp2
 rw [rounds_succ]
 go_wp2
 rw [rounds_succ]
 go_wp2
 rw [rounds_succ]
 go_wp2
 go_ret
 exact ⟨rfl,rfl⟩
theorem lstS (l : List UInt8) (x : ByteArray) (h : x ≠ ⟨l.toArray⟩) : (l == x.toList) = false := by
 have := eqS x l
 rw [Bool.eq_false_iff]
 intro e
 have e' : l = x.toList := by simpa using e
 rw [← e'] at this
 simp at this
 exact h this
theorem op_any {V w : World} (hT : Tabs V) (hV : Vs V w) (x : ByteArray) : Calls Tryz.prog 208 #[.string x] w fun e w' => e = .returned (.int .i64 (opS x)) ∧ w = w' := by
 by_cases ha : x = ⟨#[38]⟩
 · subst ha; exact op_and hT hV
 by_cases h1 : x = ⟨#[43]⟩
 · subst h1; exact op_1 hT hV
 by_cases h2 : x = ⟨#[45]⟩
 · subst h2; exact op_2 hT hV
 by_cases h3 : x = ⟨#[42]⟩
 · subst h3; exact op_3 hT hV
 by_cases h4 : x = ⟨#[47]⟩
 · subst h4; exact op_4 hT hV
 by_cases h5 : x = ⟨#[109,111,100]⟩
 · subst h5; exact op_5 hT hV
 by_cases h6 : x = ⟨#[97,110,100]⟩
 · subst h6; exact op_6 hT hV
 by_cases h7 : x = ⟨#[111,114]⟩
 · subst h7; exact op_7 hT hV
 by_cases h8 : x = ⟨#[120,111,114]⟩
 · subst h8; exact op_8 hT hV
 by_cases h9 : x = ⟨#[61]⟩
 · subst h9; exact op_9 hT hV
 by_cases h10 : x = ⟨#[60,62]⟩
 · subst h10; exact op_10 hT hV
 by_cases h11 : x = ⟨#[60]⟩
 · subst h11; exact op_11 hT hV
 by_cases h12 : x = ⟨#[60,61]⟩
 · subst h12; exact op_12 hT hV
 by_cases h13 : x = ⟨#[62]⟩
 · subst h13; exact op_13 hT hV
 by_cases h14 : x = ⟨#[62,61]⟩
 · subst h14; exact op_14 hT hV
 have := op_none hT hV x (lstS _ x h1) (lstS _ x h2) (lstS _ x h3) (lstS _ x h4) (lstS _ x h5) (lstS _ x h6) (lstS _ x h7) (lstS _ x h8) (lstS _ x h9) (lstS _ x h10) (lstS _ x h11) (lstS _ x h12) (lstS _ x h13) (lstS _ x h14) (by rw [eqS]; simpa using ha)
 rw [opS]
 simp only [ha,h1,h2,h3,h4,h5,h6,h7,h8,h9,h10,h11,h12,h13,h14,if_false]
 exact this
theorem opS_bd (x : ByteArray) : 0 ≤ opS x ∧ opS x ≤ 14 := by
 unfold opS
 repeat' (split; omega)
 omega
set_option maxRecDepth 20000 in
theorem level_any {V w : World} (hT : Tabs V) (hV : Vs V w) (o : Int) (h0 : 0 ≤ o) (h1 : o ≤ 14) : Calls Tryz.prog 75 #[.int .i64 o] w fun e w' => e = .returned (.int .i64 (lvS o)) ∧ w = w' := by
 have X := (hV 3 (by decide)).trans hT.ol
 have x := at_cell X
 clear hT hV
 have hc : o = 0 ∨ o = 1 ∨ o = 2 ∨ o = 3 ∨ o = 4 ∨ o = 5 ∨ o = 6 ∨ o = 7 ∨ o = 8 ∨ o = 9 ∨ o = 10 ∨ o = 11 ∨ o = 12 ∨ o = 13 ∨ o = 14 := by omega
 rcases hc with rfl | rfl | rfl | rfl | rfl | rfl | rfl | rfl | rfl | rfl | rfl | rfl | rfl | rfl | rfl
 all_goals
  go_enter Tryz.func75,Tryz.ntmps75
  go_wp2
  go_ret
  exact ⟨rfl,rfl⟩
end Go.Proofs.YtdcoidmbainkmaaGreatDoor
