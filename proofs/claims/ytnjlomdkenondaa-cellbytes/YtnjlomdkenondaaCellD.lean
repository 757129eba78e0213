/- Contracts of reckon, mask. -/
import Derived.Test.YtnjlomdkenondaaCellC
namespace Go.Proofs.Ytnjlomdkenondaa
open Go.RowKit

def reckK (op a b : Int) : Int :=
  if op == 1 then wrap64 (a + b) else if op == 2 then wrap64 (a - b) else if op == 3 then wrap64 (a * b)
  else if op == 4 then wrap64 (a.tdiv b) else if op == 5 then a.tmod b
  else if op == 19 then (if b < a then b else a) else if op == 20 then (if a < b then b else a)
  else if op == 22 then wrap64 (-a) else (if a < wrap64 (-a) then wrap64 (-a) else a)
set_option maxHeartbeats 1000000 in
theorem reckon_any (op a b : Int) (w : World) (hb : b = 0 → (op == 4) = false ∧ (op == 5) = false) :
    Calls Try.prog 38 #[.int .i64 op, .int .i64 a, .int .i64 b] w fun e w' => e = .returned (.int .i64 (reckK op a b)) ∧ w' = w := by
  by_cases h0 : b = 0
  · obtain ⟨h4, h5⟩ := hb h0
    clear hb
    have H0 : Hid (b = 0) := h0
    clear h0
    go_enter Try.func38, Try.ntmps38
    go_wp2
    all_goals go_ret
    all_goals refine ⟨ret_int ?_, rfl⟩
    all_goals simp [reckK, *] <;> omega
  · clear hb
    go_enter Try.func38, Try.ntmps38
    go_wp2
    all_goals go_ret
    all_goals refine ⟨ret_int ?_, rfl⟩
    all_goals simp [reckK, *] <;> omega

def maskK (op a b : Int) : Int :=
  if op == 6 then bits BinOp.and IntKind.i64 a b else if op == 7 then bits BinOp.or IntKind.i64 a b
  else if op == 8 then bits BinOp.xor IntKind.i64 a b else bits BinOp.xor IntKind.i64 (-1) a
set_option maxHeartbeats 1000000 in
theorem mask_any (op a b : Int) (w : World) :
    Calls Try.prog 35 #[.int .i64 op, .int .i64 a, .int .i64 b] w fun e w' => e = .returned (.int .i64 (maskK op a b)) ∧ w' = w := by
  go_enter Try.func35, Try.ntmps35
  go_wp2
  all_goals go_ret
  all_goals refine ⟨ret_int ?_, rfl⟩
  all_goals simp [maskK, *]
end Go.Proofs.Ytnjlomdkenondaa
