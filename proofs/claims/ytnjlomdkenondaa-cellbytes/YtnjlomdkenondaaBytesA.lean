/- Contracts of size, bytesOf, Put, PutValue. -/
import Derived.Test.YtnjlomdkenondaaRefA
import Derived.Laws.OwnMore
import Derived.Laws.BytesArg
namespace Go.Proofs.Ytnjlomdkenondaa
open Go.RowKit

def sizeK (k : Int) : Int := if k == 1 then 1 else if k == 2 || k == 4 then 2 else 4
theorem size_any (k : Int) (w : World) :
    Calls Try.prog 32 #[.int .i64 k] w fun e w' => e = .returned (.int .i64 (sizeK k)) ∧ w' = w := by
  go_enter Try.func32, Try.ntmps32
  go_wp2
  all_goals go_ret
  all_goals refine ⟨ret_int ?_, rfl⟩
  all_goals simp [sizeK, *]
theorem bytesOf_any (k : Int) (w : World) :
    Calls Try.prog 33 #[.int .i64 k] w fun e w' => e = .returned (.int .i64 (sizeK k)) ∧ w' = w := by
  by_cases c1 : (k == 1) = true
  · go_enter Try.func33, Try.ntmps33
    go_wp2
    go_ret
    exact ⟨ret_int (by simp [sizeK, c1]), rfl⟩
  · have c1 : (k == 1) = false := by simpa using c1
    by_cases c2 : (k == 2) = true
    · go_enter Try.func33, Try.ntmps33
      go_wp2
      go_ret
      exact ⟨ret_int (by simp [sizeK, c1, c2]), rfl⟩
    · have c2 : (k == 2) = false := by simpa using c2
      by_cases c4 : (k == 4) = true
      · go_enter Try.func33, Try.ntmps33
        go_wp2
        go_ret
        exact ⟨ret_int (by simp [sizeK, c1, c2, c4]), rfl⟩
      · have c4 : (k == 4) = false := by simpa using c4
        go_enter Try.func33, Try.ntmps33
        go_wp2
        go_ret
        exact ⟨ret_int (by simp [sizeK, c1, c2, c4]), rfl⟩

/-- The bytes of a value, the highest first; none where it does not fit. -/
def putL (k n : Int) : List Int :=
  if fitsK k n = true then (if k == 1 then [n % 256] else if k == 2 || k == 4 then [n / 256 % 256, n % 256] else [n / 16777216 % 256, n / 65536 % 256, n / 256 % 256, n % 256]) else []

/-- A row that was just made. -/
theorem made_row {w : World} {l : List Int} (cs : Array Value) (h : l.map (Value.int .u8) = cs.toList) (hm : l.length ≤ 4) :
    (w.alloc (.cells cs 5)).ownsRow w.heap.size 5 1 (.slice (some ⟨w.heap.size, 0, none⟩) l.length l.length) l.length (l.map (Value.int .u8)) := by
  have h2 : cs.size = l.length := by
    have := congrArg List.length h
    simp at this
    omega
  rw [h]
  exact World.ownsRow_lit w cs l.length (Nat.le_refl _) (by unfold maxLen; omega) (by omega)
theorem byte_wrap (n : Int) : IntKind.u8.wrap n = n % 256 := IntKind.wrap_u8 n

theorem putL1 {n : Int} (hf : fitsK 1 n = true) : putL 1 n = [n % 256] := by simp [putL, hf]
theorem fits1 {n : Int} (hf : fitsK 1 n = true) : 0 ≤ n ∧ n ≤ 1 := by
  simp [fitsK, isK, wrapK1] at hf
  omega
set_option maxHeartbeats 1000000 in
theorem put1 (n : Int) (w : World) (hf : fitsK 1 n = true) :
    Calls Try.prog 19 #[.int .i64 1, .int .i64 n] w fun e w' => e = .returned (.slice (some ⟨w.heap.size, 0, none⟩) (putL 1 n).length (putL 1 n).length) ∧ w'.ownsRow w.heap.size 5 1 (.slice (some ⟨w.heap.size, 0, none⟩) (putL 1 n).length (putL 1 n).length) (putL 1 n).length ((putL 1 n).map (Value.int .u8)) ∧ Below w.heap.size w w' := by
  have e1 : sizeK 1 = 1 := by decide
  have HP : Hid (putL 1 n = [n % 256]) := putL1 hf
  have hmk : ∀ w : World, (Instr.makeSlice 31 (.int .i64 1) (.int .i64 1)).run Try.prog w = .ok (.slice (some ⟨w.heap.size, 0, none⟩) 1 1) (w.alloc (.cells #[.int .u8 0] 5)) := fun _ => by kernel_rfl
  go_enter Try.func19, Try.ntmps19
  go_wp2_with (first | (go_at_call 9; refine (fits_any _ _ _).mono ?_; rintro e w' ⟨rfl, rfl⟩) | (go_at_call 32; refine (size_any _ _).mono ?_; rintro e w' ⟨rfl, rfl⟩))
  refine wp_loop_rounds 2 ?_
  rw [rounds_succ]
  go_wp2
  rw [rounds_succ]
  go_wp2
  go_ret
  refine ⟨by rw [HP.out]; rfl, ?_, (Below.refl _ _).alloc (Nat.le_refl _) _⟩
  rw [HP.out]
  refine made_row _ ?_ (by simp)
  simp
set_option maxHeartbeats 1000000 in
theorem rput1 (n : Int) (w : World) (hf : fitsK 1 n = true) :
    Calls Try.prog 20 #[.int .i64 1, .int .i64 n] w fun e w' => e = .returned (.slice (some ⟨w.heap.size, 0, none⟩) (putL 1 n).length (putL 1 n).length) ∧ w'.ownsRow w.heap.size 5 1 (.slice (some ⟨w.heap.size, 0, none⟩) (putL 1 n).length (putL 1 n).length) (putL 1 n).length ((putL 1 n).map (Value.int .u8)) ∧ Below w.heap.size w w' := by
  have e1 : sizeK 1 = 1 := by decide
  have e2 : wideS 1 = 2 := by decide
  have hb := fits1 hf
  have HP : Hid (putL 1 n = [n % 256]) := putL1 hf
  have hmk : ∀ w : World, (Instr.makeSlice 31 (.int .i64 1) (.int .i64 1)).run Try.prog w = .ok (.slice (some ⟨w.heap.size, 0, none⟩) 1 1) (w.alloc (.cells #[.int .u8 0] 5)) := fun _ => by kernel_rfl
  go_enter Try.func20, Try.ntmps20
  go_wp2_with (first | (go_at_call 10; refine (rfits_any _ _ _).mono ?_; rintro e w' ⟨rfl, rfl⟩) | (go_at_call 33; refine (bytesOf_any _ _).mono ?_; rintro e w' ⟨rfl, rfl⟩) | (go_at_call 30; refine (width_any _ _).mono ?_; rintro e w' ⟨rfl, rfl⟩))
  refine wp_loop_rounds 2 ?_
  rw [rounds_succ]
  go_wp2
  rw [rounds_succ]
  go_wp2
  go_ret
  refine ⟨by rw [HP.out]; rfl, ?_, (Below.refl _ _).alloc (Nat.le_refl _) _⟩
  rw [HP.out]
  refine made_row _ ?_ (by simp)
  simp <;> omega

theorem putL2 {n : Int} (hf : fitsK 2 n = true) : putL 2 n = [n / 256 % 256, n % 256] := by simp [putL, hf]
theorem fits2 {n : Int} (hf : fitsK 2 n = true) : -32768 ≤ n ∧ n ≤ 32767 := by
  simp [fitsK, isK, wrapK2] at hf
  omega
set_option maxHeartbeats 1000000 in
theorem put2 (n : Int) (w : World) (hf : fitsK 2 n = true) :
    Calls Try.prog 19 #[.int .i64 2, .int .i64 n] w fun e w' => e = .returned (.slice (some ⟨w.heap.size, 0, none⟩) (putL 2 n).length (putL 2 n).length) ∧ w'.ownsRow w.heap.size 5 1 (.slice (some ⟨w.heap.size, 0, none⟩) (putL 2 n).length (putL 2 n).length) (putL 2 n).length ((putL 2 n).map (Value.int .u8)) ∧ Below w.heap.size w w' := by
  have e1 : sizeK 2 = 2 := by decide
  have HP : Hid (putL 2 n = [n / 256 % 256, n % 256]) := putL2 hf
  have hmk : ∀ w : World, (Instr.makeSlice 31 (.int .i64 2) (.int .i64 2)).run Try.prog w = .ok (.slice (some ⟨w.heap.size, 0, none⟩) 2 2) (w.alloc (.cells #[.int .u8 0, .int .u8 0] 5)) := fun _ => by kernel_rfl
  go_enter Try.func19, Try.ntmps19
  go_wp2_with (first | (go_at_call 9; refine (fits_any _ _ _).mono ?_; rintro e w' ⟨rfl, rfl⟩) | (go_at_call 32; refine (size_any _ _).mono ?_; rintro e w' ⟨rfl, rfl⟩))
  refine wp_loop_rounds 3 ?_
  rw [rounds_succ]
  go_wp2
  rw [rounds_succ]
  go_wp2
  rw [rounds_succ]
  go_wp2
  go_ret
  refine ⟨by rw [HP.out]; rfl, ?_, (Below.refl _ _).alloc (Nat.le_refl _) _⟩
  rw [HP.out]
  refine made_row _ ?_ (by simp)
  simp
set_option maxHeartbeats 1000000 in
theorem rput2 (n : Int) (w : World) (hf : fitsK 2 n = true) :
    Calls Try.prog 20 #[.int .i64 2, .int .i64 n] w fun e w' => e = .returned (.slice (some ⟨w.heap.size, 0, none⟩) (putL 2 n).length (putL 2 n).length) ∧ w'.ownsRow w.heap.size 5 1 (.slice (some ⟨w.heap.size, 0, none⟩) (putL 2 n).length (putL 2 n).length) (putL 2 n).length ((putL 2 n).map (Value.int .u8)) ∧ Below w.heap.size w w' := by
  have e1 : sizeK 2 = 2 := by decide
  have e2 : wideS 2 = 65536 := by decide
  have hb := fits2 hf
  have HP : Hid (putL 2 n = [n / 256 % 256, n % 256]) := putL2 hf
  have hmk : ∀ w : World, (Instr.makeSlice 31 (.int .i64 2) (.int .i64 2)).run Try.prog w = .ok (.slice (some ⟨w.heap.size, 0, none⟩) 2 2) (w.alloc (.cells #[.int .u8 0, .int .u8 0] 5)) := fun _ => by kernel_rfl
  by_cases hn : n < 0
  · go_enter Try.func20, Try.ntmps20
    go_wp2_with (first | (go_at_call 10; refine (rfits_any _ _ _).mono ?_; rintro e w' ⟨rfl, rfl⟩) | (go_at_call 33; refine (bytesOf_any _ _).mono ?_; rintro e w' ⟨rfl, rfl⟩) | (go_at_call 30; refine (width_any _ _).mono ?_; rintro e w' ⟨rfl, rfl⟩))
    refine wp_loop_rounds 3 ?_
    rw [rounds_succ]
    go_wp2
    rw [rounds_succ]
    go_wp2
    rw [rounds_succ]
    go_wp2
    go_ret
    refine ⟨by rw [HP.out]; rfl, ?_, (Below.refl _ _).alloc (Nat.le_refl _) _⟩
    rw [HP.out]
    refine made_row _ ?_ (by simp)
    simp <;> omega
  · go_enter Try.func20, Try.ntmps20
    go_wp2_with (first | (go_at_call 10; refine (rfits_any _ _ _).mono ?_; rintro e w' ⟨rfl, rfl⟩) | (go_at_call 33; refine (bytesOf_any _ _).mono ?_; rintro e w' ⟨rfl, rfl⟩) | (go_at_call 30; refine (width_any _ _).mono ?_; rintro e w' ⟨rfl, rfl⟩))
    refine wp_loop_rounds 3 ?_
    rw [rounds_succ]
    go_wp2
    rw [rounds_succ]
    go_wp2
    rw [rounds_succ]
    go_wp2
    go_ret
    refine ⟨by rw [HP.out]; rfl, ?_, (Below.refl _ _).alloc (Nat.le_refl _) _⟩
    rw [HP.out]
    refine made_row _ ?_ (by simp)
    simp <;> omega

theorem putL3 {n : Int} (hf : fitsK 3 n = true) : putL 3 n = [n / 16777216 % 256, n / 65536 % 256, n / 256 % 256, n % 256] := by simp [putL, hf]
theorem fits3 {n : Int} (hf : fitsK 3 n = true) : -2147483648 ≤ n ∧ n ≤ 2147483647 := by
  simp [fitsK, isK, wrapK3] at hf
  omega
set_option maxHeartbeats 1000000 in
theorem put3 (n : Int) (w : World) (hf : fitsK 3 n = true) :
    Calls Try.prog 19 #[.int .i64 3, .int .i64 n] w fun e w' => e = .returned (.slice (some ⟨w.heap.size, 0, none⟩) (putL 3 n).length (putL 3 n).length) ∧ w'.ownsRow w.heap.size 5 1 (.slice (some ⟨w.heap.size, 0, none⟩) (putL 3 n).length (putL 3 n).length) (putL 3 n).length ((putL 3 n).map (Value.int .u8)) ∧ Below w.heap.size w w' := by
  have e1 : sizeK 3 = 4 := by decide
  have HP : Hid (putL 3 n = [n / 16777216 % 256, n / 65536 % 256, n / 256 % 256, n % 256]) := putL3 hf
  have hmk : ∀ w : World, (Instr.makeSlice 31 (.int .i64 4) (.int .i64 4)).run Try.prog w = .ok (.slice (some ⟨w.heap.size, 0, none⟩) 4 4) (w.alloc (.cells #[.int .u8 0, .int .u8 0, .int .u8 0, .int .u8 0] 5)) := fun _ => by kernel_rfl
  go_enter Try.func19, Try.ntmps19
  go_wp2_with (first | (go_at_call 9; refine (fits_any _ _ _).mono ?_; rintro e w' ⟨rfl, rfl⟩) | (go_at_call 32; refine (size_any _ _).mono ?_; rintro e w' ⟨rfl, rfl⟩))
  refine wp_loop_rounds 5 ?_
  rw [rounds_succ]
  go_wp2
  rw [rounds_succ]
  go_wp2
  rw [rounds_succ]
  go_wp2
  rw [rounds_succ]
  go_wp2
  rw [rounds_succ]
  go_wp2
  go_ret
  refine ⟨by rw [HP.out]; rfl, ?_, (Below.refl _ _).alloc (Nat.le_refl _) _⟩
  rw [HP.out]
  refine made_row _ ?_ (by simp)
  simp <;> omega
set_option maxHeartbeats 1000000 in
theorem rput3 (n : Int) (w : World) (hf : fitsK 3 n = true) :
    Calls Try.prog 20 #[.int .i64 3, .int .i64 n] w fun e w' => e = .returned (.slice (some ⟨w.heap.size, 0, none⟩) (putL 3 n).length (putL 3 n).length) ∧ w'.ownsRow w.heap.size 5 1 (.slice (some ⟨w.heap.size, 0, none⟩) (putL 3 n).length (putL 3 n).length) (putL 3 n).length ((putL 3 n).map (Value.int .u8)) ∧ Below w.heap.size w w' := by
  have e1 : sizeK 3 = 4 := by decide
  have e2 : wideS 3 = 4294967296 := by decide
  have hb := fits3 hf
  have HP : Hid (putL 3 n = [n / 16777216 % 256, n / 65536 % 256, n / 256 % 256, n % 256]) := putL3 hf
  have hmk : ∀ w : World, (Instr.makeSlice 31 (.int .i64 4) (.int .i64 4)).run Try.prog w = .ok (.slice (some ⟨w.heap.size, 0, none⟩) 4 4) (w.alloc (.cells #[.int .u8 0, .int .u8 0, .int .u8 0, .int .u8 0] 5)) := fun _ => by kernel_rfl
  by_cases hn : n < 0
  · go_enter Try.func20, Try.ntmps20
    go_wp2_with (first | (go_at_call 10; refine (rfits_any _ _ _).mono ?_; rintro e w' ⟨rfl, rfl⟩) | (go_at_call 33; refine (bytesOf_any _ _).mono ?_; rintro e w' ⟨rfl, rfl⟩) | (go_at_call 30; refine (width_any _ _).mono ?_; rintro e w' ⟨rfl, rfl⟩))
    refine wp_loop_rounds 5 ?_
    rw [rounds_succ]
    go_wp2
    rw [rounds_succ]
    go_wp2
    rw [rounds_succ]
    go_wp2
    rw [rounds_succ]
    go_wp2
    rw [rounds_succ]
    go_wp2
    go_ret
    refine ⟨by rw [HP.out]; rfl, ?_, (Below.refl _ _).alloc (Nat.le_refl _) _⟩
    rw [HP.out]
    refine made_row _ ?_ (by simp)
    simp <;> omega
  · go_enter Try.func20, Try.ntmps20
    go_wp2_with (first | (go_at_call 10; refine (rfits_any _ _ _).mono ?_; rintro e w' ⟨rfl, rfl⟩) | (go_at_call 33; refine (bytesOf_any _ _).mono ?_; rintro e w' ⟨rfl, rfl⟩) | (go_at_call 30; refine (width_any _ _).mono ?_; rintro e w' ⟨rfl, rfl⟩))
    refine wp_loop_rounds 5 ?_
    rw [rounds_succ]
    go_wp2
    rw [rounds_succ]
    go_wp2
    rw [rounds_succ]
    go_wp2
    rw [rounds_succ]
    go_wp2
    rw [rounds_succ]
    go_wp2
    go_ret
    refine ⟨by rw [HP.out]; rfl, ?_, (Below.refl _ _).alloc (Nat.le_refl _) _⟩
    rw [HP.out]
    refine made_row _ ?_ (by simp)
    simp <;> omega

theorem putL4 {n : Int} (hf : fitsK 4 n = true) : putL 4 n = [n / 256 % 256, n % 256] := by simp [putL, hf]
theorem fits4 {n : Int} (hf : fitsK 4 n = true) : 0 ≤ n ∧ n ≤ 65535 := by
  simp [fitsK, isK, wrapK4] at hf
  omega
set_option maxHeartbeats 1000000 in
theorem put4 (n : Int) (w : World) (hf : fitsK 4 n = true) :
    Calls Try.prog 19 #[.int .i64 4, .int .i64 n] w fun e w' => e = .returned (.slice (some ⟨w.heap.size, 0, none⟩) (putL 4 n).length (putL 4 n).length) ∧ w'.ownsRow w.heap.size 5 1 (.slice (some ⟨w.heap.size, 0, none⟩) (putL 4 n).length (putL 4 n).length) (putL 4 n).length ((putL 4 n).map (Value.int .u8)) ∧ Below w.heap.size w w' := by
  have e1 : sizeK 4 = 2 := by decide
  have HP : Hid (putL 4 n = [n / 256 % 256, n % 256]) := putL4 hf
  have hmk : ∀ w : World, (Instr.makeSlice 31 (.int .i64 2) (.int .i64 2)).run Try.prog w = .ok (.slice (some ⟨w.heap.size, 0, none⟩) 2 2) (w.alloc (.cells #[.int .u8 0, .int .u8 0] 5)) := fun _ => by kernel_rfl
  go_enter Try.func19, Try.ntmps19
  go_wp2_with (first | (go_at_call 9; refine (fits_any _ _ _).mono ?_; rintro e w' ⟨rfl, rfl⟩) | (go_at_call 32; refine (size_any _ _).mono ?_; rintro e w' ⟨rfl, rfl⟩))
  refine wp_loop_rounds 3 ?_
  rw [rounds_succ]
  go_wp2
  rw [rounds_succ]
  go_wp2
  rw [rounds_succ]
  go_wp2
  go_ret
  refine ⟨by rw [HP.out]; rfl, ?_, (Below.refl _ _).alloc (Nat.le_refl _) _⟩
  rw [HP.out]
  refine made_row _ ?_ (by simp)
  simp
set_option maxHeartbeats 1000000 in
theorem rput4 (n : Int) (w : World) (hf : fitsK 4 n = true) :
    Calls Try.prog 20 #[.int .i64 4, .int .i64 n] w fun e w' => e = .returned (.slice (some ⟨w.heap.size, 0, none⟩) (putL 4 n).length (putL 4 n).length) ∧ w'.ownsRow w.heap.size 5 1 (.slice (some ⟨w.heap.size, 0, none⟩) (putL 4 n).length (putL 4 n).length) (putL 4 n).length ((putL 4 n).map (Value.int .u8)) ∧ Below w.heap.size w w' := by
  have e1 : sizeK 4 = 2 := by decide
  have e2 : wideS 4 = 65536 := by decide
  have hb := fits4 hf
  have HP : Hid (putL 4 n = [n / 256 % 256, n % 256]) := putL4 hf
  have hmk : ∀ w : World, (Instr.makeSlice 31 (.int .i64 2) (.int .i64 2)).run Try.prog w = .ok (.slice (some ⟨w.heap.size, 0, none⟩) 2 2) (w.alloc (.cells #[.int .u8 0, .int .u8 0] 5)) := fun _ => by kernel_rfl
  go_enter Try.func20, Try.ntmps20
  go_wp2_with (first | (go_at_call 10; refine (rfits_any _ _ _).mono ?_; rintro e w' ⟨rfl, rfl⟩) | (go_at_call 33; refine (bytesOf_any _ _).mono ?_; rintro e w' ⟨rfl, rfl⟩) | (go_at_call 30; refine (width_any _ _).mono ?_; rintro e w' ⟨rfl, rfl⟩))
  refine wp_loop_rounds 3 ?_
  rw [rounds_succ]
  go_wp2
  rw [rounds_succ]
  go_wp2
  rw [rounds_succ]
  go_wp2
  go_ret
  refine ⟨by rw [HP.out]; rfl, ?_, (Below.refl _ _).alloc (Nat.le_refl _) _⟩
  rw [HP.out]
  refine made_row _ ?_ (by simp)
  simp <;> omega

theorem putL5 {n : Int} (hf : fitsK 5 n = true) : putL 5 n = [n / 16777216 % 256, n / 65536 % 256, n / 256 % 256, n % 256] := by simp [putL, hf]
theorem fits5 {n : Int} (hf : fitsK 5 n = true) : 0 ≤ n ∧ n ≤ 4294967295 := by
  simp [fitsK, isK, wrapK5] at hf
  omega
set_option maxHeartbeats 1000000 in
theorem put5 (n : Int) (w : World) (hf : fitsK 5 n = true) :
    Calls Try.prog 19 #[.int .i64 5, .int .i64 n] w fun e w' => e = .returned (.slice (some ⟨w.heap.size, 0, none⟩) (putL 5 n).length (putL 5 n).length) ∧ w'.ownsRow w.heap.size 5 1 (.slice (some ⟨w.heap.size, 0, none⟩) (putL 5 n).length (putL 5 n).length) (putL 5 n).length ((putL 5 n).map (Value.int .u8)) ∧ Below w.heap.size w w' := by
  have e1 : sizeK 5 = 4 := by decide
  have HP : Hid (putL 5 n = [n / 16777216 % 256, n / 65536 % 256, n / 256 % 256, n % 256]) := putL5 hf
  have hmk : ∀ w : World, (Instr.makeSlice 31 (.int .i64 4) (.int .i64 4)).run Try.prog w = .ok (.slice (some ⟨w.heap.size, 0, none⟩) 4 4) (w.alloc (.cells #[.int .u8 0, .int .u8 0, .int .u8 0, .int .u8 0] 5)) := fun _ => by kernel_rfl
  go_enter Try.func19, Try.ntmps19
  go_wp2_with (first | (go_at_call 9; refine (fits_any _ _ _).mono ?_; rintro e w' ⟨rfl, rfl⟩) | (go_at_call 32; refine (size_any _ _).mono ?_; rintro e w' ⟨rfl, rfl⟩))
  refine wp_loop_rounds 5 ?_
  rw [rounds_succ]
  go_wp2
  rw [rounds_succ]
  go_wp2
  rw [rounds_succ]
  go_wp2
  rw [rounds_succ]
  go_wp2
  rw [rounds_succ]
  go_wp2
  go_ret
  refine ⟨by rw [HP.out]; rfl, ?_, (Below.refl _ _).alloc (Nat.le_refl _) _⟩
  rw [HP.out]
  refine made_row _ ?_ (by simp)
  simp <;> omega
set_option maxHeartbeats 1000000 in
theorem rput5 (n : Int) (w : World) (hf : fitsK 5 n = true) :
    Calls Try.prog 20 #[.int .i64 5, .int .i64 n] w fun e w' => e = .returned (.slice (some ⟨w.heap.size, 0, none⟩) (putL 5 n).length (putL 5 n).length) ∧ w'.ownsRow w.heap.size 5 1 (.slice (some ⟨w.heap.size, 0, none⟩) (putL 5 n).length (putL 5 n).length) (putL 5 n).length ((putL 5 n).map (Value.int .u8)) ∧ Below w.heap.size w w' := by
  have e1 : sizeK 5 = 4 := by decide
  have e2 : wideS 5 = 4294967296 := by decide
  have hb := fits5 hf
  have HP : Hid (putL 5 n = [n / 16777216 % 256, n / 65536 % 256, n / 256 % 256, n % 256]) := putL5 hf
  have hmk : ∀ w : World, (Instr.makeSlice 31 (.int .i64 4) (.int .i64 4)).run Try.prog w = .ok (.slice (some ⟨w.heap.size, 0, none⟩) 4 4) (w.alloc (.cells #[.int .u8 0, .int .u8 0, .int .u8 0, .int .u8 0] 5)) := fun _ => by kernel_rfl
  go_enter Try.func20, Try.ntmps20
  go_wp2_with (first | (go_at_call 10; refine (rfits_any _ _ _).mono ?_; rintro e w' ⟨rfl, rfl⟩) | (go_at_call 33; refine (bytesOf_any _ _).mono ?_; rintro e w' ⟨rfl, rfl⟩) | (go_at_call 30; refine (width_any _ _).mono ?_; rintro e w' ⟨rfl, rfl⟩))
  refine wp_loop_rounds 5 ?_
  rw [rounds_succ]
  go_wp2
  rw [rounds_succ]
  go_wp2
  rw [rounds_succ]
  go_wp2
  rw [rounds_succ]
  go_wp2
  rw [rounds_succ]
  go_wp2
  go_ret
  refine ⟨by rw [HP.out]; rfl, ?_, (Below.refl _ _).alloc (Nat.le_refl _) _⟩
  rw [HP.out]
  refine made_row _ ?_ (by simp)
  simp <;> omega

theorem put_yes (k n : Int) (L : List Int) (w : World) (hL : putL k n = L) (hf : fitsK k n = true) :
    Calls Try.prog 19 #[.int .i64 k, .int .i64 n] w fun e w' => e = .returned (.slice (some ⟨w.heap.size, 0, none⟩) L.length L.length) ∧ w'.ownsRow w.heap.size 5 1 (.slice (some ⟨w.heap.size, 0, none⟩) L.length L.length) L.length (L.map (Value.int .u8)) ∧ Below w.heap.size w w' := by
  subst hL
  rcases kinds k with rfl | rfl | rfl | rfl | rfl | h
  · exact put1 n w hf
  · exact put2 n w hf
  · exact put3 n w hf
  · exact put4 n w hf
  · exact put5 n w hf
  · have : isK k = false := by simp [isK]; omega
    simp [fitsK, this] at hf
set_option maxHeartbeats 400000 in
theorem put_no (k n : Int) (w : World) (hf : fitsK k n = false) :
    Calls Try.prog 19 #[.int .i64 k, .int .i64 n] w fun e w' => e = .returned (.slice none 0 0) ∧ w' = w := by
  go_enter Try.func19, Try.ntmps19
  go_wp2_with (go_at_call 9; refine (fits_any _ _ _).mono ?_; rintro e w' ⟨rfl, rfl⟩)
  go_ret
  exact ⟨rfl, rfl⟩
theorem rput_yes (k n : Int) (L : List Int) (w : World) (hL : putL k n = L) (hf : fitsK k n = true) :
    Calls Try.prog 20 #[.int .i64 k, .int .i64 n] w fun e w' => e = .returned (.slice (some ⟨w.heap.size, 0, none⟩) L.length L.length) ∧ w'.ownsRow w.heap.size 5 1 (.slice (some ⟨w.heap.size, 0, none⟩) L.length L.length) L.length (L.map (Value.int .u8)) ∧ Below w.heap.size w w' := by
  subst hL
  rcases kinds k with rfl | rfl | rfl | rfl | rfl | h
  · exact rput1 n w hf
  · exact rput2 n w hf
  · exact rput3 n w hf
  · exact rput4 n w hf
  · exact rput5 n w hf
  · have : isK k = false := by simp [isK]; omega
    simp [fitsK, this] at hf
set_option maxHeartbeats 400000 in
theorem rput_no (k n : Int) (w : World) (hf : fitsK k n = false) :
    Calls Try.prog 20 #[.int .i64 k, .int .i64 n] w fun e w' => e = .returned (.slice none 0 0) ∧ w' = w := by
  go_enter Try.func20, Try.ntmps20
  go_wp2_with (go_at_call 10; refine (rfits_any _ _ _).mono ?_; rintro e w' ⟨rfl, rfl⟩)
  go_ret
  exact ⟨rfl, rfl⟩
theorem putL_len (k n : Int) : (putL k n).length ≤ 4 := by
  unfold putL
  repeat' split
  all_goals simp
theorem putL_byte (k n : Int) : ∀ x ∈ putL k n, 0 ≤ x ∧ x ≤ 255 := by
  intro x hx
  unfold putL at hx
  repeat' split at hx
  all_goals simp at hx
  all_goals omega
end Go.Proofs.Ytnjlomdkenondaa
