/- Contracts of the document's answer: bitwise, moved. -/
import Derived.Test.YtnjlomdkenondaaRefC
namespace Go.Proofs.Ytnjlomdkenondaa
open Go.RowKit

/-- The index as an integer that lies between 0 and 16. -/
theorem bit_any (n i : Int) (w : World) (h0 : 0 ≤ n) (h1 : n ≤ 65535) (hi0 : 0 ≤ i) (hi : i ≤ 16) :
    Calls Try.prog 39 #[.int .i64 n, .int .i64 i] w fun e w' => e = .returned (.int .i64 (n / 2 ^ i.toNat % 2)) ∧ w' = w := by
  obtain ⟨k, rfl⟩ := Int.eq_ofNat_of_zero_le hi0
  exact bit_nat n k w h0 h1 (by omega)

theorem cast_bit (a k : Nat) : ((a : Int) / 2 ^ k % 2) = ((a / 2 ^ k % 2 : Nat) : Int) := by simp
theorem bit01 (a k : Nat) : (a / 2 ^ k % 2 = 0 ∧ (a : Int) / 2 ^ k % 2 = 0) ∨ (a / 2 ^ k % 2 = 1 ∧ (a : Int) / 2 ^ k % 2 = 1) := by
  rw [cast_bit]
  have := Nat.mod_two_eq_zero_or_one (a / 2 ^ k)
  omega
theorem next0 (x k : Nat) (h : x / 2 ^ k % 2 = 0) : ((x % 2 ^ (k + 1) : Nat) : Int) = ((x % 2 ^ k : Nat) : Int) := by
  rw [mod_next, h]; simp
theorem next1 (x k : Nat) (h : x / 2 ^ k % 2 = 1) : ((x % 2 ^ (k + 1) : Nat) : Int) = ((x % 2 ^ k : Nat) : Int) + 2 ^ k := by
  rw [mod_next, h]; simp
theorem low_bd (x k : Nat) (h : k ≤ 16) : ((x % 2 ^ k : Nat) : Int) ≤ 65535 := by
  have h1 : 2 ^ k ≤ 2 ^ 16 := Nat.pow_le_pow_right (by decide) h
  have h2 := Nat.mod_lt x (Nat.two_pow_pos k)
  omega

set_option maxHeartbeats 2000000 in
theorem bitwise6 (a b : Nat) (w : World) (ha : a < 65536) (hb : b < 65536) :
    Calls Try.prog 26 #[.int .i64 6, .int .i64 a, .int .i64 b] w fun e w' => e = .returned (.int .i64 ((bwX 6 a b : Nat) : Int)) ∧ w' = w := by
  have HX : Hid (bwX 6 a b < 65536) := bwX_lt 6 a b ha hb
  go_enter Try.func26, Try.ntmps26
  go_wp2
  go_loop [7, 8] (fun n i => ∃ k : Nat, k ≤ 16 ∧ i = .int .i64 k ∧ n = .int .i64 ((bwX 6 a b % 2 ^ k : Nat) : Int)) (fun _ i => 16 - (intOf i).toNat)
  case atStart => exact ⟨0, Nat.zero_le _, rfl, by simp [Nat.mod_one]⟩
  case round =>
    obtain ⟨k, hk, rfl, rfl⟩ := hrel
    by_cases hlt : k < 16
    · have hp := pow_bd k hk
      have hl := low_bd (bwX 6 a b) k hk
      have hl0 : 0 ≤ ((bwX 6 a b % 2 ^ k : Nat) : Int) := Int.natCast_nonneg _
      have HB : Hid (bwX 6 a b / 2 ^ k % 2 = _) := bw_and a b k
      generalize hX : bwX 6 a b = X at *
      clear hX
      rcases bit01 a k with ⟨A, ea⟩ | ⟨A, ea⟩
      · rcases bit01 b k with ⟨B, eb⟩ | ⟨B, eb⟩
        · have HZ : Hid (((X % 2 ^ (k + 1) : Nat) : Int) = ((X % 2 ^ k : Nat) : Int)) := next0 X k (by rw [HB.out]; simp [A, B])
          clear A B HB
          generalize hY : ((X % 2 ^ k : Nat) : Int) = Y at *
          go_wp2_with (first | (go_at_call 39; refine (bit_nat _ _ _ (by omega) (by omega) (by omega)).mono ?_; rintro e w' ⟨rfl, rfl⟩) | (go_at_call 40; refine (power_nat _ _ (by omega)).mono ?_; rintro e w' ⟨rfl, rfl⟩))
          go_round
          case rel => exact ⟨k + 1, by omega, by go_num, by rw [HZ.out]⟩
          case measure => simp [intOf]; omega
        · have HZ : Hid (((X % 2 ^ (k + 1) : Nat) : Int) = ((X % 2 ^ k : Nat) : Int)) := next0 X k (by rw [HB.out]; simp [A, B])
          clear A B HB
          generalize hY : ((X % 2 ^ k : Nat) : Int) = Y at *
          go_wp2_with (first | (go_at_call 39; refine (bit_nat _ _ _ (by omega) (by omega) (by omega)).mono ?_; rintro e w' ⟨rfl, rfl⟩) | (go_at_call 40; refine (power_nat _ _ (by omega)).mono ?_; rintro e w' ⟨rfl, rfl⟩))
          go_round
          case rel => exact ⟨k + 1, by omega, by go_num, by rw [HZ.out]⟩
          case measure => simp [intOf]; omega
      · rcases bit01 b k with ⟨B, eb⟩ | ⟨B, eb⟩
        · have HZ : Hid (((X % 2 ^ (k + 1) : Nat) : Int) = ((X % 2 ^ k : Nat) : Int)) := next0 X k (by rw [HB.out]; simp [A, B])
          clear A B HB
          generalize hY : ((X % 2 ^ k : Nat) : Int) = Y at *
          go_wp2_with (first | (go_at_call 39; refine (bit_nat _ _ _ (by omega) (by omega) (by omega)).mono ?_; rintro e w' ⟨rfl, rfl⟩) | (go_at_call 40; refine (power_nat _ _ (by omega)).mono ?_; rintro e w' ⟨rfl, rfl⟩))
          go_round
          case rel => exact ⟨k + 1, by omega, by go_num, by rw [HZ.out]⟩
          case measure => simp [intOf]; omega
        · have HZ : Hid (((X % 2 ^ (k + 1) : Nat) : Int) = ((X % 2 ^ k : Nat) : Int) + 2 ^ k) := next1 X k (by rw [HB.out]; simp [A, B])
          clear A B HB
          generalize hY : ((X % 2 ^ k : Nat) : Int) = Y at *
          go_wp2_with (first | (go_at_call 39; refine (bit_nat _ _ _ (by omega) (by omega) (by omega)).mono ?_; rintro e w' ⟨rfl, rfl⟩) | (go_at_call 40; refine (power_nat _ _ (by omega)).mono ?_; rintro e w' ⟨rfl, rfl⟩))
          go_round
          case rel => exact ⟨k + 1, by omega, by go_num, by rw [HZ.out]⟩
          case measure => simp [intOf]; omega
    · have e : k = 16 := by omega
      have HM : Hid (bwX 6 a b % 2 ^ k = bwX 6 a b) := by
        show bwX 6 a b % 2 ^ k = bwX 6 a b
        rw [e]; exact Nat.mod_eq_of_lt HX.out
      clear e
      generalize hX : bwX 6 a b = X at *
      go_wp2
      go_ret
      exact ⟨ret_int (by exact_mod_cast HM.out), rfl⟩

set_option maxHeartbeats 2000000 in
theorem bitwise7 (a b : Nat) (w : World) (ha : a < 65536) (hb : b < 65536) :
    Calls Try.prog 26 #[.int .i64 7, .int .i64 a, .int .i64 b] w fun e w' => e = .returned (.int .i64 ((bwX 7 a b : Nat) : Int)) ∧ w' = w := by
  have HX : Hid (bwX 7 a b < 65536) := bwX_lt 7 a b ha hb
  go_enter Try.func26, Try.ntmps26
  go_wp2
  go_loop [7, 8] (fun n i => ∃ k : Nat, k ≤ 16 ∧ i = .int .i64 k ∧ n = .int .i64 ((bwX 7 a b % 2 ^ k : Nat) : Int)) (fun _ i => 16 - (intOf i).toNat)
  case atStart => exact ⟨0, Nat.zero_le _, rfl, by simp [Nat.mod_one]⟩
  case round =>
    obtain ⟨k, hk, rfl, rfl⟩ := hrel
    by_cases hlt : k < 16
    · have hp := pow_bd k hk
      have hl := low_bd (bwX 7 a b) k hk
      have hl0 : 0 ≤ ((bwX 7 a b % 2 ^ k : Nat) : Int) := Int.natCast_nonneg _
      have HB : Hid (bwX 7 a b / 2 ^ k % 2 = _) := bw_or a b k
      generalize hX : bwX 7 a b = X at *
      clear hX
      rcases bit01 a k with ⟨A, ea⟩ | ⟨A, ea⟩
      · rcases bit01 b k with ⟨B, eb⟩ | ⟨B, eb⟩
        · have HZ : Hid (((X % 2 ^ (k + 1) : Nat) : Int) = ((X % 2 ^ k : Nat) : Int)) := next0 X k (by rw [HB.out]; simp [A, B])
          clear A B HB
          generalize hY : ((X % 2 ^ k : Nat) : Int) = Y at *
          go_wp2_with (first | (go_at_call 39; refine (bit_nat _ _ _ (by omega) (by omega) (by omega)).mono ?_; rintro e w' ⟨rfl, rfl⟩) | (go_at_call 40; refine (power_nat _ _ (by omega)).mono ?_; rintro e w' ⟨rfl, rfl⟩))
          go_round
          case rel => exact ⟨k + 1, by omega, by go_num, by rw [HZ.out]⟩
          case measure => simp [intOf]; omega
        · have HZ : Hid (((X % 2 ^ (k + 1) : Nat) : Int) = ((X % 2 ^ k : Nat) : Int) + 2 ^ k) := next1 X k (by rw [HB.out]; simp [A, B])
          clear A B HB
          generalize hY : ((X % 2 ^ k : Nat) : Int) = Y at *
          go_wp2_with (first | (go_at_call 39; refine (bit_nat _ _ _ (by omega) (by omega) (by omega)).mono ?_; rintro e w' ⟨rfl, rfl⟩) | (go_at_call 40; refine (power_nat _ _ (by omega)).mono ?_; rintro e w' ⟨rfl, rfl⟩))
          go_round
          case rel => exact ⟨k + 1, by omega, by go_num, by rw [HZ.out]⟩
          case measure => simp [intOf]; omega
      · rcases bit01 b k with ⟨B, eb⟩ | ⟨B, eb⟩
        · have HZ : Hid (((X % 2 ^ (k + 1) : Nat) : Int) = ((X % 2 ^ k : Nat) : Int) + 2 ^ k) := next1 X k (by rw [HB.out]; simp [A, B])
          clear A B HB
          generalize hY : ((X % 2 ^ k : Nat) : Int) = Y at *
          go_wp2_with (first | (go_at_call 39; refine (bit_nat _ _ _ (by omega) (by omega) (by omega)).mono ?_; rintro e w' ⟨rfl, rfl⟩) | (go_at_call 40; refine (power_nat _ _ (by omega)).mono ?_; rintro e w' ⟨rfl, rfl⟩))
          go_round
          case rel => exact ⟨k + 1, by omega, by go_num, by rw [HZ.out]⟩
          case measure => simp [intOf]; omega
        · have HZ : Hid (((X % 2 ^ (k + 1) : Nat) : Int) = ((X % 2 ^ k : Nat) : Int) + 2 ^ k) := next1 X k (by rw [HB.out]; simp [A, B])
          clear A B HB
          generalize hY : ((X % 2 ^ k : Nat) : Int) = Y at *
          go_wp2_with (first | (go_at_call 39; refine (bit_nat _ _ _ (by omega) (by omega) (by omega)).mono ?_; rintro e w' ⟨rfl, rfl⟩) | (go_at_call 40; refine (power_nat _ _ (by omega)).mono ?_; rintro e w' ⟨rfl, rfl⟩))
          go_round
          case rel => exact ⟨k + 1, by omega, by go_num, by rw [HZ.out]⟩
          case measure => simp [intOf]; omega
    · have e : k = 16 := by omega
      have HM : Hid (bwX 7 a b % 2 ^ k = bwX 7 a b) := by
        show bwX 7 a b % 2 ^ k = bwX 7 a b
        rw [e]; exact Nat.mod_eq_of_lt HX.out
      clear e
      generalize hX : bwX 7 a b = X at *
      go_wp2
      go_ret
      exact ⟨ret_int (by exact_mod_cast HM.out), rfl⟩

set_option maxHeartbeats 2000000 in
theorem bitwise8 (a b : Nat) (w : World) (ha : a < 65536) (hb : b < 65536) :
    Calls Try.prog 26 #[.int .i64 8, .int .i64 a, .int .i64 b] w fun e w' => e = .returned (.int .i64 ((bwX 8 a b : Nat) : Int)) ∧ w' = w := by
  have HX : Hid (bwX 8 a b < 65536) := bwX_lt 8 a b ha hb
  go_enter Try.func26, Try.ntmps26
  go_wp2
  go_loop [7, 8] (fun n i => ∃ k : Nat, k ≤ 16 ∧ i = .int .i64 k ∧ n = .int .i64 ((bwX 8 a b % 2 ^ k : Nat) : Int)) (fun _ i => 16 - (intOf i).toNat)
  case atStart => exact ⟨0, Nat.zero_le _, rfl, by simp [Nat.mod_one]⟩
  case round =>
    obtain ⟨k, hk, rfl, rfl⟩ := hrel
    by_cases hlt : k < 16
    · have hp := pow_bd k hk
      have hl := low_bd (bwX 8 a b) k hk
      have hl0 : 0 ≤ ((bwX 8 a b % 2 ^ k : Nat) : Int) := Int.natCast_nonneg _
      have HB : Hid (bwX 8 a b / 2 ^ k % 2 = _) := bw_xor a b k
      generalize hX : bwX 8 a b = X at *
      clear hX
      rcases bit01 a k with ⟨A, ea⟩ | ⟨A, ea⟩
      · rcases bit01 b k with ⟨B, eb⟩ | ⟨B, eb⟩
        · have HZ : Hid (((X % 2 ^ (k + 1) : Nat) : Int) = ((X % 2 ^ k : Nat) : Int)) := next0 X k (by rw [HB.out]; simp [A, B])
          clear A B HB
          generalize hY : ((X % 2 ^ k : Nat) : Int) = Y at *
          go_wp2_with (first | (go_at_call 39; refine (bit_nat _ _ _ (by omega) (by omega) (by omega)).mono ?_; rintro e w' ⟨rfl, rfl⟩) | (go_at_call 40; refine (power_nat _ _ (by omega)).mono ?_; rintro e w' ⟨rfl, rfl⟩))
          go_round
          case rel => exact ⟨k + 1, by omega, by go_num, by rw [HZ.out]⟩
          case measure => simp [intOf]; omega
        · have HZ : Hid (((X % 2 ^ (k + 1) : Nat) : Int) = ((X % 2 ^ k : Nat) : Int) + 2 ^ k) := next1 X k (by rw [HB.out]; simp [A, B])
          clear A B HB
          generalize hY : ((X % 2 ^ k : Nat) : Int) = Y at *
          go_wp2_with (first | (go_at_call 39; refine (bit_nat _ _ _ (by omega) (by omega) (by omega)).mono ?_; rintro e w' ⟨rfl, rfl⟩) | (go_at_call 40; refine (power_nat _ _ (by omega)).mono ?_; rintro e w' ⟨rfl, rfl⟩))
          go_round
          case rel => exact ⟨k + 1, by omega, by go_num, by rw [HZ.out]⟩
          case measure => simp [intOf]; omega
      · rcases bit01 b k with ⟨B, eb⟩ | ⟨B, eb⟩
        · have HZ : Hid (((X % 2 ^ (k + 1) : Nat) : Int) = ((X % 2 ^ k : Nat) : Int) + 2 ^ k) := next1 X k (by rw [HB.out]; simp [A, B])
          clear A B HB
          generalize hY : ((X % 2 ^ k : Nat) : Int) = Y at *
          go_wp2_with (first | (go_at_call 39; refine (bit_nat _ _ _ (by omega) (by omega) (by omega)).mono ?_; rintro e w' ⟨rfl, rfl⟩) | (go_at_call 40; refine (power_nat _ _ (by omega)).mono ?_; rintro e w' ⟨rfl, rfl⟩))
          go_round
          case rel => exact ⟨k + 1, by omega, by go_num, by rw [HZ.out]⟩
          case measure => simp [intOf]; omega
        · have HZ : Hid (((X % 2 ^ (k + 1) : Nat) : Int) = ((X % 2 ^ k : Nat) : Int)) := next0 X k (by rw [HB.out]; simp [A, B])
          clear A B HB
          generalize hY : ((X % 2 ^ k : Nat) : Int) = Y at *
          go_wp2_with (first | (go_at_call 39; refine (bit_nat _ _ _ (by omega) (by omega) (by omega)).mono ?_; rintro e w' ⟨rfl, rfl⟩) | (go_at_call 40; refine (power_nat _ _ (by omega)).mono ?_; rintro e w' ⟨rfl, rfl⟩))
          go_round
          case rel => exact ⟨k + 1, by omega, by go_num, by rw [HZ.out]⟩
          case measure => simp [intOf]; omega
    · have e : k = 16 := by omega
      have HM : Hid (bwX 8 a b % 2 ^ k = bwX 8 a b) := by
        show bwX 8 a b % 2 ^ k = bwX 8 a b
        rw [e]; exact Nat.mod_eq_of_lt HX.out
      clear e
      generalize hX : bwX 8 a b = X at *
      go_wp2
      go_ret
      exact ⟨ret_int (by exact_mod_cast HM.out), rfl⟩

set_option maxHeartbeats 2000000 in
theorem bitwise21 (a b : Nat) (w : World) (ha : a < 65536) (hb : b < 65536) :
    Calls Try.prog 26 #[.int .i64 21, .int .i64 a, .int .i64 b] w fun e w' => e = .returned (.int .i64 ((bwX 21 a b : Nat) : Int)) ∧ w' = w := by
  have HX : Hid (bwX 21 a b < 65536) := bwX_lt 21 a b ha hb
  go_enter Try.func26, Try.ntmps26
  go_wp2
  go_loop [7, 8] (fun n i => ∃ k : Nat, k ≤ 16 ∧ i = .int .i64 k ∧ n = .int .i64 ((bwX 21 a b % 2 ^ k : Nat) : Int)) (fun _ i => 16 - (intOf i).toNat)
  case atStart => exact ⟨0, Nat.zero_le _, rfl, by simp [Nat.mod_one]⟩
  case round =>
    obtain ⟨k, hk, rfl, rfl⟩ := hrel
    by_cases hlt : k < 16
    · have hp := pow_bd k hk
      have hl := low_bd (bwX 21 a b) k hk
      have hl0 : 0 ≤ ((bwX 21 a b % 2 ^ k : Nat) : Int) := Int.natCast_nonneg _
      have HB : Hid (bwX 21 a b / 2 ^ k % 2 = _) := bw_not a b k hlt ha
      generalize hX : bwX 21 a b = X at *
      clear hX
      rcases bit01 a k with ⟨A, ea⟩ | ⟨A, ea⟩
      · rcases bit01 b k with ⟨B, eb⟩ | ⟨B, eb⟩
        · have HZ : Hid (((X % 2 ^ (k + 1) : Nat) : Int) = ((X % 2 ^ k : Nat) : Int) + 2 ^ k) := next1 X k (by rw [HB.out]; simp [A])
          clear A B HB
          generalize hY : ((X % 2 ^ k : Nat) : Int) = Y at *
          go_wp2_with (first | (go_at_call 39; refine (bit_nat _ _ _ (by omega) (by omega) (by omega)).mono ?_; rintro e w' ⟨rfl, rfl⟩) | (go_at_call 40; refine (power_nat _ _ (by omega)).mono ?_; rintro e w' ⟨rfl, rfl⟩))
          go_round
          case rel => exact ⟨k + 1, by omega, by go_num, by rw [HZ.out]⟩
          case measure => simp [intOf]; omega
        · have HZ : Hid (((X % 2 ^ (k + 1) : Nat) : Int) = ((X % 2 ^ k : Nat) : Int) + 2 ^ k) := next1 X k (by rw [HB.out]; simp [A])
          clear A B HB
          generalize hY : ((X % 2 ^ k : Nat) : Int) = Y at *
          go_wp2_with (first | (go_at_call 39; refine (bit_nat _ _ _ (by omega) (by omega) (by omega)).mono ?_; rintro e w' ⟨rfl, rfl⟩) | (go_at_call 40; refine (power_nat _ _ (by omega)).mono ?_; rintro e w' ⟨rfl, rfl⟩))
          go_round
          case rel => exact ⟨k + 1, by omega, by go_num, by rw [HZ.out]⟩
          case measure => simp [intOf]; omega
      · rcases bit01 b k with ⟨B, eb⟩ | ⟨B, eb⟩
        · have HZ : Hid (((X % 2 ^ (k + 1) : Nat) : Int) = ((X % 2 ^ k : Nat) : Int)) := next0 X k (by rw [HB.out]; simp [A])
          clear A B HB
          generalize hY : ((X % 2 ^ k : Nat) : Int) = Y at *
          go_wp2_with (first | (go_at_call 39; refine (bit_nat _ _ _ (by omega) (by omega) (by omega)).mono ?_; rintro e w' ⟨rfl, rfl⟩) | (go_at_call 40; refine (power_nat _ _ (by omega)).mono ?_; rintro e w' ⟨rfl, rfl⟩))
          go_round
          case rel => exact ⟨k + 1, by omega, by go_num, by rw [HZ.out]⟩
          case measure => simp [intOf]; omega
        · have HZ : Hid (((X % 2 ^ (k + 1) : Nat) : Int) = ((X % 2 ^ k : Nat) : Int)) := next0 X k (by rw [HB.out]; simp [A])
          clear A B HB
          generalize hY : ((X % 2 ^ k : Nat) : Int) = Y at *
          go_wp2_with (first | (go_at_call 39; refine (bit_nat _ _ _ (by omega) (by omega) (by omega)).mono ?_; rintro e w' ⟨rfl, rfl⟩) | (go_at_call 40; refine (power_nat _ _ (by omega)).mono ?_; rintro e w' ⟨rfl, rfl⟩))
          go_round
          case rel => exact ⟨k + 1, by omega, by go_num, by rw [HZ.out]⟩
          case measure => simp [intOf]; omega
    · have e : k = 16 := by omega
      have HM : Hid (bwX 21 a b % 2 ^ k = bwX 21 a b) := by
        show bwX 21 a b % 2 ^ k = bwX 21 a b
        rw [e]; exact Nat.mod_eq_of_lt HX.out
      clear e
      generalize hX : bwX 21 a b = X at *
      go_wp2
      go_ret
      exact ⟨ret_int (by exact_mod_cast HM.out), rfl⟩
end Go.Proofs.Ytnjlomdkenondaa
