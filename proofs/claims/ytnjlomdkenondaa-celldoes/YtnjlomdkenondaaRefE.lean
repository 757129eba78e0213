/- Contracts of the document's answer: moved. -/
import Derived.Test.YtnjlomdkenondaaRefD
namespace Go.Proofs.Ytnjlomdkenondaa
open Go.RowKit

set_option maxHeartbeats 2000000 in
theorem moved15 (a : Nat) (w : World) (ha : a < 65536) (c : Nat) (hc : c ≤ 32767) :
    Calls Try.prog 28 #[.int .i64 15, .int .i64 a, .int .i64 c] w fun e w' => e = .returned (.int .i64 ((mvX 15 a c : Nat) : Int)) ∧ w' = w := by
  have HX : Hid (mvX 15 a c < 65536) := mvX_lt 15 a c ha
  go_enter Try.func28, Try.ntmps28
  go_wp2
  go_loop [7, 8] (fun n i => ∃ k : Nat, k ≤ 16 ∧ i = .int .i64 k ∧ n = .int .i64 ((mvX 15 a c % 2 ^ k : Nat) : Int)) (fun _ i => 16 - (intOf i).toNat)
  case atStart => exact ⟨0, Nat.zero_le _, rfl, by simp [Nat.mod_one]⟩
  case round =>
    obtain ⟨k, hk, rfl, rfl⟩ := hrel
    by_cases hlt : k < 16
    · have hp := pow_bd k hk
      have hl := low_bd (mvX 15 a c) k hk
      have hl0 : 0 ≤ ((mvX 15 a c % 2 ^ k : Nat) : Int) := Int.natCast_nonneg _
      have HB : Hid (mvX 15 a c / 2 ^ k % 2 = _) := mv_shl a c k hlt
      generalize hX : mvX 15 a c = X at *
      clear hX
      by_cases hck : c ≤ k
      · obtain ⟨f, hf⟩ : ∃ f : Nat, k = c + f := ⟨k - c, by omega⟩
        have HB2 : Hid (X / 2 ^ k % 2 = a / 2 ^ f % 2) := by
          show X / 2 ^ k % 2 = a / 2 ^ f % 2
          rw [HB.out, if_pos hck]
          have e : k - c = f := by omega
          rw [e]
        have er : (k : Int) - c = f := by omega
        have hf16 : f ≤ 15 := by omega
        clear hf HB
        rcases bit01 a f with ⟨A, ea⟩ | ⟨A, ea⟩
        · have HZ : Hid (((X % 2 ^ (k + 1) : Nat) : Int) = ((X % 2 ^ k : Nat) : Int)) := next0 X k (by rw [HB2.out, A])
          clear A HB2
          generalize hY : ((X % 2 ^ k : Nat) : Int) = Y at *
          go_wp2_with (first | (go_at_call 39; refine (bit_nat _ _ _ (by omega) (by omega) (by omega)).mono ?_; rintro e w' ⟨rfl, rfl⟩) | (go_at_call 40; refine (power_nat _ _ (by omega)).mono ?_; rintro e w' ⟨rfl, rfl⟩))
          go_round
          case rel => exact ⟨k + 1, by omega, by go_num, by rw [HZ.out]⟩
          case measure => simp [intOf]; omega
        · have HZ : Hid (((X % 2 ^ (k + 1) : Nat) : Int) = ((X % 2 ^ k : Nat) : Int) + 2 ^ k) := next1 X k (by rw [HB2.out, A])
          clear A HB2
          generalize hY : ((X % 2 ^ k : Nat) : Int) = Y at *
          go_wp2_with (first | (go_at_call 39; refine (bit_nat _ _ _ (by omega) (by omega) (by omega)).mono ?_; rintro e w' ⟨rfl, rfl⟩) | (go_at_call 40; refine (power_nat _ _ (by omega)).mono ?_; rintro e w' ⟨rfl, rfl⟩))
          go_round
          case rel => exact ⟨k + 1, by omega, by go_num, by rw [HZ.out]⟩
          case measure => simp [intOf]; omega
      · have HZ : Hid (((X % 2 ^ (k + 1) : Nat) : Int) = ((X % 2 ^ k : Nat) : Int)) := next0 X k (by rw [HB.out, if_neg hck])
        clear HB
        generalize hY : ((X % 2 ^ k : Nat) : Int) = Y at *
        go_wp2_with (first | (go_at_call 39; refine (bit_nat _ _ _ (by omega) (by omega) (by omega)).mono ?_; rintro e w' ⟨rfl, rfl⟩) | (go_at_call 40; refine (power_nat _ _ (by omega)).mono ?_; rintro e w' ⟨rfl, rfl⟩))
        go_round
        case rel => exact ⟨k + 1, by omega, by go_num, by rw [HZ.out]⟩
        case measure => simp [intOf]; omega
    · have e : k = 16 := by omega
      have HM : Hid (mvX 15 a c % 2 ^ k = mvX 15 a c) := by
        show mvX 15 a c % 2 ^ k = mvX 15 a c
        rw [e]; exact Nat.mod_eq_of_lt HX.out
      clear e
      generalize hX : mvX 15 a c = X at *
      go_wp2
      go_ret
      exact ⟨ret_int (by exact_mod_cast HM.out), rfl⟩

set_option maxHeartbeats 2000000 in
theorem moved15n (a : Nat) (w : World) (ha : a < 65536) (y : Int) (hy : y < 0) :
    Calls Try.prog 28 #[.int .i64 15, .int .i64 a, .int .i64 y] w fun e w' => e = .returned (.int .i64 ((mvX 15 a 0 : Nat) : Int)) ∧ w' = w := by
  have HX : Hid (mvX 15 a 0 < 65536) := mvX_lt 15 a 0 ha
  go_enter Try.func28, Try.ntmps28
  go_wp2
  go_loop [7, 8] (fun n i => ∃ k : Nat, k ≤ 16 ∧ i = .int .i64 k ∧ n = .int .i64 ((mvX 15 a 0 % 2 ^ k : Nat) : Int)) (fun _ i => 16 - (intOf i).toNat)
  case atStart => exact ⟨0, Nat.zero_le _, rfl, by simp [Nat.mod_one]⟩
  case round =>
    obtain ⟨k, hk, rfl, rfl⟩ := hrel
    by_cases hlt : k < 16
    · have hp := pow_bd k hk
      have hl := low_bd (mvX 15 a 0) k hk
      have hl0 : 0 ≤ ((mvX 15 a 0 % 2 ^ k : Nat) : Int) := Int.natCast_nonneg _
      have HB : Hid (mvX 15 a 0 / 2 ^ k % 2 = _) := mv_shl a 0 k hlt
      generalize hX : mvX 15 a 0 = X at *
      clear hX
      rcases bit01 a k with ⟨A, ea⟩ | ⟨A, ea⟩
      · have HZ : Hid (((X % 2 ^ (k + 1) : Nat) : Int) = ((X % 2 ^ k : Nat) : Int)) := next0 X k (by rw [HB.out]; simp [A])
        clear A HB
        generalize hY : ((X % 2 ^ k : Nat) : Int) = Y at *
        go_wp2_with (first | (go_at_call 39; refine (bit_nat _ _ _ (by omega) (by omega) (by omega)).mono ?_; rintro e w' ⟨rfl, rfl⟩) | (go_at_call 40; refine (power_nat _ _ (by omega)).mono ?_; rintro e w' ⟨rfl, rfl⟩))
        go_round
        case rel => exact ⟨k + 1, by omega, by go_num, by rw [HZ.out]⟩
        case measure => simp [intOf]; omega
      · have HZ : Hid (((X % 2 ^ (k + 1) : Nat) : Int) = ((X % 2 ^ k : Nat) : Int) + 2 ^ k) := next1 X k (by rw [HB.out]; simp [A])
        clear A HB
        generalize hY : ((X % 2 ^ k : Nat) : Int) = Y at *
        go_wp2_with (first | (go_at_call 39; refine (bit_nat _ _ _ (by omega) (by omega) (by omega)).mono ?_; rintro e w' ⟨rfl, rfl⟩) | (go_at_call 40; refine (power_nat _ _ (by omega)).mono ?_; rintro e w' ⟨rfl, rfl⟩))
        go_round
        case rel => exact ⟨k + 1, by omega, by go_num, by rw [HZ.out]⟩
        case measure => simp [intOf]; omega
    · have e : k = 16 := by omega
      have HM : Hid (mvX 15 a 0 % 2 ^ k = mvX 15 a 0) := by
        show mvX 15 a 0 % 2 ^ k = mvX 15 a 0
        rw [e]; exact Nat.mod_eq_of_lt HX.out
      clear e
      generalize hX : mvX 15 a 0 = X at *
      go_wp2
      go_ret
      exact ⟨ret_int (by exact_mod_cast HM.out), rfl⟩

set_option maxHeartbeats 2000000 in
theorem moved16 (a : Nat) (w : World) (ha : a < 65536) (c : Nat) (hc : c ≤ 32767) :
    Calls Try.prog 28 #[.int .i64 16, .int .i64 a, .int .i64 c] w fun e w' => e = .returned (.int .i64 ((mvX 16 a c : Nat) : Int)) ∧ w' = w := by
  have HX : Hid (mvX 16 a c < 65536) := mvX_lt 16 a c ha
  go_enter Try.func28, Try.ntmps28
  go_wp2
  go_loop [7, 8] (fun n i => ∃ k : Nat, k ≤ 16 ∧ i = .int .i64 k ∧ n = .int .i64 ((mvX 16 a c % 2 ^ k : Nat) : Int)) (fun _ i => 16 - (intOf i).toNat)
  case atStart => exact ⟨0, Nat.zero_le _, rfl, by simp [Nat.mod_one]⟩
  case round =>
    obtain ⟨k, hk, rfl, rfl⟩ := hrel
    by_cases hlt : k < 16
    · have hp := pow_bd k hk
      have hl := low_bd (mvX 16 a c) k hk
      have hl0 : 0 ≤ ((mvX 16 a c % 2 ^ k : Nat) : Int) := Int.natCast_nonneg _
      have HB : Hid (mvX 16 a c / 2 ^ k % 2 = _) := mv_shr a c k
      generalize hX : mvX 16 a c = X at *
      clear hX
      by_cases hck : k + c < 16
      · obtain ⟨f, hf⟩ : ∃ f : Nat, f = k + c := ⟨k + c, rfl⟩
        have HB2 : Hid (X / 2 ^ k % 2 = a / 2 ^ f % 2) := by
          show X / 2 ^ k % 2 = a / 2 ^ f % 2
          rw [HB.out, hf]
        have er : (k : Int) + c = f := by omega
        have hf16 : f ≤ 15 := by omega
        clear hf HB
        rcases bit01 a f with ⟨A, ea⟩ | ⟨A, ea⟩
        · have HZ : Hid (((X % 2 ^ (k + 1) : Nat) : Int) = ((X % 2 ^ k : Nat) : Int)) := next0 X k (by rw [HB2.out, A])
          clear A HB2
          generalize hY : ((X % 2 ^ k : Nat) : Int) = Y at *
          go_wp2_with (first | (go_at_call 39; refine (bit_nat _ _ _ (by omega) (by omega) (by omega)).mono ?_; rintro e w' ⟨rfl, rfl⟩) | (go_at_call 40; refine (power_nat _ _ (by omega)).mono ?_; rintro e w' ⟨rfl, rfl⟩))
          go_round
          case rel => exact ⟨k + 1, by omega, by go_num, by rw [HZ.out]⟩
          case measure => simp [intOf]; omega
        · have HZ : Hid (((X % 2 ^ (k + 1) : Nat) : Int) = ((X % 2 ^ k : Nat) : Int) + 2 ^ k) := next1 X k (by rw [HB2.out, A])
          clear A HB2
          generalize hY : ((X % 2 ^ k : Nat) : Int) = Y at *
          go_wp2_with (first | (go_at_call 39; refine (bit_nat _ _ _ (by omega) (by omega) (by omega)).mono ?_; rintro e w' ⟨rfl, rfl⟩) | (go_at_call 40; refine (power_nat _ _ (by omega)).mono ?_; rintro e w' ⟨rfl, rfl⟩))
          go_round
          case rel => exact ⟨k + 1, by omega, by go_num, by rw [HZ.out]⟩
          case measure => simp [intOf]; omega
      · have HZ : Hid (((X % 2 ^ (k + 1) : Nat) : Int) = ((X % 2 ^ k : Nat) : Int)) := next0 X k (by rw [HB.out]; exact bit_high a _ ha (by omega))
        clear HB
        generalize hY : ((X % 2 ^ k : Nat) : Int) = Y at *
        go_wp2_with (first | (go_at_call 39; refine (bit_nat _ _ _ (by omega) (by omega) (by omega)).mono ?_; rintro e w' ⟨rfl, rfl⟩) | (go_at_call 40; refine (power_nat _ _ (by omega)).mono ?_; rintro e w' ⟨rfl, rfl⟩))
        go_round
        case rel => exact ⟨k + 1, by omega, by go_num, by rw [HZ.out]⟩
        case measure => simp [intOf]; omega
    · have e : k = 16 := by omega
      have HM : Hid (mvX 16 a c % 2 ^ k = mvX 16 a c) := by
        show mvX 16 a c % 2 ^ k = mvX 16 a c
        rw [e]; exact Nat.mod_eq_of_lt HX.out
      clear e
      generalize hX : mvX 16 a c = X at *
      go_wp2
      go_ret
      exact ⟨ret_int (by exact_mod_cast HM.out), rfl⟩

set_option maxHeartbeats 2000000 in
theorem moved16n (a : Nat) (w : World) (ha : a < 65536) (y : Int) (hy : y < 0) :
    Calls Try.prog 28 #[.int .i64 16, .int .i64 a, .int .i64 y] w fun e w' => e = .returned (.int .i64 ((mvX 16 a 0 : Nat) : Int)) ∧ w' = w := by
  have HX : Hid (mvX 16 a 0 < 65536) := mvX_lt 16 a 0 ha
  go_enter Try.func28, Try.ntmps28
  go_wp2
  go_loop [7, 8] (fun n i => ∃ k : Nat, k ≤ 16 ∧ i = .int .i64 k ∧ n = .int .i64 ((mvX 16 a 0 % 2 ^ k : Nat) : Int)) (fun _ i => 16 - (intOf i).toNat)
  case atStart => exact ⟨0, Nat.zero_le _, rfl, by simp [Nat.mod_one]⟩
  case round =>
    obtain ⟨k, hk, rfl, rfl⟩ := hrel
    by_cases hlt : k < 16
    · have hp := pow_bd k hk
      have hl := low_bd (mvX 16 a 0) k hk
      have hl0 : 0 ≤ ((mvX 16 a 0 % 2 ^ k : Nat) : Int) := Int.natCast_nonneg _
      have HB : Hid (mvX 16 a 0 / 2 ^ k % 2 = _) := mv_shr a 0 k
      generalize hX : mvX 16 a 0 = X at *
      clear hX
      rcases bit01 a k with ⟨A, ea⟩ | ⟨A, ea⟩
      · have HZ : Hid (((X % 2 ^ (k + 1) : Nat) : Int) = ((X % 2 ^ k : Nat) : Int)) := next0 X k (by rw [HB.out]; simp [A])
        clear A HB
        generalize hY : ((X % 2 ^ k : Nat) : Int) = Y at *
        go_wp2_with (first | (go_at_call 39; refine (bit_nat _ _ _ (by omega) (by omega) (by omega)).mono ?_; rintro e w' ⟨rfl, rfl⟩) | (go_at_call 40; refine (power_nat _ _ (by omega)).mono ?_; rintro e w' ⟨rfl, rfl⟩))
        go_round
        case rel => exact ⟨k + 1, by omega, by go_num, by rw [HZ.out]⟩
        case measure => simp [intOf]; omega
      · have HZ : Hid (((X % 2 ^ (k + 1) : Nat) : Int) = ((X % 2 ^ k : Nat) : Int) + 2 ^ k) := next1 X k (by rw [HB.out]; simp [A])
        clear A HB
        generalize hY : ((X % 2 ^ k : Nat) : Int) = Y at *
        go_wp2_with (first | (go_at_call 39; refine (bit_nat _ _ _ (by omega) (by omega) (by omega)).mono ?_; rintro e w' ⟨rfl, rfl⟩) | (go_at_call 40; refine (power_nat _ _ (by omega)).mono ?_; rintro e w' ⟨rfl, rfl⟩))
        go_round
        case rel => exact ⟨k + 1, by omega, by go_num, by rw [HZ.out]⟩
        case measure => simp [intOf]; omega
    · have e : k = 16 := by omega
      have HM : Hid (mvX 16 a 0 % 2 ^ k = mvX 16 a 0) := by
        show mvX 16 a 0 % 2 ^ k = mvX 16 a 0
        rw [e]; exact Nat.mod_eq_of_lt HX.out
      clear e
      generalize hX : mvX 16 a 0 = X at *
      go_wp2
      go_ret
      exact ⟨ret_int (by exact_mod_cast HM.out), rfl⟩

set_option maxHeartbeats 2000000 in
theorem moved17 (a : Nat) (w : World) (ha : a < 65536) (c : Nat) (hc : c ≤ 32767) :
    Calls Try.prog 28 #[.int .i64 17, .int .i64 a, .int .i64 c] w fun e w' => e = .returned (.int .i64 ((mvX 17 a c : Nat) : Int)) ∧ w' = w := by
  have HX : Hid (mvX 17 a c < 65536) := mvX_lt 17 a c ha
  go_enter Try.func28, Try.ntmps28
  go_wp2
  go_loop [7, 8] (fun n i => ∃ k : Nat, k ≤ 16 ∧ i = .int .i64 k ∧ n = .int .i64 ((mvX 17 a c % 2 ^ k : Nat) : Int)) (fun _ i => 16 - (intOf i).toNat)
  case atStart => exact ⟨0, Nat.zero_le _, rfl, by simp [Nat.mod_one]⟩
  case round =>
    obtain ⟨k, hk, rfl, rfl⟩ := hrel
    by_cases hlt : k < 16
    · have hp := pow_bd k hk
      have hl := low_bd (mvX 17 a c) k hk
      have hl0 : 0 ≤ ((mvX 17 a c % 2 ^ k : Nat) : Int) := Int.natCast_nonneg _
      obtain ⟨f, hf⟩ : ∃ f : Nat, (f : Int) = ((k : Int) - c) % 16 := ⟨(((k : Int) - c) % 16).toNat, by omega⟩
      have HB2 : Hid (mvX 17 a c / 2 ^ k % 2 = a / 2 ^ f % 2) := mv_rol a c k ha hlt f hf
      have ht := tmod_cases ((k : Int) - c) 16
      have hb : -16 < ((k : Int) - c).tmod 16 ∧ ((k : Int) - c).tmod 16 < 16 := by omega
      have er : ((k : Int) - c).tmod 16 % 16 = f := by omega
      have hf16 : f ≤ 15 := by omega
      clear ht hf
      generalize hX : mvX 17 a c = X at *
      clear hX
      rcases bit01 a f with ⟨A, ea⟩ | ⟨A, ea⟩
      · have HZ : Hid (((X % 2 ^ (k + 1) : Nat) : Int) = ((X % 2 ^ k : Nat) : Int)) := next0 X k (by rw [HB2.out, A])
        clear A HB2
        generalize hY : ((X % 2 ^ k : Nat) : Int) = Y at *
        go_wp2_with (first | (go_at_call 39; refine (bit_nat _ _ _ (by omega) (by omega) (by omega)).mono ?_; rintro e w' ⟨rfl, rfl⟩) | (go_at_call 40; refine (power_nat _ _ (by omega)).mono ?_; rintro e w' ⟨rfl, rfl⟩))
        go_round
        case rel => exact ⟨k + 1, by omega, by go_num, by rw [HZ.out]⟩
        case measure => simp [intOf]; omega
      · have HZ : Hid (((X % 2 ^ (k + 1) : Nat) : Int) = ((X % 2 ^ k : Nat) : Int) + 2 ^ k) := next1 X k (by rw [HB2.out, A])
        clear A HB2
        generalize hY : ((X % 2 ^ k : Nat) : Int) = Y at *
        go_wp2_with (first | (go_at_call 39; refine (bit_nat _ _ _ (by omega) (by omega) (by omega)).mono ?_; rintro e w' ⟨rfl, rfl⟩) | (go_at_call 40; refine (power_nat _ _ (by omega)).mono ?_; rintro e w' ⟨rfl, rfl⟩))
        go_round
        case rel => exact ⟨k + 1, by omega, by go_num, by rw [HZ.out]⟩
        case measure => simp [intOf]; omega
    · have e : k = 16 := by omega
      have HM : Hid (mvX 17 a c % 2 ^ k = mvX 17 a c) := by
        show mvX 17 a c % 2 ^ k = mvX 17 a c
        rw [e]; exact Nat.mod_eq_of_lt HX.out
      clear e
      generalize hX : mvX 17 a c = X at *
      go_wp2
      go_ret
      exact ⟨ret_int (by exact_mod_cast HM.out), rfl⟩

set_option maxHeartbeats 2000000 in
theorem moved17n (a : Nat) (w : World) (ha : a < 65536) (y : Int) (hy : y < 0) :
    Calls Try.prog 28 #[.int .i64 17, .int .i64 a, .int .i64 y] w fun e w' => e = .returned (.int .i64 ((mvX 17 a 0 : Nat) : Int)) ∧ w' = w := by
  have HX : Hid (mvX 17 a 0 < 65536) := mvX_lt 17 a 0 ha
  go_enter Try.func28, Try.ntmps28
  go_wp2
  go_loop [7, 8] (fun n i => ∃ k : Nat, k ≤ 16 ∧ i = .int .i64 k ∧ n = .int .i64 ((mvX 17 a 0 % 2 ^ k : Nat) : Int)) (fun _ i => 16 - (intOf i).toNat)
  case atStart => exact ⟨0, Nat.zero_le _, rfl, by simp [Nat.mod_one]⟩
  case round =>
    obtain ⟨k, hk, rfl, rfl⟩ := hrel
    by_cases hlt : k < 16
    · have hp := pow_bd k hk
      have hl := low_bd (mvX 17 a 0) k hk
      have hl0 : 0 ≤ ((mvX 17 a 0 % 2 ^ k : Nat) : Int) := Int.natCast_nonneg _
      have HB2 : Hid (mvX 17 a 0 / 2 ^ k % 2 = a / 2 ^ k % 2) := mv_rol a 0 k ha hlt k (by omega)
      have er : (k : Int) % 16 = k := by omega
      generalize hX : mvX 17 a 0 = X at *
      clear hX
      rcases bit01 a k with ⟨A, ea⟩ | ⟨A, ea⟩
      · have HZ : Hid (((X % 2 ^ (k + 1) : Nat) : Int) = ((X % 2 ^ k : Nat) : Int)) := next0 X k (by rw [HB2.out, A])
        clear A HB2
        generalize hY : ((X % 2 ^ k : Nat) : Int) = Y at *
        go_wp2_with (first | (go_at_call 39; refine (bit_nat _ _ _ (by omega) (by omega) (by omega)).mono ?_; rintro e w' ⟨rfl, rfl⟩) | (go_at_call 40; refine (power_nat _ _ (by omega)).mono ?_; rintro e w' ⟨rfl, rfl⟩))
        go_round
        case rel => exact ⟨k + 1, by omega, by go_num, by rw [HZ.out]⟩
        case measure => simp [intOf]; omega
      · have HZ : Hid (((X % 2 ^ (k + 1) : Nat) : Int) = ((X % 2 ^ k : Nat) : Int) + 2 ^ k) := next1 X k (by rw [HB2.out, A])
        clear A HB2
        generalize hY : ((X % 2 ^ k : Nat) : Int) = Y at *
        go_wp2_with (first | (go_at_call 39; refine (bit_nat _ _ _ (by omega) (by omega) (by omega)).mono ?_; rintro e w' ⟨rfl, rfl⟩) | (go_at_call 40; refine (power_nat _ _ (by omega)).mono ?_; rintro e w' ⟨rfl, rfl⟩))
        go_round
        case rel => exact ⟨k + 1, by omega, by go_num, by rw [HZ.out]⟩
        case measure => simp [intOf]; omega
    · have e : k = 16 := by omega
      have HM : Hid (mvX 17 a 0 % 2 ^ k = mvX 17 a 0) := by
        show mvX 17 a 0 % 2 ^ k = mvX 17 a 0
        rw [e]; exact Nat.mod_eq_of_lt HX.out
      clear e
      generalize hX : mvX 17 a 0 = X at *
      go_wp2
      go_ret
      exact ⟨ret_int (by exact_mod_cast HM.out), rfl⟩

set_option maxHeartbeats 2000000 in
theorem moved18 (a : Nat) (w : World) (ha : a < 65536) (c : Nat) (hc : c ≤ 32767) :
    Calls Try.prog 28 #[.int .i64 18, .int .i64 a, .int .i64 c] w fun e w' => e = .returned (.int .i64 ((mvX 18 a c : Nat) : Int)) ∧ w' = w := by
  have HX : Hid (mvX 18 a c < 65536) := mvX_lt 18 a c ha
  go_enter Try.func28, Try.ntmps28
  go_wp2
  go_loop [7, 8] (fun n i => ∃ k : Nat, k ≤ 16 ∧ i = .int .i64 k ∧ n = .int .i64 ((mvX 18 a c % 2 ^ k : Nat) : Int)) (fun _ i => 16 - (intOf i).toNat)
  case atStart => exact ⟨0, Nat.zero_le _, rfl, by simp [Nat.mod_one]⟩
  case round =>
    obtain ⟨k, hk, rfl, rfl⟩ := hrel
    by_cases hlt : k < 16
    · have hp := pow_bd k hk
      have hl := low_bd (mvX 18 a c) k hk
      have hl0 : 0 ≤ ((mvX 18 a c % 2 ^ k : Nat) : Int) := Int.natCast_nonneg _
      obtain ⟨f, hf⟩ : ∃ f : Nat, (f : Int) = ((k : Int) + c) % 16 := ⟨(((k : Int) + c) % 16).toNat, by omega⟩
      have HB2 : Hid (mvX 18 a c / 2 ^ k % 2 = a / 2 ^ f % 2) := mv_ror a c k ha hlt f hf
      have er : ((k : Int) + c) % 16 = f := hf.symm
      have er2 : (f : Int) % 16 = f := by omega
      have hf16 : f ≤ 15 := by omega
      clear hf
      generalize hX : mvX 18 a c = X at *
      clear hX
      rcases bit01 a f with ⟨A, ea⟩ | ⟨A, ea⟩
      · have HZ : Hid (((X % 2 ^ (k + 1) : Nat) : Int) = ((X % 2 ^ k : Nat) : Int)) := next0 X k (by rw [HB2.out, A])
        clear A HB2
        generalize hY : ((X % 2 ^ k : Nat) : Int) = Y at *
        go_wp2_with (first | (go_at_call 39; refine (bit_nat _ _ _ (by omega) (by omega) (by omega)).mono ?_; rintro e w' ⟨rfl, rfl⟩) | (go_at_call 40; refine (power_nat _ _ (by omega)).mono ?_; rintro e w' ⟨rfl, rfl⟩))
        go_round
        case rel => exact ⟨k + 1, by omega, by go_num, by rw [HZ.out]⟩
        case measure => simp [intOf]; omega
      · have HZ : Hid (((X % 2 ^ (k + 1) : Nat) : Int) = ((X % 2 ^ k : Nat) : Int) + 2 ^ k) := next1 X k (by rw [HB2.out, A])
        clear A HB2
        generalize hY : ((X % 2 ^ k : Nat) : Int) = Y at *
        go_wp2_with (first | (go_at_call 39; refine (bit_nat _ _ _ (by omega) (by omega) (by omega)).mono ?_; rintro e w' ⟨rfl, rfl⟩) | (go_at_call 40; refine (power_nat _ _ (by omega)).mono ?_; rintro e w' ⟨rfl, rfl⟩))
        go_round
        case rel => exact ⟨k + 1, by omega, by go_num, by rw [HZ.out]⟩
        case measure => simp [intOf]; omega
    · have e : k = 16 := by omega
      have HM : Hid (mvX 18 a c % 2 ^ k = mvX 18 a c) := by
        show mvX 18 a c % 2 ^ k = mvX 18 a c
        rw [e]; exact Nat.mod_eq_of_lt HX.out
      clear e
      generalize hX : mvX 18 a c = X at *
      go_wp2
      go_ret
      exact ⟨ret_int (by exact_mod_cast HM.out), rfl⟩

set_option maxHeartbeats 2000000 in
theorem moved18n (a : Nat) (w : World) (ha : a < 65536) (y : Int) (hy : y < 0) :
    Calls Try.prog 28 #[.int .i64 18, .int .i64 a, .int .i64 y] w fun e w' => e = .returned (.int .i64 ((mvX 18 a 0 : Nat) : Int)) ∧ w' = w := by
  have HX : Hid (mvX 18 a 0 < 65536) := mvX_lt 18 a 0 ha
  go_enter Try.func28, Try.ntmps28
  go_wp2
  go_loop [7, 8] (fun n i => ∃ k : Nat, k ≤ 16 ∧ i = .int .i64 k ∧ n = .int .i64 ((mvX 18 a 0 % 2 ^ k : Nat) : Int)) (fun _ i => 16 - (intOf i).toNat)
  case atStart => exact ⟨0, Nat.zero_le _, rfl, by simp [Nat.mod_one]⟩
  case round =>
    obtain ⟨k, hk, rfl, rfl⟩ := hrel
    by_cases hlt : k < 16
    · have hp := pow_bd k hk
      have hl := low_bd (mvX 18 a 0) k hk
      have hl0 : 0 ≤ ((mvX 18 a 0 % 2 ^ k : Nat) : Int) := Int.natCast_nonneg _
      have HB2 : Hid (mvX 18 a 0 / 2 ^ k % 2 = a / 2 ^ k % 2) := mv_ror a 0 k ha hlt k (by omega)
      have er : (k : Int) % 16 = k := by omega
      generalize hX : mvX 18 a 0 = X at *
      clear hX
      rcases bit01 a k with ⟨A, ea⟩ | ⟨A, ea⟩
      · have HZ : Hid (((X % 2 ^ (k + 1) : Nat) : Int) = ((X % 2 ^ k : Nat) : Int)) := next0 X k (by rw [HB2.out, A])
        clear A HB2
        generalize hY : ((X % 2 ^ k : Nat) : Int) = Y at *
        go_wp2_with (first | (go_at_call 39; refine (bit_nat _ _ _ (by omega) (by omega) (by omega)).mono ?_; rintro e w' ⟨rfl, rfl⟩) | (go_at_call 40; refine (power_nat _ _ (by omega)).mono ?_; rintro e w' ⟨rfl, rfl⟩))
        go_round
        case rel => exact ⟨k + 1, by omega, by go_num, by rw [HZ.out]⟩
        case measure => simp [intOf]; omega
      · have HZ : Hid (((X % 2 ^ (k + 1) : Nat) : Int) = ((X % 2 ^ k : Nat) : Int) + 2 ^ k) := next1 X k (by rw [HB2.out, A])
        clear A HB2
        generalize hY : ((X % 2 ^ k : Nat) : Int) = Y at *
        go_wp2_with (first | (go_at_call 39; refine (bit_nat _ _ _ (by omega) (by omega) (by omega)).mono ?_; rintro e w' ⟨rfl, rfl⟩) | (go_at_call 40; refine (power_nat _ _ (by omega)).mono ?_; rintro e w' ⟨rfl, rfl⟩))
        go_round
        case rel => exact ⟨k + 1, by omega, by go_num, by rw [HZ.out]⟩
        case measure => simp [intOf]; omega
    · have e : k = 16 := by omega
      have HM : Hid (mvX 18 a 0 % 2 ^ k = mvX 18 a 0) := by
        show mvX 18 a 0 % 2 ^ k = mvX 18 a 0
        rw [e]; exact Nat.mod_eq_of_lt HX.out
      clear e
      generalize hX : mvX 18 a 0 = X at *
      go_wp2
      go_ret
      exact ⟨ret_int (by exact_mod_cast HM.out), rfl⟩

def mvY (op a y : Int) : Int := ((mvX op a.toNat (if y < 0 then 0 else y).toNat : Nat) : Int)
theorem moved_any (op a y : Int) (w : World) (hs : shB op = true) (h0 : 0 ≤ a) (h1 : a ≤ 65535) (hy : y ≤ 32767) :
    Calls Try.prog 28 #[.int .i64 op, .int .i64 a, .int .i64 y] w fun e w' => e = .returned (.int .i64 (mvY op a y)) ∧ w' = w := by
  unfold mvY
  obtain ⟨b, rfl⟩ := Int.eq_ofNat_of_zero_le h0
  have ho : op = 15 ∨ op = 16 ∨ op = 17 ∨ op = 18 := by simp [shB] at hs; omega
  by_cases hn : y < 0
  · rw [if_pos hn]
    rcases ho with rfl | rfl | rfl | rfl
    · exact moved15n b w (by omega) y hn
    · exact moved16n b w (by omega) y hn
    · exact moved17n b w (by omega) y hn
    · exact moved18n b w (by omega) y hn
  · rw [if_neg hn]
    obtain ⟨c, rfl⟩ := Int.eq_ofNat_of_zero_le (show 0 ≤ y by omega)
    rcases ho with rfl | rfl | rfl | rfl
    · exact moved15 b w (by omega) c (by omega)
    · exact moved16 b w (by omega) c (by omega)
    · exact moved17 b w (by omega) c (by omega)
    · exact moved18 b w (by omega) c (by omega)
theorem bitwise_any (op a b : Int) (w : World) (hs : mkB op = true) (h0 : 0 ≤ a) (h1 : a ≤ 65535) (g0 : 0 ≤ b) (g1 : b ≤ 65535) :
    Calls Try.prog 26 #[.int .i64 op, .int .i64 a, .int .i64 b] w fun e w' => e = .returned (.int .i64 ((bwX op a.toNat b.toNat : Nat) : Int)) ∧ w' = w := by
  obtain ⟨x, rfl⟩ := Int.eq_ofNat_of_zero_le h0
  obtain ⟨y, rfl⟩ := Int.eq_ofNat_of_zero_le g0
  have ho : op = 6 ∨ op = 7 ∨ op = 8 ∨ op = 21 := by simp [mkB] at hs; omega
  rcases ho with rfl | rfl | rfl | rfl
  · exact bitwise6 x y w (by omega) (by omega)
  · exact bitwise7 x y w (by omega) (by omega)
  · exact bitwise8 x y w (by omega) (by omega)
  · exact bitwise21 x y w (by omega) (by omega)
end Go.Proofs.Ytnjlomdkenondaa
