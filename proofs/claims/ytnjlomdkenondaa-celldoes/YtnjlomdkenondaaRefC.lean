/- Contracts of the document's answer: bit, power. -/
import Derived.Test.YtnjlomdkenondaaRefB
import Derived.Test.YtnjlomdkenondaaPlainB
namespace Go.Proofs.Ytnjlomdkenondaa
open Go.RowKit

theorem half_next (n : Int) (k : Nat) : n / 2 ^ (k + 1) = n / 2 ^ k / 2 := by
  rw [Int.pow_succ, Int.ediv_ediv_of_nonneg (Int.pow_nonneg (by decide))]
theorem half_bd (n : Int) (k : Nat) (h0 : 0 ≤ n) (h1 : n ≤ 65535) : 0 ≤ n / 2 ^ k ∧ n / 2 ^ k ≤ 65535 :=
  ⟨Int.ediv_nonneg h0 (Int.pow_nonneg (by decide)), Int.le_trans (Int.ediv_le_self _ h0) h1⟩

set_option maxHeartbeats 400000 in
theorem bit_nat (n : Int) (i : Nat) (w : World) (h0 : 0 ≤ n) (h1 : n ≤ 65535) (hi : i ≤ 16) :
    Calls Try.prog 39 #[.int .i64 n, .int .i64 i] w fun e w' => e = .returned (.int .i64 (n / 2 ^ i % 2)) ∧ w' = w := by
  go_enter Try.func39, Try.ntmps39
  go_wp2
  go_loop [0, 5] (fun a j => ∃ k : Nat, k ≤ i ∧ j = .int .i64 k ∧ a = .int .i64 (n / 2 ^ k)) (fun _ j => i - (intOf j).toNat)
  case atStart => exact ⟨0, Nat.zero_le _, rfl, by simp⟩
  case round =>
    obtain ⟨k, hk, rfl, rfl⟩ := hrel
    have hb := half_bd n k h0 h1
    have HN : Hid (n / 2 ^ (k + 1) = n / 2 ^ k / 2) := half_next n k
    by_cases hlt : k < i
    · go_wp2
      go_round
      case rel => exact ⟨k + 1, by omega, by go_num, by rw [HN.out]⟩
      case measure => simp [intOf]; omega
    · go_wp2
      go_ret
      have e : k = i := by omega
      exact ⟨ret_int (by rw [e]), rfl⟩

theorem pow_bd (k : Nat) (h : k ≤ 16) : 1 ≤ (2 : Int) ^ k ∧ (2 : Int) ^ k ≤ 65536 := by
  have h1 : 2 ^ k ≤ 2 ^ 16 := Nat.pow_le_pow_right (by decide) h
  have h2 : 0 < 2 ^ k := Nat.two_pow_pos k
  have e : (2 : Int) ^ k = ((2 ^ k : Nat) : Int) := by simp
  rw [e]; omega
set_option maxHeartbeats 400000 in
theorem power_nat (i : Nat) (w : World) (hi : i ≤ 16) :
    Calls Try.prog 40 #[.int .i64 i] w fun e w' => e = .returned (.int .i64 (2 ^ i)) ∧ w' = w := by
  go_enter Try.func40, Try.ntmps40
  go_wp2
  go_loop [3, 4] (fun p j => ∃ k : Nat, k ≤ i ∧ j = .int .i64 k ∧ p = .int .i64 (2 ^ k)) (fun _ j => i - (intOf j).toNat)
  case atStart => exact ⟨0, Nat.zero_le _, rfl, by simp⟩
  case round =>
    obtain ⟨k, hk, rfl, rfl⟩ := hrel
    have hb := pow_bd k (by omega)
    have HN : Hid ((2 : Int) ^ (k + 1) = 2 ^ k * 2) := Int.pow_succ 2 k
    by_cases hlt : k < i
    · go_wp2
      go_round
      case rel => exact ⟨k + 1, by omega, by go_num, by rw [HN.out]⟩
      case measure => simp [intOf]; omega
    · go_wp2
      go_ret
      have e : k = i := by omega
      exact ⟨ret_int (by rw [e]), rfl⟩
end Go.Proofs.Ytnjlomdkenondaa
