/- Plain facts on bits of numbers below 65536; no program in sight. -/
import Derived.Test.YtnjlomdkenondaaPlain
namespace Go.Proofs.Ytnjlomdkenondaa

theorem bit_test (x k : Nat) : x / 2 ^ k % 2 = if x.testBit k = true then 1 else 0 := by
  rw [Nat.testBit_eq_decide_div_mod_eq]
  have := Nat.mod_two_eq_zero_or_one (x / 2 ^ k)
  rcases this with h | h <;> simp [h]

/-- And, or, exclusive or, not: of sixteen bits. -/
def bwX (op : Int) (a b : Nat) : Nat := if op == 6 then a &&& b else if op == 7 then a ||| b else if op == 8 then a ^^^ b else 65535 - a
theorem bw_and (a b k : Nat) : bwX 6 a b / 2 ^ k % 2 = if a / 2 ^ k % 2 = 1 ∧ b / 2 ^ k % 2 = 1 then 1 else 0 := by
  show (a &&& b) / 2 ^ k % 2 = _
  rw [bit_test, bit_test, bit_test, Nat.testBit_and]
  cases a.testBit k <;> cases b.testBit k <;> rfl
theorem bw_or (a b k : Nat) : bwX 7 a b / 2 ^ k % 2 = if a / 2 ^ k % 2 = 0 ∧ b / 2 ^ k % 2 = 0 then 0 else 1 := by
  show (a ||| b) / 2 ^ k % 2 = _
  rw [bit_test, bit_test, bit_test, Nat.testBit_or]
  cases a.testBit k <;> cases b.testBit k <;> rfl
theorem bw_xor (a b k : Nat) : bwX 8 a b / 2 ^ k % 2 = if a / 2 ^ k % 2 = b / 2 ^ k % 2 then 0 else 1 := by
  show (a ^^^ b) / 2 ^ k % 2 = _
  rw [bit_test, bit_test, bit_test, Nat.testBit_xor]
  cases a.testBit k <;> cases b.testBit k <;> rfl
theorem bw_not (a b k : Nat) (hk : k < 16) (ha : a < 65536) : bwX 21 a b / 2 ^ k % 2 = if a / 2 ^ k % 2 = 0 then 1 else 0 := by
  show (65535 - a) / 2 ^ k % 2 = _
  have e : 65535 - a = 2 ^ 16 - (a + 1) := by omega
  rw [bit_test, bit_test, e, Nat.testBit_two_pow_sub_succ (by omega)]
  simp only [hk]
  cases a.testBit k <;> rfl
theorem bwX_lt (op : Int) (a b : Nat) (ha : a < 65536) (hb : b < 65536) : bwX op a b < 65536 := by
  unfold bwX
  split
  · exact Nat.and_lt_two_pow (n := 16) a hb
  · split
    · exact Nat.or_lt_two_pow (n := 16) ha hb
    · split
      · exact Nat.xor_lt_two_pow (n := 16) ha hb
      · omega

theorem mod_next (x k : Nat) : x % 2 ^ (k + 1) = x % 2 ^ k + x / 2 ^ k % 2 * 2 ^ k := by
  rw [Nat.mod_pow_succ, Nat.mul_comm]

/-- Moved to the left, to the right, round to the left, round to the right: of sixteen bits. -/
def rotX (a m : Nat) : Nat := (a * 2 ^ m) % 65536 + a / 2 ^ (16 - m)
def mvX (op : Int) (a c : Nat) : Nat :=
  if op == 15 then a * 2 ^ c % 65536 else if op == 16 then a / 2 ^ c else if op == 17 then rotX a (c % 16) else rotX a ((16 - c % 16) % 16)
theorem mv_shl (a c k : Nat) (hk : k < 16) : mvX 15 a c / 2 ^ k % 2 = if c ≤ k then a / 2 ^ (k - c) % 2 else 0 := by
  show (a * 2 ^ c % 65536) / 2 ^ k % 2 = _
  have e : a * 2 ^ c % 65536 = a * 2 ^ c % 2 ^ 16 := rfl
  rw [e, bit_test, Nat.testBit_mod_two_pow, Nat.testBit_mul_two_pow]
  by_cases h : c ≤ k
  · simp only [hk, h, bit_test]
    simp
  · simp [h]
theorem mv_shr (a c k : Nat) : mvX 16 a c / 2 ^ k % 2 = a / 2 ^ (k + c) % 2 := by
  show (a / 2 ^ c) / 2 ^ k % 2 = _
  rw [Nat.div_div_eq_div_mul, ← Nat.pow_add, Nat.add_comm]
theorem bit_high (a k : Nat) (ha : a < 65536) (hk : 16 ≤ k) : a / 2 ^ k % 2 = 0 := by
  have h1 : 2 ^ 16 ≤ 2 ^ k := Nat.pow_le_pow_right (by decide) hk
  have h2 : a / 2 ^ k = 0 := Nat.div_eq_of_lt (by omega)
  rw [h2]
theorem rot_bit (a m k : Nat) (ha : a < 65536) (hm : m < 16) (hk : k < 16) : rotX a m / 2 ^ k % 2 = a / 2 ^ ((k + 16 - m) % 16) % 2 := by
  have hq : a / 2 ^ (16 - m) < 2 ^ m := by
    rw [Nat.div_lt_iff_lt_mul (Nat.two_pow_pos _), ← Nat.pow_add]
    have e : m + (16 - m) = 16 := by omega
    rw [e]; exact ha
  have e16 : (65536 : Nat) = 2 ^ m * 2 ^ (16 - m) := by
    rw [← Nat.pow_add]
    have e : m + (16 - m) = 16 := by omega
    rw [e]
  have e1 : a * 2 ^ m % 65536 = 2 ^ m * (a % 2 ^ (16 - m)) := by
    rw [e16, Nat.mul_comm a, Nat.mul_mod_mul_left]
  unfold rotX
  rw [e1, Nat.two_pow_add_eq_or_of_lt hq, bit_test, Nat.testBit_or, Nat.testBit_two_pow_mul, Nat.testBit_mod_two_pow, Nat.testBit_div_two_pow, bit_test]
  by_cases h : m ≤ k
  · have e2 : (k + 16 - m) % 16 = k - m := by omega
    have e3 : a.testBit (k + (16 - m)) = false := Nat.testBit_lt_two_pow (Nat.lt_of_lt_of_le ha (Nat.pow_le_pow_right (n := 2) (by decide) (show 16 ≤ k + (16 - m) by omega)))
    have e4 : k - m < 16 - m := by omega
    simp [e2, e3, h, e4]
  · have e2 : (k + 16 - m) % 16 = k + (16 - m) := by omega
    simp [e2, h]
theorem mv_rol (a c k : Nat) (ha : a < 65536) (hk : k < 16) (f : Nat) (hf : (f : Int) = ((k : Int) - c) % 16) : mvX 17 a c / 2 ^ k % 2 = a / 2 ^ f % 2 := by
  show rotX a (c % 16) / 2 ^ k % 2 = _
  rw [rot_bit a _ k ha (by omega) hk]
  have e : (k + 16 - c % 16) % 16 = f := by omega
  rw [e]
theorem mv_ror (a c k : Nat) (ha : a < 65536) (hk : k < 16) (f : Nat) (hf : (f : Int) = ((k : Int) + c) % 16) : mvX 18 a c / 2 ^ k % 2 = a / 2 ^ f % 2 := by
  show rotX a ((16 - c % 16) % 16) / 2 ^ k % 2 = _
  rw [rot_bit a _ k ha (by omega) hk]
  have e : (k + 16 - (16 - c % 16) % 16) % 16 = f := by omega
  rw [e]
theorem rotX_lt (a m : Nat) (hm : m < 16) (ha : a < 65536) : rotX a m < 65536 := by
  have hc : m = 0 ∨ m = 1 ∨ m = 2 ∨ m = 3 ∨ m = 4 ∨ m = 5 ∨ m = 6 ∨ m = 7 ∨ m = 8 ∨ m = 9 ∨ m = 10 ∨ m = 11 ∨ m = 12 ∨ m = 13 ∨ m = 14 ∨ m = 15 := by omega
  unfold rotX
  rcases hc with rfl | rfl | rfl | rfl | rfl | rfl | rfl | rfl | rfl | rfl | rfl | rfl | rfl | rfl | rfl | rfl
  all_goals simp only [Nat.sub_zero, Nat.reduceSub, Nat.reducePow]
  all_goals omega
theorem mvX_lt (op : Int) (a c : Nat) (ha : a < 65536) : mvX op a c < 65536 := by
  unfold mvX
  split
  · omega
  · split
    · exact Nat.lt_of_le_of_lt (Nat.div_le_self _ _) ha
    · split
      · exact rotX_lt a _ (by omega) ha
      · exact rotX_lt a _ (by omega) ha
end Go.Proofs.Ytnjlomdkenondaa
