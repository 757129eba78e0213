/- Plain facts on numbers: what wrapping into a kind is, and that it goes along with adding, taking away and multiplying; no program in sight. -/
import Derived.WalkKit
namespace Go.Proofs.Ytphnadhkoigegaa
open Go.RowKit

/-- What a number is, wrapped into a kind. -/
def wrapK (k n : Int) : Int :=
  if k = 1 then n % 2 else if k = 2 then (n + 32768) % 65536 - 32768 else if k = 3 then (n + 2147483648) % 4294967296 - 2147483648
  else if k = 4 then n % 65536 else if k = 5 then n % 4294967296 else 0

theorem wrapK1 (n : Int) : wrapK 1 n = n % 2 := by simp [wrapK]
theorem wrapK2 (n : Int) : wrapK 2 n = (n + 32768) % 65536 - 32768 := by simp [wrapK]
theorem wrapK3 (n : Int) : wrapK 3 n = (n + 2147483648) % 4294967296 - 2147483648 := by simp [wrapK]
theorem wrapK4 (n : Int) : wrapK 4 n = n % 65536 := by simp [wrapK]
theorem wrapK5 (n : Int) : wrapK 5 n = n % 4294967296 := by simp [wrapK]
theorem wrapK_else {k : Int} (n : Int) (h1 : k ≠ 1) (h2 : k ≠ 2) (h3 : k ≠ 3) (h4 : k ≠ 4) (h5 : k ≠ 5) : wrapK k n = 0 := by simp [wrapK, h1, h2, h3, h4, h5]

theorem wrap64_id {n : Int} (h0 : -9223372036854775808 ≤ n) (h1 : n ≤ 9223372036854775807) : wrap64 n = n := by unfold wrap64; omega

theorem i16_is (n : Int) : IntKind.i16.wrap n = (n + 32768) % 65536 - 32768 := by
  unfold IntKind.wrap
  simp only [IntKind.bits, IntKind.signed]
  simp
  split <;> omega
theorem u16_is (n : Int) : IntKind.u16.wrap n = n % 65536 := by
  unfold IntKind.wrap
  simp only [IntKind.bits, IntKind.signed]
  simp

theorem and1 (n : Int) : bits .and .i64 n 1 = n % 2 := by
  unfold bits
  have e : (BitVec.ofInt IntKind.i64.bits n &&& BitVec.ofInt IntKind.i64.bits 1).toNat = (n % 2).toNat := by
    have h1 : (BitVec.ofInt 64 1) = 1#64 := by decide
    show (BitVec.ofInt 64 n &&& BitVec.ofInt 64 1).toNat = _
    rw [h1]
    rw [BitVec.toNat_and, BitVec.toNat_ofInt]
    show ((n % ((2 ^ 64 : Nat) : Int)).toNat &&& 1) = _
    rw [Nat.and_one_is_mod]
    omega
  simp only [e]
  rw [IntWalk.i64_left]
  unfold wrap64
  omega

theorem wrapK_bd (k n : Int) : -2147483648 ≤ wrapK k n ∧ wrapK k n ≤ 4294967295 := by
  unfold wrapK; repeat' split
  all_goals omega
theorem wrapK_small (k n : Int) (h : k = 2 ∨ k = 3) : -2147483648 ≤ wrapK k n ∧ wrapK k n ≤ 2147483647 := by
  rcases h with rfl | rfl
  · rw [wrapK2]; omega
  · rw [wrapK3]; omega

theorem wrapK_idem (k n : Int) : wrapK k (wrapK k n) = wrapK k n := by
  unfold wrapK; repeat' split
  all_goals omega

theorem wrapK_eq_of_emod {k m n : Int} (h : m % 4294967296 = n % 4294967296) : wrapK k m = wrapK k n := by
  unfold wrapK; repeat' split
  all_goals omega
theorem wrapK_w64 (k n : Int) : wrapK k (wrap64 n) = wrapK k n := wrapK_eq_of_emod (by unfold wrap64; omega)

/-- Two numbers are wrapped to the same just where they are the same modulo the width. -/
theorem wrapK_mod2 (n : Int) : (wrapK 2 n) % 65536 = n % 65536 := by rw [wrapK2]; omega
theorem wrapK_mod3 (n : Int) : (wrapK 3 n) % 4294967296 = n % 4294967296 := by rw [wrapK3]; omega
theorem wrapK2_of {m n : Int} (h : m % 65536 = n % 65536) : wrapK 2 m = wrapK 2 n := by rw [wrapK2, wrapK2]; omega
theorem wrapK3_of {m n : Int} (h : m % 4294967296 = n % 4294967296) : wrapK 3 m = wrapK 3 n := by rw [wrapK3, wrapK3]; omega

theorem ring_add (k a b : Int) (h : k = 2 ∨ k = 3) : wrapK k (wrapK k a + wrapK k b) = wrapK k (a + b) := by
  rcases h with rfl | rfl
  · apply wrapK2_of; rw [Int.add_emod, wrapK_mod2, wrapK_mod2, ← Int.add_emod]
  · apply wrapK3_of; rw [Int.add_emod, wrapK_mod3, wrapK_mod3, ← Int.add_emod]
theorem ring_sub (k a b : Int) (h : k = 2 ∨ k = 3) : wrapK k (wrapK k a - wrapK k b) = wrapK k (a - b) := by
  rcases h with rfl | rfl
  · apply wrapK2_of; rw [Int.sub_emod, wrapK_mod2, wrapK_mod2, ← Int.sub_emod]
  · apply wrapK3_of; rw [Int.sub_emod, wrapK_mod3, wrapK_mod3, ← Int.sub_emod]
theorem ring_mul (k a b : Int) (h : k = 2 ∨ k = 3) : wrapK k (wrapK k a * wrapK k b) = wrapK k (a * b) := by
  rcases h with rfl | rfl
  · apply wrapK2_of; rw [Int.mul_emod, wrapK_mod2, wrapK_mod2, ← Int.mul_emod]
  · apply wrapK3_of; rw [Int.mul_emod, wrapK_mod3, wrapK_mod3, ← Int.mul_emod]
end Go.Proofs.Ytphnadhkoigegaa
