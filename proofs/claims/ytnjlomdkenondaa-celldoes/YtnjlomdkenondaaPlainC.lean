/- Plain facts: masking and moving, as the program reckons them and as the document tells them; no walk. -/
import Derived.Test.YtnjlomdkenondaaCellF
import Derived.Test.YtnjlomdkenondaaPlainB
import Derived.Laws.DeepNot64
namespace Go.Proofs.Ytnjlomdkenondaa
open Go.RowKit

theorem and_nat (a b : Nat) (ha : a < 65536) (hb : b < 65536) : bits .and .i64 (a : Int) (b : Int) = ((a &&& b : Nat) : Int) :=
  (bits_nat .i64 16 (by decide) (fun n h0 h1 => by rw [IntWalk.i64_left]; exact wrap64_id (by omega) (by omega)) a b ha hb).1
theorem or_nat (a b : Nat) (ha : a < 65536) (hb : b < 65536) : bits .or .i64 (a : Int) (b : Int) = ((a ||| b : Nat) : Int) :=
  (bits_nat .i64 16 (by decide) (fun n h0 h1 => by rw [IntWalk.i64_left]; exact wrap64_id (by omega) (by omega)) a b ha hb).2
theorem xor_nat (a b : Nat) (ha : a < 65536) (hb : b < 65536) : bits .xor .i64 (a : Int) (b : Int) = ((a ^^^ b : Nat) : Int) := by
  unfold bits
  have e : (BitVec.ofInt IntKind.i64.bits (a : Int) ^^^ BitVec.ofInt IntKind.i64.bits (b : Int)).toNat = a ^^^ b := by
    show (BitVec.ofInt 64 (a : Int) ^^^ BitVec.ofInt 64 (b : Int)).toNat = a ^^^ b
    rw [BitVec.toNat_xor, BitVec.ofInt_natCast, BitVec.ofInt_natCast, BitVec.toNat_ofNat, BitVec.toNat_ofNat, Nat.mod_eq_of_lt (by omega), Nat.mod_eq_of_lt (by omega)]
  have hl : a ^^^ b < 2 ^ 16 := Nat.xor_lt_two_pow ha hb
  simp only [e]
  rw [IntWalk.i64_left]
  exact wrap64_id (by omega) (by omega)
theorem not_nat (a : Int) (h0 : 0 ≤ a) (h1 : a ≤ 65535) : bits .xor .i64 (-1) a = -1 - a := by
  obtain ⟨x, rfl⟩ := Int.eq_ofNat_of_zero_le h0
  exact i64_not x (by omega)
theorem mask_eq (op k a b : Int) (hm : mkB op = true) (hk : k = 1 ∨ k = 4) (h0 : 0 ≤ a) (h1 : a ≤ 65535) (g0 : 0 ≤ b) (g1 : b ≤ 65535) :
    wrapK k (maskK op a b) = wrapK k ((bwX op a.toNat b.toNat : Nat) : Int) := by
  obtain ⟨x, rfl⟩ := Int.eq_ofNat_of_zero_le h0
  obtain ⟨y, rfl⟩ := Int.eq_ofNat_of_zero_le g0
  have ho : op = 6 ∨ op = 7 ∨ op = 8 ∨ op = 21 := by simp [mkB] at hm; omega
  rcases ho with rfl | rfl | rfl | rfl
  · show wrapK k (bits .and .i64 (x : Int) (y : Int)) = wrapK k ((x &&& y : Nat) : Int)
    rw [and_nat x y (by omega) (by omega)]
  · show wrapK k (bits .or .i64 (x : Int) (y : Int)) = wrapK k ((x ||| y : Nat) : Int)
    rw [or_nat x y (by omega) (by omega)]
  · show wrapK k (bits .xor .i64 (x : Int) (y : Int)) = wrapK k ((x ^^^ y : Nat) : Int)
    rw [xor_nat x y (by omega) (by omega)]
  · show wrapK k (bits .xor .i64 (-1) (x : Int)) = wrapK k ((65535 - x : Nat) : Int)
    rw [not_nat x h0 h1]
    rcases hk with rfl | rfl
    · rw [wrapK1, wrapK1]; omega
    · rw [wrapK4, wrapK4]; omega

theorem rot_cast (a m : Nat) : rotM (a : Int) m = ((rotX a m : Nat) : Int) := by
  unfold rotM rotX
  simp
theorem pow_mod (x m : Nat) (hm : 16 ≤ m) : (x * 2 ^ m) % 65536 = 0 := by
  have e1 : 2 ^ m = 2 ^ (m - 16) * 65536 := by
    rw [show (65536 : Nat) = 2 ^ 16 from by decide, ← Nat.pow_add, Nat.sub_add_cancel hm]
  rw [e1, ← Nat.mul_assoc, Nat.mul_mod_left]
theorem pow_modI (x m : Nat) : ((x : Int) * 2 ^ m) % 65536 = ((x * 2 ^ m % 65536 : Nat) : Int) := by simp
theorem shl_eq (x n : Nat) : ((x : Int) * 2 ^ min n 64) % 65536 = ((x * 2 ^ n % 65536 : Nat) : Int) := by
  rw [pow_modI]
  by_cases hn : n ≤ 64
  · rw [Nat.min_eq_left hn]
  · rw [Nat.min_eq_right (by omega), pow_mod x 64 (by decide), pow_mod x n (by omega)]
theorem shr_zero (x m : Nat) (hx : x < 65536) (hm : 16 ≤ m) : x / 2 ^ m = 0 :=
  Nat.div_eq_of_lt (Nat.lt_of_lt_of_le (show x < 2 ^ 16 from hx) (Nat.pow_le_pow_right (by decide) hm))
theorem shr_eq (x n : Nat) (hx : x < 65536) : (x : Int) / 2 ^ min n 64 = ((x / 2 ^ n : Nat) : Int) := by
  have e : ∀ m : Nat, (x : Int) / 2 ^ m = ((x / 2 ^ m : Nat) : Int) := fun m => by simp
  rw [e]
  by_cases hn : n ≤ 64
  · rw [Nat.min_eq_left hn]
  · rw [Nat.min_eq_right (by omega), shr_zero x 64 hx (by decide), shr_zero x n hx (by omega)]
theorem rol_eq (x n : Nat) : rotL (x : Int) n = ((rotX x (n % 16) : Nat) : Int) := by
  unfold rotL
  have e : ((n : Int) % 16).toNat = n % 16 := by omega
  rw [e, rot_cast]
theorem ror_eq (x n : Nat) : rotL (x : Int) (-(n : Int)) = ((rotX x ((16 - n % 16) % 16) : Nat) : Int) := by
  unfold rotL
  have e : ((-(n : Int)) % 16).toNat = (16 - n % 16) % 16 := by omega
  rw [e, rot_cast]
theorem sh15 (a c : Int) : shK 15 a c = wrap64 (a * 2 ^ min c.toNat 64) := by simp [shK]
theorem sh16 (a c : Int) : shK 16 a c = a / 2 ^ min c.toNat 64 := by simp [shK]
theorem sh17 (a c : Int) : shK 17 a c = rotL a c := by simp [shK]
theorem sh18 (a c : Int) : shK 18 a c = rotL a (-c) := by simp [shK]
theorem mv15 (a c : Nat) : mvX 15 a c = a * 2 ^ c % 65536 := by simp [mvX]
theorem mv16 (a c : Nat) : mvX 16 a c = a / 2 ^ c := by simp [mvX]
theorem mv17 (a c : Nat) : mvX 17 a c = rotX a (c % 16) := by simp [mvX]
theorem mv18 (a c : Nat) : mvX 18 a c = rotX a ((16 - c % 16) % 16) := by simp [mvX]
theorem shift_eq (op a c : Int) (hs : shB op = true) (h0 : 0 ≤ a) (h1 : a ≤ 65535) (hc : 0 ≤ c) :
    wrapK 4 (shK op a c) = wrapK 4 ((mvX op a.toNat c.toNat : Nat) : Int) := by
  obtain ⟨x, rfl⟩ := Int.eq_ofNat_of_zero_le h0
  obtain ⟨n, rfl⟩ := Int.eq_ofNat_of_zero_le hc
  have ho : op = 15 ∨ op = 16 ∨ op = 17 ∨ op = 18 := by simp [shB] at hs; omega
  rw [Int.toNat_natCast, Int.toNat_natCast]
  rcases ho with rfl | rfl | rfl | rfl
  · rw [sh15, mv15, wrapK_w64, wrapK4, wrapK4, Int.toNat_natCast, shl_eq]
    omega
  · rw [sh16, mv16, Int.toNat_natCast, shr_eq x n (by omega)]
  · rw [sh17, mv17, rol_eq]
  · rw [sh18, mv18, ror_eq]
end Go.Proofs.Ytnjlomdkenondaa
