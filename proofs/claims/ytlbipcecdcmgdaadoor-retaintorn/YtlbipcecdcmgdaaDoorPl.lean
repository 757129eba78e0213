/- Plain facts: the sum of bytes, numbers as four bytes. -/
import Derived.WalkKit
namespace Go.Proofs.YtlbipcecdcmgdaaDoor
set_option linter.unusedVariables false
set_option linter.unusedSimpArgs false

def sh (r : Nat) : Nat := if r % 2 = 1 then (r / 2) ^^^ 0xEDB88320 else r / 2

theorem sh_lt {r : Nat} (h : r < 2 ^ 32) : sh r < 2 ^ 32 := by
  unfold sh
  split
  · exact Nat.xor_lt_two_pow (by omega) (by decide)
  · omega

theorem half_xor (a b : Nat) : (a ^^^ b) / 2 = (a / 2) ^^^ (b / 2) := by
  apply Nat.eq_of_testBit_eq
  intro i
  simp [Nat.testBit_div_two, Nat.testBit_xor]

theorem mod_xor (a b : Nat) : (a ^^^ b) % 2 = (a % 2 + b % 2) % 2 := by
  have h := @Nat.xor_mod_two_eq_one a b
  omega

theorem sh_xor (a b : Nat) : sh (a ^^^ b) = sh a ^^^ sh b := by
  unfold sh
  rw [half_xor, mod_xor]
  generalize a / 2 = p
  generalize b / 2 = q
  by_cases h1 : a % 2 = 1 <;> by_cases h2 : b % 2 = 1
  · have e : (a % 2 + b % 2) % 2 = 0 := by omega
    rw [if_neg (by omega), if_pos h1, if_pos h2, Nat.xor_comm q, ← Nat.xor_assoc, Nat.xor_assoc p, Nat.xor_self, Nat.xor_zero]
  · have e : (a % 2 + b % 2) % 2 = 1 := by omega
    rw [if_pos e, if_pos h1, if_neg h2, Nat.xor_assoc, Nat.xor_assoc, Nat.xor_comm q]
  · have e : (a % 2 + b % 2) % 2 = 1 := by omega
    rw [if_pos e, if_neg h1, if_pos h2, Nat.xor_assoc]
  · have e : (a % 2 + b % 2) % 2 = 0 := by omega
    rw [if_neg (by omega), if_neg h1, if_neg h2]

theorem sh_double (x : Nat) : sh (2 * x) = x := by
  unfold sh
  rw [if_neg (by omega)]
  omega

theorem low_xor (x : Nat) : x = (x % 2) ^^^ (2 * (x / 2)) := by
  apply Nat.eq_of_testBit_eq
  intro i
  rw [Nat.testBit_xor]
  cases i with
  | zero => simp [Nat.testBit_zero]
  | succ i => simp [Nat.testBit_succ]

theorem sh_bit (r x : Nat) : sh (r ^^^ x) = sh (r ^^^ (x % 2)) ^^^ (x / 2) := by
  conv => lhs; rw [low_xor x, ← Nat.xor_assoc, sh_xor, sh_double]

def shN : Nat → Nat → Nat
  | 0, r => r
  | n + 1, r => shN n (sh r)

theorem shN_xor (n a b : Nat) : shN n (a ^^^ b) = shN n a ^^^ shN n b := by
  induction n generalizing a b with
  | zero => rfl
  | succ n ih => simp only [shN]; rw [sh_xor, ih]

theorem shN_lt {n r : Nat} (h : r < 2 ^ 32) : shN n r < 2 ^ 32 := by
  induction n generalizing r with
  | zero => exact h
  | succ n ih => exact ih (sh_lt h)

theorem shN_add (n m r : Nat) : shN (n + m) r = shN m (shN n r) := by
  induction n generalizing r with
  | zero => simp [shN]
  | succ n ih => rw [Nat.succ_add]; simp only [shN]; exact ih _

theorem shN_last (n r : Nat) : shN (n + 1) r = sh (shN n r) := shN_add n 1 r

/- bit by bit: the first k bits of x put in -/
def inBits : Nat → Nat → Nat → Nat
  | 0, r, _ => r
  | n + 1, r, x => inBits n (sh (r ^^^ (x % 2))) (x / 2)

theorem inBits_is (n r x : Nat) : shN n (r ^^^ x) = inBits n r x ^^^ (x / 2 ^ n) := by
  induction n generalizing r x with
  | zero => simp [shN, inBits]
  | succ n ih => simp only [shN, inBits]; rw [sh_bit, ih, Nat.div_div_eq_div_mul, Nat.pow_succ, Nat.mul_comm]

def crcB (r x : Nat) : Nat := shN 8 (r ^^^ x)
theorem crcB_bits {r x : Nat} (h : x < 256) : crcB r x = inBits 8 r x := by
  unfold crcB
  rw [inBits_is, Nat.div_eq_of_lt (by simpa using h), Nat.xor_zero]
theorem crcB_lt {r x : Nat} (hr : r < 2 ^ 32) (hx : x < 256) : crcB r x < 2 ^ 32 := shN_lt (Nat.xor_lt_two_pow hr (by omega))

def crcR (l : List Nat) (r : Nat) : Nat := l.foldl crcB r
def isB (l : List Nat) : Prop := ∀ x ∈ l, x < 256
theorem crcR_lt {l : List Nat} (hl : isB l) {r : Nat} (hr : r < 2 ^ 32) : crcR l r < 2 ^ 32 := by
  induction l generalizing r with
  | nil => exact hr
  | cons x l ih => exact ih (fun y hy => hl y (by simp [hy])) (crcB_lt hr (hl x (by simp)))
theorem crcR_app (l m : List Nat) (r : Nat) : crcR (l ++ m) r = crcR m (crcR l r) := by simp [crcR]
theorem crcR_take (l : List Nat) (k : Nat) (h : k < l.length) (r : Nat) : crcR (l.take (k + 1)) r = crcB (crcR (l.take k) r) (l.getD k 0) := by
  rw [List.take_add_one, crcR_app]
  simp [crcR, List.getD_eq_getElem?_getD, h]
def crc (l : List Nat) : Nat := 4294967295 - crcR l 4294967295
theorem crc_lt (l : List Nat) : crc l < 2 ^ 32 := by unfold crc; omega
end Go.Proofs.YtlbipcecdcmgdaaDoor
