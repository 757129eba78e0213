/- Contracts of RotateLeft16, shift, work. -/
import Derived.Test.YtnjlomdkenondaaCellD
import Derived.Laws.BitsLemmas
namespace Go.Proofs.Ytnjlomdkenondaa
open Go.RowKit

theorem and15 (c : Int) : bits BinOp.and IntKind.u64 (IntKind.u64.wrap c) 15 = c % 16 := by
  have h := bits_mask .u64 64 (by decide) (fun n h0 h1 => by rw [IntKind.wrap_u64]; omega) 4 (by decide) (IntKind.u64.wrap c) (by rw [IntKind.wrap_u64]; omega) (by rw [IntKind.wrap_u64]; omega)
  have e : ((2 : Int) ^ 4 - 1) = 15 := by decide
  rw [e] at h
  rw [h, IntKind.wrap_u64]
  omega

/-- Sixteen bits gone round to the left by m places. -/
def rotM (a : Int) (m : Nat) : Int := (a * 2 ^ m) % 65536 + a / 2 ^ (16 - m)
theorem rotM_bd (a : Int) (m : Nat) (hm : m < 16) (h0 : 0 ≤ a) (h1 : a ≤ 65535) : 0 ≤ rotM a m ∧ rotM a m ≤ 65535 := by
  have hc : m = 0 ∨ m = 1 ∨ m = 2 ∨ m = 3 ∨ m = 4 ∨ m = 5 ∨ m = 6 ∨ m = 7 ∨ m = 8 ∨ m = 9 ∨ m = 10 ∨ m = 11 ∨ m = 12 ∨ m = 13 ∨ m = 14 ∨ m = 15 := by omega
  unfold rotM
  rcases hc with rfl | rfl | rfl | rfl | rfl | rfl | rfl | rfl | rfl | rfl | rfl | rfl | rfl | rfl | rfl | rfl
  all_goals simp only [Nat.sub_zero, Nat.reduceSub, Int.reducePow]
  all_goals omega

theorem rot_or (a : Int) (m : Nat) (hm : m < 16) (h0 : 0 ≤ a) (h1 : a ≤ 65535) :
    bits BinOp.or IntKind.u16 (IntKind.u16.wrap (a * 2 ^ m)) (a / 2 ^ (16 - m)) = rotM a m := by
  have hw : ∀ n : Int, 0 ≤ n → n < 2 ^ 16 → IntKind.u16.wrap n = n := fun n h0 h1 => by rw [u16_is]; omega
  have hc : m = 0 ∨ m = 1 ∨ m = 2 ∨ m = 3 ∨ m = 4 ∨ m = 5 ∨ m = 6 ∨ m = 7 ∨ m = 8 ∨ m = 9 ∨ m = 10 ∨ m = 11 ∨ m = 12 ∨ m = 13 ∨ m = 14 ∨ m = 15 := by omega
  rw [u16_is]
  unfold rotM
  rcases hc with rfl | rfl | rfl | rfl | rfl | rfl | rfl | rfl | rfl | rfl | rfl | rfl | rfl | rfl | rfl | rfl
  · exact bits_join .u16 16 (by decide) hw 0 _ _ (by omega) (by omega) (by omega) (by omega) (by omega) (by omega)
  · exact bits_join .u16 16 (by decide) hw 1 _ _ (by omega) (by omega) (by omega) (by omega) (by omega) (by omega)
  · exact bits_join .u16 16 (by decide) hw 2 _ _ (by omega) (by omega) (by omega) (by omega) (by omega) (by omega)
  · exact bits_join .u16 16 (by decide) hw 3 _ _ (by omega) (by omega) (by omega) (by omega) (by omega) (by omega)
  · exact bits_join .u16 16 (by decide) hw 4 _ _ (by omega) (by omega) (by omega) (by omega) (by omega) (by omega)
  · exact bits_join .u16 16 (by decide) hw 5 _ _ (by omega) (by omega) (by omega) (by omega) (by omega) (by omega)
  · exact bits_join .u16 16 (by decide) hw 6 _ _ (by omega) (by omega) (by omega) (by omega) (by omega) (by omega)
  · exact bits_join .u16 16 (by decide) hw 7 _ _ (by omega) (by omega) (by omega) (by omega) (by omega) (by omega)
  · exact bits_join .u16 16 (by decide) hw 8 _ _ (by omega) (by omega) (by omega) (by omega) (by omega) (by omega)
  · exact bits_join .u16 16 (by decide) hw 9 _ _ (by omega) (by omega) (by omega) (by omega) (by omega) (by omega)
  · exact bits_join .u16 16 (by decide) hw 10 _ _ (by omega) (by omega) (by omega) (by omega) (by omega) (by omega)
  · exact bits_join .u16 16 (by decide) hw 11 _ _ (by omega) (by omega) (by omega) (by omega) (by omega) (by omega)
  · exact bits_join .u16 16 (by decide) hw 12 _ _ (by omega) (by omega) (by omega) (by omega) (by omega) (by omega)
  · exact bits_join .u16 16 (by decide) hw 13 _ _ (by omega) (by omega) (by omega) (by omega) (by omega) (by omega)
  · exact bits_join .u16 16 (by decide) hw 14 _ _ (by omega) (by omega) (by omega) (by omega) (by omega) (by omega)
  · exact bits_join .u16 16 (by decide) hw 15 _ _ (by omega) (by omega) (by omega) (by omega) (by omega) (by omega)

def rotL (a c : Int) : Int := rotM a (c % 16).toNat
theorem rotL_bd (a c : Int) (h0 : 0 ≤ a) (h1 : a ≤ 65535) : 0 ≤ rotL a c ∧ rotL a c ≤ 65535 := rotM_bd a _ (by omega) h0 h1

set_option maxHeartbeats 1000000 in
theorem rot_any (a c : Int) (w : World) (ha : 0 ≤ a) (ha' : a ≤ 65535) :
    Calls Try.prog 41 #[.int .u16 a, .int .i64 c] w fun e w' => e = .returned (.int .u16 (rotL a c)) ∧ w' = w := by
  have e := and15 c
  go_enter Try.func41, Try.ntmps41
  go_wp2
  go_ret
  refine ⟨ret_int ?_, rfl⟩
  have h := rot_or a (c % 16).toNat (by omega) ha ha'
  have e16 : (16 - c % 16).toNat = 16 - (c % 16).toNat := by omega
  show bits BinOp.or IntKind.u16 (IntKind.u16.wrap (a * 2 ^ (c % 16).toNat)) (a / 2 ^ (16 - c % 16).toNat) = _
  rw [e16, h]; rfl

def shK (op a c : Int) : Int :=
  if op == 15 then wrap64 (a * 2 ^ min c.toNat 64) else if op == 16 then a / 2 ^ min c.toNat 64 else if op == 17 then rotL a c else rotL a (-c)
set_option maxHeartbeats 1000000 in
theorem shift_any (op a c : Int) (w : World) (ha : 0 ≤ a) (ha' : a ≤ 65535) (hc : 0 ≤ c) (hc' : c ≤ 32767) :
    Calls Try.prog 34 #[.int .i64 op, .int .i64 a, .int .i64 c] w fun e w' => e = .returned (.int .i64 (shK op a c)) ∧ w' = w := by
  have b1 := rotL_bd a c ha ha'
  have b2 := rotL_bd a (-c) ha ha'
  go_enter Try.func34, Try.ntmps34
  go_wp2_with (go_at_call 41; refine (rot_any _ _ _ ha ha').mono ?_; rintro e w' ⟨rfl, rfl⟩)
  all_goals go_ret
  all_goals refine ⟨ret_int ?_, rfl⟩
  all_goals simp [shK, *]
end Go.Proofs.Ytnjlomdkenondaa
