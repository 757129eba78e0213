/- The sum, the program's and the document's. -/
import Derived.Test.YtaiicehifailhabB0
import Derived.Test.YtaiicehifailhabPl
import Derived.Laws.BitsLemmas
namespace Go.Proofs.Ytaiicehifailhab
open Go.RowKit
attribute [local go_sem ↓] Go.wp_at_zero Go.wp_at_succ
set_option linter.unusedVariables false
set_option linter.unusedSimpArgs false

theorem hidG {p : Prop} (h : Hid p) : p := h
theorem hidI {p : Prop} (h : p) : Hid p := h
theorem ret_int {k : IntKind} {a b : Int} (h : a = b) : Ending.returned (.int k a) = .returned (.int k b) := by rw [h]
theorem ret_bool {a b : Bool} (h : a = b) : Ending.returned (.bool a) = .returned (.bool b) := by rw [h]
theorem u16_id {n : Int} (h0 : 0 ≤ n) (h1 : n < 65536) : IntKind.u16.wrap n = n := by
  rw [IntKind.wrap_u16]; omega
theorem i64_id {n : Int} (h0 : -9223372036854775808 ≤ n) (h1 : n ≤ 9223372036854775807) : IntKind.i64.wrap n = n := by rw [IntWalk.i64_left]; unfold wrap64; omega
theorem xor16 (a b : Nat) (ha : a < 2 ^ 16) (hb : b < 2 ^ 16) : bits .xor .u16 (a : Int) (b : Int) = ((a ^^^ b : Nat) : Int) := by
  have hx : a ^^^ b < 2 ^ 16 := Nat.xor_lt_two_pow ha hb
  have h1 : (BitVec.ofInt 16 (a : Int)).toNat = a := by
    rw [BitVec.ofInt_natCast, BitVec.toNat_ofNat]; exact Nat.mod_eq_of_lt (by omega)
  have h2 : (BitVec.ofInt 16 (b : Int)).toNat = b := by
    rw [BitVec.ofInt_natCast, BitVec.toNat_ofNat]; exact Nat.mod_eq_of_lt (by omega)
  show IntKind.u16.wrap ((BitVec.ofInt 16 (a : Int) ^^^ BitVec.ofInt 16 (b : Int)).toNat : Int) = _
  rw [BitVec.toNat_xor, h1, h2]
  exact u16_id (by omega) (by omega)
theorem xor64 (a b : Nat) (ha : a < 2 ^ 32) (hb : b < 2 ^ 32) : bits .xor .i64 (a : Int) (b : Int) = ((a ^^^ b : Nat) : Int) := by
  have hx : a ^^^ b < 2 ^ 32 := Nat.xor_lt_two_pow ha hb
  have h1 : (BitVec.ofInt 64 (a : Int)).toNat = a := by
    rw [BitVec.ofInt_natCast, BitVec.toNat_ofNat]; exact Nat.mod_eq_of_lt (by omega)
  have h2 : (BitVec.ofInt 64 (b : Int)).toNat = b := by
    rw [BitVec.ofInt_natCast, BitVec.toNat_ofNat]; exact Nat.mod_eq_of_lt (by omega)
  show IntKind.i64.wrap ((BitVec.ofInt 64 (a : Int) ^^^ BitVec.ofInt 64 (b : Int)).toNat : Int) = _
  rw [BitVec.toNat_xor, h1, h2]
  exact i64_id (by omega) (by omega)
theorem and1_16 (a : Nat) (ha : a < 2 ^ 16) : bits .and .u16 (a : Int) 1 = ((a % 2 : Nat) : Int) := by
  have h := (bits_nat .u16 16 (by decide) (fun n h0 h1 => u16_id h0 (by omega)) a 1 ha (by decide)).1
  rw [Nat.and_one_is_mod] at h
  exact h

theorem shifted_any (r : Nat) (h : r < 2 ^ 16) (w : World) : Calls Try.prog 24 #[.int .u16 (r : Int)] w fun e w' => e = .returned (.int .u16 ((sh r : Nat) : Int)) ∧ w = w' := by
  have e1 := and1_16 r h
  go_enter Try.func24, Try.ntmps24
  by_cases h1 : r % 2 = 1
  · rw [h1] at e1
    have e2 := xor16 (r / 2) 40961 (by omega) (by decide)
    go_wp2
    go_ret
    refine ⟨ret_int ?_, rfl⟩
    unfold sh
    rw [if_pos h1]
    exact e2
  · have h0 : r % 2 = 0 := by omega
    rw [h0] at e1
    go_wp2
    go_ret
    refine ⟨ret_int ?_, rfl⟩
    unfold sh
    rw [if_neg h1]
    simp

theorem at_byte {l : List Nat} (h : isB l) (k : Nat) : l.getD k 0 < 256 := by
  by_cases hk : k < l.length
  · have : l.getD k 0 = l[k] := by simp [List.getD, hk]
    rw [this]
    exact h _ (List.getElem_mem _)
  · have : l.getD k 0 = 0 := by simp [List.getD, Nat.not_lt.1 hk]
    omega
theorem isB_take {l : List Nat} (h : isB l) (k : Nat) : isB (l.take k) := fun x hx => h x (List.mem_of_mem_take hx)
theorem isB_drop {l : List Nat} (h : isB l) (k : Nat) : isB (l.drop k) := fun x hx => h x (List.mem_of_mem_drop hx)
theorem isB_app {l m : List Nat} (h : isB l) (k : isB m) : isB (l ++ m) := fun x hx => by
  rcases List.mem_append.1 hx with h1 | h1
  · exact h x h1
  · exact k x h1
def crc (l : List Nat) : Nat := crcR l 65535
theorem crc_lt {l : List Nat} (h : isB l) : crc l < 2 ^ 16 := crcR_lt h (by decide)

set_option maxHeartbeats 1000000 in
theorem sum_any (l : List Nat) (v : Value) (w : World) (hb : isB l) (hv : rdB w v l) (hm : l.length ≤ maxLen) : Calls Try.prog 18 #[v] w fun e w' => e = .returned (.int .i64 ((crc l : Nat) : Int)) ∧ w = w' := by
  obtain ⟨a, cap, rfl, _, ha⟩ := hv
  have HA : Hid (l = [] ∨ ∃ b off, a = some ⟨b, off, none⟩ ∧ ∀ i, i < l.length → w.cell? ⟨b, off + i, none⟩ = some (.int .u8 ((l.getD i 0 : Nat) : Int))) := ha
  clear ha
  obtain ⟨n, hn⟩ : ∃ n, l.length = n := ⟨_, rfl⟩
  have HN : Hid (l.length = n) := hn
  rw [hn] at hm ⊢
  clear hn
  unfold maxLen at hm
  have HB : Hid (isB l) := hb
  go_enter Try.func18, Try.ntmps18
  go_wp2
  go_loopg [3, 8] n (fun gk s3 s8 wx => ∃ k : Nat, s8 = .int .i64 k ∧ s3 = .int .u16 ((crcR (l.take k) 65535 : Nat) : Int) ∧ k ≤ n ∧ gk = n - k ∧ wx = w)
  case atStart => exact ⟨0, rfl, by simp [crcR], Nat.zero_le _, by omega, rfl⟩
  case round =>
    obtain ⟨k, rfl, rfl, hk, hgk, hwr⟩ := hrel
    subst hwr
    have HG : Hid (gk = n - k) := hgk
    clear hgk
    have hR : crcR (l.take k) 65535 < 2 ^ 16 := crcR_lt (isB_take HB.out k) (by decide)
    by_cases hlt : k < n
    · have hkl : k < l.length := by rw [HN.out]; exact hlt
      rcases HA.out with h | ⟨b, off, rfl, hc⟩
      · subst h; simp at hkl
      have q0 := hc k hkl
      have hx := at_byte HB.out k
      have hT := crcR_take l k hkl 65535
      have HT : Hid (_ = _) := hT
      clear hc hT hkl
      generalize l.getD k 0 = x at q0 hx HT
      generalize crcR (l.take k) 65535 = R at hR HT ⊢
      have e3 := xor16 R x hR (by omega)
      have hRx : R ^^^ x < 2 ^ 16 := Nat.xor_lt_two_pow hR (by omega)
      have hu : IntKind.u16.wrap (x : Int) = x := u16_id (by omega) (by omega)
      have HL : Hid (k < n) := hlt
      have i1 : (0 : Int) ≤ (k : Int) := by omega
      have i2 : (k : Int) < (n : Int) := by omega
      go_wp2
      go_loopg [3, 16] 8 (fun gk s3 s16 wx => ∃ j : Nat, s16 = .int .i64 j ∧ s3 = .int .u16 ((shN j (R ^^^ x) : Nat) : Int) ∧ j ≤ 8 ∧ gk = 8 - j ∧ wx = wr)
      case atStart => exact ⟨0, rfl, by simp [shN, e3], Nat.zero_le _, by omega, rfl⟩
      case round =>
        obtain ⟨j, rfl, rfl, hj, hgj, hwr'⟩ := hrel
        subst hwr'
        have HJ : Hid (_ = _) := hgj
        clear hgj
        have hS : shN j (R ^^^ x) < 2 ^ 16 := shN_lt hRx
        by_cases hlj : j < 8
        · have j2 : (j : Int) < 8 := by omega
          go_wp2_with fail
          refine (shifted_any _ hS _).mono ?_
          rintro e w' ⟨rfl, rfl⟩
          go_wp2
          have hgl := HJ.out
          go_roundg (8 - (j + 1))
          all_goals first | omega | exact ⟨j + 1, by go_num, by rw [shN_last], by omega, by omega, rfl⟩
        · have j2 : ¬ ((j : Int) < 8) := by omega
          have hj8 : j = 8 := by omega
          subst hj8
          go_wp2
          have hgl := HG.out
          go_roundg (n - (k + 1))
          all_goals first | omega | exact ⟨k + 1, by go_num, by rw [HT.out]; rfl, by omega, by omega, rfl⟩
    · have hk' : ¬ ((k : Int) < (n : Int)) := by omega
      have hkn : l.take k = l := List.take_of_length_le (by rw [HN.out]; omega)
      rw [hkn] at hR ⊢
      go_wp2
      go_ret
      exact ⟨rfl, rfl⟩
theorem sh_mod (r : Nat) : sh r = if r % 2 = 1 then (r / 2) ^^^ 40961 else r / 2 := rfl
end Go.Proofs.Ytaiicehifailhab
