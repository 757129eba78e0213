/- The sum, the program's and the document's. -/
import Derived.Test.YtlbipcecdcmgdaaDoorB0
import Derived.Test.YtlbipcecdcmgdaaDoorPl
import Derived.Laws.BitsLemmas
namespace Go.Proofs.YtlbipcecdcmgdaaDoor
open Go.RowKit
attribute [local go_sem ↓] Go.wp_at_zero Go.wp_at_succ
set_option linter.unusedVariables false
set_option linter.unusedSimpArgs false

theorem ret_int {k : IntKind} {a b : Int} (h : a = b) : Ending.returned (.int k a) = .returned (.int k b) := by rw [h]
theorem ret_bool {a b : Bool} (h : a = b) : Ending.returned (.bool a) = .returned (.bool b) := by rw [h]
theorem u32_id {n : Int} (h0 : 0 ≤ n) (h1 : n < 4294967296) : IntKind.u32.wrap n = n := by
  rw [IntKind.wrap_u32]; omega
theorem i64_id {n : Int} (h0 : -9223372036854775808 ≤ n) (h1 : n ≤ 9223372036854775807) : IntKind.i64.wrap n = n := by rw [IntWalk.i64_left]; unfold wrap64; omega
theorem xor32 (a b : Nat) (ha : a < 2 ^ 32) (hb : b < 2 ^ 32) : bits .xor .u32 (a : Int) (b : Int) = ((a ^^^ b : Nat) : Int) := by
  have hx : a ^^^ b < 2 ^ 32 := Nat.xor_lt_two_pow ha hb
  have h1 : (BitVec.ofInt 32 (a : Int)).toNat = a := by
    rw [BitVec.ofInt_natCast, BitVec.toNat_ofNat]; exact Nat.mod_eq_of_lt (by omega)
  have h2 : (BitVec.ofInt 32 (b : Int)).toNat = b := by
    rw [BitVec.ofInt_natCast, BitVec.toNat_ofNat]; exact Nat.mod_eq_of_lt (by omega)
  show IntKind.u32.wrap ((BitVec.ofInt 32 (a : Int) ^^^ BitVec.ofInt 32 (b : Int)).toNat : Int) = _
  rw [BitVec.toNat_xor, h1, h2]
  exact u32_id (by omega) (by omega)
theorem xor64 (a b : Nat) (ha : a < 2 ^ 32) (hb : b < 2 ^ 32) : bits .xor .i64 (a : Int) (b : Int) = ((a ^^^ b : Nat) : Int) := by
  have hx : a ^^^ b < 2 ^ 32 := Nat.xor_lt_two_pow ha hb
  have h1 : (BitVec.ofInt 64 (a : Int)).toNat = a := by
    rw [BitVec.ofInt_natCast, BitVec.toNat_ofNat]; exact Nat.mod_eq_of_lt (by omega)
  have h2 : (BitVec.ofInt 64 (b : Int)).toNat = b := by
    rw [BitVec.ofInt_natCast, BitVec.toNat_ofNat]; exact Nat.mod_eq_of_lt (by omega)
  show IntKind.i64.wrap ((BitVec.ofInt 64 (a : Int) ^^^ BitVec.ofInt 64 (b : Int)).toNat : Int) = _
  rw [BitVec.toNat_xor, h1, h2]
  exact i64_id (by omega) (by omega)
theorem and1_32 (a : Nat) (ha : a < 2 ^ 32) : bits .and .u32 (a : Int) 1 = ((a % 2 : Nat) : Int) := by
  have h := (bits_nat .u32 32 (by decide) (fun n h0 h1 => u32_id h0 (by omega)) a 1 ha (by decide)).1
  rw [Nat.and_one_is_mod] at h
  exact h
theorem and1_64 (a : Nat) (ha : a < 2 ^ 32) : bits .and .i64 (a : Int) 1 = ((a % 2 : Nat) : Int) := by
  have h := (bits_nat .i64 32 (by decide) (fun n h0 h1 => i64_id (by omega) (by omega)) a 1 ha (by decide)).1
  rw [Nat.and_one_is_mod] at h
  exact h
theorem ones_xor : ∀ (k a : Nat), a < 2 ^ k → (2 ^ k - 1) ^^^ a = 2 ^ k - 1 - a := by
  intro k
  induction k with
  | zero => intro a h; simp at h; subst h; rfl
  | succ k ih =>
    intro a h
    have h2 : a / 2 < 2 ^ k := by omega
    have e1 := half_xor (2 ^ (k + 1) - 1) a
    have e2 := mod_xor (2 ^ (k + 1) - 1) a
    have hp : 0 < 2 ^ k := Nat.pow_pos (by omega)
    rw [show (2 ^ (k + 1) - 1) / 2 = 2 ^ k - 1 by omega, ih _ h2] at e1
    omega
theorem not32 (a : Nat) (ha : a < 2 ^ 32) : bits .xor .u32 4294967295 (a : Int) = ((4294967295 - a : Nat) : Int) := by
  have h := xor32 4294967295 a (by decide) ha
  rw [show 4294967295 ^^^ a = 4294967295 - a from ones_xor 32 a ha] at h
  exact h

theorem shifted_any (r : Nat) (h : r < 2 ^ 32) (w : World) : Calls Tryd.prog 49 #[.int .u32 (r : Int)] w fun e w' => e = .returned (.int .u32 ((sh r : Nat) : Int)) ∧ w = w' := by
  have e1 := and1_32 r h
  go_enter Tryd.func49, Tryd.ntmps49
  by_cases h1 : r % 2 = 1
  · rw [h1] at e1
    have e2 := xor32 (r / 2) 3988292384 (by omega) (by decide)
    go_wp2
    go_ret
    refine ⟨ret_int ?_, rfl⟩
    unfold sh
    rw [if_pos h1]
    exact e2
  · have h0 : r % 2 = 0 := by omega
    rw [h0] at e1
    go_wp2
    go_ret
    refine ⟨ret_int ?_, rfl⟩
    unfold sh
    rw [if_neg h1]
    simp

theorem at_byte {l : List Nat} (h : isB l) (k : Nat) : l.getD k 0 < 256 := by
  by_cases hk : k < l.length
  · have : l.getD k 0 = l[k] := by simp [List.getD, hk]
    rw [this]
    exact h _ (List.getElem_mem _)
  · have : l.getD k 0 = 0 := by simp [List.getD, Nat.not_lt.1 hk]
    omega
theorem isB_take {l : List Nat} (h : isB l) (k : Nat) : isB (l.take k) := fun x hx => h x (List.mem_of_mem_take hx)
theorem isB_drop {l : List Nat} (h : isB l) (k : Nat) : isB (l.drop k) := fun x hx => h x (List.mem_of_mem_drop hx)

theorem inBits_last (j r x : Nat) : inBits (j + 1) r x = sh (inBits j r x ^^^ (x / 2 ^ j % 2)) := by
  induction j generalizing r x with
  | zero => simp [inBits]
  | succ j ih =>
    rw [inBits, ih, inBits]
    congr 3
    rw [Nat.div_div_eq_div_mul, Nat.pow_succ, Nat.mul_comm]
theorem inBits_lt {n r x : Nat} (h : r < 2 ^ 32) (hx : x < 256) : inBits n r x < 2 ^ 32 := by
  induction n generalizing r x with
  | zero => exact h
  | succ n ih => exact ih (sh_lt (Nat.xor_lt_two_pow h (by omega))) (by omega)
theorem bit_is (x j q : Nat) (hx : x < 256) (hq : q < 2 ^ 32) : bits .xor .i64 (bits .and .i64 ((x : Int) / 2 ^ j) 1) (bits .and .i64 (q : Int) 1) = (((q ^^^ (x / 2 ^ j % 2)) % 2 : Nat) : Int) := by
  have e : (x : Int) / 2 ^ j = ((x / 2 ^ j : Nat) : Int) := by simp
  have hy : x / 2 ^ j < 2 ^ 32 := Nat.lt_of_le_of_lt (Nat.div_le_self _ _) (by omega)
  rw [e, and1_64 _ hy, and1_64 _ hq, xor64 _ _ (by omega) (by omega), mod_xor, Nat.mod_mod]
  generalize x / 2 ^ j = y
  have hy2 : y % 2 = 0 ∨ y % 2 = 1 := by omega
  have hq2 : q % 2 = 0 ∨ q % 2 = 1 := by omega
  rcases hy2 with h | h <;> rcases hq2 with h' | h' <;> rw [h, h'] <;> rfl
theorem sh_low (q b : Nat) (hb : b < 2) : sh (q ^^^ b) = if (q ^^^ b) % 2 = 1 then (q / 2) ^^^ 3988292384 else q / 2 := by
  unfold sh
  rw [half_xor, Nat.div_eq_of_lt hb, Nat.xor_zero]
set_option maxHeartbeats 1000000 in
theorem sum_any (l : List Nat) (v : Value) (w : World) (hb : isB l) (hv : rdB w v l) (hm : l.length ≤ maxLen) : Calls Tryd.prog 44 #[v] w fun e w' => e = .returned (.int .i64 ((crc l : Nat) : Int)) ∧ w = w' := by
  obtain ⟨a, cap, rfl, _, ha⟩ := hv
  have HA : Hid (l = [] ∨ ∃ b off, a = some ⟨b, off, none⟩ ∧ ∀ i, i < l.length → w.cell? ⟨b, off + i, none⟩ = some (.int .u8 ((l.getD i 0 : Nat) : Int))) := ha
  clear ha
  obtain ⟨n, hn⟩ : ∃ n, l.length = n := ⟨_, rfl⟩
  have HN : Hid (l.length = n) := hn
  rw [hn] at hm ⊢
  clear hn
  unfold maxLen at hm
  have HB : Hid (isB l) := hb
  have e0 := not32 0 (by decide)
  go_enter Tryd.func44, Tryd.ntmps44
  go_wp2
  go_loopg [3, 8] n (fun gk s3 s8 wx => ∃ k : Nat, s8 = .int .i64 k ∧ s3 = .int .u32 ((crcR (l.take k) 4294967295 : Nat) : Int) ∧ k ≤ n ∧ gk = n - k ∧ wx = w)
  case atStart => exact ⟨0, rfl, by simp [crcR], Nat.zero_le _, by omega, rfl⟩
  case round =>
    obtain ⟨k, rfl, rfl, hk, hgk, hwr⟩ := hrel
    subst hwr
    have HG : Hid (gk = n - k) := hgk
    clear hgk
    have hR : crcR (l.take k) 4294967295 < 2 ^ 32 := crcR_lt (isB_take HB.out k) (by decide)
    by_cases hlt : k < n
    · have hkl : k < l.length := by rw [HN.out]; exact hlt
      rcases HA.out with h | ⟨b, off, rfl, hc⟩
      · subst h; simp at hkl
      have q0 := hc k hkl
      have hx := at_byte HB.out k
      have hT := crcR_take l k hkl 4294967295
      have HT : Hid (_ = _) := hT
      clear hc hT hkl
      generalize l.getD k 0 = x at q0 hx HT
      generalize crcR (l.take k) 4294967295 = R at hR HT ⊢
      have e3 := xor32 R x hR (by omega)
      have hRx : R ^^^ x < 2 ^ 32 := Nat.xor_lt_two_pow hR (by omega)
      have hu : IntKind.u32.wrap (x : Int) = x := u32_id (by omega) (by omega)
      have HL : Hid (k < n) := hlt
      have i1 : (0 : Int) ≤ (k : Int) := by omega
      have i2 : (k : Int) < (n : Int) := by omega
      go_wp2
      go_loopg [3, 16] 8 (fun gk s3 s16 wx => ∃ j : Nat, s16 = .int .i64 j ∧ s3 = .int .u32 ((shN j (R ^^^ x) : Nat) : Int) ∧ j ≤ 8 ∧ gk = 8 - j ∧ wx = wr)
      case atStart => exact ⟨0, rfl, by simp [shN, e3], Nat.zero_le _, by omega, rfl⟩
      case round =>
        obtain ⟨j, rfl, rfl, hj, hgj, hwr'⟩ := hrel
        subst hwr'
        have HJ : Hid (_ = _) := hgj
        clear hgj
        have hS : shN j (R ^^^ x) < 2 ^ 32 := shN_lt hRx
        by_cases hlj : j < 8
        · have j2 : (j : Int) < 8 := by omega
          go_wp2_with fail
          refine (shifted_any _ hS _).mono ?_
          rintro e w' ⟨rfl, rfl⟩
          go_wp2
          have hgl := HJ.out
          go_roundg (8 - (j + 1))
          all_goals first | omega | exact ⟨j + 1, by go_num, by rw [shN_last], by omega, by omega, rfl⟩
        · have j2 : ¬ ((j : Int) < 8) := by omega
          have hj8 : j = 8 := by omega
          subst hj8
          go_wp2
          have hgl := HG.out
          go_roundg (n - (k + 1))
          all_goals first | omega | exact ⟨k + 1, by go_num, by rw [HT.out]; rfl, by omega, by omega, rfl⟩
    · have hk' : ¬ ((k : Int) < (n : Int)) := by omega
      have hkn : l.take k = l := List.take_of_length_le (by rw [HN.out]; omega)
      rw [hkn] at hR ⊢
      have e4 := not32 _ hR
      go_wp2
      go_ret
      refine ⟨ret_int ?_, rfl⟩
      unfold crc
      show wrap64 (bits BinOp.xor IntKind.u32 4294967295 _) = _
      rw [e4]
      unfold wrap64
      omega
set_option maxHeartbeats 1000000 in
theorem crc_any (l : List Nat) (v : Value) (w : World) (hb : isB l) (hv : rdB w v l) (hm : l.length ≤ maxLen) : Calls Tryd.prog 28 #[v] w fun e w' => e = .returned (.int .i64 ((crc l : Nat) : Int)) ∧ w = w' := by
  obtain ⟨a, cap, rfl, _, ha⟩ := hv
  have HA : Hid (l = [] ∨ ∃ b off, a = some ⟨b, off, none⟩ ∧ ∀ i, i < l.length → w.cell? ⟨b, off + i, none⟩ = some (.int .u8 ((l.getD i 0 : Nat) : Int))) := ha
  clear ha
  obtain ⟨n, hn⟩ : ∃ n, l.length = n := ⟨_, rfl⟩
  have HN : Hid (l.length = n) := hn
  rw [hn] at hm ⊢
  clear hn
  unfold maxLen at hm
  have HB : Hid (isB l) := hb
  go_enter Tryd.func28, Tryd.ntmps28
  go_wp2
  go_loopg [3, 4] n (fun gk s3 s4 wx => ∃ k : Nat, s4 = .int .i64 k ∧ s3 = .int .i64 ((crcR (l.take k) 4294967295 : Nat) : Int) ∧ k ≤ n ∧ gk = n - k ∧ wx = w)
  case atStart => exact ⟨0, rfl, by simp [crcR], Nat.zero_le _, by omega, rfl⟩
  case round =>
    obtain ⟨k, rfl, rfl, hk, hgk, hwr⟩ := hrel
    subst hwr
    have HG : Hid (gk = n - k) := hgk
    clear hgk
    have hR : crcR (l.take k) 4294967295 < 2 ^ 32 := crcR_lt (isB_take HB.out k) (by decide)
    by_cases hlt : k < n
    · have hkl : k < l.length := by rw [HN.out]; exact hlt
      rcases HA.out with h | ⟨b, off, rfl, hc⟩
      · subst h; simp at hkl
      have q0 := hc k hkl
      have hx := at_byte HB.out k
      have hT := crcR_take l k hkl 4294967295
      rw [crcB_bits hx] at hT
      have HT : Hid (_ = _) := hT
      clear hc hT hkl
      generalize l.getD k 0 = x at q0 hx HT
      generalize crcR (l.take k) 4294967295 = R at hR HT ⊢
      have HL : Hid (k < n) := hlt
      have i1 : (0 : Int) ≤ (k : Int) := by omega
      have i2 : (k : Int) < (n : Int) := by omega
      go_wp2
      go_loopg [3, 5] 8 (fun gk s3 s5 wx => ∃ j : Nat, s5 = .int .i64 j ∧ s3 = .int .i64 ((inBits j R x : Nat) : Int) ∧ j ≤ 8 ∧ gk = 8 - j ∧ wx = wr)
      case atStart => exact ⟨0, rfl, rfl, Nat.zero_le _, by omega, rfl⟩
      case round =>
        obtain ⟨j, rfl, rfl, hj, hgj, hwr'⟩ := hrel
        subst hwr'
        have HJ : Hid (_ = _) := hgj
        clear hgj
        have hS := inBits_lt (n := j) hR hx
        by_cases hlj : j < 8
        · have j2 : (j : Int) < 8 := by omega
          have j1 : (0 : Int) ≤ (j : Int) := by omega
          have j3 : (j : Int) ≤ 64 := by omega
          have hI := inBits_last j R x
          rw [sh_low _ _ (by omega)] at hI
          generalize inBits j R x = Q at hS hI ⊢
          have hbit := bit_is x j Q hx hS
          by_cases h1 : (Q ^^^ (x / 2 ^ j % 2)) % 2 = 1
          · rw [h1] at hbit
            rw [if_pos h1] at hI
            have HI : Hid (_ = _) := hI
            clear hI
            have e2 := xor64 (Q / 2) 3988292384 (by omega) (by decide)
            go_wp2
            have hgl := HJ.out
            go_roundg (8 - (j + 1))
            all_goals first | omega | exact ⟨j + 1, by go_num, by rw [HI.out]; exact congrArg _ e2, by omega, by omega, rfl⟩
          · rw [show (Q ^^^ (x / 2 ^ j % 2)) % 2 = 0 by omega] at hbit
            rw [if_neg h1] at hI
            have HI : Hid (_ = _) := hI
            clear hI
            go_wp2
            have hgl := HJ.out
            go_roundg (8 - (j + 1))
            all_goals first | omega | exact ⟨j + 1, by go_num, by rw [HI.out]; simp, by omega, by omega, rfl⟩
        · have j2 : ¬ ((j : Int) < 8) := by omega
          have hj8 : j = 8 := by omega
          subst hj8
          go_wp2
          have hgl := HG.out
          go_roundg (n - (k + 1))
          all_goals first | omega | exact ⟨k + 1, by go_num, by rw [HT.out], by omega, by omega, rfl⟩
    · have hk' : ¬ ((k : Int) < (n : Int)) := by omega
      have hkn : l.take k = l := List.take_of_length_le (by rw [HN.out]; omega)
      rw [hkn] at hR ⊢
      go_wp2
      go_ret
      refine ⟨ret_int ?_, rfl⟩
      unfold crc
      omega
end Go.Proofs.YtlbipcecdcmgdaaDoor
