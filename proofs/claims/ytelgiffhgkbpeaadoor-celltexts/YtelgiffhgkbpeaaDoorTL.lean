/- What is put is got, and what is shown is read; no program in sight. -/
import Derived.Test.YtelgiffhgkbpeaaDoorTK
import Derived.Test.YtelgiffhgkbpeaaDoorBA
namespace Go.Proofs.YtelgiffhgkbpeaaDoor
open Go.RowKit

theorem put_get (k n : Int) (hf : fitsK k n = true) : getE k (putL k n) = 0 ∧ getN k (putL k n) = n := by
  have hk : isK k = true := by
    simp only [fitsK, Bool.and_eq_true] at hf; exact hf.1
  rcases kinds k with rfl | rfl | rfl | rfl | rfl | h
  · have hb := kfits1 hf
    have e : getE 1 (putL 1 n) = 0 := by
      rw [putL1 hf, getE, if_pos hk]
      have : valL [n % 256] = n := by simp [valL]; omega
      rw [this, if_pos (by simp [sizeK]), if_neg (by simp; omega)]
    refine ⟨e, ?_⟩
    rw [getN, if_pos e, putL1 hf]
    have : valL [n % 256] = n := by simp [valL]; omega
    rw [this, wrapK1]; omega
  · have hb := kfits2 hf
    have e : getE 2 (putL 2 n) = 0 := by
      rw [putL2 hf, getE, if_pos hk, if_pos (by simp [sizeK]), if_neg (by simp)]
    refine ⟨e, ?_⟩
    rw [getN, if_pos e, putL2 hf]
    have : valL [n / 256 % 256, n % 256] = n % 65536 := by simp [valL]; omega
    rw [this, wrapK2]; omega
  · have hb := kfits3 hf
    have e : getE 3 (putL 3 n) = 0 := by
      rw [putL3 hf, getE, if_pos hk, if_pos (by simp [sizeK]), if_neg (by simp)]
    refine ⟨e, ?_⟩
    rw [getN, if_pos e, putL3 hf]
    have : valL [n / 16777216 % 256, n / 65536 % 256, n / 256 % 256, n % 256] = n % 4294967296 := by simp [valL]; omega
    rw [this, wrapK3]; omega
  · have hb := kfits4 hf
    have e : getE 4 (putL 4 n) = 0 := by
      rw [putL4 hf, getE, if_pos hk, if_pos (by simp [sizeK]), if_neg (by simp)]
    refine ⟨e, ?_⟩
    rw [getN, if_pos e, putL4 hf]
    have : valL [n / 256 % 256, n % 256] = n % 65536 := by simp [valL]; omega
    rw [this, wrapK4]; omega
  · have hb := kfits5 hf
    have e : getE 5 (putL 5 n) = 0 := by
      rw [putL5 hf, getE, if_pos hk, if_pos (by simp [sizeK]), if_neg (by simp)]
    refine ⟨e, ?_⟩
    rw [getN, if_pos e, putL5 hf]
    have : valL [n / 16777216 % 256, n / 65536 % 256, n / 256 % 256, n % 256] = n % 4294967296 := by simp [valL]; omega
    rw [this, wrapK5]; omega
  · have : isK k = false := by simp [isK]; omega
    rw [hk] at this; cases this

/-! ### Digits -/
theorem feed_app (base : Int) : ∀ (l m : List UInt8) (st : Int × Bool), feed base st (l ++ m) = (feed base st l).bind fun st' => feed base st' m
  | [], _, _ => rfl
  | c :: l, m, st => by
    rw [List.cons_append, feed_cons, feed_cons]
    cases stepD base st c.toNat with
    | none => rfl
    | some st' => exact feed_app base l m st'
theorem dig_byte (d : Nat) (h : d < 10) : ((UInt8.ofNat (48 + d)).toNat : Int) = 48 + d := by
  have : (UInt8.ofNat (48 + d)).toNat = 48 + d := by simp; omega
  rw [this]; omega
theorem step_dig (base v : Int) (wh : Bool) (d : Nat) (h : d < 10) (hb : (d : Int) < base) : stepD base (v, wh) ((UInt8.ofNat (48 + d)).toNat : Int) = some (min (v * base + d) 4294967296, true) := by
  rw [dig_byte d h]
  have hw : worthI (48 + (d : Int)) = d := by unfold worthI; rw [if_pos (by omega)]; omega
  unfold stepD
  rw [if_neg (by omega), hw, if_neg (by omega)]
theorem feed_dec : ∀ (k u : Nat), u ≤ k → u ≤ 4294967296 → feed 10 (0, false) (Lib.decDigits u) = some ((u : Int), true)
  | 0, u, h, _ => by
    obtain rfl : u = 0 := by omega
    rw [Lib.decDigits, dif_pos (by omega), feed_cons, step_dig 10 0 false 0 (by omega) (by omega)]
    rfl
  | k + 1, u, h, hm => by
    rw [Lib.decDigits]
    split
    · rename_i h10
      rw [feed_cons, step_dig 10 0 false u h10 (by omega)]
      show some (min (0 * 10 + (u : Int)) 4294967296, true) = _
      rw [show min (0 * 10 + (u : Int)) 4294967296 = u by omega]
    · rename_i h10
      rw [feed_app, feed_dec k (u / 10) (by omega) (by omega), Option.bind_some, feed_cons, step_dig 10 _ true (u % 10) (by omega) (by omega)]
      show some (min (((u / 10 : Nat) : Int) * 10 + ((u % 10 : Nat) : Int)) 4294967296, true) = _
      rw [show min (((u / 10 : Nat) : Int) * 10 + ((u % 10 : Nat) : Int)) 4294967296 = (u : Int) by omega]
/-- Nothing but digits. -/
def digOnly (l : List UInt8) : Prop := ∀ b ∈ l, 48 ≤ b.toNat ∧ b.toNat ≤ 57
theorem dec_only : ∀ (k u : Nat), u ≤ k → digOnly (Lib.decDigits u)
  | 0, u, h => by
    obtain rfl : u = 0 := by omega
    rw [Lib.decDigits, dif_pos (by omega)]
    intro b hb
    simp only [List.mem_cons, List.not_mem_nil, or_false] at hb
    subst hb; decide
  | k + 1, u, h => by
    rw [Lib.decDigits]
    split
    · intro b hb
      simp only [List.mem_cons, List.not_mem_nil, or_false] at hb
      subst hb
      have : (UInt8.ofNat (48 + u)).toNat = 48 + u := by simp; omega
      omega
    · intro b hb
      rcases List.mem_append.1 hb with hb | hb
      · exact dec_only k (u / 10) (by omega) b hb
      · simp only [List.mem_cons, List.not_mem_nil, or_false] at hb
        subst hb
        have : (UInt8.ofNat (48 + u % 10)).toNat = 48 + u % 10 := by simp; omega
        omega
theorem dec_ne (u : Nat) : Lib.decDigits u ≠ [] := by
  rw [Lib.decDigits]
  split
  · simp
  · simp
theorem dec_lenp (d : Nat) : ∀ (u : Nat), u < 10 ^ (d + 1) → (Lib.decDigits u).length ≤ d + 1 := by
  induction d with
  | zero =>
    intro u h
    rw [Lib.decDigits, dif_pos (by omega)]; simp
  | succ d ih =>
    intro u h
    rw [Lib.decDigits]
    split
    · simp
    · rw [List.length_append]
      have := ih (u / 10) (by rw [Nat.pow_succ] at h; omega)
      simp only [List.length_cons, List.length_nil]
      omega
theorem lower_dig (b : UInt8) (h : 48 ≤ b.toNat ∧ b.toNat ≤ 57) : Lib.lowerB b = b := by
  apply Lib.lowerB_of_not
  rw [Lib.isUpperB_int]
  simp; omega
theorem low_only (l : List UInt8) (h : digOnly l) : lowL l = l := by
  unfold lowL Lib.toLowerA
  induction l with
  | nil => rfl
  | cons b t ih =>
    rw [List.map_cons, lower_dig b (h b List.mem_cons_self), ih (fun x hx => h x (List.mem_cons_of_mem _ hx))]
theorem low_app (l m : List UInt8) : lowL (l ++ m) = lowL l ++ lowL m := by unfold lowL Lib.toLowerA; exact List.map_append
theorem ascii_app (l m : List UInt8) (h : ∀ b ∈ l, b.toNat < 128) (k : ∀ b ∈ m, b.toNat < 128) : ∀ b ∈ l ++ m, b.toNat < 128 := fun b hb => (List.mem_append.1 hb).elim (h b) (k b)
theorem only_ascii (l : List UInt8) (h : digOnly l) : ∀ b ∈ l, b.toNat < 128 := fun b hb => by have := h b hb; omega
theorem only_no (l p : List UInt8) (h : digOnly l) (hp : ∃ b ∈ p, ¬ (48 ≤ b.toNat ∧ b.toNat ≤ 57)) : Lib.hasPrefix l p = false := by
  cases hq : Lib.hasPrefix l p with
  | false => rfl
  | true =>
    obtain ⟨t, rfl⟩ := List.isPrefixOf_iff_prefix.1 hq
    obtain ⟨b, hb, hn⟩ := hp
    exact absurd (h b (List.mem_append_left _ hb)) hn
theorem num_dec (u : Nat) (h : u ≤ 4294967296) : numD (Lib.decDigits u) = ((u : Int), true) := by
  have ho := dec_only u u (Nat.le_refl _)
  unfold numD
  rw [only_no _ _ ho ⟨35, by decide, by decide⟩, only_no _ _ ho ⟨35, by decide, by decide⟩]
  show readD 10 _ = _
  rw [readD, feed_dec u u (Nat.le_refl _) h]; rfl
end Go.Proofs.YtelgiffhgkbpeaaDoor
