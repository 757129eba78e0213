/- Plain facts: a record with bits turned within 32 neighbouring ones. -/
import Derived.Test.YtlbipcecdcmgdaaDoorRc
namespace Go.Proofs.YtlbipcecdcmgdaaDoor
set_option linter.unusedVariables false
set_option linter.unusedSimpArgs false

def bitAt (l : List Nat) (i : Nat) : Nat := l.getD (i / 8) 0 / 2 ^ (i % 8) % 2
def crcN (f : Nat → Nat) : Nat → Nat → Nat
  | 0, r => r
  | n + 1, r => sh (crcN f n r ^^^ f n)
theorem crcN_in (f : Nat → Nat) (a r x : Nat) : ∀ n, (∀ j, j < n → f (a + j) = x / 2 ^ j % 2) → crcN f (a + n) r = inBits n (crcN f a r) x
  | 0, _ => rfl
  | n + 1, h => by
    rw [inBits_last, ← crcN_in f a r x n (fun j hj => h j (by omega)), ← h n (by omega)]
    rfl
theorem bitAt_byte (l : List Nat) (k j : Nat) (hj : j < 8) : bitAt l (8 * k + j) = l.getD k 0 / 2 ^ j % 2 := by
  unfold bitAt
  rw [show (8 * k + j) / 8 = k by omega, show (8 * k + j) % 8 = j by omega]
theorem crcR_bits {l : List Nat} (h : isB l) (r : Nat) : ∀ k, k ≤ l.length → crcR (l.take k) r = crcN (bitAt l) (8 * k) r
  | 0, _ => by simp [crcR, crcN]
  | k + 1, hk => by
    rw [crcR_take l k (by omega), crcR_bits h r k (by omega), crcB_bits (at_byte h k), show 8 * (k + 1) = 8 * k + 8 by omega, crcN_in (bitAt l) (8 * k) r (l.getD k 0) 8 (fun j hj => bitAt_byte l k j hj)]
theorem low_bits (y b : Nat) (hb : b < 8) : y / 2 ^ b % 2 = y % 256 / 2 ^ b % 2 := by
  have h : b = 0 ∨ b = 1 ∨ b = 2 ∨ b = 3 ∨ b = 4 ∨ b = 5 ∨ b = 6 ∨ b = 7 := by omega
  rcases h with rfl | rfl | rfl | rfl | rfl | rfl | rfl | rfl <;> simp <;> omega
theorem val_bits {l : List Nat} (h : isB l) (k j : Nat) (hj : j < 32) : val l k / 2 ^ j % 2 = bitAt l (8 * k + j) := by
  have h0 := at_byte h k
  have h1 := at_byte h (k + 1)
  have h2 := at_byte h (k + 2)
  have h3 := at_byte h (k + 3)
  have e : ∀ a b, b < 8 → val l k / 2 ^ (8 * a + b) % 2 = val l k / 2 ^ (8 * a) % 256 / 2 ^ b % 2 := fun a b hb => by
    rw [Nat.pow_add, ← Nat.div_div_eq_div_mul, low_bits _ _ hb]
  have ha : j / 8 = 0 ∨ j / 8 = 1 ∨ j / 8 = 2 ∨ j / 8 = 3 := by omega
  have hjj : j = 8 * (j / 8) + j % 8 := by omega
  have hb : j % 8 < 8 := by omega
  generalize j % 8 = b at hjj hb
  rcases ha with ha | ha | ha | ha <;> rw [ha] at hjj <;> subst hjj <;> rw [e _ _ hb]
  · rw [show 8 * k + (8 * 0 + b) = 8 * k + b by omega, bitAt_byte l k b hb]
    congr 2
    unfold val
    generalize l.getD k 0 = x0 at *
    generalize l.getD (k + 1) 0 = x1 at *
    generalize l.getD (k + 2) 0 = x2 at *
    generalize l.getD (k + 3) 0 = x3 at *
    clear e
    simp only [Nat.mul_zero, Nat.mul_one, Nat.reduceMul, Nat.reducePow, Nat.pow_zero, Nat.div_one]
    omega
  · rw [show 8 * k + (8 * 1 + b) = 8 * (k + 1) + b by omega, bitAt_byte l (k + 1) b hb]
    congr 2
    unfold val
    generalize l.getD k 0 = x0 at *
    generalize l.getD (k + 1) 0 = x1 at *
    generalize l.getD (k + 2) 0 = x2 at *
    generalize l.getD (k + 3) 0 = x3 at *
    clear e
    simp only [Nat.mul_zero, Nat.mul_one, Nat.reduceMul, Nat.reducePow, Nat.pow_zero, Nat.div_one]
    omega
  · rw [show 8 * k + (8 * 2 + b) = 8 * (k + 2) + b by omega, bitAt_byte l (k + 2) b hb]
    congr 2
    unfold val
    generalize l.getD k 0 = x0 at *
    generalize l.getD (k + 1) 0 = x1 at *
    generalize l.getD (k + 2) 0 = x2 at *
    generalize l.getD (k + 3) 0 = x3 at *
    clear e
    simp only [Nat.mul_zero, Nat.mul_one, Nat.reduceMul, Nat.reducePow, Nat.pow_zero, Nat.div_one]
    omega
  · rw [show 8 * k + (8 * 3 + b) = 8 * (k + 3) + b by omega, bitAt_byte l (k + 3) b hb]
    congr 2
    unfold val
    generalize l.getD k 0 = x0 at *
    generalize l.getD (k + 1) 0 = x1 at *
    generalize l.getD (k + 2) 0 = x2 at *
    generalize l.getD (k + 3) 0 = x3 at *
    clear e
    simp only [Nat.mul_zero, Nat.mul_one, Nat.reduceMul, Nat.reducePow, Nat.pow_zero, Nat.div_one]
    omega
/-- A part whose sum is right leaves a register that does not hang on it. -/
theorem whole {p : List Nat} {L : Nat} (h : isB p) (hL : p.length = L + 4) (hp : val p L = crc (p.take L)) : crcN (bitAt p) (8 * L + 32) 4294967295 = shN 32 4294967295 := by
  have hR : crcR (p.take L) 4294967295 < 2 ^ 32 := crcR_lt (isB_take h L) (by decide)
  rw [crcN_in (bitAt p) (8 * L) 4294967295 (val p L) 32 (fun j hj => (val_bits h L j hj).symm), ← crcR_bits h 4294967295 L (by omega)]
  have e := inBits_is 32 (crcR (p.take L) 4294967295) (val p L)
  rw [Nat.div_eq_of_lt (val_lt h L), Nat.xor_zero] at e
  rw [← e, hp]
  unfold crc
  rw [show 4294967295 - crcR (p.take L) 4294967295 = 4294967295 ^^^ crcR (p.take L) 4294967295 from (ones_xor 32 _ hR).symm, Nat.xor_comm 4294967295, ← Nat.xor_assoc, Nat.xor_self, Nat.zero_xor]
theorem crcN_xor (f g : Nat → Nat) (r s : Nat) : ∀ n, crcN f n r ^^^ crcN g n s = crcN (fun i => f i ^^^ g i) n (r ^^^ s)
  | 0 => rfl
  | n + 1 => by
    simp only [crcN]
    rw [← sh_xor, ← crcN_xor f g r s n]
    congr 1
    generalize crcN f n r = a
    generalize crcN g n s = b
    rw [Nat.xor_assoc, Nat.xor_assoc]
    congr 1
    rw [← Nat.xor_assoc, Nat.xor_comm (f n) b, Nat.xor_assoc]
theorem sh_zero : sh 0 = 0 := rfl
theorem sh_nz {r : Nat} (h : r < 2 ^ 32) (h0 : r ≠ 0) : sh r ≠ 0 := by
  unfold sh
  split
  · intro he
    have : r / 2 = 0xEDB88320 := by
      have := congrArg (fun z => z ^^^ 0xEDB88320) he
      simp only [Nat.xor_assoc, Nat.xor_self, Nat.xor_zero, Nat.zero_xor] at this
      exact this
    omega
  · omega
theorem sh_big {r b j : Nat} (h : r < 2 ^ 32) (hb : b < 2) (hj : j < 31) (hr : 2 ^ (j + 1) ≤ r) : 2 ^ j ≤ sh (r ^^^ b) := by
  rw [sh_low r b hb]
  split
  · have ht : ((r / 2) ^^^ 3988292384).testBit 31 = true := by
      rw [Nat.testBit_xor, Nat.testBit_lt_two_pow (show r / 2 < 2 ^ 31 by omega)]
      decide
    have h1 := Nat.ge_two_pow_of_testBit ht
    have h2 : 2 ^ j ≤ 2 ^ 31 := Nat.pow_le_pow_right (by omega) (by omega)
    omega
  · rw [Nat.pow_succ] at hr
    omega
theorem crcN_lt {f : Nat → Nat} (hf : ∀ i, f i < 2) {r : Nat} (hr : r < 2 ^ 32) : ∀ n, crcN f n r < 2 ^ 32
  | 0 => hr
  | n + 1 => sh_lt (Nat.xor_lt_two_pow (crcN_lt hf hr n) (by have := hf n; omega))
/-- What differs within 32 neighbouring bits is told. -/
theorem window {f : Nat → Nat} (hf : ∀ i, f i < 2) {k N : Nat} (hw : ∀ i, i < k ∨ k + 32 ≤ i → f i = 0) (h0 : crcN f N 0 = 0) : ∀ i, i < N → f i = 0 := by
  intro i hi
  apply Classical.byContradiction
  intro hne
  have hex : ∃ i, f i ≠ 0 := ⟨i, hne⟩
  obtain ⟨i0, hi0, hmin⟩ : ∃ i0, f i0 ≠ 0 ∧ ∀ j, j < i0 → f j = 0 := by
    have : ∀ n, (∃ i, i < n ∧ f i ≠ 0) → ∃ i0, f i0 ≠ 0 ∧ ∀ j, j < i0 → f j = 0 := by
      intro n
      induction n with
      | zero => intro ⟨i, hi, _⟩; omega
      | succ n ih =>
        intro ⟨i, hi, hx⟩
        by_cases hlow : ∃ i, i < n ∧ f i ≠ 0
        · exact ih hlow
        · refine ⟨i, hx, fun j hj => Classical.byContradiction fun hn => hlow ⟨j, by omega, hn⟩⟩
    exact this (i + 1) ⟨i, by omega, hne⟩
  have hle : i0 ≤ i := Nat.le_of_not_lt fun h => hne (hmin i h)
  have hk : k ≤ i0 := Nat.le_of_not_lt fun h => hi0 (hw i0 (.inl h))
  have hz : ∀ n, n ≤ i0 → crcN f n 0 = 0 := by
    intro n
    induction n with
    | zero => intro _; rfl
    | succ n ih =>
      intro hn
      simp only [crcN]
      rw [ih (by omega), hmin n (by omega)]
      rfl
  have h1 : f i0 = 1 := by have := hf i0; omega
  have hstart : crcN f (i0 + 1) 0 = 3988292384 := by
    simp only [crcN]
    rw [hz i0 (Nat.le_refl _), h1]
    decide
  have hbig : ∀ j, j ≤ 31 → 2 ^ (31 - j) ≤ crcN f (i0 + 1 + j) 0 := by
    intro j
    induction j with
    | zero => intro _; rw [Nat.add_zero, hstart]; decide
    | succ j ih =>
      intro hj
      have := ih (by omega)
      rw [show i0 + 1 + (j + 1) = (i0 + 1 + j) + 1 by omega]
      simp only [crcN]
      rw [show 31 - (j + 1) = 30 - j by omega]
      rw [show 31 - j = (30 - j) + 1 by omega] at this
      exact sh_big (crcN_lt hf (by decide) _) (hf _) (by omega) this
  have hnz : ∀ j, crcN f (i0 + 1 + j) 0 ≠ 0 := by
    intro j
    by_cases hj : j ≤ 31
    · have := hbig j hj
      have hp : 0 < 2 ^ (31 - j) := Nat.two_pow_pos _
      omega
    · have : ∀ m, crcN f (i0 + 32 + m) 0 ≠ 0 := by
        intro m
        induction m with
        | zero =>
          have := hbig 31 (by omega)
          rw [show i0 + 1 + 31 = i0 + 32 by omega] at this
          simp at this ⊢
          omega
        | succ m ih =>
          rw [show i0 + 32 + (m + 1) = (i0 + 32 + m) + 1 by omega]
          simp only [crcN]
          rw [hw (i0 + 32 + m) (.inr (by omega)), Nat.xor_zero]
          exact sh_nz (crcN_lt hf (by decide) _) ih
      have h2 := this (j - 31)
      rw [show i0 + 32 + (j - 31) = i0 + 1 + j by omega] at h2
      exact h2
  have := hnz (N - (i0 + 1))
  rw [show i0 + 1 + (N - (i0 + 1)) = N by omega] at this
  exact this h0
theorem byte_eq {x y : Nat} (hx : x < 256) (hy : y < 256) (h : ∀ b, b < 8 → x / 2 ^ b % 2 = y / 2 ^ b % 2) : x = y := by
  have h0 := h 0 (by omega)
  have h1 := h 1 (by omega)
  have h2 := h 2 (by omega)
  have h3 := h 3 (by omega)
  have h4 := h 4 (by omega)
  have h5 := h 5 (by omega)
  have h6 := h 6 (by omega)
  have h7 := h 7 (by omega)
  simp at h0 h1 h2 h3 h4 h5 h6 h7
  omega
theorem bits_eq {p q : List Nat} (hp : isB p) (hq : isB q) (hl : p.length = q.length) (h : ∀ i, i < 8 * p.length → bitAt p i = bitAt q i) : p = q := by
  apply List.ext_getElem hl
  intro i h1 h2
  have e1 : p.getD i 0 = p[i] := by simp [List.getD, h1]
  have e2 : q.getD i 0 = q[i] := by simp [List.getD, h2]
  rw [← e1, ← e2]
  exact byte_eq (at_byte hp i) (at_byte hq i) (fun b hb => by
    rw [← bitAt_byte p i b hb, ← bitAt_byte q i b hb]
    exact h _ (by omega))
theorem burst {p q : List Nat} (hp : isB p) (hq : isB q) (hl : p.length = q.length) {L : Nat} (hL : p.length = L + 4) (cp : val p L = crc (p.take L)) (cq : val q L = crc (q.take L)) (k : Nat) (hw : ∀ i, i < k ∨ k + 32 ≤ i → bitAt p i = bitAt q i) : p = q := by
  have w1 := whole hp hL cp
  have w2 := whole hq (by omega) cq
  have hx := crcN_xor (bitAt p) (bitAt q) 4294967295 4294967295 (8 * L + 32)
  rw [w1, w2, Nat.xor_self, Nat.xor_self] at hx
  have hb : ∀ l i, bitAt l i < 2 := fun l i => by unfold bitAt; omega
  have hwin := window (f := fun i => bitAt p i ^^^ bitAt q i) (fun i => Nat.xor_lt_two_pow (n := 1) (hb p i) (hb q i)) (k := k) (fun i hi => by
    show bitAt p i ^^^ bitAt q i = 0
    rw [hw i hi, Nat.xor_self]) hx.symm
  refine bits_eq hp hq hl (fun i hi => ?_)
  have h0 : bitAt p i ^^^ bitAt q i = 0 := hwin i (by omega)
  have h1 := hb p i
  have h2 := hb q i
  have e1 : bitAt p i = 0 ∨ bitAt p i = 1 := by omega
  have e2 : bitAt q i = 0 ∨ bitAt q i = 1 := by omega
  rcases e1 with e1 | e1 <;> rcases e2 with e2 | e2 <;> rw [e1, e2] at h0 ⊢ <;> simp at h0
end Go.Proofs.YtlbipcecdcmgdaaDoor
