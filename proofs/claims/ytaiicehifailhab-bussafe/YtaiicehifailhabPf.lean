/- Plain facts: a frame with bits turned within 16 neighbouring ones. -/
import Derived.Test.YtaiicehifailhabV1
namespace Go.Proofs.Ytaiicehifailhab
set_option linter.unusedVariables false
set_option linter.unusedSimpArgs false

theorem inBits_last (j r x : Nat) : inBits (j + 1) r x = sh (inBits j r x ^^^ (x / 2 ^ j % 2)) := by
  induction j generalizing r x with
  | zero => simp [inBits]
  | succ j ih =>
    rw [inBits, ih, inBits]
    congr 3
    rw [Nat.div_div_eq_div_mul, Nat.pow_succ, Nat.mul_comm]
theorem sh_low (q b : Nat) (hb : b < 2) : sh (q ^^^ b) = if (q ^^^ b) % 2 = 1 then (q / 2) ^^^ 40961 else q / 2 := by
  unfold sh
  rw [half_xor, Nat.div_eq_of_lt hb, Nat.xor_zero]
def bitAt (l : List Nat) (i : Nat) : Nat := l.getD (i / 8) 0 / 2 ^ (i % 8) % 2
def crcN (f : Nat → Nat) : Nat → Nat → Nat
  | 0, r => r
  | n + 1, r => sh (crcN f n r ^^^ f n)
theorem crcN_in (f : Nat → Nat) (a r x : Nat) : ∀ n, (∀ j, j < n → f (a + j) = x / 2 ^ j % 2) → crcN f (a + n) r = inBits n (crcN f a r) x
  | 0, _ => rfl
  | n + 1, h => by
    rw [inBits_last, ← crcN_in f a r x n (fun j hj => h j (by omega)), ← h n (by omega)]
    rfl
theorem bitAt_byte (l : List Nat) (k j : Nat) (hj : j < 8) : bitAt l (8 * k + j) = l.getD k 0 / 2 ^ j % 2 := by
  unfold bitAt
  rw [show (8 * k + j) / 8 = k by omega, show (8 * k + j) % 8 = j by omega]
theorem crcR_bits {l : List Nat} (h : isB l) (r : Nat) : ∀ k, k ≤ l.length → crcR (l.take k) r = crcN (bitAt l) (8 * k) r
  | 0, _ => by simp [crcR, crcN]
  | k + 1, hk => by
    rw [crcR_take l k (by omega), crcR_bits h r k (by omega), crcB_bits (at_byte h k), show 8 * (k + 1) = 8 * k + 8 by omega, crcN_in (bitAt l) (8 * k) r (l.getD k 0) 8 (fun j hj => bitAt_byte l k j hj)]
theorem low_bits (y b : Nat) (hb : b < 8) : y / 2 ^ b % 2 = y % 256 / 2 ^ b % 2 := by
  have h : b = 0 ∨ b = 1 ∨ b = 2 ∨ b = 3 ∨ b = 4 ∨ b = 5 ∨ b = 6 ∨ b = 7 := by omega
  rcases h with rfl | rfl | rfl | rfl | rfl | rfl | rfl | rfl <;> simp <;> omega
theorem pair_bits {l : List Nat} (h : isB l) (k j : Nat) (hj : j < 16) : pairV l k / 2 ^ j % 2 = bitAt l (8 * k + j) := by
  have h0 := at_byte h k
  have h1 := at_byte h (k + 1)
  have e : ∀ a b, b < 8 → pairV l k / 2 ^ (8 * a + b) % 2 = pairV l k / 2 ^ (8 * a) % 256 / 2 ^ b % 2 := fun a b hb => by
    rw [Nat.pow_add, ← Nat.div_div_eq_div_mul, low_bits _ _ hb]
  have ha : j / 8 = 0 ∨ j / 8 = 1 := by omega
  have hjj : j = 8 * (j / 8) + j % 8 := by omega
  have hb : j % 8 < 8 := by omega
  generalize j % 8 = b at hjj hb
  rcases ha with ha | ha <;> rw [ha] at hjj <;> subst hjj <;> rw [e _ _ hb]
  · rw [show 8 * k + (8 * 0 + b) = 8 * k + b by omega, bitAt_byte l k b hb]
    congr 2
    unfold pairV
    generalize l.getD k 0 = x0 at *
    generalize l.getD (k + 1) 0 = x1 at *
    clear e
    simp only [Nat.mul_zero, Nat.mul_one, Nat.reduceMul, Nat.reducePow, Nat.pow_zero, Nat.div_one]
    omega
  · rw [show 8 * k + (8 * 1 + b) = 8 * (k + 1) + b by omega, bitAt_byte l (k + 1) b hb]
    congr 2
    unfold pairV
    generalize l.getD k 0 = x0 at *
    generalize l.getD (k + 1) 0 = x1 at *
    clear e
    simp only [Nat.mul_zero, Nat.mul_one, Nat.reduceMul, Nat.reducePow, Nat.pow_zero, Nat.div_one]
    omega
/-- A frame whose sum is right leaves nothing in the register. -/
theorem whole {p : List Nat} {L : Nat} (h : isB p) (hL : p.length = L + 2) (hp : pairV p L = crc (p.take L)) : crcN (bitAt p) (8 * L + 16) 65535 = 0 := by
  rw [crcN_in (bitAt p) (8 * L) 65535 (pairV p L) 16 (fun j hj => (pair_bits h L j hj).symm), ← crcR_bits h 65535 L (by omega)]
  have e := inBits_is 16 (crcR (p.take L) 65535) (pairV p L)
  rw [Nat.div_eq_of_lt (pairV_lt h L), Nat.xor_zero] at e
  rw [← e, hp]
  unfold crc
  rw [Nat.xor_self]
  decide
theorem crcN_xor (f g : Nat → Nat) (r s : Nat) : ∀ n, crcN f n r ^^^ crcN g n s = crcN (fun i => f i ^^^ g i) n (r ^^^ s)
  | 0 => rfl
  | n + 1 => by
    simp only [crcN]
    rw [← sh_xor, ← crcN_xor f g r s n]
    congr 1
    generalize crcN f n r = a
    generalize crcN g n s = b
    rw [Nat.xor_assoc, Nat.xor_assoc]
    congr 1
    rw [← Nat.xor_assoc, Nat.xor_comm (f n) b, Nat.xor_assoc]
theorem sh_zero : sh 0 = 0 := rfl
theorem sh_nz {r : Nat} (h : r < 2 ^ 16) (h0 : r ≠ 0) : sh r ≠ 0 := by
  unfold sh
  split
  · intro he
    have : r / 2 = 0xA001 := by
      have := congrArg (fun z => z ^^^ 0xA001) he
      simp only [Nat.xor_assoc, Nat.xor_self, Nat.xor_zero, Nat.zero_xor] at this
      exact this
    omega
  · omega
theorem sh_big {r b j : Nat} (h : r < 2 ^ 16) (hb : b < 2) (hj : j < 15) (hr : 2 ^ (j + 1) ≤ r) : 2 ^ j ≤ sh (r ^^^ b) := by
  rw [sh_low r b hb]
  split
  · have ht : ((r / 2) ^^^ 40961).testBit 15 = true := by
      rw [Nat.testBit_xor, Nat.testBit_lt_two_pow (show r / 2 < 2 ^ 15 by omega)]
      decide
    have h1 := Nat.ge_two_pow_of_testBit ht
    have h2 : 2 ^ j ≤ 2 ^ 15 := Nat.pow_le_pow_right (by omega) (by omega)
    omega
  · rw [Nat.pow_succ] at hr
    omega
theorem crcN_lt {f : Nat → Nat} (hf : ∀ i, f i < 2) {r : Nat} (hr : r < 2 ^ 16) : ∀ n, crcN f n r < 2 ^ 16
  | 0 => hr
  | n + 1 => sh_lt (Nat.xor_lt_two_pow (crcN_lt hf hr n) (by have := hf n; omega))
/-- What differs within 16 neighbouring bits is told. -/
theorem window {f : Nat → Nat} (hf : ∀ i, f i < 2) {k N : Nat} (hw : ∀ i, i < k ∨ k + 16 ≤ i → f i = 0) (h0 : crcN f N 0 = 0) : ∀ i, i < N → f i = 0 := by
  intro i hi
  apply Classical.byContradiction
  intro hne
  have hex : ∃ i, f i ≠ 0 := ⟨i, hne⟩
  obtain ⟨i0, hi0, hmin⟩ : ∃ i0, f i0 ≠ 0 ∧ ∀ j, j < i0 → f j = 0 := by
    have : ∀ n, (∃ i, i < n ∧ f i ≠ 0) → ∃ i0, f i0 ≠ 0 ∧ ∀ j, j < i0 → f j = 0 := by
      intro n
      induction n with
      | zero => intro ⟨i, hi, _⟩; omega
      | succ n ih =>
        intro ⟨i, hi, hx⟩
        by_cases hlow : ∃ i, i < n ∧ f i ≠ 0
        · exact ih hlow
        · refine ⟨i, hx, fun j hj => Classical.byContradiction fun hn => hlow ⟨j, by omega, hn⟩⟩
    exact this (i + 1) ⟨i, by omega, hne⟩
  have hle : i0 ≤ i := Nat.le_of_not_lt fun h => hne (hmin i h)
  have hk : k ≤ i0 := Nat.le_of_not_lt fun h => hi0 (hw i0 (.inl h))
  have hz : ∀ n, n ≤ i0 → crcN f n 0 = 0 := by
    intro n
    induction n with
    | zero => intro _; rfl
    | succ n ih =>
      intro hn
      simp only [crcN]
      rw [ih (by omega), hmin n (by omega)]
      rfl
  have h1 : f i0 = 1 := by have := hf i0; omega
  have hstart : crcN f (i0 + 1) 0 = 40961 := by
    simp only [crcN]
    rw [hz i0 (Nat.le_refl _), h1]
    decide
  have hbig : ∀ j, j ≤ 15 → 2 ^ (15 - j) ≤ crcN f (i0 + 1 + j) 0 := by
    intro j
    induction j with
    | zero => intro _; rw [Nat.add_zero, hstart]; decide
    | succ j ih =>
      intro hj
      have := ih (by omega)
      rw [show i0 + 1 + (j + 1) = (i0 + 1 + j) + 1 by omega]
      simp only [crcN]
      rw [show 15 - (j + 1) = 14 - j by omega]
      rw [show 15 - j = (14 - j) + 1 by omega] at this
      exact sh_big (crcN_lt hf (by decide) _) (hf _) (by omega) this
  have hnz : ∀ j, crcN f (i0 + 1 + j) 0 ≠ 0 := by
    intro j
    by_cases hj : j ≤ 15
    · have := hbig j hj
      have hp : 0 < 2 ^ (15 - j) := Nat.two_pow_pos _
      omega
    · have : ∀ m, crcN f (i0 + 16 + m) 0 ≠ 0 := by
        intro m
        induction m with
        | zero =>
          have := hbig 15 (by omega)
          rw [show i0 + 1 + 15 = i0 + 16 by omega] at this
          simp at this ⊢
          omega
        | succ m ih =>
          rw [show i0 + 16 + (m + 1) = (i0 + 16 + m) + 1 by omega]
          simp only [crcN]
          rw [hw (i0 + 16 + m) (.inr (by omega)), Nat.xor_zero]
          exact sh_nz (crcN_lt hf (by decide) _) ih
      have h2 := this (j - 15)
      rw [show i0 + 16 + (j - 15) = i0 + 1 + j by omega] at h2
      exact h2
  have := hnz (N - (i0 + 1))
  rw [show i0 + 1 + (N - (i0 + 1)) = N by omega] at this
  exact this h0
theorem byte_eq {x y : Nat} (hx : x < 256) (hy : y < 256) (h : ∀ b, b < 8 → x / 2 ^ b % 2 = y / 2 ^ b % 2) : x = y := by
  have h0 := h 0 (by omega)
  have h1 := h 1 (by omega)
  have h2 := h 2 (by omega)
  have h3 := h 3 (by omega)
  have h4 := h 4 (by omega)
  have h5 := h 5 (by omega)
  have h6 := h 6 (by omega)
  have h7 := h 7 (by omega)
  simp at h0 h1 h2 h3 h4 h5 h6 h7
  omega
theorem bits_eq {p q : List Nat} (hp : isB p) (hq : isB q) (hl : p.length = q.length) (h : ∀ i, i < 8 * p.length → bitAt p i = bitAt q i) : p = q := by
  apply List.ext_getElem hl
  intro i h1 h2
  have e1 : p.getD i 0 = p[i] := by simp [List.getD, h1]
  have e2 : q.getD i 0 = q[i] := by simp [List.getD, h2]
  rw [← e1, ← e2]
  exact byte_eq (at_byte hp i) (at_byte hq i) (fun b hb => by
    rw [← bitAt_byte p i b hb, ← bitAt_byte q i b hb]
    exact h _ (by omega))
theorem burst {p q : List Nat} (hp : isB p) (hq : isB q) (hl : p.length = q.length) {L : Nat} (hL : p.length = L + 2) (cp : pairV p L = crc (p.take L)) (cq : pairV q L = crc (q.take L)) (k : Nat) (hw : ∀ i, i < k ∨ k + 16 ≤ i → bitAt p i = bitAt q i) : p = q := by
  have w1 := whole hp hL cp
  have w2 := whole hq (by omega) cq
  have hx := crcN_xor (bitAt p) (bitAt q) 65535 65535 (8 * L + 16)
  rw [w1, w2, Nat.xor_self, Nat.xor_self] at hx
  have hb : ∀ l i, bitAt l i < 2 := fun l i => by unfold bitAt; omega
  have hwin := window (f := fun i => bitAt p i ^^^ bitAt q i) (fun i => Nat.xor_lt_two_pow (n := 1) (hb p i) (hb q i)) (k := k) (fun i hi => by
    show bitAt p i ^^^ bitAt q i = 0
    rw [hw i hi, Nat.xor_self]) hx.symm
  refine bits_eq hp hq hl (fun i hi => ?_)
  have h0 : bitAt p i ^^^ bitAt q i = 0 := hwin i (by omega)
  have h1 := hb p i
  have h2 := hb q i
  have e1 : bitAt p i = 0 ∨ bitAt p i = 1 := by omega
  have e2 : bitAt q i = 0 ∨ bitAt q i = 1 := by omega
  rcases e1 with e1 | e1 <;> rcases e2 with e2 | e2 <;> rw [e1, e2] at h0 ⊢ <;> simp at h0
theorem bit_put (T : List Nat) (p t j : Nat) (hj : ¬ (j / 8 = p ∧ j % 8 = t)) : bitAt (T.set p (T.getD p 0 ^^^ 2 ^ t)) j = bitAt T j := by
  unfold bitAt
  by_cases h : j / 8 = p
  · by_cases hp : p < T.length
    · have e : (T.set p (T.getD p 0 ^^^ 2 ^ t)).getD (j / 8) 0 = T.getD p 0 ^^^ 2 ^ t := by rw [h]; simp [List.getD, hp]
      rw [e, h]
      have hb := Nat.testBit_xor (T.getD p 0) (2 ^ t) (j % 8)
      rw [Nat.testBit_two_pow_of_ne (fun e => hj ⟨h, e.symm⟩), Bool.xor_false, Nat.testBit_eq_decide_div_mod_eq, Nat.testBit_eq_decide_div_mod_eq, decide_eq_decide] at hb
      omega
    · rw [List.set_eq_of_length_le (by omega)]
  · have e : (T.set p (T.getD p 0 ^^^ 2 ^ t)).getD (j / 8) 0 = T.getD (j / 8) 0 := by
      simp only [List.getD]
      rw [List.getElem?_set_ne (fun e => h e.symm)]
    rw [e]
theorem bit_flip (T : List Nat) (p t : Nat) (hp : p < T.length) (ht : t < 8) : bitAt (T.set p (T.getD p 0 ^^^ 2 ^ t)) (8 * p + t) ≠ bitAt T (8 * p + t) := by
  rw [bitAt_byte _ p t ht, bitAt_byte _ p t ht]
  have e : (T.set p (T.getD p 0 ^^^ 2 ^ t)).getD p 0 = T.getD p 0 ^^^ 2 ^ t := by simp [List.getD, hp]
  rw [e]
  have hb := Nat.testBit_xor (T.getD p 0) (2 ^ t) t
  rw [Nat.testBit_two_pow_self, Bool.xor_true, Nat.testBit_eq_decide_div_mod_eq, Nat.testBit_eq_decide_div_mod_eq] at hb
  intro h
  rw [h] at hb
  cases hd : decide (T.getD p 0 / 2 ^ t % 2 = 1) <;> rw [hd] at hb <;> cases hb
/-- A frame that differs within 16 neighbouring bits is not heard. -/
theorem told {p q : List Nat} (hp : isB p) (hq : isB q) (hl : p.length = q.length) (hoq : openE q = 0) (k : Nat) (hw : ∀ i, i < k ∨ k + 16 ≤ i → bitAt p i = bitAt q i) (hop : openE p = 0) : p = q := by
  have key : ∀ l : List Nat, openE l = 0 → 5 ≤ l.length ∧ pairV l (l.length - 2) = crc (l.take (l.length - 2)) := fun l h => by
    unfold openE at h
    split at h
    · omega
    · split at h
      · omega
      · split at h
        · omega
        · rename_i h1 h2 h3
          exact ⟨by omega, by simpa using h3⟩
  obtain ⟨a1, a2⟩ := key p hop
  obtain ⟨b1, b2⟩ := key q hoq
  rw [← hl] at b2
  exact burst hp hq hl (L := p.length - 2) (by omega) a2 b2 k hw
end Go.Proofs.Ytaiicehifailhab
