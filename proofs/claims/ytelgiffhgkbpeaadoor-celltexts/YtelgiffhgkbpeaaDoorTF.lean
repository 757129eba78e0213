/- What the letters of a text become when each is made small; no program in sight. -/
import Derived.Test.YtelgiffhgkbpeaaDoorTE
namespace Go.Proofs.YtelgiffhgkbpeaaDoor
open Go.RowKit

/-- The bytes of a text, the great ones of the plain 26 made small. -/
def lowL (l : List UInt8) : List UInt8 := Lib.toLowerA l
def mapS (l : List UInt8) : List UInt8 := Lib.mapD smallI l

theorem low_byte : ∀ b : Fin 128, Lib.encodeRune (smallI ((b.val : Nat) : Int)) = [Lib.lowerB (UInt8.ofNat b.val)] := by decide +kernel
theorem smallI_nn (x : Int) (h : 0 ≤ x) : 0 ≤ smallI x := by unfold smallI; split <;> omega
theorem mapS_ascii : ∀ (l : List UInt8), (∀ b ∈ l, b.toNat < 128) → mapS l = lowL l
  | [], _ => rfl
  | b :: t, ha => by
    have hb := ha b List.mem_cons_self
    have ih := mapS_ascii t (fun x hx => ha x (List.mem_cons_of_mem _ hx))
    unfold mapS at ih ⊢
    rw [Lib.mapD_step smallI (b :: t) (by simp), Lib.decodeL_ascii b t hb]
    dsimp only
    have e := low_byte ⟨b.toNat, hb⟩
    dsimp only at e
    rw [if_pos (smallI_nn _ (by omega)), e, List.drop_succ_cons, List.drop_zero, ih]
    simp [lowL, Lib.toLowerA]

theorem enc_high (r : Int) (h : 128 ≤ r) : ∃ b ∈ Lib.encodeRune r, 128 ≤ b.toNat := by
  unfold Lib.encodeRune
  have big : ∀ x : Int, 128 ≤ x → x < 256 → 128 ≤ (x.toNat.toUInt8).toNat := fun x h0 h1 => by
    have e : (x.toNat.toUInt8).toNat = x.toNat % 256 := by simp [Nat.toUInt8]
    rw [e]; omega
  by_cases h1 : r ≤ 2047
  · rw [Lib.encodeRuneZ_two h h1]
    exact ⟨_, List.mem_cons_self, big _ (by omega) (by omega)⟩
  · by_cases h2 : (2048 ≤ r ∧ r < 55296) ∨ (57343 < r ∧ r ≤ 65535)
    · rw [Lib.encodeRuneZ_three h2]
      exact ⟨_, List.mem_cons_self, big _ (by omega) (by omega)⟩
    · by_cases h3 : 65536 ≤ r ∧ r ≤ 1114111
      · rw [Lib.encodeRuneZ_four h3.1 h3.2]
        exact ⟨_, List.mem_cons_self, big _ (by omega) (by omega)⟩
      · rw [Lib.encodeRuneZ_bad (by omega)]
        exact ⟨_, List.mem_cons_self, by decide⟩
theorem enc_le4 (z : Int) : (Lib.encodeRune z).length ≤ 4 := by
  unfold Lib.encodeRune Lib.encodeRuneZ
  rw [List.length_map]
  repeat' split
  all_goals simp
theorem mapS_len : ∀ (n : Nat) (l : List UInt8), l.length ≤ n → (mapS l).length ≤ 4 * l.length
  | 0, l, hn => by
    have : l = [] := List.eq_nil_of_length_eq_zero (by omega)
    subst this
    decide
  | n + 1, l, hn => by
    by_cases hne : l = []
    · subst hne; decide
    · have hw := Lib.decodeL_width l
      have hle := Lib.decodeL_le l hne
      have ih := mapS_len n (l.drop (Lib.decodeL l).2) (by rw [List.length_drop]; omega)
      unfold mapS at ih ⊢
      rw [List.length_drop] at ih
      rw [Lib.mapD_step smallI l hne, List.length_append]
      have hh : (if 0 ≤ smallI (Lib.decodeL l).1 then Lib.encodeRune (smallI (Lib.decodeL l).1) else []).length ≤ 4 := by
        split
        · exact enc_le4 _
        · simp
      omega
theorem mapS_high : ∀ (l : List UInt8), (∃ b ∈ l, 128 ≤ b.toNat) → ∃ b ∈ mapS l, 128 ≤ b.toNat
  | [], h => by obtain ⟨b, hb, _⟩ := h; cases hb
  | c :: t, h => by
    by_cases hc : c.toNat < 128
    · have ht : ∃ b ∈ t, 128 ≤ b.toNat := by
        obtain ⟨b, hb, hh⟩ := h
        rcases List.mem_cons.1 hb with rfl | hb
        · omega
        · exact ⟨b, hb, hh⟩
      obtain ⟨b, hb, hh⟩ := mapS_high t ht
      refine ⟨b, ?_, hh⟩
      unfold mapS at hb ⊢
      rw [Lib.mapD_step smallI (c :: t) (by simp), Lib.decodeL_ascii c t hc, List.drop_succ_cons, List.drop_zero]
      exact List.mem_append_right _ hb
    · have hd : 128 ≤ (Lib.decodeL (c :: t)).1 := by
        have h0 : 0 < (⟨(c :: t).toArray⟩ : ByteArray).size := by
          show 0 < (c :: t).toArray.size
          rw [List.size_toArray]; simp
        exact (decode_high ⟨(c :: t).toArray⟩ 0 h0 (by show 128 ≤ c.toNat; omega)).1
      obtain ⟨b, hb, hh⟩ := enc_high (Lib.decodeL (c :: t)).1 (by omega)
      refine ⟨b, ?_, hh⟩
      unfold mapS
      have e : smallI (Lib.decodeL (c :: t)).1 = (Lib.decodeL (c :: t)).1 := by unfold smallI; rw [if_neg (by omega)]
      rw [Lib.mapD_step smallI (c :: t) (by simp), e, if_pos (by omega)]
      exact List.mem_append_left _ hb

/-- Of a text with a byte beyond the plain ones nothing is read. -/
theorem feed_high (base : Int) : ∀ (l : List UInt8) (st : Int × Bool), (∃ b ∈ l, 128 ≤ b.toNat) → feed base st l = none
  | [], _, h => by obtain ⟨b, hb, _⟩ := h; cases hb
  | c :: t, st, h => by
    rw [feed_cons]
    by_cases hc : c.toNat < 128
    · have ht : ∃ b ∈ t, 128 ≤ b.toNat := by
        obtain ⟨b, hb, hh⟩ := h
        rcases List.mem_cons.1 hb with rfl | hb
        · omega
        · exact ⟨b, hb, hh⟩
      cases stepD base st c.toNat with
      | none => rfl
      | some st' => exact feed_high base t st' ht
    · rw [stepD_high base st _ (by omega)]; rfl
theorem feedT_high : ∀ (l : List UInt8) (st : TSt), (∃ b ∈ l, 128 ≤ b.toNat) → feedT st l = none
  | [], _, h => by obtain ⟨b, hb, _⟩ := h; cases hb
  | c :: t, st, h => by
    rw [feedT]
    by_cases hc : c.toNat < 128
    · have ht : ∃ b ∈ t, 128 ≤ b.toNat := by
        obtain ⟨b, hb, hh⟩ := h
        rcases List.mem_cons.1 hb with rfl | hb
        · omega
        · exact ⟨b, hb, hh⟩
      cases stepT st c.toNat with
      | none => rfl
      | some st' => exact feedT_high t st' ht
    · rw [stepT_high st _ (by omega)]; rfl
theorem high_drop (l p : List UInt8) (hp : ∀ b ∈ p, b.toNat < 128) (h : Lib.hasPrefix l p = true) (hh : ∃ b ∈ l, 128 ≤ b.toNat) : ∃ b ∈ l.drop p.length, 128 ≤ b.toNat := by
  obtain ⟨t, rfl⟩ := List.isPrefixOf_iff_prefix.1 h
  obtain ⟨b, hb, h1⟩ := hh
  rcases List.mem_append.1 hb with hb | hb
  · have := hp b hb; omega
  · exact ⟨b, by simpa using hb, h1⟩
theorem readD_high (base : Int) (l : List UInt8) (h : ∃ b ∈ l, 128 ≤ b.toNat) : readD base l = (0, false) := by rw [readD, feed_high base l _ h]; rfl
theorem numD_high (l : List UInt8) (h : ∃ b ∈ l, 128 ≤ b.toNat) : numD l = (0, false) := by
  unfold numD
  split
  · rename_i h1; exact readD_high _ _ (high_drop l [49, 54, 35] (by decide) h1 h)
  · split
    · rename_i h1; exact readD_high _ _ (high_drop l [50, 35] (by decide) h1 h)
    · exact readD_high _ _ h
theorem timeD_high (l : List UInt8) (h : ∃ b ∈ l, 128 ≤ b.toNat) : timeD l = (0, false) := by
  unfold timeD behindD
  by_cases h1 : Lib.hasPrefix l [116, 105, 109, 101, 35] = true
  · have hd : ∃ b ∈ l.drop 5, 128 ≤ b.toNat := high_drop l [116, 105, 109, 101, 35] (by decide) h1 h
    rw [if_pos h1]
    show endT (feedT t0 (l.drop 5)) = _
    rw [feedT_high _ _ hd]; rfl
  · rw [if_neg h1]
    by_cases h2 : Lib.hasPrefix l [116, 35] = true
    · have hd : ∃ b ∈ l.drop 2, 128 ≤ b.toNat := high_drop l [116, 35] (by decide) h2 h
      rw [if_pos h2]
      show endT (feedT t0 (l.drop 2)) = _
      rw [feedT_high _ _ hd]; rfl
    · rw [if_neg h2]; rfl

/-- What readAs answers. -/
def asD (k : Int) (l : List UInt8) : Int × Bool :=
  if k = 1 then (tru (l == [116, 114, 117, 101]), l == [116, 114, 117, 101] || l == [102, 97, 108, 115, 101])
  else if k = 5 then timeD l
  else if (k = 2 ∨ k = 3) ∧ Lib.hasPrefix l [45] = true then (-(readD 10 (l.drop 1)).1, (readD 10 (l.drop 1)).2) else numD l
theorem asD_high (k : Int) (l : List UInt8) (h : ∃ b ∈ l, 128 ≤ b.toNat) : (asD k l).2 = false := by
  unfold asD
  split
  · have a : ∀ m : List UInt8, (∀ b ∈ m, b.toNat < 128) → (l == m) = false := fun m hm => by
      rw [beq_eq_false_iff_ne]
      rintro rfl
      obtain ⟨b, hb, h1⟩ := h
      have := hm b hb; omega
    show (_ || _) = false
    rw [a _ (by decide), a _ (by decide)]; rfl
  · split
    · rw [timeD_high l h]
    · split
      · rename_i h2
        have hd : ∃ b ∈ l.drop 1, 128 ≤ b.toNat := high_drop l [45] (by decide) h2.2 h
        show (readD 10 (l.drop 1)).2 = false
        rw [readD_high _ _ hd]
      · rw [numD_high l h]
end Go.Proofs.YtelgiffhgkbpeaaDoor
