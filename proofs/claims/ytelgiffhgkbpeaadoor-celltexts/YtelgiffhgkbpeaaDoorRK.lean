/- The program's reading and the document's are the same; no program in sight. -/
import Derived.Test.YtelgiffhgkbpeaaDoorRG
import Derived.Test.YtelgiffhgkbpeaaDoorTN
namespace Go.Proofs.YtelgiffhgkbpeaaDoor
open Go.RowKit

/-- Two numbers that are the same, or both too great for any kind. -/
def SameV (v n : Int) : Prop := (v = n ∧ 0 ≤ v ∧ v < 4294967296) ∨ (4294967296 ≤ v ∧ 4294967296 ≤ n)
def Rel (a b : Int × Bool) : Prop := a.2 = b.2 ∧ (a.2 = true → SameV a.1 b.1)
theorem sameV_min {v n : Int} (h : v = min n 4294967296) (h0 : 0 ≤ n) : SameV v n := by unfold SameV; omega

theorem dig_same (base c : Int) (hs : base = 10 ∨ base = 16 ∨ base = 2) (h95 : c ≠ 95) :
    (digR base c < 0 ∨ base ≤ digR base c) = (worthI c < 0 ∨ base ≤ worthI c) ∧ (¬ (worthI c < 0 ∨ base ≤ worthI c) → digR base c = worthI c) := by
  unfold digR worthI
  by_cases a : 48 ≤ c ∧ c ≤ 57
  · rw [if_pos a, if_pos a]; exact ⟨rfl, fun _ => rfl⟩
  · rw [if_neg a, if_neg a]
    by_cases b : 97 ≤ c ∧ c ≤ 102
    · rw [if_pos b]
      by_cases d : base = 16
      · rw [if_pos ⟨d, b.1, b.2⟩]; exact ⟨rfl, fun _ => rfl⟩
      · rw [if_neg (fun h => d h.1)]
        refine ⟨propext ⟨fun _ => .inr (by omega), fun _ => .inl (by omega)⟩, fun h => absurd (.inr (by omega)) h⟩
    · rw [if_neg b, if_neg (fun h => b h.2)]; exact ⟨rfl, fun _ => rfl⟩

theorem endR_bad (base : Int) : ∀ (l : List UInt8) (st : RSt), st.ok = false → endR (feedR base st l).1 = false
  | [], st, h => by rw [feedR, endR, h]; rfl
  | c :: l, st, h => by
    rw [feedR]
    cases hq : stepR base st c.toNat with
    | none => show endR st = false; rw [endR, h]; rfl
    | some st' =>
      refine endR_bad base l st' ?_
      unfold stepR at hq
      split at hq
      · cases hq; show (st.ok && _) = false; rw [h]; rfl
      · split at hq
        · cases hq
        · cases hq; exact h

theorem run_rel (base : Int) (hs : base = 10 ∨ base = 16 ∨ base = 2) : ∀ (l : List UInt8) (st : RSt) (v : Int) (wh : Bool), st.ok = true → v = min st.n 4294967296 → wh = (!(st.cnt == 0 || st.us)) → 0 ≤ st.cnt → 0 ≤ st.n →
    match feed base (v, wh) l with
    | none => (endR (feedR base st l).1 && (feedR base st l).2 == l.length) = false
    | some d => (feedR base st l).2 = l.length ∧ endR (feedR base st l).1 = d.2 ∧ d.1 = min (feedR base st l).1.n 4294967296 ∧ 0 ≤ (feedR base st l).1.n
  | [], st, v, wh, hok, hv, hw, hc, hn => by
    show (feedR base st []).2 = 0 ∧ _
    rw [feedR]
    exact ⟨rfl, by show endR st = wh; rw [endR, hok, hw]; rfl, hv, hn⟩
  | c :: l, st, v, wh, hok, hv, hw, hc, hn => by
    rw [feed_cons, feedR]
    by_cases h95 : (c.toNat : Int) = 95
    · have eR : stepR base st (c.toNat : Int) = some ⟨st.n, st.cnt, true, st.ok && !(st.cnt == 0 || st.us)⟩ := by rw [stepR, if_pos h95]
      have eD : stepD base (v, wh) (c.toNat : Int) = if wh = true then some (v, false) else none := by rw [stepD, if_pos h95]
      rw [eR, eD, hok, ← hw]
      cases wh with
      | false =>
        show (endR (feedR base ⟨st.n, st.cnt, true, true && false⟩ l).1 && _) = false
        rw [endR_bad base l _ rfl]; rfl
      | true =>
        have ih := run_rel base hs l ⟨st.n, st.cnt, true, true && true⟩ v false rfl hv (by simp) hc hn
        show match (some (v, false)).bind (fun st' => feed base st' l) with | none => _ | some d => _
        rw [Option.bind_some]
        cases hq : feed base (v, false) l with
        | none =>
          rw [hq] at ih
          show (_ && (_ + 1 == (c :: l).length)) = false
          rw [List.length_cons]
          have : ((feedR base ⟨st.n, st.cnt, true, true && true⟩ l).2 + 1 == l.length + 1) = ((feedR base ⟨st.n, st.cnt, true, true && true⟩ l).2 == l.length) := by
            by_cases h : (feedR base ⟨st.n, st.cnt, true, true && true⟩ l).2 = l.length
            · rw [h]; simp
            · rw [beq_eq_false_iff_ne.2 h, beq_eq_false_iff_ne.2]; omega
          rw [this]; exact ih
        | some d =>
          rw [hq] at ih
          exact ⟨by show _ + 1 = (c :: l).length; rw [ih.1, List.length_cons], ih.2.1, ih.2.2.1, ih.2.2.2⟩
    · obtain ⟨hd1, hd2⟩ := dig_same base c.toNat hs h95
      have eR : stepR base st (c.toNat : Int) = if worthI c.toNat < 0 ∨ base ≤ worthI c.toNat then none else some ⟨min (st.n * base + digR base c.toNat) 4398046511104, st.cnt + 1, false, st.ok⟩ := by
        rw [stepR, if_neg h95]
        by_cases hq : worthI c.toNat < 0 ∨ base ≤ worthI c.toNat
        · rw [if_pos hq, if_pos (hd1 ▸ hq)]
        · rw [if_neg hq, if_neg (fun h => hq (hd1 ▸ h))]
      have eD : stepD base (v, wh) (c.toNat : Int) = if worthI c.toNat < 0 ∨ base ≤ worthI c.toNat then none else some (min (v * base + worthI c.toNat) 4294967296, true) := by rw [stepD, if_neg h95]
      rw [eR, eD]
      by_cases hq : worthI c.toNat < 0 ∨ base ≤ worthI c.toNat
      · rw [if_pos hq, if_pos hq]
        show (_ && ((0 : Nat) == (c :: l).length)) = false
        simp
      · rw [if_neg hq, if_neg hq, hd2 hq]
        have hw0 : 0 ≤ worthI (c.toNat : Int) := by omega
        obtain ⟨W, hW⟩ : ∃ W, worthI (c.toNat : Int) = W := ⟨_, rfl⟩
        rw [hW] at hw0 ⊢
        have ih := run_rel base hs l ⟨min (st.n * base + W) 4398046511104, st.cnt + 1, false, st.ok⟩ (min (v * base + W) 4294967296) true hok (by
            show _ = min (min (st.n * base + W) 4398046511104) 4294967296
            rcases hs with rfl | rfl | rfl <;> omega) (by
            show true = !(st.cnt + 1 == 0 || false)
            have : (st.cnt + 1 == 0) = false := by rw [beq_eq_false_iff_ne]; omega
            rw [this]; rfl) (by show 0 ≤ st.cnt + 1; omega) (by
            show 0 ≤ min _ _
            have : 0 ≤ st.n * base := by rcases hs with rfl | rfl | rfl <;> omega
            omega)
        rw [Option.bind_some]
        cases hq2 : feed base (min (v * base + W) 4294967296, true) l with
        | none =>
          rw [hq2] at ih
          show (endR (feedR base ⟨min (st.n * base + W) 4398046511104, st.cnt + 1, false, st.ok⟩ l).1 && ((feedR base ⟨min (st.n * base + W) 4398046511104, st.cnt + 1, false, st.ok⟩ l).2 + 1 == l.length + 1)) = false
          obtain ⟨G, hG⟩ : ∃ G, feedR base ⟨min (st.n * base + W) 4398046511104, st.cnt + 1, false, st.ok⟩ l = G := ⟨_, rfl⟩
          rw [hG] at ih ⊢
          have : (G.2 + 1 == l.length + 1) = (G.2 == l.length) := by
            by_cases h : G.2 = l.length
            · rw [h]; simp
            · rw [beq_eq_false_iff_ne.2 h, beq_eq_false_iff_ne.2]; omega
          rw [this]; exact ih
        | some d =>
          rw [hq2] at ih
          exact ⟨by show _ + 1 = (c :: l).length; rw [ih.1, List.length_cons], ih.2.1, ih.2.2.1, ih.2.2.2⟩

theorem out_rel (base : Int) (hs : base = 10 ∨ base = 16 ∨ base = 2) (l : List UInt8) (at0 : Nat) (h : at0 ≤ l.length) : Rel (readD base (l.drop at0)) (outR base l at0) := by
  have := run_rel base hs (l.drop at0) r0 0 false rfl (by decide) (by decide) (by decide) (by decide)
  unfold readD outR
  have hlen : ((at0 + (feedR base r0 (l.drop at0)).2 : Nat) == l.length) = ((feedR base r0 (l.drop at0)).2 == (l.drop at0).length) := by
    rw [List.length_drop]
    by_cases h1 : (feedR base r0 (l.drop at0)).2 = l.length - at0
    · rw [h1]; simp; omega
    · rw [beq_eq_false_iff_ne.2 h1, beq_eq_false_iff_ne.2]; omega
  rw [hlen]
  cases hq : feed base (0, false) (l.drop at0) with
  | none =>
    rw [hq] at this
    exact ⟨this.symm, fun h => by cases h⟩
  | some d =>
    rw [hq] at this
    obtain ⟨h1, h2, h3, h4⟩ := this
    refine ⟨?_, fun _ => sameV_min h3 h4⟩
    show d.2 = (endR _ && _)
    rw [h1, h2]; simp

theorem prefix_take (l p : List UInt8) : Lib.hasPrefix l p = (l.take p.length == p) := by
  have : Lib.hasPrefix l p = true ↔ (l.take p.length == p) = true := by
    show p.isPrefixOf l = true ↔ _
    rw [List.isPrefixOf_iff_prefix, beq_iff_eq]
    constructor
    · rintro ⟨t, rfl⟩; simp
    · intro h; exact ⟨l.drop p.length, by conv => rhs; rw [← List.take_append_drop p.length l, h]⟩
  cases h1 : Lib.hasPrefix l p <;> cases h2 : (l.take p.length == p)
  · rfl
  · rw [this.2 h2] at h1; cases h1
  · rw [this.1 h1] at h2; cases h2
  · rfl
theorem rel_no {a b : Int × Bool} (h1 : a.2 = false) (h2 : b.2 = false) : Rel a b := ⟨by rw [h1, h2], fun h => by rw [h1] at h; cases h⟩

theorem num_rel (l : List UInt8) : Rel (numD l) (numR l) := by
  unfold numD numR
  rw [prefix_take l [49, 54, 35], prefix_take l [50, 35]]
  show Rel (if (l.take 3 == [49, 54, 35]) = true then readD 16 (l.drop 3) else if (l.take 2 == [50, 35]) = true then readD 2 (l.drop 2) else readD 10 l) _
  by_cases a : (l.take 3 == [49, 54, 35]) = true
  · rw [if_pos a]
    have e := eq_of_beq a
    have hl : 3 ≤ l.length := by
      have := congrArg List.length e
      simp at this; omega
    by_cases b : 3 < l.length
    · rw [if_pos ⟨b, a⟩]; exact out_rel 16 (.inr (.inl rfl)) l 3 hl
    · have : l = [49, 54, 35] := by
        rw [← e, List.take_of_length_le (by omega)]
      subst this
      exact rel_no (by decide) (by decide)
  · rw [if_neg a]
    rw [if_neg (show ¬ (3 < l.length ∧ (l.take 3 == [49, 54, 35]) = true) from fun h => a h.2)]
    by_cases b : (l.take 2 == [50, 35]) = true
    · rw [if_pos b]
      have e := eq_of_beq b
      have hl : 2 ≤ l.length := by
        have := congrArg List.length e
        simp at this; omega
      by_cases c : 2 < l.length
      · rw [if_pos ⟨c, b⟩]; exact out_rel 2 (.inr (.inr rfl)) l 2 hl
      · have : l = [50, 35] := by
          rw [← e, List.take_of_length_le (by omega)]
        subst this
        exact rel_no (by decide) (by decide)
    · rw [if_neg b]
      rw [if_neg (show ¬ (2 < l.length ∧ (l.take 2 == [50, 35]) = true) from fun h => b h.2)]
      have := out_rel 10 (.inl rfl) l 0 (by omega)
      rw [List.drop_zero] at this
      exact this
end Go.Proofs.YtelgiffhgkbpeaaDoor
