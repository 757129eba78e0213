/- Plain facts: bounds, jumps into loops, heights of the stack. -/
import Derived.Test.YtbaijehecncclaaDoorV1
namespace Go.Proofs.YtbaijehecncclaaDoor
set_option linter.unusedVariables false

/-- How often what lies in these loops is done, no further than top1. -/
def prd (t : List Ins) (l : List Nat) : Int := ((stk t l).headD (0, 1)).2
/-- All of them multiplied. -/
def pr (t : List Ins) : List Nat → Int
  | [] => 1
  | f :: l => pr t l * (nth t (f - 1)).b

theorem mul_ge {a b : Int} (ha : 1 ≤ a) (hb : 1 ≤ b) : 1 ≤ a * b ∧ a ≤ a * b := by
  obtain ⟨n, rfl⟩ := Int.eq_ofNat_of_zero_le (show 0 ≤ a by omega)
  obtain ⟨m, rfl⟩ := Int.eq_ofNat_of_zero_le (show 0 ≤ b by omega)
  have h1 : n * 1 ≤ n * m := Nat.mul_le_mul_left n (by omega)
  have h2 : ((n : Int) * (m : Int)) = ((n * m : Nat) : Int) := by simp
  rw [h2]
  omega

theorem min_mul {x b T : Int} (hx : 1 ≤ x) (hb : 1 ≤ b) (hT : 1 ≤ T) : min (min x T * b) T = min (x * b) T := by
  by_cases h : x ≤ T
  · rw [Int.min_eq_left h]
  · have h1 : min x T = T := Int.min_eq_right (by omega)
    rw [h1]
    have h2 := (mul_ge hT hb).2
    have h3 := (mul_ge hx hb).2
    rw [Int.min_eq_right h2, Int.min_eq_right (by omega)]

/-- Every loop goes round once at least. -/
def Bs (t : List Ins) : Prop := ∀ i, isE t i = true → 1 ≤ (nth t i).b ∧ (nth t i).b ≤ 10000

theorem pr_pos {t : List Ins} (hB : Bs t) (l : List Nat) (hl : ∀ f, f ∈ l → isE t (f - 1) = true) : 1 ≤ pr t l := by
  induction l with
  | nil => simp [pr]
  | cons f l ih => exact (mul_ge (ih (fun g hg => hl g (by simp [hg]))) (hB _ (hl f (by simp))).1).1
theorem prd_is {t : List Ins} (hB : Bs t) (l : List Nat) (hl : ∀ f, f ∈ l → isE t (f - 1) = true) : prd t l = min (pr t l) top1 := by
  induction l with
  | nil => simp only [prd, pr, stk, top1, List.headD_cons]; omega
  | cons f l ih =>
    have h1 := ih (fun g hg => hl g (by simp [hg]))
    unfold prd at h1 ⊢
    simp only [stk, List.headD_cons, h1, pr]
    exact min_mul (pr_pos hB l (fun g hg => hl g (by simp [hg]))) (hB _ (hl f (by simp))).1 (by simp [top1])
theorem inn_enter {t : List Ins} {m i : Nat} : ∀ f, f ∈ inn t m i → isE t (f - 1) = true := fun f hf => (inL_iff.1 (mem_inn.1 hf).2).2.2.1
theorem prd_bd {t : List Ins} (hB : Bs t) (m i : Nat) : 1 ≤ prd t (inn t m i) ∧ prd t (inn t m i) ≤ top1 := by
  rw [prd_is hB _ inn_enter]
  have := pr_pos hB (inn t m i) inn_enter
  have h2 : (1 : Int) ≤ top1 := by simp [top1]
  omega

/-- The program's sum of the first k instructions' steps. -/
def sumP (t : List Ins) (s : Nat → Int) : Nat → Int
  | 0 => 0
  | k + 1 => min (sumP t s k + min (s k * prd t (inn t (k + 1) k)) top1) top1

/-- The document's: so many steps, times a loop's, as long as that is not too much. -/
def mulR (t : List Ins) (k : Nat) (n : Int) (e : Nat) : Int := if inL t (e + 1) k && decide (n ≤ 1000000000) then n * (nth t e).b else n
def refN (t : List Ins) (k : Nat) (n : Int) (m : Nat) : Int := ((List.range m).filter (isE t)).foldl (mulR t k) n

theorem refN_succ (t : List Ins) (k : Nat) (n : Int) (m : Nat) : refN t k n (m + 1) = if isE t m then mulR t k (refN t k n m) m else refN t k n m := by
  unfold refN
  rw [List.range_succ, List.filter_append, List.foldl_append]
  by_cases h : isE t m = true
  · simp [h]
  · simp [h]

theorem refN_bd {t : List Ins} (hB : Bs t) (k : Nat) (n : Int) (hn : 1 ≤ n) (hn2 : n ≤ 1000000001) (m : Nat) : 1 ≤ refN t k n m ∧ refN t k n m ≤ 10000000000000 := by
  induction m with
  | zero => simp [refN]; omega
  | succ m ih =>
    rw [refN_succ]
    split
    · rename_i he
      unfold mulR
      split
      · rename_i hc
        simp only [Bool.and_eq_true, decide_eq_true_eq] at hc
        have hb := hB m he
        refine ⟨(mul_ge ih.1 hb.1).1, ?_⟩
        have h1 : refN t k n m * (nth t m).b ≤ 1000000000 * (nth t m).b := Int.mul_le_mul_of_nonneg_right hc.2 (by omega)
        have h2 : (1000000000 : Int) * (nth t m).b ≤ 1000000000 * 10000 := Int.mul_le_mul_of_nonneg_left hb.2 (by omega)
        omega
      · exact ih
    · exact ih

theorem refN_is {t : List Ins} (hB : Bs t) (k : Nat) (n : Int) (hn : 1 ≤ n) (hn2 : n ≤ 1000000001) (m : Nat) : min (refN t k n m) top1 = min (n * pr t (inn t (m + 1) k)) top1 := by
  induction m with
  | zero =>
    have : inn t 1 k = [] := by
      rw [inn_succ, if_neg]
      · rfl
      · simp [inL]
    rw [Nat.zero_add, this]
    simp [refN, pr]
  | succ m ih =>
    rw [refN_succ, inn_succ]
    have hpos := (refN_bd hB k n hn hn2 m).1
    have hpp := pr_pos hB (inn t (m + 1) k) inn_enter
    by_cases he : isE t m = true
    · rw [if_pos he]
      unfold mulR
      by_cases hi : inL t (m + 1) k = true
      · rw [if_pos hi]
        have hb := hB m he
        simp only [pr, Nat.add_sub_cancel]
        rw [← Int.mul_assoc, ← min_mul (mul_ge hn hpp).1 hb.1 (by simp [top1]), ← ih]
        by_cases hc : refN t k n m ≤ 1000000000
        · rw [if_pos (by simp [hi, hc]), min_mul hpos hb.1 (by simp [top1])]
        · rw [if_neg (by simp [hc]), min_mul hpos hb.1 (by simp [top1])]
          have := (mul_ge hpos hb.1).2
          rw [Int.min_eq_right (by simp [top1]; omega), Int.min_eq_right (by simp [top1]; omega)]
      · rw [if_neg hi, if_neg (by simp [hi])]
        exact ih
    · rw [if_neg he, if_neg]
      · exact ih
      · intro hi
        exact he (inL_iff.1 hi).2.2.1

theorem inn_more (t : List Ins) (k m : Nat) : inn t (k + 1 + m) k = inn t (k + 1) k := by
  induction m with
  | zero => rfl
  | succ m ih =>
    rw [show k + 1 + (m + 1) = (k + 1 + m) + 1 by omega, inn_succ, if_neg]
    · exact ih
    · intro hi
      have := (inL_iff.1 hi).2.1
      omega

/-- What is done at instruction k, by the document and by the program. -/
theorem refN_prd {t : List Ins} (hB : Bs t) (k : Nat) (hk : k < t.length) (n : Int) (hn : 1 ≤ n) (hn2 : n ≤ 1000000001) : min (refN t k n t.length) top1 = min (n * prd t (inn t (k + 1) k)) top1 := by
  rw [refN_is hB k n hn hn2]
  obtain ⟨m, hm⟩ : ∃ m, t.length + 1 = k + 1 + m := ⟨t.length - k, by omega⟩
  rw [hm, inn_more, prd_is hB _ inn_enter, Int.mul_comm n (min _ _), min_mul (pr_pos hB _ inn_enter) hn (by simp [top1]), Int.mul_comm]

theorem sumP_step {t : List Ins} (hB : Bs t) (s : Nat → Int) (k : Nat) (hk : k < t.length) (hs : 1 ≤ s k) (hs2 : s k ≤ 1000000001) (h0 : 0 ≤ sumP t s k) (h1 : sumP t s k ≤ 1000000000) :
    sumP t s (k + 1) = if sumP t s k + refN t k (s k) t.length ≤ 1000000000 then sumP t s k + refN t k (s k) t.length else top1 := by
  simp only [sumP]
  rw [← refN_prd hB k hk (s k) hs hs2]
  have := (refN_bd hB k (s k) hs hs2 t.length).1
  generalize refN t k (s k) t.length = r at *
  simp only [top1]
  split <;> omega

theorem sumP_bd {t : List Ins} (hB : Bs t) (s : Nat → Int) (hs : ∀ k, 1 ≤ s k) (k : Nat) : 0 ≤ sumP t s k ∧ sumP t s k ≤ top1 := by
  induction k with
  | zero => simp [sumP, top1]
  | succ k ih =>
    simp only [sumP]
    have := (mul_ge (hs k) (prd_bd hB (k + 1) k).1).1
    simp only [top1] at *
    omega
theorem sumP_top {t : List Ins} (hB : Bs t) (s : Nat → Int) (hs : ∀ k, 1 ≤ s k) (k m : Nat) (h : sumP t s k = top1) : sumP t s (k + m) = top1 := by
  induction m with
  | zero => exact h
  | succ m ih =>
    show sumP t s (k + m + 1) = top1
    simp only [sumP]
    rw [ih]
    have := (mul_ge (hs (k + m)) (prd_bd hB (k + m + 1) (k + m)).1).1
    simp only [top1] at *
    omega

/-- A jump forward goes into a loop just where the innermost loop at its end begins behind it. -/
theorem jump_in {t : List Ins} (i a : Nat) (hia : i < a) : (∃ e, inL t (e + 1) a = true ∧ inL t (e + 1) i = false) ↔ i < (inn t (a + 1) a).headD 0 := by
  constructor
  · rintro ⟨e, h1, h2⟩
    have hm : e + 1 ∈ inn t (a + 1) a := mem_inn.2 ⟨by have := (inL_iff.1 h1).2.1; omega, h1⟩
    have hgt : i < e + 1 := by
      apply Classical.byContradiction
      intro hn
      rw [Bool.eq_false_iff] at h2
      apply h2
      rw [inL_iff] at h1 ⊢
      exact ⟨h1.1, by omega, h1.2.2.1, by omega⟩
    cases hl : inn t (a + 1) a with
    | nil => rw [hl] at hm; simp at hm
    | cons g l =>
      rw [hl] at hm
      have hs := inn_sorted t (a + 1) a
      rw [hl] at hs
      simp only [List.headD_cons]
      rcases List.mem_cons.1 hm with h3 | h3
      · omega
      · have := (List.pairwise_cons.1 hs).1 _ h3; omega
  · intro h
    cases hl : inn t (a + 1) a with
    | nil => rw [hl] at h; simp at h
    | cons g l =>
      rw [hl] at h
      simp only [List.headD_cons] at h
      have hg := (mem_inn.1 (show g ∈ inn t (a + 1) a by rw [hl]; simp)).2
      have h1 := (inL_iff.1 hg).1
      refine ⟨g - 1, ?_, ?_⟩
      · rw [show g - 1 + 1 = g by omega]; exact hg
      · rw [show g - 1 + 1 = g by omega, Bool.eq_false_iff]
        intro h2
        have := (inL_iff.1 h2).2.1
        omega
theorem inn_end {t : List Ins} (h : RdOk t) : inn t (t.length + 1) t.length = [] := by
  cases hl : inn t (t.length + 1) t.length with
  | nil => rfl
  | cons g l =>
    have hg := inL_iff.1 (mem_inn.1 (show g ∈ inn t (t.length + 1) t.length by rw [hl]; simp)).2
    have := (rd_ge h hg.2.2.1).2
    rw [show g - 1 + 1 = g by omega] at this
    omega

/-- Where it goes on behind an instruction. -/
def ways (t : List Ins) (i : Nat) : List Nat :=
  if (nth t i).d = 11 then [(nth t i).a.toNat] else if (nth t i).d = 12 then [i + 1, (nth t i).a.toNat] else if (nth t i).d = 14 then [i + 1, (nth t i).b.toNat] else [i + 1]
def meet (h : Int) : List Nat → List Int → Option (List Int)
  | [], hs => some hs
  | p :: ps, hs => if (hs[p]?).getD 0 = -1 then meet h ps (hs.set p h) else if (hs[p]?).getD 0 = h then meet h ps hs else none
/-- What an instruction takes off and puts down is given. -/
def hgt (t : List Ins) (tk gv : Nat → Int) : Nat → Option (List Int)
  | 0 => some (0 :: List.replicate t.length (-1))
  | i + 1 => (hgt t tk gv i).bind fun hs =>
    if (hs[i]?).getD 0 = -1 then some hs
    else if (hs[i]?).getD 0 < tk i ∨ 1000 < (hs[i]?).getD 0 - tk i + gv i then none
    else meet ((hs[i]?).getD 0 - tk i + gv i) (ways t i) hs

theorem meet_len {h : Int} {ps : List Nat} {hs hs' : List Int} (he : meet h ps hs = some hs') : hs'.length = hs.length := by
  induction ps generalizing hs with
  | nil => simp only [meet, Option.some.injEq] at he; rw [he]
  | cons p ps ih =>
    simp only [meet] at he
    split at he
    · rw [ih he]; simp
    · split at he
      · exact ih he
      · simp at he
theorem hgt_len {t : List Ins} {tk gv : Nat → Int} {i : Nat} {hs : List Int} (he : hgt t tk gv i = some hs) : hs.length = t.length + 1 := by
  induction i generalizing hs with
  | zero => simp only [hgt, Option.some.injEq] at he; rw [← he]; simp
  | succ i ih =>
    simp only [hgt] at he
    cases h1 : hgt t tk gv i with
    | none => rw [h1] at he; simp at he
    | some hs1 =>
      rw [h1] at he
      simp only [Option.bind_some] at he
      split at he
      · rw [← Option.some.inj he]; exact ih h1
      · split at he
        · simp at he
        · rw [meet_len he]; exact ih h1

/-- Heights that were reached stay; those to be met are reached. -/
theorem meet_keep {h : Int} (h0 : 0 ≤ h) {ps : List Nat} {hs hs' : List Int} (hge : ∀ p : Nat, -1 ≤ (hs[p]?).getD 0) (he : meet h ps hs = some hs') :
    (∀ p : Nat, -1 ≤ (hs'[p]?).getD 0) ∧ (∀ p : Nat, (hs[p]?).getD 0 ≠ -1 → (hs'[p]?).getD 0 = (hs[p]?).getD 0) ∧ (∀ p : Nat, p ∈ ps → (hs'[p]?).getD 0 = h ∨ hs.length ≤ p) := by
  induction ps generalizing hs with
  | nil =>
    simp only [meet, Option.some.injEq] at he
    subst he
    exact ⟨hge, fun p _ => rfl, fun p hp => by simp at hp⟩
  | cons q ps ih =>
    simp only [meet] at he
    split at he
    · rename_i hq
      have hlt : q < hs.length := by
        apply Classical.byContradiction
        intro hn
        rw [List.getElem?_eq_none (by omega)] at hq
        simp at hq
      have hset : ∀ p, ((hs.set q h)[p]?).getD 0 = if p = q then h else (hs[p]?).getD 0 := by
        intro p
        by_cases hpq : p = q
        · subst hpq; simp [hlt]
        · rw [if_neg hpq, List.getElem?_set_ne (fun e => hpq e.symm)]
      obtain ⟨a1, a2, a3⟩ := ih (hs := hs.set q h) (fun p => by rw [hset]; split; omega; exact hge p) he
      refine ⟨a1, fun p hp => ?_, fun p hp => ?_⟩
      · have hpq : p ≠ q := fun e => hp (by rw [e]; exact hq)
        rw [a2 p (by rw [hset, if_neg hpq]; exact hp), hset, if_neg hpq]
      · rcases List.mem_cons.1 hp with rfl | hp
        · left
          rw [a2 p (by rw [hset, if_pos rfl]; omega), hset, if_pos rfl]
        · rcases a3 p hp with h1 | h1
          · exact Or.inl h1
          · right; simpa using h1
    · split at he
      · rename_i hn hq
        obtain ⟨a1, a2, a3⟩ := ih hge he
        refine ⟨a1, a2, fun p hp => ?_⟩
        rcases List.mem_cons.1 hp with rfl | hp
        · left; rw [a2 p (by omega)]; exact hq
        · exact a3 p hp
      · simp at he

theorem hgt_ge {t : List Ins} {tk gv : Nat → Int} (hg : ∀ i, 0 ≤ gv i) {i : Nat} {hs : List Int} (he : hgt t tk gv i = some hs) : ∀ p : Nat, -1 ≤ (hs[p]?).getD 0 := by
  induction i generalizing hs with
  | zero =>
    simp only [hgt, Option.some.injEq] at he
    subst he
    intro p
    cases p with
    | zero => simp
    | succ p =>
      simp only [List.getElem?_cons_succ, List.getElem?_replicate]
      split <;> simp
  | succ i ih =>
    simp only [hgt] at he
    cases h1 : hgt t tk gv i with
    | none => rw [h1] at he; simp at he
    | some hs1 =>
      rw [h1] at he
      simp only [Option.bind_some] at he
      split at he
      · rw [← Option.some.inj he]; exact ih h1
      · split at he
        · simp at he
        · rename_i hc
          have := hg i
          exact (meet_keep (by omega) (ih h1) he).1

/-- The end is reached. -/
theorem hgt_end {t : List Ins} {tk gv : Nat → Int} (hg : ∀ i, 0 ≤ gv i) (hj : ∀ i, i < t.length → (nth t i).d = 11 → (i : Int) < (nth t i).a ∧ (nth t i).a ≤ t.length) {hs : List Int} (he : hgt t tk gv t.length = some hs) : 0 ≤ (hs[t.length]?).getD 0 := by
  have key : ∀ i hs, i ≤ t.length → hgt t tk gv i = some hs → ∃ p : Nat, i ≤ p ∧ p ≤ t.length ∧ 0 ≤ (hs[p]?).getD 0 := by
    intro i
    induction i with
    | zero =>
      intro hs _ he
      simp only [hgt, Option.some.injEq] at he
      subst he
      exact ⟨0, Nat.le_refl _, Nat.zero_le _, by simp⟩
    | succ i ih =>
      intro hs hi he
      simp only [hgt] at he
      cases h1 : hgt t tk gv i with
      | none => rw [h1] at he; simp at he
      | some hs1 =>
        rw [h1] at he
        simp only [Option.bind_some] at he
        obtain ⟨p, p1, p2, p3⟩ := ih hs1 (by omega) h1
        split at he
        · rename_i hu
          rw [← Option.some.inj he]
          refine ⟨p, ?_, p2, p3⟩
          rcases Nat.lt_or_ge i p with h2 | h2
          · exact h2
          · have : p = i := by omega
            subst this
            omega
        · split at he
          · simp at he
          · rename_i hc
            have hgi := hg i
            obtain ⟨a1, a2, a3⟩ := meet_keep (by omega) (hgt_ge hg h1) he
            have hl := hgt_len h1
            have hw : ∃ q, q ∈ ways t i ∧ i < q ∧ q ≤ t.length := by
              unfold ways
              by_cases h11 : (nth t i).d = 11
              · rw [if_pos h11]
                have := hj i (by omega) h11
                exact ⟨(nth t i).a.toNat, by simp, by omega, by omega⟩
              · rw [if_neg h11]
                refine ⟨i + 1, ?_, by omega, by omega⟩
                split
                · simp
                · split <;> simp
            obtain ⟨q, q1, q2, q3⟩ := hw
            rcases a3 q q1 with h2 | h2
            · exact ⟨q, q2, q3, by rw [h2]; omega⟩
            · omega
  obtain ⟨p, p1, p2, p3⟩ := key t.length hs (Nat.le_refl _) he
  have : p = t.length := by omega
  subst this
  exact p3
end Go.Proofs.YtbaijehecncclaaDoor
