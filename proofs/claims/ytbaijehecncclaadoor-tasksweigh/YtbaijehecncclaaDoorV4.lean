/- Plain facts: lists of loops, of where they begin, of how often they go round; both looks at a unit joined. -/
import Derived.Test.YtbaijehecncclaaDoorV2
namespace Go.Proofs.YtbaijehecncclaaDoor
set_option linter.unusedVariables false

/-- The Enters among the first m. -/
def ents (t : List Ins) (m : Nat) : List Nat := (List.range m).filter (isE t)
theorem ents_succ (t : List Ins) (m : Nat) : ents t (m + 1) = if isE t m then ents t m ++ [m] else ents t m := by
  unfold ents
  rw [List.range_succ, List.filter_append]
  by_cases h : isE t m = true
  · simp [h]
  · simp [h]
theorem mem_ents {t : List Ins} {m e : Nat} : e ∈ ents t m ↔ e < m ∧ isE t e = true := by simp [ents]
theorem ents_sorted (t : List Ins) (m : Nat) : (ents t m).Pairwise (· < ·) := by
  unfold ents
  exact List.Pairwise.filter _ List.pairwise_lt_range
theorem ents_len (t : List Ins) (m : Nat) : (ents t m).length ≤ m := by
  unfold ents
  have := List.length_filter_le (isE t) (List.range m)
  simpa using this
theorem ents_count (t : List Ins) : (ents t t.length).length = t.countP (fun x => x.d == 13) := by
  have key : ∀ k, k ≤ t.length → (ents t k).length = (t.take k).countP (fun x => x.d == 13) := by
    intro k
    induction k with
    | zero => intro _; simp [ents]
    | succ k ih =>
      intro hk
      rw [count_take t _ k (by omega), ents_succ, ← ih (by omega)]
      by_cases h : isE t k = true
      · rw [if_pos h, if_pos (by simpa [isE] using h)]; simp
      · rw [if_neg h, if_neg (by simpa [isE] using h)]; simp
  have := key t.length (Nat.le_refl _)
  simpa using this

/-- What is asked of two loops, one behind the other. -/
def pairOk (t : List Ins) (i j : Nat) : Prop := rnd t (i + 1) < j + 1 ∨ (rnd t (j + 1) < rnd t (i + 1) ∧ (nth t i).a ≠ (nth t j).a)
theorem pairs_iff (t : List Ins) : Pairs t ↔ ∀ p q, p < q → ∀ hq : q < (ents t t.length).length, ∀ hp : p < (ents t t.length).length, pairOk t (ents t t.length)[p] (ents t t.length)[q] := by
  constructor
  · intro h p q hpq hq hp
    have h1 := (List.pairwise_iff_getElem.1 (ents_sorted t t.length)) p q hp hq hpq
    exact h _ _ h1 (mem_ents.1 (List.getElem_mem hp)).2 (mem_ents.1 (List.getElem_mem hq)).2
  · intro h i j hij hi hj
    obtain ⟨p, hp, rfl⟩ := List.getElem_of_mem (mem_ents.2 ⟨isE_lt hi, hi⟩)
    obtain ⟨q, hq, rfl⟩ := List.getElem_of_mem (mem_ents.2 ⟨isE_lt hj, hj⟩)
    have hpq : p < q := by
      apply Classical.byContradiction
      intro hn
      rcases Nat.lt_or_ge q p with h1 | h1
      · have := (List.pairwise_iff_getElem.1 (ents_sorted t t.length)) q p hq hp h1
        omega
      · have : p = q := by omega
        subst this
        omega
    exact h p q hpq hq hp

/-- Where the innermost loops begin; how often instructions are done. -/
def begA (t : List Ins) (k : Nat) : Int := (((inn t (k + 1) k).headD 0 : Nat) : Int)
def begK (t : List Ins) (k : Nat) : List Int := (List.range (t.length + 1)).map (fun i => if i < k then begA t i else 0)
def timK (t : List Ins) (k : Nat) : List Int := (List.range t.length).map (fun i => if i < k then prd t (inn t (i + 1) i) else 0)
theorem begK_len (t : List Ins) (k : Nat) : (begK t k).length = t.length + 1 := by simp [begK]
theorem timK_len (t : List Ins) (k : Nat) : (timK t k).length = t.length := by simp [timK]
theorem begK_zero (t : List Ins) : begK t 0 = List.replicate (t.length + 1) 0 := by
  apply List.ext_getElem
  · simp [begK]
  · intro i h1 h2; simp [begK]
theorem timK_zero (t : List Ins) : timK t 0 = List.replicate t.length 0 := by
  apply List.ext_getElem
  · simp [timK]
  · intro i h1 h2; simp [timK]
theorem begK_set (t : List Ins) (k : Nat) : (begK t k).set k (begA t k) = begK t (k + 1) := by
  apply List.ext_getElem
  · simp [begK]
  · intro i h1 h2
    rw [List.getElem_set]
    simp only [begK, List.getElem_map, List.getElem_range]
    by_cases e : k = i
    · subst e; simp
    · rw [if_neg e]
      by_cases h : i < k
      · rw [if_pos h, if_pos (by omega)]
      · rw [if_neg h, if_neg (by omega)]
theorem timK_set (t : List Ins) (k : Nat) : (timK t k).set k (prd t (inn t (k + 1) k)) = timK t (k + 1) := by
  apply List.ext_getElem
  · simp [timK]
  · intro i h1 h2
    rw [List.getElem_set]
    simp only [timK, List.getElem_map, List.getElem_range]
    by_cases e : k = i
    · subst e; simp
    · rw [if_neg e]
      by_cases h : i < k
      · rw [if_pos h, if_pos (by omega)]
      · rw [if_neg h, if_neg (by omega)]
theorem begK_get (t : List Ins) (h : RdOk t) (i : Nat) (hi : i ≤ t.length) : (begK t t.length).getD i 0 = begA t i := by
  have hl : i < (begK t t.length).length := by rw [begK_len]; omega
  rw [List.getD, List.getElem?_eq_getElem hl, Option.getD_some]
  simp only [begK, List.getElem_map, List.getElem_range]
  by_cases e : i < t.length
  · rw [if_pos e]
  · have : i = t.length := by omega
    subst this
    rw [if_neg (by omega)]
    simp [begA, inn_end h]
theorem timK_get (t : List Ins) (i : Nat) (hi : i < t.length) : (timK t t.length).getD i 0 = prd t (inn t (i + 1) i) := by
  have hl : i < (timK t t.length).length := by rw [timK_len]; omega
  rw [List.getD, List.getElem?_eq_getElem hl, Option.getD_some]
  simp only [timK, List.getElem_map, List.getElem_range]
  rw [if_pos hi]

def isJ (t : List Ins) (i : Nat) : Prop := (nth t i).d = 11 ∨ (nth t i).d = 12
/-- Jumps go forward. -/
def Fwd (t : List Ins) : Prop := ∀ i, i < t.length → ((nth t i).d = 11 ∨ (nth t i).d = 12) → (i : Int) < (nth t i).a ∧ (nth t i).a ≤ t.length
/-- What the document asks of jumps: none goes into a loop. -/
def JDoc (t : List Ins) : Prop := ∀ i, i < t.length → ((nth t i).d = 11 ∨ (nth t i).d = 12) → ∀ e, isE t e = true → inL t (e + 1) (nth t i).a.toNat = true → inL t (e + 1) i = true
theorem jumps_join {t : List Ins} (h : RdOk t) (hf : Fwd t) : JDoc t ↔ ∀ i, i < t.length → ((nth t i).d = 11 ∨ (nth t i).d = 12) → (begK t t.length).getD (nth t i).a.toNat 0 ≤ (i : Int) := by
  constructor
  · intro hj i hi hd
    obtain ⟨f1, f2⟩ := hf i hi hd
    rw [begK_get t h _ (by omega)]
    unfold begA
    apply Classical.byContradiction
    intro hn
    obtain ⟨e, e1, e2⟩ := (jump_in (t := t) i (nth t i).a.toNat (by omega)).2 (by omega)
    have := hj i hi hd e (by have := (inL_iff.1 e1).2.2.1; simpa using this) e1
    rw [this] at e2
    simp at e2
  · intro hj i hi hd e he h1
    obtain ⟨f1, f2⟩ := hf i hi hd
    have := hj i hi hd
    rw [begK_get t h _ (by omega)] at this
    unfold begA at this
    apply Classical.byContradiction
    intro hn
    have := (jump_in (t := t) i (nth t i).a.toNat (by omega)).1 ⟨e, h1, by simpa using hn⟩
    omega

theorem stack_join {t : List Ins} {tk gv : Nat → Int} (hg : ∀ i, 0 ≤ gv i) (hf : Fwd t) : (∃ hs, hgt t tk gv t.length = some hs ∧ hs.getD t.length 0 ≤ 0) ↔ ∃ hs, hgt t tk gv t.length = some hs ∧ hs.getD t.length 0 = 0 := by
  constructor
  · rintro ⟨hs, h1, h2⟩
    have := hgt_end hg (fun i hi hd => hf i hi (.inl hd)) h1
    refine ⟨hs, h1, ?_⟩
    change 0 ≤ hs.getD t.length 0 at this
    omega
  · rintro ⟨hs, h1, h2⟩
    exact ⟨hs, h1, by omega⟩

/-- Loops, as the document and as the program looks at them. -/
theorem loops_join {t : List Ins} (hB : ∀ i, isR t i = true → 1 ≤ (nth t i).b ∧ (nth t i).b ≤ i) : (LpOk t ∧ Pairs t) ↔ (RdOk t ∧ nst t t.length ≠ none) := by
  constructor
  · rintro ⟨h1, h2⟩
    have hr := (lp_rd t).1 ⟨hB, h1⟩
    refine ⟨hr, ?_⟩
    rw [nst_some hr h2]
    simp
  · rintro ⟨h1, h2⟩
    exact ⟨((lp_rd t).2 h1).2, pairs_of h1 h2⟩
end Go.Proofs.YtbaijehecncclaaDoor
