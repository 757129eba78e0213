/- Plain facts: what lies in which loops; going through with a stack. -/
import Derived.Test.YtbaijehecncclaaDoorV0
namespace Go.Proofs.YtbaijehecncclaaDoor

/-- A loop (by where it begins) that a place lies in. -/
def inL (t : List Ins) (f i : Nat) : Bool := decide (1 ≤ f) && decide (f ≤ i) && isE t (f - 1) && decide (i ≤ rnd t f)
/-- The loops that a place lies in, the innermost first, of those that begin below m. -/
def inn (t : List Ins) (m i : Nat) : List Nat := (List.range m).reverse.filter (fun f => inL t f i)

theorem inL_iff {t : List Ins} {f i : Nat} : inL t f i = true ↔ 1 ≤ f ∧ f ≤ i ∧ isE t (f - 1) = true ∧ i ≤ rnd t f := by
  simp [inL, and_assoc]
theorem mem_inn {t : List Ins} {m i f : Nat} : f ∈ inn t m i ↔ f < m ∧ inL t f i = true := by
  simp [inn]
theorem inn_succ (t : List Ins) (m i : Nat) : inn t (m + 1) i = if inL t m i then m :: inn t m i else inn t m i := by
  unfold inn
  rw [List.range_succ, List.reverse_append]
  simp only [List.reverse_cons, List.reverse_nil, List.nil_append, List.cons_append, List.filter_cons]
theorem inn_sorted (t : List Ins) (m i : Nat) : (inn t m i).Pairwise (· > ·) := by
  unfold inn
  apply List.Pairwise.filter
  rw [List.pairwise_reverse]
  exact List.pairwise_lt_range

/-- Two loops lie apart, or one within the other, with another counter. -/
def Pairs (t : List Ins) : Prop := ∀ i j, i < j → isE t i = true → isE t j = true → rnd t (i + 1) < j + 1 ∨ (rnd t (j + 1) < rnd t (i + 1) ∧ (nth t i).a ≠ (nth t j).a)

/-- The greatest number that is told apart. -/
def top1 : Int := 1000000001
/-- The stack of loops: where each begins, how often what lies in it is done. -/
def stk (t : List Ins) : List Nat → List (Nat × Int)
  | [] => [(0, 1)]
  | f :: l => (f, min (((stk t l).headD (0, 1)).2 * (nth t (f - 1)).b) top1) :: stk t l

theorem stk_fst (t : List Ins) (l : List Nat) : (stk t l).map Prod.fst = l ++ [0] := by
  induction l with
  | nil => rfl
  | cons f l ih => simp [stk, ih]
theorem stk_head (t : List Ins) (l : List Nat) : ((stk t l).headD (0, 1)).1 = l.headD 0 := by
  cases l <;> rfl

/-- A counter that is in use. -/
def used (t : List Ins) (st : List (Nat × Int)) (a : Int) : Bool := st.any (fun p => decide (0 < p.1) && (nth t (p.1 - 1)).a == a)
/-- Behind an Enter a loop begins. -/
def begun (t : List Ins) (i : Nat) : Bool := decide (0 < i) && isE t (i - 1)
def pushed (t : List Ins) (i : Nat) (st : List (Nat × Int)) : List (Nat × Int) :=
  if begun t i then (i, min ((st.headD (0, 1)).2 * (nth t (i - 1)).b) top1) :: st else st
/-- One place further. -/
def nestStep (t : List Ins) (i : Nat) (st : List (Nat × Int)) : Option (List (Nat × Int)) :=
  if begun t i && used t st (nth t (i - 1)).a then none
  else if isR t i then (if (((pushed t i st).headD (0, 1)).1 : Int) = (nth t i).b then some (pushed t i st).tail else none)
  else some (pushed t i st)
def nst (t : List Ins) : Nat → Option (List (Nat × Int))
  | 0 => some [(0, 1)]
  | i + 1 => (nst t i).bind (nestStep t i)

theorem rd_of {t : List Ins} (h : RdOk t) {i f : Nat} (hr : isR t i = true) (hb : (nth t i).b = f) : rnd t f = i := by
  obtain ⟨c1, c2, c3, c4⟩ := h.rounds i hr
  have h1 : rnd t f ≤ i := rd_min hr hb
  have h2 : rnd t f < t.length := Nat.lt_of_le_of_lt h1 (isR_lt hr)
  obtain ⟨g, hg⟩ : ∃ g : Nat, f = g + 1 := ⟨f - 1, by omega⟩
  subst hg
  have : ((nth t i).b - 1).toNat = g := by omega
  rw [this] at c3
  exact cnt_one (h.enters g c3) (rd_goes h2) ⟨hr, hb⟩

theorem rd_ge {t : List Ins} (h : RdOk t) {i : Nat} (he : isE t i = true) : i + 1 ≤ rnd t (i + 1) ∧ rnd t (i + 1) < t.length := by
  have := ((lp_rd t).2 h).2.enters i he
  exact ⟨this.2.1, this.1⟩

theorem begun_iff {t : List Ins} {i : Nat} : begun t i = true ↔ 0 < i ∧ isE t (i - 1) = true := by simp [begun]

theorem begun_in {t : List Ins} (h : RdOk t) {i : Nat} (hb : begun t i = true) : inL t i i = true := by
  obtain ⟨h0, he⟩ := begun_iff.1 hb
  have := (rd_ge h he).1
  rw [inL_iff]
  refine ⟨h0, Nat.le_refl _, he, ?_⟩
  have e : i - 1 + 1 = i := by omega
  rw [e] at this
  omega
theorem in_begun {t : List Ins} {i : Nat} (hb : inL t i i = true) : begun t i = true := by
  rw [inL_iff] at hb
  exact begun_iff.2 ⟨hb.1, hb.2.2.1⟩

theorem pushed_stk {t : List Ins} (h : RdOk t) (i : Nat) : pushed t i (stk t (inn t i i)) = stk t (inn t (i + 1) i) := by
  rw [inn_succ]
  unfold pushed
  by_cases hb : begun t i = true
  · rw [if_pos hb, if_pos (begun_in h hb)]
    rfl
  · rw [if_neg hb, if_neg (fun hi => hb (in_begun hi))]

theorem inn_next_same {t : List Ins} (h : RdOk t) (i : Nat) (hr : isR t i = false) : inn t (i + 1) (i + 1) = inn t (i + 1) i := by
  unfold inn
  apply List.filter_congr
  intro f hf
  have hf' : f < i + 1 := by simpa using hf
  by_cases h1 : inL t f i = true
  · rw [h1]
    rw [inL_iff] at h1 ⊢
    refine ⟨h1.1, by omega, h1.2.2.1, ?_⟩
    rcases Nat.lt_or_ge i (rnd t f) with h2 | h2
    · exact h2
    · have e : rnd t f = i := by omega
      have e2 : f - 1 + 1 = f := by omega
      have hl := (rd_ge h h1.2.2.1).2
      rw [e2] at hl
      have := (rd_goes hl).1
      rw [e, hr] at this
      simp at this
  · rw [Bool.eq_false_iff.2 h1, Bool.eq_false_iff]
    intro h2
    apply h1
    rw [inL_iff] at h2 ⊢
    exact ⟨h2.1, by omega, h2.2.2.1, by omega⟩

theorem filter_tail (l : List Nat) (f : Nat) (p : Nat → Bool) (hs : (f :: l).Pairwise (· > ·)) (hp : ∀ g, g ∈ f :: l → (p g = true ↔ g ≠ f)) : (f :: l).filter p = l := by
  rw [List.filter_cons, if_neg]
  · rw [List.filter_eq_self]
    intro g hg
    rw [hp g (by simp [hg])]
    have := (List.pairwise_cons.1 hs).1 g hg
    omega
  · rw [hp f (by simp)]; simp

/-- Behind a Round its loop is left. -/
theorem inn_next_round {t : List Ins} (h : RdOk t) (i f : Nat) (l : List Nat) (hr : isR t i = true) (hb : (nth t i).b = f) (hl : inn t (i + 1) i = f :: l) : inn t (i + 1) (i + 1) = l := by
  have e1 : inn t (i + 1) (i + 1) = (inn t (i + 1) i).filter (fun g => inL t g (i + 1)) := by
    unfold inn
    rw [List.filter_filter]
    apply List.filter_congr
    intro g hg
    have hg' : g < i + 1 := by simpa using hg
    by_cases h1 : inL t g (i + 1) = true
    · have : inL t g i = true := by
        rw [inL_iff] at h1 ⊢
        exact ⟨h1.1, by omega, h1.2.2.1, by omega⟩
      rw [h1, this]; rfl
    · rw [Bool.eq_false_iff.2 h1]; simp
  rw [e1, hl]
  have hs := inn_sorted t (i + 1) i
  rw [hl] at hs
  apply filter_tail l f _ hs
  intro g hg
  have hm : g ∈ inn t (i + 1) i := by rw [hl]; exact hg
  obtain ⟨m1, m2⟩ := mem_inn.1 hm
  rw [inL_iff] at m2
  rw [inL_iff]
  have hf : rnd t f = i := rd_of h hr hb
  constructor
  · rintro ⟨_, _, _, h4⟩ rfl
    omega
  · intro hne
    refine ⟨m2.1, by omega, m2.2.2.1, ?_⟩
    rcases Nat.lt_or_ge i (rnd t g) with h2 | h2
    · exact h2
    · have e : rnd t g = i := by omega
      have hlt : rnd t g < t.length := by rw [e]; exact isR_lt hr
      have := (rd_goes hlt).2
      rw [e, hb] at this
      exact absurd (by omega) hne

/-- As far as it gets, the stack is the loops that the place lies in. -/
theorem nst_is {t : List Ins} (h : RdOk t) (i : Nat) (st : List (Nat × Int)) (hn : nst t i = some st) : st = stk t (inn t i i) := by
  induction i generalizing st with
  | zero => simp only [nst, Option.some.injEq] at hn; rw [← hn]; rfl
  | succ i ih =>
    simp only [nst] at hn
    cases h1 : nst t i with
    | none => rw [h1] at hn; simp at hn
    | some s =>
      rw [h1] at hn
      simp only [Option.bind_some] at hn
      have hs := ih s h1
      unfold nestStep at hn
      split at hn
      · simp at hn
      · rw [hs, pushed_stk h] at hn
        split at hn
        · rename_i hr
          split at hn
          · rename_i hh
            simp only [Option.some.injEq] at hn
            rw [stk_head] at hh
            cases hl : inn t (i + 1) i with
            | nil =>
              rw [hl] at hh
              have := (h.rounds i hr).1
              simp at hh
              omega
            | cons f l =>
              rw [hl] at hh hn
              rw [inn_next_round h i f l hr (by simpa using hh.symm) hl, ← hn]
              rfl
          · simp at hn
        · rename_i hr
          simp only [Option.some.injEq] at hn
          rw [inn_next_same h i (by simpa using hr), ← hn]

theorem used_iff {t : List Ins} {l : List Nat} {a : Int} (hl : ∀ f, f ∈ l → 0 < f) : used t (stk t l) a = true ↔ ∃ f, f ∈ l ∧ (nth t (f - 1)).a = a := by
  unfold used
  induction l with
  | nil => simp [stk]
  | cons f l ih =>
    simp only [stk, List.any_cons, Bool.or_eq_true, ih (fun g hg => hl g (by simp [hg]))]
    have := hl f (by simp)
    simp [this]

theorem inn_pos {t : List Ins} {m i f : Nat} (h : f ∈ inn t m i) : 0 < f := by
  have := (inL_iff.1 (mem_inn.1 h).2).1
  omega

/-- If all pairs are right, one gets to the end. -/
theorem nst_some {t : List Ins} (h : RdOk t) (hp : Pairs t) (i : Nat) : nst t i = some (stk t (inn t i i)) := by
  have key : ∀ i, nst t i ≠ none := by
    intro i
    induction i with
    | zero => simp [nst]
    | succ i ih =>
      cases h1 : nst t i with
      | none => exact absurd h1 ih
      | some s =>
        have hs := nst_is h i s h1
        simp only [nst, h1, Option.bind_some]
        unfold nestStep
        rw [hs, pushed_stk h]
        have hu : (begun t i && used t (stk t (inn t i i)) (nth t (i - 1)).a) = false := by
          rw [Bool.eq_false_iff]
          intro hb
          simp only [Bool.and_eq_true] at hb
          obtain ⟨hb1, hb2⟩ := hb
          obtain ⟨f, hf, ha⟩ := (used_iff (fun f hf => inn_pos hf)).1 hb2
          obtain ⟨m1, m2⟩ := mem_inn.1 hf
          rw [inL_iff] at m2
          obtain ⟨b1, b2⟩ := begun_iff.1 hb1
          have := hp (f - 1) (i - 1) (by omega) m2.2.2.1 b2
          have e1 : f - 1 + 1 = f := by omega
          have e2 : i - 1 + 1 = i := by omega
          rw [e1, e2] at this
          rcases this with h2 | ⟨h2, h3⟩
          · omega
          · exact h3 ha
        rw [hu]
        simp only [Bool.false_eq_true, if_false]
        split
        · rename_i hr
          obtain ⟨c1, c2, c3, c4⟩ := h.rounds i hr
          obtain ⟨f, hf⟩ : ∃ f : Nat, (nth t i).b = f := ⟨(nth t i).b.toNat, by omega⟩
          have hfr := rd_of h hr hf
          have hfm : f ∈ inn t (i + 1) i := by
            rw [mem_inn, inL_iff]
            have e : ((nth t i).b - 1).toNat = f - 1 := by omega
            rw [e] at c3
            exact ⟨by omega, by omega, by omega, c3, by omega⟩
          cases hl : inn t (i + 1) i with
          | nil => rw [hl] at hfm; simp at hfm
          | cons g l =>
            have hgf : g = f := by
              rw [hl] at hfm
              rcases List.mem_cons.1 hfm with h2 | h2
              · exact h2.symm
              · have hs2 := inn_sorted t (i + 1) i
                rw [hl] at hs2
                have hgt := (List.pairwise_cons.1 hs2).1 f h2
                have hgm : g ∈ inn t (i + 1) i := by rw [hl]; simp
                obtain ⟨m1, m2⟩ := mem_inn.1 hgm
                rw [inL_iff] at m2
                have hff := (mem_inn.1 (show f ∈ inn t (i + 1) i by rw [hl]; exact hfm)).2
                rw [inL_iff] at hff
                have := hp (f - 1) (g - 1) (by omega) hff.2.2.1 m2.2.2.1
                have e1 : f - 1 + 1 = f := by omega
                have e2 : g - 1 + 1 = g := by omega
                rw [e1, e2] at this
                omega
            rw [stk_head]
            simp only [List.headD_cons, hgf, hf, if_true]
            simp
        · simp
  cases h1 : nst t i with
  | none => exact absurd h1 (key i)
  | some s => rw [nst_is h i s h1]

theorem nst_mono {t : List Ins} (i k : Nat) (h : nst t (i + k) ≠ none) : nst t i ≠ none := by
  induction k with
  | zero => exact h
  | succ k ih =>
    apply ih
    intro hn
    apply h
    show nst t (i + k + 1) = none
    simp [nst, hn]

/-- If one gets to the end, all pairs are right. -/
theorem pairs_of {t : List Ins} (h : RdOk t) (hn : nst t t.length ≠ none) : Pairs t := by
  have hk : ∀ i, i ≤ t.length → nst t i = some (stk t (inn t i i)) := by
    intro i hi
    cases h1 : nst t i with
    | none =>
      exfalso
      apply nst_mono (t := t) i (t.length - i) _ h1
      have : i + (t.length - i) = t.length := by omega
      rw [this]; exact hn
    | some s => rw [nst_is h i s h1]
  have hstep : ∀ i, i < t.length → nestStep t i (stk t (inn t i i)) ≠ none := by
    intro i hi hx
    have := hk (i + 1) hi
    simp only [nst, hk i (by omega), Option.bind_some, hx] at this
    simp at this
  intro i j hij hei hej
  rcases Nat.lt_or_ge (rnd t (i + 1)) (j + 1) with h1 | h1
  · exact Or.inl h1
  · right
    have hri := rd_ge h hei
    have hrj := rd_ge h hej
    constructor
    · -- else the one that began first ends first
      apply Classical.byContradiction
      intro hc
      have hne : rnd t (j + 1) ≠ rnd t (i + 1) := by
        intro he
        have a1 := (rd_goes hri.2).2
        have a2 := (rd_goes hrj.2).2
        rw [he, a1] at a2
        omega
      have hlt : rnd t (i + 1) < rnd t (j + 1) := by omega
      have := hstep (rnd t (i + 1)) hri.2
      unfold nestStep at this
      rw [pushed_stk h] at this
      obtain ⟨r1, r2⟩ := rd_goes hri.2
      split at this
      · exact this rfl
      · rw [stk_head] at this
        have hjm : j + 1 ∈ inn t (rnd t (i + 1) + 1) (rnd t (i + 1)) := by
          rw [mem_inn, inL_iff]
          exact ⟨by omega, by omega, by omega, by simpa using hej, by omega⟩
        cases hl : inn t (rnd t (i + 1) + 1) (rnd t (i + 1)) with
        | nil => rw [hl] at hjm; simp at hjm
        | cons g l =>
          rw [hl] at this hjm
          have hs2 := inn_sorted t (rnd t (i + 1) + 1) (rnd t (i + 1))
          rw [hl] at hs2
          have hgj : j + 1 ≤ g := by
            rcases List.mem_cons.1 hjm with h2 | h2
            · omega
            · have := (List.pairwise_cons.1 hs2).1 _ h2; omega
          rw [if_neg (by rw [r2]; simp; omega)] at this
          exact this rfl
    · -- the counters
      intro ha
      have hjl : j + 1 < t.length := by omega
      have := hstep (j + 1) hjl
      unfold nestStep at this
      rw [if_pos] at this
      · exact this rfl
      · simp only [Bool.and_eq_true]
        refine ⟨begun_iff.2 ⟨by omega, by simpa using hej⟩, (used_iff (fun f hf => inn_pos hf)).2 ⟨i + 1, ?_, by simpa using ha⟩⟩
        rw [mem_inn, inL_iff]
        exact ⟨by omega, by omega, by omega, by simpa using hei, by omega⟩
end Go.Proofs.YtbaijehecncclaaDoor
