/- Plain facts: the stack of loops as two lists that grow at their ends, and the counters in use. -/
import Derived.Test.YtbaijehecncclaaDoorV4
namespace Go.Proofs.YtbaijehecncclaaDoor
set_option linter.unusedVariables false

def opL (st : List (Nat × Int)) : List Int := (st.map (fun p => ((p.1 : Nat) : Int))).reverse
def tmL (st : List (Nat × Int)) : List Int := (st.map Prod.snd).reverse
theorem opL_len (st : List (Nat × Int)) : (opL st).length = st.length := by simp [opL]
theorem tmL_len (st : List (Nat × Int)) : (tmL st).length = st.length := by simp [tmL]
theorem opL_cons (p : Nat × Int) (st : List (Nat × Int)) : opL (p :: st) = opL st ++ [((p.1 : Nat) : Int)] := by simp [opL]
theorem tmL_cons (p : Nat × Int) (st : List (Nat × Int)) : tmL (p :: st) = tmL st ++ [p.2] := by simp [tmL]
theorem opL_last (p : Nat × Int) (st : List (Nat × Int)) : (opL (p :: st)).getD st.length 0 = ((p.1 : Nat) : Int) := by
  rw [opL_cons, List.getD, List.getElem?_append_right (by rw [opL_len]; omega)]
  simp [opL_len]
theorem tmL_last (p : Nat × Int) (st : List (Nat × Int)) : (tmL (p :: st)).getD st.length 0 = p.2 := by
  rw [tmL_cons, List.getD, List.getElem?_append_right (by rw [tmL_len]; omega)]
  simp [tmL_len]
theorem opL_take (p : Nat × Int) (st : List (Nat × Int)) : (opL (p :: st)).take st.length = opL st := by
  rw [opL_cons, List.take_append_of_le_length (by rw [opL_len]; omega), List.take_of_length_le (by rw [opL_len]; omega)]
theorem tmL_take (p : Nat × Int) (st : List (Nat × Int)) : (tmL (p :: st)).take st.length = tmL st := by
  rw [tmL_cons, List.take_append_of_le_length (by rw [tmL_len]; omega), List.take_of_length_le (by rw [tmL_len]; omega)]

/-- No two loops of a stack have one counter. -/
def Dis (t : List Ins) (st : List (Nat × Int)) : Prop := st.Pairwise (fun p q => 0 < p.1 → 0 < q.1 → (nth t (p.1 - 1)).a ≠ (nth t (q.1 - 1)).a)
theorem used_cons (t : List Ins) (p : Nat × Int) (st : List (Nat × Int)) (a : Int) : used t (p :: st) a = ((decide (0 < p.1) && (nth t (p.1 - 1)).a == a) || used t st a) := by simp [used]
theorem used_false {t : List Ins} {st : List (Nat × Int)} {a : Int} : used t st a = false ↔ ∀ q, q ∈ st → 0 < q.1 → (nth t (q.1 - 1)).a ≠ a := by
  simp only [used, List.any_eq_false, Bool.and_eq_true, decide_eq_true_eq, beq_iff_eq, not_and]
theorem dis_push {t : List Ins} {st : List (Nat × Int)} {p : Nat × Int} (h : Dis t st) (hu : 0 < p.1 → used t st (nth t (p.1 - 1)).a = false) : Dis t (p :: st) := by
  refine List.pairwise_cons.2 ⟨fun q hq h1 h2 => ?_, h⟩
  have := used_false.1 (hu h1) q hq h2
  exact fun e => this e.symm
theorem dis_pop {t : List Ins} {st : List (Nat × Int)} {p : Nat × Int} (h : Dis t (p :: st)) (hp : 0 < p.1) : used t st (nth t (p.1 - 1)).a = false ∧ Dis t st := by
  obtain ⟨h1, h2⟩ := List.pairwise_cons.1 h
  exact ⟨used_false.2 fun q hq h0 e => h1 q hq hp h0 e.symm, h2⟩

/-- The counters in use, as so many truths. -/
def cuL (t : List Ins) (st : List (Nat × Int)) : List Bool := (List.range 40).map (fun (a : Nat) => used t st (a : Int))
theorem cuL_len (t : List Ins) (st : List (Nat × Int)) : (cuL t st).length = 40 := by simp [cuL]
theorem cuL_get (t : List Ins) (st : List (Nat × Int)) (a : Nat) (h : a < 40) : (cuL t st).getD a false = used t st (a : Int) := by
  have hl : a < (cuL t st).length := by rw [cuL_len]; exact h
  rw [List.getD, List.getElem?_eq_getElem hl, Option.getD_some]
  simp [cuL]
theorem cuL_zero (t : List Ins) : cuL t [(0, 1)] = List.replicate 40 false := by
  apply List.ext_getElem
  · simp [cuL]
  · intro i h1 h2
    rw [List.getElem_replicate]
    simp only [cuL, List.getElem_map]
    rfl
theorem cuL_push {t : List Ins} {st : List (Nat × Int)} {p : Nat × Int} (hp : 0 < p.1) (a : Nat) (ha : (nth t (p.1 - 1)).a = (a : Int)) : (cuL t st).set a true = cuL t (p :: st) := by
  apply List.ext_getElem
  · simp [cuL]
  · intro i h1 h2
    rw [List.getElem_set]
    simp only [cuL, List.getElem_map, List.getElem_range, used_cons, ha]
    by_cases e : a = i
    · subst e; simp [hp]
    · rw [if_neg e]
      have : ((a : Int) == (i : Int)) = false := by simp; omega
      simp [this]
theorem cuL_pop {t : List Ins} {st : List (Nat × Int)} {p : Nat × Int} (h : Dis t (p :: st)) (hp : 0 < p.1) (a : Nat) (ha : (nth t (p.1 - 1)).a = (a : Int)) : (cuL t (p :: st)).set a false = cuL t st := by
  have hu := (dis_pop h hp).1
  rw [ha] at hu
  apply List.ext_getElem
  · simp [cuL]
  · intro i h1 h2
    rw [List.getElem_set]
    simp only [cuL, List.getElem_map, List.getElem_range, used_cons, ha]
    by_cases e : a = i
    · subst e; simp [hu]
    · rw [if_neg e]
      have : ((a : Int) == (i : Int)) = false := by simp; omega
      simp [this]

theorem stk_snd {t : List Ins} (hB : Bs t) (l : List Nat) (hl : ∀ f, f ∈ l → isE t (f - 1) = true) : ∀ p, p ∈ stk t l → 1 ≤ p.2 ∧ p.2 ≤ top1 := by
  induction l with
  | nil => intro p hp; simp [stk] at hp; subst hp; simp [top1]
  | cons f l ih =>
    intro p hp
    have hl' : ∀ g, g ∈ l → isE t (g - 1) = true := fun g hg => hl g (by simp [hg])
    simp only [stk, List.mem_cons] at hp
    rcases hp with rfl | hp
    · have h1 := prd_is hB (f :: l) hl
      have h2 := pr_pos hB (f :: l) hl
      have h3 : (1 : Int) ≤ top1 := by simp [top1]
      have h4 : prd t (f :: l) = min (((stk t l).headD (0, 1)).2 * (nth t (f - 1)).b) top1 := rfl
      rw [← h4, h1]
      omega
    · exact ih hl' p hp
theorem stk_len (t : List Ins) (l : List Nat) : (stk t l).length = l.length + 1 := by
  induction l with
  | nil => rfl
  | cons f l ih => simp [stk, ih]
theorem inn_len (t : List Ins) (m i : Nat) : (inn t m i).length ≤ m := by
  unfold inn
  have := List.length_filter_le (fun f => inL t f i) (List.range m).reverse
  simpa using this

/-- What is known of the stack ahead of place k. -/
structure StOk (t : List Ins) (k : Nat) (st : List (Nat × Int)) : Prop where
  is : nst t k = some st
  ne : ∃ p r, st = p :: r
  len : st.length ≤ k + 1
  times : ∀ p, p ∈ st → 1 ≤ p.2 ∧ p.2 ≤ top1
  dis : Dis t st
  eq : st = stk t (inn t k k)
theorem stOk_zero (t : List Ins) : StOk t 0 [(0, 1)] := ⟨rfl, ⟨_, _, rfl⟩, by simp, by simp [top1], by simp [Dis], rfl⟩

theorem dis_of_nst {t : List Ins} (k : Nat) (st : List (Nat × Int)) (h : nst t k = some st) : Dis t st := by
  induction k generalizing st with
  | zero => simp only [nst, Option.some.injEq] at h; subst h; simp [Dis]
  | succ k ih =>
    simp only [nst] at h
    cases h1 : nst t k with
    | none => rw [h1] at h; simp at h
    | some s =>
      rw [h1] at h
      simp only [Option.bind_some] at h
      have hd := ih s h1
      unfold nestStep at h
      split at h
      · simp at h
      · rename_i hu
        have hpd : Dis t (pushed t k s) := by
          unfold pushed
          split
          · rename_i hb
            apply dis_push hd
            intro _
            simp only [hb, Bool.true_and] at hu
            simpa using hu
          · exact hd
        split at h
        · split at h
          · rw [← Option.some.inj h]
            exact List.Pairwise.sublist (List.tail_sublist _) hpd
          · simp at h
        · rw [← Option.some.inj h]; exact hpd
theorem stOk_of {t : List Ins} (hR : RdOk t) (hB : Bs t) (k : Nat) (st : List (Nat × Int)) (h : nst t k = some st) : StOk t k st := by
  have e := nst_is hR k st h
  refine ⟨h, ?_, ?_, ?_, dis_of_nst k st h, e⟩
  · rw [e]; cases inn t k k <;> exact ⟨_, _, rfl⟩
  · rw [e, stk_len]; have := inn_len t k k; omega
  · rw [e]; exact stk_snd hB _ inn_enter
/-- The same of the stack at place k itself, a loop begun there. -/
theorem pushed_ok {t : List Ins} (hR : RdOk t) (hB : Bs t) (k : Nat) (st : List (Nat × Int)) (h : nst t k = some st) :
    pushed t k st = stk t (inn t (k + 1) k) ∧ (∀ p, p ∈ pushed t k st → 1 ≤ p.2 ∧ p.2 ≤ top1) ∧ (pushed t k st).length ≤ k + 2 ∧ ((((pushed t k st).headD (0, 1)).1 : Nat) : Int) = begA t k ∧ ((pushed t k st).headD (0, 1)).2 = prd t (inn t (k + 1) k) := by
  have e := nst_is hR k st h
  have e2 : pushed t k st = stk t (inn t (k + 1) k) := by rw [e, pushed_stk hR]
  refine ⟨e2, ?_, ?_, ?_, ?_⟩
  · rw [e2]; exact stk_snd hB _ inn_enter
  · rw [e2, stk_len]; have := inn_len t (k + 1) k; omega
  · rw [e2, stk_head]; rfl
  · rw [e2]; rfl
end Go.Proofs.YtbaijehecncclaaDoor
