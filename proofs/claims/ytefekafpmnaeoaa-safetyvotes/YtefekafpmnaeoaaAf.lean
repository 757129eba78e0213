/- Plain facts: more demands never come later. -/
import Derived.Test.YtefekafpmnaeoaaAd
namespace Go.Proofs.Ytefekafpmnaeoaa
open Go.RowKit
attribute [local go_sem ↓] Go.wp_at_zero Go.wp_at_succ
set_option linter.unusedVariables false
set_option linter.unusedSimpArgs false

/-- Each vote names its sensors the other way round. -/
def Lr (L : List (Int × List Int)) : List (Int × List Int) := L.map fun v => (v.1, v.2.reverse)
theorem Lr_len (L : List (Int × List Int)) : (Lr L).length = L.length := by simp [Lr]
theorem Lr_get (L : List (Int × List Int)) (i : Nat) : (Lr L).getD i (0, []) = ((L.getD i (0, [])).1, (L.getD i (0, [])).2.reverse) := by
  simp only [Lr, List.getD, List.getElem?_map]
  cases L[i]? <;> simp
theorem cnt_app (told a b : List Int) : cnt told (a ++ b) = cnt told a + cnt told b := by
  induction a with
  | nil => simp [cnt]
  | cons x a ih => simp only [List.cons_append, cnt, ih]; omega
theorem cnt_rev (told l : List Int) : cnt told l.reverse = cnt told l := by
  induction l with
  | nil => rfl
  | cons x l ih => rw [List.reverse_cons, cnt_app, ih]; simp only [cnt]; omega
theorem heldAt_rev (de : Int) (told : List Int) (L : List (Int × List Int)) (hs : List Int) (i : Nat) : heldAt de told (Lr L) hs i = heldAt de told L hs i := by
  unfold heldAt holdB
  rw [Lr_get]
  simp only [cnt_rev]
theorem heldL_rev (de : Int) (told : List Int) (L : List (Int × List Int)) (hs : List Int) : heldL de told (Lr L) hs = heldL de told L hs := by
  unfold heldL
  rw [Lr_len]
  apply List.map_congr_left
  intro i _
  exact heldAt_rev de told L hs i
theorem next_rev (de : Int) (L : List (Int × List Int)) (T : Tr) (told : List Int) (key : Bool) : nextT de (Lr L) T told key = nextT de L T told key := by
  unfold nextT
  rw [heldL_rev]
theorem nodup_rev {l : List Int} (h : l.Nodup) : l.reverse.Nodup := List.pairwise_reverse.2 (h.imp (fun hab => hab.symm))
theorem voteE_rev {se need : Int} {of : List Int} (h : voteE se need of = 0) : voteE se need of.reverse = 0 := by
  unfold voteE at h ⊢
  rw [List.length_reverse, List.any_reverse]
  have : twB of.reverse = twB of := by
    cases h1 : twB of with
    | false => exact twB_no.2 (nodup_rev (twB_no.1 h1))
    | true =>
      cases h2 : twB of.reverse with
      | true => rfl
      | false =>
        have h3 := nodup_rev (twB_no.1 h2)
        rw [List.reverse_reverse] at h3
        have := twB_no.2 h3
        rw [h1] at this
        cases this
  rw [this]
  exact h
theorem checkF_rev {se de : Int} {L : List (Int × List Int)} (h : (checkF se de L).1 = 0) : (checkF se de (Lr L)).1 = 0 := by
  have hv := (checkF_ok h).2.2.2.2.2.2
  have hg : guardE se de L.length = 0 := by
    unfold checkF at h
    split at h
    · assumption
    · exact h
  unfold checkF
  rw [Lr_len, if_pos hg, votesF_all]
  intro v hv'
  simp only [Lr, List.mem_map] at hv'
  obtain ⟨u, hu, rfl⟩ := hv'
  exact voteE_rev (hv u hu)
/-- Whoever does not tell calm does not tell it there either. -/
def Louder (told loud : List Int) : Prop := ∀ i, told.getD i 0 ≠ 0 → loud.getD i 0 ≠ 0
theorem cnt_mono {told loud : List Int} (h : Louder told loud) (l : List Int) : cnt told l ≤ cnt loud l := by
  induction l with
  | nil => simp [cnt]
  | cons s l ih =>
    simp only [cnt]
    have := h s.toNat
    split <;> split <;> simp_all <;> omega
theorem heldAt_mono {de : Int} {told loud : List Int} (h : Louder told loud) (L : List (Int × List Int)) (hs hu : List Int) (i : Nat) (h0 : 0 ≤ de) (h1 : 0 ≤ hs.getD i 0) (h2 : hs.getD i 0 ≤ hu.getD i 0) : heldAt de told L hs i ≤ heldAt de loud L hu i := by
  have hc := cnt_mono h (L.getD i (0, [])).2
  unfold heldAt holdB
  by_cases ha : (L.getD i (0, [])).1 ≤ (cnt told (L.getD i (0, [])).2 : Int)
  · have hb : (L.getD i (0, [])).1 ≤ (cnt loud (L.getD i (0, [])).2 : Int) := by omega
    have hA : decide ((L.getD i (0, [])).1 ≤ (cnt told (L.getD i (0, [])).2 : Int)) = true := decide_eq_true ha
    have hB : decide ((L.getD i (0, [])).1 ≤ (cnt loud (L.getD i (0, [])).2 : Int)) = true := decide_eq_true hb
    rw [hA, hB]
    simp only [if_true]
    split <;> split <;> omega
  · have hA : decide ((L.getD i (0, [])).1 ≤ (cnt told (L.getD i (0, [])).2 : Int)) = false := decide_eq_false ha
    rw [hA]
    simp only [Bool.false_eq_true, if_false]
    split
    · split <;> omega
    · omega
theorem ixOf_mem {l : List Int} {x : Int} (h : x ∈ l) : ixOf l x ≠ -1 := by
  induction l with
  | nil => simp at h
  | cons y l ih =>
    simp only [ixOf]
    by_cases h1 : y = x
    · rw [if_pos h1]; omega
    · rw [if_neg h1]
      have hm : x ∈ l := by
        rcases List.mem_cons.1 h with e | e
        · exact absurd e.symm h1
        · exact e
      have h2 := ih hm
      have h3 := ixOf_ge l x
      rw [if_neg h2]
      omega
theorem mem_of_ixOf {l : List Int} {x : Int} (h : ixOf l x ≠ -1) : x ∈ l := by
  by_cases hm : x ∈ l
  · exact hm
  · exact absurd (ixOf_none hm) h
/-- The second is down wherever the first is. -/
def Later (n : Nat) (T U : Tr) : Prop := T.k = false ∧ U.k = false ∧ (∀ i, i < n → T.h.getD i 0 ≤ U.h.getD i 0) ∧ (T.d = true → U.d = true)
theorem next_d {de : Int} {L : List (Int × List Int)} {T : Tr} {told : List Int} : (nextT de L T told false).d = true ↔ T.d = true ∨ (de + 1) ∈ heldL de told L T.h := by
  unfold nextT
  cases hd : T.d with
  | true => simp
  | false =>
    simp only [Bool.false_eq_true, if_false, false_or, decide_eq_true_eq]
    exact ⟨mem_of_ixOf, ixOf_mem⟩
theorem next_h {de : Int} {L : List (Int × List Int)} {T : Tr} {told : List Int} {key : Bool} : (nextT de L T told key).h = heldL de told L T.h ∧ (nextT de L T told key).k = key := by
  unfold nextT
  split
  · split <;> exact ⟨rfl, rfl⟩
  · exact ⟨rfl, rfl⟩
theorem next_later {de : Int} {L : List (Int × List Int)} {T U : Tr} {told loud : List Int} (h0 : 0 ≤ de) (hm : mayB de L.length T = true) (hmu : mayB de L.length U = true) (h : Later L.length T U) (hl : Louder told loud) : Later L.length (nextT de L T told false) (nextT de L U loud false) := by
  obtain ⟨h1, h2, h3, h4⟩ := h
  obtain ⟨e1, e2, _⟩ := mayB_iff.1 hm
  obtain ⟨u1, u2, _⟩ := mayB_iff.1 hmu
  have hp : ∀ i, i < L.length → 0 ≤ T.h.getD i 0 := fun i hi => by
    have : T.h.getD i 0 = T.h[i]'(by omega) := by simp [List.getD, show i < T.h.length by omega]
    rw [this]; exact (e2 _ (List.getElem_mem _)).1
  have hup : ∀ i, i < L.length → 0 ≤ U.h.getD i 0 := fun i hi => by have := hp i hi; have := h3 i hi; omega
  have ha := fun i (hi : i < L.length) => heldAt_mono hl L T.h U.h i h0 (hp i hi) (h3 i hi)
  refine ⟨next_h.2, next_h.2, fun i hi => ?_, fun hd => ?_⟩
  · rw [next_h.1, next_h.1]
    have g1 : (heldL de told L T.h).getD i 0 = heldAt de told L T.h i := by simp [heldL, List.getD, hi]
    have g2 : (heldL de loud L U.h).getD i 0 = heldAt de loud L U.h i := by simp [heldL, List.getD, hi]
    rw [g1, g2]
    exact ha i hi
  · rw [next_d] at hd ⊢
    rcases hd with hd | hd
    · exact .inl (h4 hd)
    · right
      unfold heldL at hd ⊢
      rw [List.mem_map] at hd ⊢
      obtain ⟨i, hi, he⟩ := hd
      refine ⟨i, hi, ?_⟩
      rw [List.mem_range] at hi
      have h5 := ha i hi
      have h6 := (heldAt_rng (told := loud) (l := L) h0 (hup i hi)).2
      omega
/-- The closing steps take a plant down. -/
theorem last_hold : holdB [1, 1, 2, 0, 0, 0] 2 [0, 1, 2] = true := by decide
def Near (D : Nat) (j : Nat) (T : Tr) : Prop := T.d = true ∨ ((j : Int) ≤ T.h.getD 0 0 ∧ j ≤ D)
theorem near_next {D : Nat} {L : List (Int × List Int)} {T : Tr} (hL : L.getD 0 (0, []) = (2, [0, 1, 2])) (hn : 0 < L.length) (j : Nat) (hj : j ≤ D) (h : Near D j T) : Near D (j + 1) (nextT (D : Int) L T [1, 1, 2, 0, 0, 0] false) := by
  have ha : heldAt (D : Int) [1, 1, 2, 0, 0, 0] L T.h 0 = if T.h.getD 0 0 + 1 ≤ (D : Int) + 1 then T.h.getD 0 0 + 1 else (D : Int) + 1 := by
    unfold heldAt
    rw [hL]
    dsimp only
    rw [last_hold, if_pos rfl]
  have hg : (heldL (D : Int) [1, 1, 2, 0, 0, 0] L T.h).getD 0 0 = heldAt (D : Int) [1, 1, 2, 0, 0, 0] L T.h 0 := by simp [heldL, List.getD, hn]
  unfold Near at h ⊢
  rw [next_d, next_h.1, hg]
  rcases h with h | ⟨h1, h2⟩
  · exact .inl (.inl h)
  · by_cases hjD : j + 1 ≤ D
    · by_cases hm : ((D : Int) + 1) ∈ heldL (D : Int) [1, 1, 2, 0, 0, 0] L T.h
      · exact .inl (.inr hm)
      · right
        rw [ha]
        refine ⟨?_, hjD⟩
        split <;> omega
    · left; right
      unfold heldL
      rw [List.mem_map]
      refine ⟨0, List.mem_range.2 hn, ?_⟩
      rw [ha]
      split <;> omega
end Go.Proofs.Ytefekafpmnaeoaa
