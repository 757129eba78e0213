/- mayStack. -/
import Derived.Test.YtbaijehecncclaaDoorL5
namespace Go.Proofs.YtbaijehecncclaaDoor
open Go.RowKit
attribute [local go_sem ↓] Go.wp_at_zero Go.wp_at_succ
set_option linter.unusedVariables false
set_option linter.unusedSimpArgs false

def tkN (t : List Ins) (i : Nat) : Int := tkS (nth t i)
def gvN (t : List Ins) (i : Nat) : Int := gvS (nth t i)
theorem opers_bd (x : Ins) : 1 ≤ opersS x ∧ opersS x ≤ 2 := by unfold opersS; split <;> omega
theorem tkS_bd (x : Ins) : 0 ≤ tkS x ∧ tkS x ≤ 3 := by
  have := opers_bd x
  unfold tkS; repeat' split
  all_goals omega
theorem gvS_bd (x : Ins) : 0 ≤ gvS x ∧ gvS x ≤ 2 := by
  unfold gvS; repeat' split
  all_goals omega
/-- Jumps lie within the text. -/
def WayOk (t : List Ins) : Prop := ∀ i, i < t.length → (((nth t i).d = 11 ∨ (nth t i).d = 12) → (i : Int) < (nth t i).a ∧ (nth t i).a ≤ t.length) ∧ ((nth t i).d = 14 → 1 ≤ (nth t i).b ∧ (nth t i).b ≤ (i : Int))
theorem way_nats (t : List Ins) (i : Nat) (hi : i < t.length) (h : WayOk t) : natsI (ways t i) = wayS i (nth t i) ∧ ∀ p, p ∈ ways t i → p < t.length + 1 := by
  obtain ⟨h1, h2⟩ := h i hi
  unfold ways wayS natsI
  by_cases e11 : (nth t i).d = 11
  · have := h1 (.inl e11)
    rw [if_pos e11, if_pos e11]
    refine ⟨by simp; omega, fun p hp => ?_⟩
    simp at hp; omega
  rw [if_neg e11, if_neg e11]
  by_cases e12 : (nth t i).d = 12
  · have := h1 (.inr e12)
    rw [if_pos e12, if_pos e12]
    refine ⟨by simp; omega, fun p hp => ?_⟩
    simp at hp; omega
  rw [if_neg e12, if_neg e12]
  by_cases e14 : (nth t i).d = 14
  · have := h2 e14
    rw [if_pos e14, if_pos e14]
    refine ⟨by simp; omega, fun p hp => ?_⟩
    simp at hp; omega
  rw [if_neg e14, if_neg e14]
  refine ⟨by simp, fun p hp => ?_⟩
  simp at hp; omega
theorem ways_len (t : List Ins) (i : Nat) : (ways t i).length ≤ 2 := by
  unfold ways; repeat' split
  all_goals simp

theorem hgt_le {t : List Ins} {i : Nat} {hs : List Int} (he : hgt t (tkN t) (gvN t) i = some hs) : ∀ p : Nat, (hs[p]?).getD 0 ≤ 1000 := by
  induction i generalizing hs with
  | zero =>
    simp only [hgt, Option.some.injEq] at he
    subst he
    intro p
    cases p with
    | zero => simp
    | succ p =>
      simp only [List.getElem?_cons_succ, List.getElem?_replicate]
      split <;> simp
  | succ i ih =>
    simp only [hgt] at he
    cases h1 : hgt t (tkN t) (gvN t) i with
    | none => rw [h1] at he; simp at he
    | some hs1 =>
      rw [h1] at he
      simp only [Option.bind_some] at he
      split at he
      · rw [← Option.some.inj he]; exact ih h1
      · split at he
        · simp at he
        · rename_i hc
          have hle : (hs1[i]?).getD 0 - tkN t i + gvN t i ≤ 1000 := by omega
          generalize (hs1[i]?).getD 0 - tkN t i + gvN t i = h at *
          have key : ∀ (ps : List Nat) (a b : List Int), (∀ p : Nat, (a[p]?).getD 0 ≤ 1000) → meet h ps a = some b → ∀ p : Nat, (b[p]?).getD 0 ≤ 1000 := by
            intro ps
            induction ps with
            | nil => intro a b ha hm; simp only [meet, Option.some.injEq] at hm; rw [← hm]; exact ha
            | cons q ps ihq =>
              intro a b ha hm
              simp only [meet] at hm
              split at hm
              · refine ihq _ b (fun p => ?_) hm
                rw [List.getElem?_set]
                split
                · split
                  · simpa using hle
                  · simp
                · exact ha p
              · split at hm
                · exact ihq _ b ha hm
                · simp at hm
          exact key _ _ _ (ih h1) he

def minus (n j : Nat) (l : List Int) : Prop := l.length = n ∧ (∀ i, i < j → l.getD i 0 = -1) ∧ ∀ i, j ≤ i → i < n → l.getD i 0 = 0
theorem minus_set {n j : Nat} {l : List Int} (h : minus n j l) (hj : j < n) : minus n (j + 1) (l.set j (-1)) := by
  obtain ⟨h1, h2, h3⟩ := h
  refine ⟨by simp [h1], fun i hi => ?_, fun i hi hin => ?_⟩
  · by_cases e : i = j
    · subst e; simp [List.getD, List.getElem?_set, h1, hj]
    · have := h2 i (by omega)
      simp only [List.getD, List.getElem?_set] at *
      rw [if_neg (fun e' => e e'.symm)]; exact this
  · have := h3 i (by omega) hin
    simp only [List.getD, List.getElem?_set] at *
    rw [if_neg (by omega)]; exact this
theorem minus_all {n : Nat} {l : List Int} (h : minus (n + 1) (n + 1) l) : l.set 0 0 = 0 :: List.replicate n (-1) := by
  obtain ⟨h1, h2, _⟩ := h
  apply List.ext_getElem
  · simp [h1]
  · intro i a b
    have hi : i < n + 1 := by simpa [h1] using a
    cases i with
    | zero => simp
    | succ i =>
      have := h2 (i + 1) hi
      have hl : i + 1 < l.length := by omega
      simp [List.getD, hl] at this
      simp [this]
end Go.Proofs.YtbaijehecncclaaDoor
