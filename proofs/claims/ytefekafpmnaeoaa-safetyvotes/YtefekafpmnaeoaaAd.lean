/- Plain facts: trips that may be, what lasted. -/
import Derived.Test.YtefekafpmnaeoaaAc
namespace Go.Proofs.Ytefekafpmnaeoaa
open Go.RowKit
attribute [local go_sem ↓] Go.wp_at_zero Go.wp_at_succ
set_option linter.unusedVariables false
set_option linter.unusedSimpArgs false

theorem ixOf_lt {l : List Int} {x : Int} (h : ixOf l x ≠ -1) : 0 ≤ ixOf l x ∧ ixOf l x < (l.length : Int) := by
  induction l with
  | nil => exact absurd rfl h
  | cons y l ih =>
    simp only [ixOf] at h ⊢
    by_cases h1 : y = x
    · rw [if_pos h1]; simp
    · rw [if_neg h1] at h ⊢
      by_cases h2 : ixOf l x = -1
      · rw [if_pos h2] at h; exact absurd rfl h
      · rw [if_neg h2]
        have := ih h2
        simp
        omega
theorem heldAt_rng {de : Int} {told : List Int} {l : List (Int × List Int)} {hs : List Int} {k : Nat} (h0 : 0 ≤ de) (hh : 0 ≤ hs.getD k 0) : 0 ≤ heldAt de told l hs k ∧ heldAt de told l hs k ≤ de + 1 := by
  unfold heldAt
  split
  · split <;> omega
  · omega
theorem mayB_iff {de : Int} {n : Nat} {T : Tr} : mayB de n T = true ↔ T.h.length = n ∧ (∀ x ∈ T.h, 0 ≤ x ∧ x ≤ de + 1) ∧ (if T.d then 0 ≤ T.f ∧ T.f < (n : Int) else T.f = -1) := by
  unfold mayB
  simp only [Bool.and_eq_true, decide_eq_true_eq, Bool.not_eq_true', and_assoc]
  refine and_congr Iff.rfl (and_congr ⟨fun h x hx => ?_, fun h => ?_⟩ ?_)
  · have := List.any_eq_false.1 h x hx
    simp [ou] at this
    omega
  · refine List.any_eq_false.2 (fun x hx => ?_)
    have := h x hx
    simp [ou]
    omega
  · cases T.d with
    | true => simp only [if_true]; rw [ou_no]; omega
    | false => simp only [Bool.false_eq_true, if_false]; rw [ou_no]; omega
/-- A step leads to a trip of the same guard. -/
theorem next_may {de : Int} {l : List (Int × List Int)} {T : Tr} {told : List Int} {key : Bool} (h0 : 0 ≤ de) (hm : mayB de l.length T = true) : mayB de l.length (nextT de l T told key) = true := by
  obtain ⟨h1, h2, h3⟩ := mayB_iff.1 hm
  have hlen : (heldL de told l T.h).length = l.length := by simp [heldL]
  have hr : ∀ x ∈ heldL de told l T.h, 0 ≤ x ∧ x ≤ de + 1 := fun x hx => by
    unfold heldL at hx
    rw [List.mem_map] at hx
    obtain ⟨i, hi, rfl⟩ := hx
    rw [List.mem_range] at hi
    refine heldAt_rng h0 ?_
    have : T.h.getD i 0 = T.h[i]'(by omega) := by simp [List.getD, show i < T.h.length by omega]
    rw [this]
    exact (h2 _ (List.getElem_mem _)).1
  rw [mayB_iff]
  unfold nextT
  split
  · next hd =>
    rw [hd] at h3
    simp only [if_true] at h3
    split
    · exact ⟨hlen, hr, by simp⟩
    · exact ⟨hlen, hr, by simpa using h3⟩
  · refine ⟨hlen, hr, ?_⟩
    dsimp only
    by_cases hx : ixOf (heldL de told l T.h) (de + 1) = -1
    · simp [hx]
    · have := ixOf_lt hx
      rw [hlen] at this
      simp [hx]
      omega
theorem step_zero {se de : Int} {l : List (Int × List Int)} {T : Tr} {told : List Int} (h1 : (checkF se de l).1 = 0) (h2 : mayB de l.length T = true) (h3 : (told.length : Int) = se) (h4 : told.any tl = false) : stepE se de l T told = 0 := by
  unfold stepE
  rw [h1, if_pos rfl, h2, if_pos rfl, if_pos h3, h4]
  rfl
/-- For how many steps each vote has held, uncut. -/
def lgN (told : List Int) (l : List (Int × List Int)) (lg : List Int) (i : Nat) : Int := if holdB told (l.getD i (0, [])).1 (l.getD i (0, [])).2 then lg.getD i 0 + 1 else 0
def lgK (told : List Int) (l : List (Int × List Int)) (lg : List Int) (n k : Nat) : List Int := (List.range n).map fun i => if i < k then lgN told l lg i else lg.getD i 0
theorem lgK_len (told : List Int) (l : List (Int × List Int)) (lg : List Int) (n k : Nat) : (lgK told l lg n k).length = n := by simp [lgK]
theorem lgK_zero (told : List Int) (l : List (Int × List Int)) (lg : List Int) : lgK told l lg lg.length 0 = lg := by
  apply List.ext_getElem
  · simp [lgK]
  · intro i h1 h2
    simp only [lgK, List.getElem_map, List.getElem_range]
    rw [if_neg (by omega)]
    simp [List.getD, h2]
theorem lgK_at (told : List Int) (l : List (Int × List Int)) (lg : List Int) (n k : Nat) (hk : k < n) : (lgK told l lg n k).getD k 0 = lg.getD k 0 := by
  simp [lgK, List.getD, hk]
theorem lgK_set (told : List Int) (l : List (Int × List Int)) (lg : List Int) (n k : Nat) (x y : Int) (hy : y = lgN told l lg k) : ((lgK told l lg n k).set k x).set k y = lgK told l lg n (k + 1) := by
  subst hy
  apply List.ext_getElem
  · simp [lgK]
  · intro i h1 h2
    rw [List.getElem_set]
    by_cases h : k = i
    · subst h
      simp [lgK]
    · rw [if_neg h, List.getElem_set, if_neg h]
      simp only [lgK, List.getElem_map, List.getElem_range]
      by_cases h' : i < k
      · rw [if_pos h', if_pos (by omega)]
      · rw [if_neg h', if_neg (by omega)]
theorem lgK_set1 (told : List Int) (l : List (Int × List Int)) (lg : List Int) (n k : Nat) (y : Int) (hy : y = lgN told l lg k) : (lgK told l lg n k).set k y = lgK told l lg n (k + 1) := by
  rw [← lgK_set told l lg n k 0 y hy, List.set_set]
/-- What is held is what lasted, cut. -/
def Cut (de : Int) (n : Nat) (hs lg : List Int) : Prop := ∀ i, i < n → hs.getD i 0 = (if lg.getD i 0 ≤ de + 1 then lg.getD i 0 else de + 1) ∧ 0 ≤ lg.getD i 0
theorem cut_at {de : Int} {n : Nat} {hs lg : List Int} (h : Cut de n hs lg) (h0 : 0 ≤ de) (told : List Int) (l : List (Int × List Int)) (i : Nat) (hi : i < n) : heldAt de told l hs i = (if lgN told l lg i ≤ de + 1 then lgN told l lg i else de + 1) ∧ 0 ≤ lgN told l lg i := by
  obtain ⟨h1, h2⟩ := h i hi
  unfold heldAt lgN
  rw [h1]
  split
  · constructor
    · split <;> split <;> (try split) <;> omega
    · omega
  · constructor
    · rw [if_pos (by omega)]
    · omega
theorem cut_next {de : Int} {l : List (Int × List Int)} {hs lg : List Int} (h : Cut de l.length hs lg) (h0 : 0 ≤ de) (told : List Int) : Cut de l.length (heldL de told l hs) (lgK told l lg l.length l.length) := fun i hi => by
  have e1 : (heldL de told l hs).getD i 0 = heldAt de told l hs i := by simp [heldL, List.getD, hi]
  have e2 : (lgK told l lg l.length l.length).getD i 0 = lgN told l lg i := by simp [lgK, List.getD, hi]
  rw [e1, e2]
  exact cut_at h h0 told l i hi
/-- Steps that can be read: what sensors tell, by raw numbers, and the key. -/
def rdTs (w : World) (v : Value) (l : List (List Int × Bool)) : Prop :=
  ∃ a cap, v = .slice a l.length cap ∧ (l = [] ∨ ∃ b off, a = some ⟨b, off, none⟩ ∧ ∀ i, i < l.length → ∃ u, w.cell? ⟨b, off + i * 2, none⟩ = some u ∧ w.cell? ⟨b, off + i * 2 + 1, none⟩ = some (.bool (l.getD i ([], false)).2) ∧ rd w u (l.getD i ([], false)).1)
theorem rdTs_grown {w w' : World} {v : Value} {l : List (List Int × Bool)} (h : rdTs w v l) (hg : w.grownBy w' none) : rdTs w' v l := by
  obtain ⟨a, cap, rfl, h | ⟨b, off, rfl, hc⟩⟩ := h
  · exact ⟨a, cap, rfl, .inl h⟩
  · exact ⟨_, cap, rfl, .inr ⟨b, off, rfl, fun i hi => by
      obtain ⟨u, h1, h2, h3⟩ := hc i hi
      exact ⟨u, hg.cell h1 (by simp), hg.cell h2 (by simp), rd_grown h3 hg⟩⟩⟩
end Go.Proofs.Ytefekafpmnaeoaa
