/- Plain facts: the document's sum of steps, as far as it is reckoned. -/
import Derived.Test.YtbaijehecncclaaDoorV5
namespace Go.Proofs.YtbaijehecncclaaDoor
set_option linter.unusedVariables false

theorem mulR_bd {t : List Ins} (hB : Bs t) (k e : Nat) (he : isE t e = true) (n : Int) (h1 : 1 ≤ n) (h2 : n ≤ 10000000000000) : 1 ≤ mulR t k n e ∧ mulR t k n e ≤ 10000000000000 := by
  unfold mulR
  split
  · rename_i hc
    simp only [Bool.and_eq_true, decide_eq_true_eq] at hc
    have hb := hB e he
    refine ⟨(mul_ge h1 hb.1).1, ?_⟩
    have h3 : n * (nth t e).b ≤ 1000000000 * (nth t e).b := Int.mul_le_mul_of_nonneg_right hc.2 (by omega)
    have h4 : (1000000000 : Int) * (nth t e).b ≤ 1000000000 * 10000 := Int.mul_le_mul_of_nonneg_left hb.2 (by omega)
    omega
  · exact ⟨h1, h2⟩
/-- So many steps, behind the first j loops. -/
def refJ (t : List Ins) (k : Nat) (n : Int) (j : Nat) : Int := ((ents t t.length).take j).foldl (mulR t k) n
theorem refJ_zero (t : List Ins) (k : Nat) (n : Int) : refJ t k n 0 = n := by simp [refJ]
theorem refJ_succ (t : List Ins) (k : Nat) (n : Int) (j : Nat) (hj : j < (ents t t.length).length) : refJ t k n (j + 1) = mulR t k (refJ t k n j) (ents t t.length)[j] := by
  unfold refJ
  rw [List.take_add_one, List.foldl_append]
  simp [hj]
theorem refJ_all (t : List Ins) (k : Nat) (n : Int) : refJ t k n (ents t t.length).length = refN t k n t.length := by
  unfold refJ refN
  rw [List.take_length]
  rfl
theorem refJ_bd {t : List Ins} (hB : Bs t) (k : Nat) (n : Int) (h1 : 1 ≤ n) (h2 : n ≤ 1000000001) (j : Nat) (hj : j ≤ (ents t t.length).length) : 1 ≤ refJ t k n j ∧ refJ t k n j ≤ 10000000000000 := by
  induction j with
  | zero => rw [refJ_zero]; omega
  | succ j ih =>
    rw [refJ_succ t k n j (by omega)]
    have := ih (by omega)
    exact mulR_bd hB k _ (mem_ents.1 (List.getElem_mem (by omega))).2 _ this.1 this.2
/-- Is k within the loop that begins behind e? -/
theorem inL_loop {t : List Ins} {e k : Nat} (he : isE t e = true) : inL t (e + 1) k = (decide (((e + 1 : Nat) : Int) ≤ (k : Int)) && decide ((k : Int) ≤ ((rnd t (e + 1) : Nat) : Int))) := by
  rw [Bool.eq_iff_iff, inL_iff]
  simp [he]
  omega

theorem sumP_stop {t : List Ins} (hB : Bs t) (s : Nat → Int) (hs : ∀ k, 1 ≤ s k) (k m : Nat) (hk : k < t.length) (hkm : k + 1 ≤ m) (hs2 : s k ≤ 1000000001) (h1 : sumP t s k ≤ 1000000000) (h2 : 1000000000 < sumP t s k + refN t k (s k) t.length) : sumP t s m = top1 := by
  have e := sumP_step hB s k hk (hs k) hs2 (sumP_bd hB s hs k).1 h1
  rw [if_neg (by omega)] at e
  obtain ⟨d, rfl⟩ : ∃ d, m = k + 1 + d := ⟨m - (k + 1), by omega⟩
  exact sumP_top hB s hs (k + 1) d e
theorem sumP_next {t : List Ins} (hB : Bs t) (s : Nat → Int) (hs : ∀ k, 1 ≤ s k) (k : Nat) (hk : k < t.length) (hs2 : s k ≤ 1000000001) (h1 : sumP t s k ≤ 1000000000) (h2 : sumP t s k + refN t k (s k) t.length ≤ 1000000000) : sumP t s (k + 1) = sumP t s k + refN t k (s k) t.length := by
  have e := sumP_step hB s k hk (hs k) hs2 (sumP_bd hB s hs k).1 h1
  rw [if_pos h2] at e
  exact e

/-- The counter of an Enter that nothing else has, of those that are right. -/
theorem lp_find {t : List Ins} {e : Nat} : ¬ (rnd t (e + 1) < t.length ∧ e + 1 ≤ rnd t (e + 1) ∧ (nth t (rnd t (e + 1))).a = (nth t e).a) → isE t e = true → ¬ LpOk t := fun h he hl => h (hl.enters e he)
end Go.Proofs.YtbaijehecncclaaDoor
