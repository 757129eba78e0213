/- No job takes longer than was told ahead: plain. -/
import Derived.Test.YtholmeebkgpjjaaPb
import Derived.Test.YtholmeebkgpjjaaPr
namespace Go.Proofs.Ytholmeebkgpjjaa
set_option linter.unusedVariables false
set_option linter.unusedSimpArgs false

/-- What a task has had by a time; who runs at it. -/
def Dn (l : List Tk) (n i : Nat) : Int := (doc l n).1 i
def who (l : List Tk) (n : Nat) : Option Nat := pick l (doc l n).1 n
theorem Dn_zero (l : List Tk) (i : Nat) : Dn l 0 i = 0 := rfl
theorem Dn_succ (l : List Tk) (n i : Nat) : Dn l (n + 1) i = if who l n = some i then Dn l n i + 1 else Dn l n i := by
  unfold Dn who
  rw [doc_succ]
  unfold stepD
  cases h : pick l (doc l n).1 n with
  | none => simp
  | some k =>
    dsimp only
    by_cases e : k = i
    · subst e; simp [upd]
    · have e' : ¬ i = k := fun h => e h.symm
      simp [upd, e, e']
theorem Dn_mono (l : List Tk) (i : Nat) {n m : Nat} (h : n ≤ m) : Dn l n i ≤ Dn l m i := by
  induction m with
  | zero => have : n = 0 := by omega
            subst this; exact Int.le_refl _
  | succ m ih =>
    by_cases e : n = m + 1
    · subst e; exact Int.le_refl _
    · have h1 := ih (by omega)
      rw [Dn_succ]
      split <;> omega
theorem Dn_nonneg (l : List Tk) (n i : Nat) : 0 ≤ Dn l n i := doc_nonneg l n i
theorem who_pend {l : List Tk} {n i : Nat} (h : who l n = some i) : i < l.length ∧ Dn l n i < rls (tk l i) n * (tk l i).cost ∧ ∀ j, j < i → rls (tk l j) n * (tk l j).cost ≤ Dn l n j := by
  obtain ⟨h1, h2, h3⟩ := pick_some.1 h
  refine ⟨h1, by simpa [pend, Dn] using h2, fun j hj => ?_⟩
  have := h3 j hj
  simpa [pend, Dn] using this
theorem who_le {l : List Tk} {n i : Nat} (hi : i < l.length) (h : Dn l n i < rls (tk l i) n * (tk l i).cost) : ∃ j, j ≤ i ∧ who l n = some j := by
  have hp : pend l (doc l n).1 n i = true := by simpa [pend, Dn] using h
  cases hw : who l n with
  | none => have := pick_none.1 hw i hi; rw [hp] at this; cases this
  | some j =>
    refine ⟨j, ?_, rfl⟩
    by_cases hj : j ≤ i
    · exact hj
    · have := (pick_some.1 hw).2.2 i (by omega)
      rw [hp] at this; cases this
theorem tk_ok {l : List Tk} (ho : Oks l) {i : Nat} (hi : i < l.length) : 1 ≤ (tk l i).per ∧ (tk l i).per ≤ 1000000 ∧ 0 ≤ (tk l i).off ∧ (tk l i).off ≤ 1000000 ∧ 1 ≤ (tk l i).cost ∧ (tk l i).cost ≤ (tk l i).per ∧ 1 ≤ (tk l i).dead ∧ (tk l i).dead ≤ (tk l i).per := (ok_iff _).1 (ho.at i hi)
theorem Dn_le {l : List Tk} (ho : Oks l) {i : Nat} (hi : i < l.length) : ∀ n : Nat, Dn l n i ≤ rls (tk l i) ((n : Int) - 1) * (tk l i).cost
  | 0 => by
    have h := tk_ok ho hi
    have : rls (tk l i) (((0 : Nat) : Int) - 1) = 0 := by unfold rls; rw [if_neg (by omega)]
    rw [this, Dn_zero]; omega
  | n + 1 => by
    have h := tk_ok ho hi
    have ih := Dn_le ho hi n
    have e : (((n + 1 : Nat) : Int) - 1) = (n : Int) := by omega
    rw [e, Dn_succ]
    split
    · rename_i hw
      have := (who_pend hw).2.1
      omega
    · have h1 := rls_mono (t := tk l i) (by omega) (n := (n : Int) - 1) (m := n) (by omega)
      have := Int.mul_le_mul_of_nonneg_right h1 (by omega : 0 ≤ (tk l i).cost)
      omega
/-- What the first tasks of a list have had together. -/
def Sm (l : List Tk) (n : Nat) : Nat → Int
  | 0 => 0
  | k + 1 => Sm l n k + Dn l n k
theorem Sm_out {l : List Tk} {n : Nat} : ∀ {k : Nat}, (∀ j, j < k → who l n ≠ some j) → Sm l (n + 1) k = Sm l n k
  | 0, _ => rfl
  | k + 1, h => by
    have ih := Sm_out (l := l) (n := n) (k := k) (fun j hj => h j (by omega))
    simp only [Sm]
    rw [ih, Dn_succ, if_neg (h k (by omega))]
theorem Sm_in {l : List Tk} {n j : Nat} (hw : who l n = some j) : ∀ {k : Nat}, j < k → Sm l (n + 1) k = Sm l n k + 1
  | 0, h => by omega
  | k + 1, h => by
    simp only [Sm]
    by_cases e : j = k
    · subst e
      rw [Sm_out (fun i hi => by rw [hw]; simp; omega), Dn_succ, if_pos hw]
      omega
    · rw [Sm_in hw (by omega), Dn_succ, if_neg (by rw [hw]; simp; omega)]
      omega
theorem Sm_le (l : List Tk) (k : Nat) : ∀ n : Nat, Sm l n k ≤ n
  | 0 => by
    have : ∀ k, Sm l 0 k = 0 := fun k => by
      induction k with
      | zero => rfl
      | succ k ih => simp only [Sm, ih, Dn_zero]; rfl
    rw [this]; simp
  | n + 1 => by
    have ih := Sm_le l k n
    by_cases h : ∀ j, j < k → who l n ≠ some j
    · rw [Sm_out h]; omega
    · have ⟨j, hj⟩ : ∃ j, j < k ∧ who l n = some j := by
        apply Classical.byContradiction
        intro hn
        exact h (fun j hj hw => hn ⟨j, hj, hw⟩)
      rw [Sm_in hj.2 hj.1]; omega
theorem Sm_span {l : List Tk} {s k : Nat} : ∀ {m : Nat}, (∀ t, s ≤ t → t < s + m → ∃ j, j < k ∧ who l t = some j) → Sm l (s + m) k = Sm l s k + m
  | 0, _ => by simp
  | m + 1, h => by
    have ih := Sm_span (l := l) (s := s) (k := k) (m := m) (fun t h1 h2 => h t h1 (by omega))
    obtain ⟨j, hj, hw⟩ := h (s + m) (by omega) (by omega)
    have := Sm_in hw hj
    rw [← Nat.add_assoc, this, ih]
    omega
theorem Dn_same {l : List Tk} {s i : Nat} : ∀ {m : Nat}, (∀ t, s ≤ t → t < s + m → who l t ≠ some i) → Dn l (s + m) i = Dn l s i
  | 0, _ => rfl
  | m + 1, h => by
    rw [← Nat.add_assoc, Dn_succ, if_neg (h (s + m) (by omega) (by omega))]
    exact Dn_same (fun t h1 h2 => h t h1 (by omega))
/-- In a span as many jobs come as the period goes into it, rounded up. -/
theorem rls_up {t : Tk} (hp : 1 ≤ t.per) {a x : Int} (hx : 0 ≤ x) : rls t (a + x - 1) - rls t (a - 1) ≤ up x t.per := by
  have hu := (up_bd (n := x) hp hx).1
  have key : ∀ y : Int, (y + x) / t.per - y / t.per ≤ up x t.per := fun y => by
    unfold up
    have e := Int.mul_ediv_add_emod y t.per
    have h1 := Int.emod_nonneg y (b := t.per) (by omega)
    have h2 := Int.emod_lt_of_pos y (b := t.per) (by omega)
    have e2 : y + x = (y % t.per + x) + t.per * (y / t.per) := by omega
    rw [e2, Int.add_mul_ediv_left _ _ (by omega)]
    have := Int.ediv_le_ediv (a := y % t.per + x) (b := x + t.per - 1) (c := t.per) (by omega) (by omega)
    have e3 : (y % t.per + x + t.per * (y / t.per)) = y + x := by omega
    omega
  unfold rls
  by_cases h1 : t.off ≤ a - 1
  · rw [if_pos h1, if_pos (by omega)]
    have := key (a - 1 - t.off)
    rw [show a - 1 - t.off + x = a + x - 1 - t.off by omega] at this
    omega
  · rw [if_neg h1]
    by_cases h2 : t.off ≤ a + x - 1
    · rw [if_pos h2]
      have h3 := Int.ediv_le_ediv (a := a + x - 1 - t.off) (b := x - 1) (c := t.per) (by omega) (by omega)
      have h4 : up x t.per = (x - 1) / t.per + 1 := by
        unfold up
        rw [show x + t.per - 1 = (x - 1) + t.per * 1 by omega, Int.add_mul_ediv_left _ _ (by omega)]
      omega
    · rw [if_neg h2]; omega
/-- All that was released ahead of a time is done. -/
def Quiet (l : List Tk) (i s : Nat) : Prop := ∀ j, j < i → rls (tk l j) ((s : Int) - 1) * (tk l j).cost ≤ Dn l s j
theorem quiet_zero {l : List Tk} (ho : Oks l) {i : Nat} (hi : i ≤ l.length) : Quiet l i 0 := fun j hj => by
  have h := tk_ok ho (i := j) (by omega)
  have : rls (tk l j) (((0 : Nat) : Int) - 1) = 0 := by unfold rls; rw [if_neg (by omega)]
  rw [this, Dn_zero]; omega
theorem last_quiet {l : List Tk} (ho : Oks l) {i : Nat} (hi : i ≤ l.length) : ∀ r : Nat, ∃ s, s ≤ r ∧ Quiet l i s ∧ ∀ t, s < t → t ≤ r → ¬ Quiet l i t
  | 0 => ⟨0, Nat.le_refl _, quiet_zero ho hi, fun t h1 h2 => by omega⟩
  | r + 1 => by
    by_cases h : Quiet l i (r + 1)
    · exact ⟨r + 1, Nat.le_refl _, h, fun t h1 h2 => by omega⟩
    · obtain ⟨s, h1, h2, h3⟩ := last_quiet ho hi r
      refine ⟨s, by omega, h2, fun t h4 h5 => ?_⟩
      by_cases e : t = r + 1
      · subst e; exact h
      · exact h3 t h4 (by omega)
theorem not_quiet {l : List Tk} {i s : Nat} (h : ¬ Quiet l i s) : ∃ j, j < i ∧ Dn l s j < rls (tk l j) ((s : Int) - 1) * (tk l j).cost := by
  apply Classical.byContradiction
  intro hn
  refine h (fun j hj => ?_)
  apply Classical.byContradiction
  intro hc
  exact hn ⟨j, hj, by omega⟩
/-- What those ahead take in a span that begins quiet. -/
theorem ahead {l : List Tk} (ho : Oks l) {s : Nat} (x : Nat) : ∀ {i : Nat}, i ≤ l.length → Quiet l i s → Sm l (s + x) i - Sm l s i ≤ taken (l.take i) x
  | 0, _, _ => by simp [Sm, taken]
  | i + 1, hi, hq => by
    have ih := ahead ho (s := s) x (i := i) (by omega) (fun j hj => hq j (by omega))
    rw [taken_take l i x (by omega)]
    simp only [Sm]
    have h := tk_ok ho (i := i) (by omega)
    have h1 := hq i (by omega)
    have h2 := Dn_le ho (i := i) (by omega) (s + x)
    have h3 := rls_up (t := tk l i) (by omega) (a := s) (x := x) (by omega)
    have e : (((s + x : Nat) : Int) - 1) = (s : Int) + x - 1 := by omega
    rw [e] at h2
    have h4 := Int.mul_le_mul_of_nonneg_right h3 (by omega : 0 ≤ (tk l i).cost)
    rw [Int.sub_mul] at h4
    have e2 : (l.getD i tk0).cost * up x (l.getD i tk0).per = up x (tk l i).per * (tk l i).cost := by unfold tk; rw [Int.mul_comm]
    rw [e2]
    omega
theorem meet_one {l : List Tk} (ho : Oks l) {i : Nat} (hi : i < l.length) {R : Nat} (hR : need (tk l i).cost (l.take i) R = R) {r k : Nat} (hr : (r : Int) = (tk l i).off + k * (tk l i).per) (hk : (k : Int) * (tk l i).cost ≤ Dn l r i) :
    ((k : Int) + 1) * (tk l i).cost ≤ Dn l (r + R) i := by
  apply Classical.byContradiction
  intro hn
  have ht := tk_ok ho hi
  obtain ⟨s, hs1, hs2, hs3⟩ := last_quiet ho (i := i) (by omega) r
  have A : ∀ t, s ≤ t → t < r → ∃ j, j < i ∧ who l t = some j := fun t h1 h2 => by
    have hq := hs3 (t + 1) (by omega) (by omega)
    obtain ⟨j, hj, hd⟩ := not_quiet hq
    have e : (((t + 1 : Nat) : Int) - 1) = (t : Int) := by omega
    rw [e] at hd
    have h3 := Dn_mono l j (n := t) (m := t + 1) (by omega)
    obtain ⟨j', hj', hw⟩ := who_le (l := l) (n := t) (i := j) (by omega) (by omega)
    exact ⟨j', by omega, hw⟩
  have B : ∀ t, r ≤ t → t < r + R → ∃ j, j < i + 1 ∧ who l t = some j := fun t h1 h2 => by
    have h3 := Dn_mono l i (n := t) (m := r + R) (by omega)
    have h4 : rls (tk l i) (r : Int) = (k : Int) + 1 := rls_is (by omega) (by omega) (.inr (by rw [hr]; have : ((k : Int) + 1 - 1) = k := by omega
                                                                                               rw [this]; omega)) (by rw [hr, Int.add_mul]; omega)
    have h5 := rls_mono (t := tk l i) (by omega) (n := (r : Int)) (m := (t : Int)) (by omega)
    have h6 := Int.mul_le_mul_of_nonneg_right h5 (by omega : 0 ≤ (tk l i).cost)
    rw [h4] at h6
    obtain ⟨j, hj, hw⟩ := who_le (l := l) (n := t) (i := i) hi (by omega)
    exact ⟨j, by omega, hw⟩
  have C : Dn l r i = Dn l s i := by
    have h := Dn_same (l := l) (s := s) (i := i) (m := r - s) (fun t h1 h2 hw => by
      obtain ⟨j, hj, hw'⟩ := A t h1 (by omega)
      rw [hw] at hw'
      simp at hw'
      omega)
    rw [show s + (r - s) = r by omega] at h
    exact h
  have E := Sm_span (l := l) (s := s) (k := i + 1) (m := R) (fun t h1 h2 => by
    by_cases h : t < r
    · obtain ⟨j, hj, hw⟩ := A t h1 h
      exact ⟨j, by omega, hw⟩
    · exact B t (by omega) (by omega))
  simp only [Sm] at E
  have F := ahead ho R (i := i) (by omega) hs2
  have G := Dn_mono l i (n := s + R) (m := r + R) (by omega)
  unfold need at hR
  rw [Int.add_mul] at hn
  omega
/-- Each job is done as soon as was told. -/
theorem meet {l : List Tk} (ho : Oks l) {i : Nat} (hi : i < l.length) {s0 : Nat} (hr : rep l i = some s0) : ∀ (k r : Nat), (r : Int) = (tk l i).off + k * (tk l i).per → ((k : Int) + 1) * (tk l i).cost ≤ Dn l (r + (s0 + 1)) i := by
  obtain ⟨h1, h2, _⟩ := lfp_some.1 hr
  have ht := tk_ok ho hi
  have hR : need (tk l i).cost (l.take i) ((s0 + 1 : Nat) : Int) = ((s0 + 1 : Nat) : Int) := by
    have := h2
    unfold tk
    push_cast
    exact this
  have hd : (s0 : Int) + 1 ≤ (tk l i).dead := by unfold tk at *; omega
  intro k
  induction k with
  | zero =>
    intro r hr
    refine meet_one ho hi hR hr ?_
    have := Dn_nonneg l r i
    simpa using this
  | succ k ih =>
    intro r hr
    refine meet_one ho hi hR hr ?_
    have hkp : 0 ≤ (k : Int) * (tk l i).per := Int.mul_nonneg (by omega) (by omega)
    have e : ((k + 1 : Nat) : Int) * (tk l i).per = (k : Int) * (tk l i).per + (tk l i).per := by push_cast; rw [Int.add_mul]; omega
    rw [e] at hr
    have h3 := ih (r - (tk l i).per.toNat) (by omega)
    have h4 := Dn_mono l i (n := r - (tk l i).per.toNat + (s0 + 1)) (m := r) (by omega)
    push_cast
    omega
/-- With no offsets the first job takes just what was told. -/
theorem exact_first {l : List Tk} (ho : Oks l) {i : Nat} (hi : i < l.length) {s0 : Nat} (hr : rep l i = some s0) (h0 : ∀ j, j < i → (tk l j).off = 0) : ∀ n : Nat, (tk l i).cost ≤ Dn l n i → s0 + 1 ≤ n
  | 0, h => by have ht := tk_ok ho hi; rw [Dn_zero] at h; omega
  | n + 1, h => by
    by_cases hc : (tk l i).cost ≤ Dn l n i
    · have := exact_first ho hi hr h0 n hc
      omega
    · have ht := tk_ok ho hi
      obtain ⟨h1, h2, h3⟩ := lfp_some.1 hr
      have hw : who l n = some i := by
        apply Classical.byContradiction
        intro hw
        rw [Dn_succ, if_neg hw] at h
        exact hc h
      have hp := (who_pend hw).2.2
      have key : ∀ j, j ≤ i → taken (l.take j) ((n : Int) + 1) ≤ Sm l (n + 1) j := fun j hj => by
        induction j with
        | zero => simp [taken, Sm]
        | succ j ih =>
          have := ih (by omega)
          rw [taken_take l j _ (by omega)]
          simp only [Sm]
          have hj' := hp j (by omega)
          have h4 := Dn_mono l j (n := n) (m := n + 1) (by omega)
          have hj2 := tk_ok ho (i := j) (by omega)
          have e : rls (tk l j) n = up ((n : Int) + 1) (tk l j).per := by
            unfold rls up
            rw [h0 j (by omega), if_pos (by omega), show (n : Int) + 1 + (tk l j).per - 1 = (n : Int) - 0 + (tk l j).per * 1 by omega, Int.add_mul_ediv_left _ _ (by omega)]
          rw [e] at hj'
          have e2 : (l.getD j tk0).cost * up ((n : Int) + 1) (l.getD j tk0).per = up ((n : Int) + 1) (tk l j).per * (tk l j).cost := by unfold tk; rw [Int.mul_comm]
          rw [e2]
          omega
      have h5 := key i (Nat.le_refl _)
      have h6 := Sm_le l (i + 1) (n + 1)
      simp only [Sm] at h6
      have h7 : need (tk l i).cost (l.take i) ((n : Int) + 1) ≤ (n : Int) + 1 := by unfold need; omega
      obtain ⟨j, hj, he⟩ := fix_of_le (ho.take i) (by omega) n h7
      by_cases hlt : j < s0
      · exact absurd he (h3 j hlt)
      · omega
end Go.Proofs.Ytholmeebkgpjjaa
