/- If any order will do, the order by deadlines will: plain. -/
import Derived.Test.YtholmeebkgpjjaaPl
import Derived.Test.YtholmeebkgpjjaaPs
namespace Go.Proofs.Ytholmeebkgpjjaa
set_option linter.unusedVariables false
set_option linter.unusedSimpArgs false

theorem taken_nil (r : Int) : taken [] r = 0 := rfl
theorem taken_app (a b : List Tk) (r : Int) : taken (a ++ b) r = taken a r + taken b r := by
  induction a with
  | nil => simp [taken]
  | cons t a ih => simp only [List.cons_append, taken, ih]; omega
theorem taken_perm {a b : List Tk} (h : a.Perm b) (r : Int) : taken a r = taken b r := by
  induction h with
  | nil => rfl
  | cons t _ ih => simp only [taken, ih]
  | swap t u l => simp only [taken]; omega
  | trans _ _ h1 h2 => exact h1.trans h2
theorem taken_ge {l : List Tk} (h : Oks l) {r : Int} (h0 : 0 ≤ r) : 0 ≤ taken l r := by
  induction l with
  | nil => simp [taken]
  | cons t l ih =>
    have h1 := ih h.tail
    have h2 := (ok_iff t).1 (h t (by simp))
    have h3 := (up_bd (p := t.per) (by omega) h0).1
    have h4 : 0 ≤ t.cost * up r t.per := Int.mul_nonneg (by omega) h3
    simp only [taken]
    omega
theorem up_one {r p : Int} (h1 : 1 ≤ r) (h2 : r ≤ p) : up r p = 1 := by
  unfold up
  have : (r + p - 1) = (r - 1) + p * 1 := by omega
  rw [this, Int.add_mul_ediv_left _ _ (by omega), Int.ediv_eq_zero_of_lt (by omega) (by omega)]
  rfl
/-- A task that keeps its deadline behind some others. -/
def okT (h : List Tk) (t : Tk) : Prop := ∃ s : Nat, (s : Int) < t.dead ∧ need t.cost h (s + 1) ≤ (s + 1 : Int)
theorem fix_of_le {c : Int} {l : List Tk} (ho : Oks l) (hc : 1 ≤ c) : ∀ s : Nat, need c l (s + 1) ≤ (s + 1 : Int) → ∃ j : Nat, j ≤ s ∧ need c l (j + 1) = (j + 1 : Int) := by
  intro s
  induction s using Nat.strongRecOn with
  | _ s ih =>
    intro h
    by_cases he : need c l (s + 1) = (s + 1 : Int)
    · exact ⟨s, Nat.le_refl _, he⟩
    · have h0 := taken_ge ho (r := (s : Int) + 1) (by omega)
      have h1 : 1 ≤ need c l (s + 1) := by unfold need; omega
      obtain ⟨m, hm⟩ : ∃ m : Nat, need c l (s + 1) = (m : Int) + 1 := ⟨(need c l (s + 1) - 1).toNat, by omega⟩
      have hms : m < s := by omega
      have h2 : need c l (m + 1) ≤ (m + 1 : Int) := by
        have := need_mono (c := c) ho (r := (m : Int) + 1) (s := (s : Int) + 1) (by omega)
        omega
      obtain ⟨j, hj, he⟩ := ih m hms h2
      exact ⟨j, by omega, he⟩
theorem lfp_iff {t : Tk} {l : List Tk} (ho : Oks l) (ht : okB t = true) : (lfp t.cost l t.dead.toNat).isSome = true ↔ okT l t := by
  have h1 := (ok_iff t).1 ht
  constructor
  · intro h
    obtain ⟨s, hs⟩ := Option.isSome_iff_exists.1 h
    obtain ⟨h2, h3, _⟩ := lfp_some.1 hs
    exact ⟨s, by omega, by omega⟩
  · rintro ⟨s, h2, h3⟩
    obtain ⟨j, hj, he⟩ := fix_of_le ho (by omega) s h3
    cases hl : lfp t.cost l t.dead.toNat with
    | some _ => rfl
    | none => exact absurd he (lfp_none.1 hl j (by omega))
/-- All keep their deadlines, in that order. -/
def Feas (l : List Tk) : Prop := ∀ a t b, l = a ++ t :: b → okT a t
theorem feas_iff {l : List Tk} (ho : Oks l) : (∀ i, i < l.length → (rep l i).isSome = true) ↔ Feas l := by
  constructor
  · intro h a t b e
    have hi : a.length < l.length := by rw [e]; simp
    have h1 := h a.length hi
    have e1 : l.getD a.length tk0 = t := by rw [e]; simp [List.getD]
    have e2 : l.take a.length = a := by rw [e]; simp
    unfold rep at h1
    rw [e1, e2] at h1
    exact (lfp_iff (fun x hx => ho x (by rw [e]; simp [hx])) (ho t (by rw [e]; simp))).1 h1
  · intro h i hi
    have e : l = l.take i ++ l[i] :: l.drop (i + 1) := by
      rw [← List.drop_eq_getElem_cons hi, List.take_append_drop]
    have h1 := h _ _ _ e
    unfold rep
    have e1 : l.getD i tk0 = l[i] := by simp [List.getD, hi]
    rw [e1]
    exact (lfp_iff (ho.take i) (ho _ (List.getElem_mem hi))).2 h1
theorem okT_less {a b : List Tk} {t u : Tk} (ho : Oks [t]) (h : okT (a ++ t :: b) u) : okT (a ++ b) u := by
  obtain ⟨s, h1, h2⟩ := h
  refine ⟨s, h1, ?_⟩
  have h3 := (ok_iff t).1 (ho t (by simp))
  have h4 := (up_bd (p := t.per) (n := (s : Int) + 1) (by omega) (by omega)).1
  have h5 : 0 ≤ t.cost * up ((s : Int) + 1) t.per := Int.mul_nonneg (by omega) h4
  unfold need at *
  rw [taken_app] at *
  simp only [taken] at h2
  omega
theorem okT_perm {a b : List Tk} {t : Tk} (h : a.Perm b) (ha : okT a t) : okT b t := by
  obtain ⟨s, h1, h2⟩ := ha
  exact ⟨s, h1, by unfold need at *; rw [← taken_perm h]; exact h2⟩
theorem Oks.perm {a b : List Tk} (h : a.Perm b) (ha : Oks a) : Oks b := fun x hx => ha x (h.mem_iff.2 hx)
/-- If any order will do, the one by deadlines will. -/
theorem dm_best : ∀ (n : Nat) (s p : List Tk), s.length = n → p.Perm s → Oks s → s.Pairwise (fun a b => a.dead ≤ b.dead) → Feas p → Feas s
  | 0, s, p, hn, hp, ho, hs, hf => by
    have : s = [] := List.length_eq_zero_iff.1 hn
    subst this
    intro a t b e
    simp at e
  | n + 1, s, p, hn, hp, ho, hs, hf => by
    have hne : s ≠ [] := by intro e; rw [e] at hn; simp at hn
    obtain ⟨s', t, rfl⟩ : ∃ s' t, s = s' ++ [t] := ⟨s.dropLast, s.getLast hne, (List.dropLast_concat_getLast hne).symm⟩
    have htp : t ∈ p := hp.mem_iff.2 (by simp)
    obtain ⟨a, b, rfl⟩ := List.append_of_mem htp
    have hop : Oks (a ++ t :: b) := ho.perm hp.symm
    have hab : (a ++ b).Perm s' := by
      have h1 : (t :: (a ++ b)).Perm (a ++ t :: b) := List.perm_middle.symm
      have h2 : (t :: (a ++ b)).Perm (t :: s') := h1.trans (hp.trans (List.perm_append_singleton t s'))
      exact List.Perm.cons_inv h2
    have hfab : Feas (a ++ b) := by
      intro a1 u b1 e
      rcases List.append_eq_append_iff.1 e with ⟨c, e1, e2⟩ | ⟨c, e1, e2⟩
      · -- a1 = a ++ c
        subst e1
        have := hf (a ++ t :: c) u b1 (by rw [e2]; simp)
        exact okT_less (fun x hx => by simp at hx; subst hx; exact hop x (by simp)) this
      · -- a = a1 ++ c
        cases c with
        | nil =>
          simp at e2
          have := hf (a1 ++ [t]) u b1 (by rw [e1, ← e2]; simp)
          have h2 := okT_less (b := []) (fun x hx => by simp at hx; subst hx; exact hop x (by simp)) this
          simpa using h2
        | cons y c =>
          simp at e2
          obtain ⟨rfl, e3⟩ := e2
          exact hf a1 u (c ++ t :: b) (by rw [e1]; simp)
    have hs2 := List.pairwise_append.1 hs
    have hos' : Oks s' := fun x hx => ho x (by simp [hx])
    have hfs' : Feas s' := dm_best n s' (a ++ b) (by simpa using hn) hab hos' hs2.1 hfab
    have htb : okT s' t := by
      refine okT_perm hab ?_
      rcases List.eq_nil_or_concat b with rfl | ⟨b', u, rfl⟩
      · have := hf a t [] (by simp)
        simpa using this
      · have hu := hf (a ++ t :: b') u [] (by simp)
        obtain ⟨r, h1, h2⟩ := hu
        have hus : u ∈ s' := hab.mem_iff.1 (by simp)
        have hdu : u.dead ≤ t.dead := hs2.2.2 u hus t (by simp)
        have ku := (ok_iff u).1 (hos' u hus)
        have kt := (ok_iff t).1 (ho t (by simp))
        refine ⟨r, by omega, ?_⟩
        have u1 := up_one (r := (r : Int) + 1) (p := u.per) (by omega) (by omega)
        have u2 := up_one (r := (r : Int) + 1) (p := t.per) (by omega) (by omega)
        unfold need at *
        simp only [List.concat_eq_append, taken_app, taken, u1, u2] at *
        omega
    intro a1 u b1 e
    rcases List.eq_nil_or_concat b1 with rfl | ⟨b2, v, rfl⟩
    · have e1 := List.append_inj' e rfl
      have e2 := e1.2
      simp at e2
      rw [← e1.1, ← e2]
      exact htb
    · have e' : s' ++ [t] = (a1 ++ u :: b2) ++ [v] := by rw [e]; simp
      have e1 := List.append_inj' e' rfl
      exact hfs' a1 u b2 e1.1
end Go.Proofs.Ytholmeebkgpjjaa
