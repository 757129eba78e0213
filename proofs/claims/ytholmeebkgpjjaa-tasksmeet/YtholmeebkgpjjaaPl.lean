/- Plain facts on tasks: what a span asks for, the least span that holds, replies of a list; no program in sight. -/
import Derived.WalkKit
namespace Go.Proofs.Ytholmeebkgpjjaa
set_option linter.unusedVariables false

structure Tk where
  name : ByteArray
  per : Int
  off : Int
  cost : Int
  dead : Int

def tk0 : Tk := ⟨ByteArray.empty, 0, 0, 0, 0⟩
def okB (t : Tk) : Bool := decide (1 ≤ t.per ∧ t.per ≤ 1000000 ∧ 0 ≤ t.off ∧ t.off ≤ 1000000 ∧ 1 ≤ t.cost ∧ t.cost ≤ t.per ∧ 1 ≤ t.dead ∧ t.dead ≤ t.per)
theorem ok_iff (t : Tk) : okB t = true ↔ (1 ≤ t.per ∧ t.per ≤ 1000000 ∧ 0 ≤ t.off ∧ t.off ≤ 1000000 ∧ 1 ≤ t.cost ∧ t.cost ≤ t.per ∧ 1 ≤ t.dead ∧ t.dead ≤ t.per) := by simp [okB]

/-- How often a period goes into a span, rounded up. -/
def up (n p : Int) : Int := (n + p - 1) / p
theorem up_bd {n p : Int} (hp : 1 ≤ p) (h0 : 0 ≤ n) : 0 ≤ up n p ∧ up n p ≤ n := by
  unfold up
  refine ⟨Int.ediv_nonneg (by omega) (by omega), ?_⟩
  have h : (n + p - 1) / p < n + 1 := Int.ediv_lt_of_lt_mul (by omega) (by have := Int.mul_le_mul_of_nonneg_left hp h0; rw [Int.add_mul]; omega)
  omega
theorem up_mono {n m p : Int} (hp : 1 ≤ p) (h : n ≤ m) : up n p ≤ up m p := by
  unfold up
  exact Int.ediv_le_ediv (by omega) (by omega)
/-- The document's way to round up. -/
theorem up_ref {n p : Int} (hp : 1 ≤ p) (h0 : 0 ≤ n) : up n p = if 0 < n % p then n / p + 1 else n / p := by
  unfold up
  have e := Int.mul_ediv_add_emod n p
  have h1 := Int.emod_nonneg n (b := p) (by omega)
  have h2 := Int.emod_lt_of_pos n (b := p) (by omega)
  generalize n % p = r at *
  generalize n / p = q at *
  subst e
  split
  · rw [show p * q + r + p - 1 = (r - 1) + p * (q + 1) by rw [Int.mul_add]; omega, Int.add_mul_ediv_left _ _ (by omega), Int.ediv_eq_zero_of_lt (by omega) (by omega)]
    omega
  · have : r = 0 := by omega
    subst this
    rw [show p * q + 0 + p - 1 = (p - 1) + p * q by omega, Int.add_mul_ediv_left _ _ (by omega), Int.ediv_eq_zero_of_lt (by omega) (by omega)]
    omega

/-- What the tasks of a list take in a span. -/
def taken : List Tk → Int → Int
  | [], _ => 0
  | t :: l, r => t.cost * up r t.per + taken l r
theorem taken_snoc (l : List Tk) (t : Tk) (r : Int) : taken (l ++ [t]) r = taken l r + t.cost * up r t.per := by
  induction l with
  | nil => simp [taken]
  | cons x l ih => simp [taken, ih]; omega
theorem taken_take (l : List Tk) (k : Nat) (r : Int) (h : k < l.length) : taken (l.take (k + 1)) r = taken (l.take k) r + (l.getD k tk0).cost * up r (l.getD k tk0).per := by
  rw [List.take_succ_eq_append_getElem h, taken_snoc]
  simp [List.getD, h]
def Oks (l : List Tk) : Prop := ∀ t ∈ l, okB t = true
theorem Oks.tail {t : Tk} {l : List Tk} (h : Oks (t :: l)) : Oks l := fun x hx => h x (List.mem_cons_of_mem _ hx)
theorem Oks.take {l : List Tk} (h : Oks l) (k : Nat) : Oks (l.take k) := fun x hx => h x (List.mem_of_mem_take hx)
theorem Oks.at {l : List Tk} (h : Oks l) (k : Nat) (hk : k < l.length) : okB (l.getD k tk0) = true := by
  have : l.getD k tk0 = l[k] := by simp [List.getD, hk]
  rw [this]
  exact h _ (List.getElem_mem hk)
theorem prod_bd {c u : Int} (h0 : 0 ≤ c) (h1 : c ≤ 1000000) (h2 : 0 ≤ u) (h3 : u ≤ 1000000) : 0 ≤ c * u ∧ c * u ≤ 1000000000000 := by
  refine ⟨Int.mul_nonneg h0 h2, ?_⟩
  have := Int.mul_le_mul h1 h3 h2 (by omega : (0 : Int) ≤ 1000000)
  omega
theorem taken_bd {l : List Tk} (h : Oks l) (r : Int) (h0 : 0 ≤ r) (h1 : r ≤ 1000000) : 0 ≤ taken l r ∧ taken l r ≤ l.length * 1000000000000 := by
  induction l with
  | nil => simp [taken]
  | cons t l ih =>
    have ht := (ok_iff t).1 (h t (List.mem_cons_self ..))
    have hu := up_bd (n := r) (p := t.per) (by omega) h0
    have hp := prod_bd (c := t.cost) (u := up r t.per) (by omega) (by omega) hu.1 (by omega)
    have := ih h.tail
    simp only [taken, List.length_cons]
    omega
theorem taken_mono {l : List Tk} (h : Oks l) {r s : Int} (hrs : r ≤ s) : taken l r ≤ taken l s := by
  induction l with
  | nil => simp [taken]
  | cons t l ih =>
    have ht := (ok_iff t).1 (h t (List.mem_cons_self ..))
    have hu := up_mono (n := r) (m := s) (p := t.per) (by omega) hrs
    have := Int.mul_le_mul_of_nonneg_left hu (by omega : 0 ≤ t.cost)
    have := ih h.tail
    simp only [taken]
    omega

/-- What a span asks of a task's job and of those ahead of it. -/
def need (c : Int) (l : List Tk) (r : Int) : Int := c + taken l r
/-- The least span from 1 up to a bound that holds. -/
def holdB (c : Int) (l : List Tk) (s : Nat) : Bool := need c l (s + 1) == (s + 1 : Int)
def lfp (c : Int) (l : List Tk) (D : Nat) : Option Nat := (List.range D).find? (holdB c l)
theorem lfp_none {c : Int} {l : List Tk} {D : Nat} : lfp c l D = none ↔ ∀ s : Nat, s < D → need c l (s + 1) ≠ (s + 1 : Int) := by
  unfold lfp
  rw [List.find?_eq_none]
  simp [holdB]
theorem lfp_some {c : Int} {l : List Tk} {D s : Nat} : lfp c l D = some s ↔ s < D ∧ need c l (s + 1) = (s + 1 : Int) ∧ ∀ j : Nat, j < s → need c l (j + 1) ≠ (j + 1 : Int) := by
  unfold lfp
  rw [List.find?_range_eq_some]
  simp [holdB]
  constructor
  · rintro ⟨a, b, d⟩; exact ⟨b, a, d⟩
  · rintro ⟨a, b, d⟩; exact ⟨b, a, d⟩

/-- Where a search stands: nothing below holds, and what is tried asks for no less. -/
def Sought (c : Int) (l : List Tk) (r : Int) : Prop := 1 ≤ r ∧ r ≤ need c l r ∧ ∀ j : Nat, (j : Int) + 1 < r → need c l (j + 1) ≠ (j + 1 : Int)
theorem need_mono {c : Int} {l : List Tk} (h : Oks l) {r s : Int} (hrs : r ≤ s) : need c l r ≤ need c l s := by
  have := taken_mono h hrs
  unfold need; omega
theorem Sought.next {c : Int} {l : List Tk} (h : Oks l) {r : Int} (hs : Sought c l r) (hne : need c l r ≠ r) : Sought c l (need c l r) ∧ r < need c l r := by
  obtain ⟨h1, h2, h3⟩ := hs
  have hlt : r < need c l r := by omega
  refine ⟨⟨by omega, need_mono h (by omega), fun j hj => ?_⟩, hlt⟩
  by_cases hjr : (j : Int) + 1 < r
  · exact h3 j hjr
  · by_cases he : (j : Int) + 1 = r
    · rw [he]; exact hne
    · have := need_mono (c := c) h (r := r) (s := (j : Int) + 1) (by omega)
      omega
theorem Sought.one {c : Int} {l : List Tk} (h : Oks l) (hc : 1 ≤ c) (hb : 0 ≤ taken l 1) : Sought c l 1 := ⟨by omega, by unfold need; omega, fun j hj => by omega⟩
theorem Sought.cost {c : Int} {l : List Tk} (h : Oks l) (hc : 1 ≤ c) (hm : c ≤ 1000000) : Sought c l c := by
  have hb := taken_bd h c (by omega) hm
  refine ⟨hc, by unfold need; omega, fun j hj => ?_⟩
  have := taken_bd h ((j : Int) + 1) (by omega) (by omega)
  unfold need; omega
theorem Sought.found {c : Int} {l : List Tk} {r : Int} {D : Nat} (hs : Sought c l r) (he : need c l r = r) (hd : r ≤ D) : lfp c l D = some (r - 1).toNat := by
  obtain ⟨h1, h2, h3⟩ := hs
  rw [lfp_some]
  have e : (((r - 1).toNat : Nat) : Int) + 1 = r := by omega
  refine ⟨by omega, by rw [e]; exact he, fun j hj => h3 j (by omega)⟩
theorem Sought.over {c : Int} {l : List Tk} {r : Int} {D : Nat} (hs : Sought c l r) (hd : (D : Int) < r) : lfp c l D = none := by
  rw [lfp_none]
  intro s hsD
  exact hs.2.2 s (by omega)

/-- The reply of the task at a place of a list. -/
def rep (l : List Tk) (i : Nat) : Option Nat := lfp (l.getD i tk0).cost (l.take i) (l.getD i tk0).dead.toNat
def repV (l : List Tk) (i : Nat) : Int := ((rep l i).getD 0 : Nat) + 1
/-- The place of the first that is none. -/
def firstB (p : Nat → Bool) (n : Nat) : Option Nat := (List.range n).find? fun i => !p i
theorem firstB_none {p : Nat → Bool} {n : Nat} : firstB p n = none ↔ ∀ i, i < n → p i = true := by
  unfold firstB; rw [List.find?_eq_none]; simp
theorem firstB_some {p : Nat → Bool} {n i : Nat} : firstB p n = some i ↔ i < n ∧ p i = false ∧ ∀ j, j < i → p j = true := by
  unfold firstB; rw [List.find?_range_eq_some]; simp
  constructor
  · rintro ⟨a, b, d⟩; exact ⟨b, a, d⟩
  · rintro ⟨a, b, d⟩; exact ⟨b, a, d⟩
/-- What is wrong with a list of tasks: the fault's code and unit. -/
def lookS (l : List Tk) : Int × Int :=
  if l.length < 1 ∨ 16 < l.length then (4, 0) else match firstB (fun i => okB (l.getD i tk0)) l.length with
    | some i => (19, i)
    | none => (0, 0)
/-- Respond's answer: the replies, the fault's code and unit. -/
def respS (l : List Tk) : List Int × Int × Int :=
  if (lookS l).1 ≠ 0 then ([], lookS l) else match firstB (fun i => (rep l i).isSome) l.length with
    | some i => ([], 13, i)
    | none => ((List.range l.length).map (repV l), 0, 0)
end Go.Proofs.Ytholmeebkgpjjaa
