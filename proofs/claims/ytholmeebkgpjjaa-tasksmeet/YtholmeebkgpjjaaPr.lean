/- Jobs in the order of their releases, and the processor; no program in sight. -/
import Derived.Test.YtholmeebkgpjjaaPq
namespace Go.Proofs.Ytholmeebkgpjjaa
set_option linter.unusedVariables false

def relOf (l : List Tk) (nx : Nat → Int) (i : Nat) : Int := (tk l i).off + nx i * (tk l i).per
/-- The first with the least, of so many and one. -/
def minI (f : Nat → Int) : Nat → Nat
  | 0 => 0
  | k + 1 => if f (k + 1) < f (minI f k) then k + 1 else minI f k
theorem minI_le (f : Nat → Int) : ∀ k, minI f k ≤ k ∧ ∀ i, i ≤ k → f (minI f k) ≤ f i
  | 0 => ⟨Nat.le_refl _, fun i hi => by rw [show i = 0 by omega]; exact Int.le_refl _⟩
  | k + 1 => by
    obtain ⟨h1, h2⟩ := minI_le f k
    unfold minI
    split
    · rename_i hlt
      refine ⟨Nat.le_refl _, fun i hi => ?_⟩
      rcases Nat.lt_or_ge i (k + 1) with h | h
      · have := h2 i (by omega); omega
      · rw [show i = k + 1 by omega]; exact Int.le_refl _
    · rename_i hlt
      refine ⟨by omega, fun i hi => ?_⟩
      rcases Nat.lt_or_ge i (k + 1) with h | h
      · exact h2 i (by omega)
      · rw [show i = k + 1 by omega]; omega
def jobAt (l : List Tk) (nx : Nat → Int) : Nat := minI (relOf l nx) (l.length - 1)
theorem jobAt_lt {l : List Tk} (nx : Nat → Int) (h1 : 1 ≤ l.length) : jobAt l nx < l.length := by
  have := (minI_le (relOf l nx) (l.length - 1)).1
  unfold jobAt; omega
theorem jobAt_le {l : List Tk} (nx : Nat → Int) {i : Nat} (hi : i < l.length) : relOf l nx (jobAt l nx) ≤ relOf l nx i := (minI_le (relOf l nx) (l.length - 1)).2 i (by omega)
/-- A job comes. -/
def enq (l : List Tk) (nx : Nat → Int) (s : Ps) : Ps := { s with q := upd s.q (jobAt l nx) (s.q (jobAt l nx) ++ [⟨jobAt l nx, nx (jobAt l nx), relOf l nx (jobAt l nx), (tk l (jobAt l nx)).cost⟩]) }
def nxt (l : List Tk) (nx : Nat → Int) : Nat → Int := upd nx (jobAt l nx) (nx (jobAt l nx) + 1)
def oneJob (l : List Tk) (nx : Nat → Int) (s : Ps) : Ps := enq l nx (workTo l.length (relOf l nx (jobAt l nx)) s)
structure Inv (l : List Tk) (nx : Nat → Int) (s : Ps) : Prop where
  rel : Rel l nx s
  nx0 : ∀ i, i < l.length → 0 ≤ nx i
  next : ∀ i, i < l.length → s.now ≤ relOf l nx i
  had : ∀ i, i < l.length → nx i = 0 ∨ (tk l i).off + (nx i - 1) * (tk l i).per ≤ s.now
theorem Inv.start {l : List Tk} (ho : Oks l) : Inv l (fun _ => 0) ⟨0, fun _ => [], []⟩ := by
  refine ⟨⟨by simp, by simp [doc, runD], fun i hi => ?_⟩, fun _ _ => Int.le_refl _, fun i hi => ?_, fun _ _ => .inl rfl⟩
  · have hc : 1 ≤ (tk l i).cost := ((ok_iff _).1 (ho.at i hi)).2.2.2.2.1
    have : (doc l (0 : Int).toNat).1 i = 0 := by simp [doc, runD]
    rw [this]
    exact Que.none hc
  · have h := (ok_iff _).1 (ho.at i hi)
    have : 0 ≤ (tk l i).off := h.2.2.1
    simp [relOf]; omega
theorem Inv.win {l : List Tk} (ho : Oks l) {nx : Nat → Int} {s : Ps} (h : Inv l nx s) {e : Int} (he : ∀ i, i < l.length → e ≤ relOf l nx i) : ∀ j, j < l.length → ∀ x, s.now ≤ x → x < e → rls (tk l j) x = nx j := fun j hj x h1 h2 => by
  have hp : 1 ≤ (tk l j).per := ((ok_iff _).1 (ho.at j hj)).1
  refine rls_is hp (h.nx0 j hj) ?_ ?_
  · rcases h.had j hj with h3 | h3
    · exact .inl h3
    · exact .inr (by omega)
  · have := he j hj
    unfold relOf at this
    omega
theorem Inv.one {l : List Tk} (ho : Oks l) (h1 : 1 ≤ l.length) {nx : Nat → Int} {s : Ps} (h : Inv l nx s) : Inv l (nxt l nx) (oneJob l nx s) ∧ (oneJob l nx s).now = relOf l nx (jobAt l nx) := by
  have hm := jobAt_lt nx h1
  obtain ⟨hR, hn⟩ := h.rel.workTo ho (h.next _ hm) (h.win ho (fun i hi => jobAt_le nx hi))
  have hnow : (oneJob l nx s).now = relOf l nx (jobAt l nx) := hn
  refine ⟨⟨⟨?_, ?_, fun i hi => ?_⟩, fun i hi => ?_, fun i hi => ?_, fun i hi => ?_⟩, hnow⟩
  · have := hR.now0; exact this
  · exact hR.out
  · have hQ := hR.que i hi
    have hc : 1 ≤ (tk l i).cost := ((ok_iff _).1 (ho.at i hi)).2.2.2.2.1
    show Que (tk l i).cost (nxt l nx i) _ (upd _ _ _ i)
    unfold nxt
    by_cases e : i = jobAt l nx
    · subst e
      rw [upd_same, upd_same]
      exact hQ.more hc _ _
    · rw [upd_other _ _ e, upd_other _ _ e]
      exact hQ
  · unfold nxt upd
    have := h.nx0 _ hm
    split
    · omega
    · exact h.nx0 i hi
  · rw [hnow]
    have := jobAt_le nx hi
    unfold relOf nxt upd at *
    split
    · rename_i e
      subst e
      have hp : 1 ≤ (tk l (jobAt l nx)).per := ((ok_iff _).1 (ho.at _ hm)).1
      rw [Int.add_mul]
      omega
    · exact this
  · rw [hnow]
    unfold nxt upd
    split
    · rename_i e
      subst e
      right
      unfold relOf
      rw [show nx (jobAt l nx) + 1 - 1 = nx (jobAt l nx) by omega]
      omega
    · rcases h.had i hi with h3 | h3
      · exact .inl h3
      · have := h.next _ hm
        exact .inr (by omega)
theorem Inv.last {l : List Tk} (ho : Oks l) (h1 : 1 ≤ l.length) {nx : Nat → Int} {s : Ps} (h : Inv l nx s) {u : Int} (hu : s.now ≤ u) (hr : u ≤ relOf l nx (jobAt l nx)) : (workTo l.length u s).out = (doc l u.toNat).2 := by
  obtain ⟨hR, hn⟩ := h.rel.workTo ho hu (h.win ho (fun i hi => Int.le_trans hr (jobAt_le nx hi)))
  rw [hR.out, hn]
/-- How many jobs there may be. -/
theorem Inv.few {l : List Tk} (ho : Oks l) {nx : Nat → Int} {s : Ps} (h : Inv l nx s) {i : Nat} (hi : i < l.length) : nx i ≤ s.now + 1 := by
  have hok := (ok_iff _).1 (ho.at i hi)
  have hp : 1 ≤ (tk l i).per := hok.1
  have hof : 0 ≤ (tk l i).off := hok.2.2.1
  have h0 := h.nx0 i hi
  have hn := h.rel.now0
  rcases h.had i hi with h3 | h3
  · omega
  · rcases Int.lt_or_le (nx i) 1 with h4 | h4
    · omega
    · have := Int.mul_le_mul_of_nonneg_left hp (show 0 ≤ nx i - 1 by omega)
      omega
theorem push_len (out : List Sl) (s : Sl) : (pushD out s).length ≤ out.length + 1 := by
  unfold pushD
  cases hl : out.getLast? with
  | none => simp
  | some k =>
    dsimp only
    split
    · simp
    · simp
theorem doc_len (l : List Tk) : ∀ n, (doc l n).2.length ≤ n
  | 0 => by simp [doc, runD]
  | n + 1 => by
    rw [doc_succ]
    unfold stepD
    have := doc_len l n
    cases hp : pick l (doc l n).1 n with
    | none => dsimp only; omega
    | some i =>
      dsimp only
      have := push_len (doc l n).2 ⟨i, (doc l n).1 i / (tk l i).cost, n, n + 1⟩
      omega
/-- Play's answer. -/
def playS (l : List Tk) (u : Int) : List Sl × Int × Int :=
  if (lookS l).1 ≠ 0 then ([], lookS l) else if u < 0 ∨ 20000 < u then ([], 4, 0) else ((doc l u.toNat).2, 0, 0)
end Go.Proofs.Ytholmeebkgpjjaa
