/- Plain facts on who runs when: microsecond by microsecond (the document), and job by job (the program); no program in sight. -/
import Derived.Test.YtholmeebkgpjjaaPl
namespace Go.Proofs.Ytholmeebkgpjjaa
set_option linter.unusedVariables false

structure Sl where
  task : Int
  job : Int
  fr : Int
  to : Int
structure Jb where
  task : Int
  num : Int
  rel : Int
  left : Int
def tk (l : List Tk) (i : Nat) : Tk := l.getD i tk0
/-- How many jobs have been released. -/
def rls (t : Tk) (n : Int) : Int := if t.off ≤ n then (n - t.off) / t.per + 1 else 0
def pend (l : List Tk) (D : Nat → Int) (n : Int) (i : Nat) : Bool := decide (D i < rls (tk l i) n * (tk l i).cost)
def pick (l : List Tk) (D : Nat → Int) (n : Int) : Option Nat := (List.range l.length).find? (pend l D n)
theorem pick_none {l : List Tk} {D : Nat → Int} {n : Int} : pick l D n = none ↔ ∀ i, i < l.length → pend l D n i = false := by
  unfold pick; rw [List.find?_eq_none]; simp
theorem pick_some {l : List Tk} {D : Nat → Int} {n : Int} {i : Nat} : pick l D n = some i ↔ i < l.length ∧ pend l D n i = true ∧ ∀ j, j < i → pend l D n j = false := by
  unfold pick; rw [List.find?_range_eq_some]; simp
  constructor
  · rintro ⟨a, b, d⟩; exact ⟨b, a, d⟩
  · rintro ⟨a, b, d⟩; exact ⟨b, a, d⟩
/-- A stretch put behind others: the document's way. -/
def pushD (out : List Sl) (s : Sl) : List Sl := match out.getLast? with
  | none => out ++ [s]
  | some k => if k.to = s.fr ∧ k.task = s.task ∧ k.job = s.job then out.dropLast ++ [{ k with to := s.to }] else out ++ [s]
/-- The program's way. -/
def putS (out : List Sl) (s : Sl) : List Sl := match out.getLast? with
  | none => out ++ [s]
  | some k => if k.task = s.task ∧ k.job = s.job then out.dropLast ++ [{ k with to := s.to }] else out ++ [s]
theorem put_push {out : List Sl} {s : Sl} (h : ∀ k, out.getLast? = some k → k.task = s.task → k.job = s.job → k.to = s.fr) : putS out s = pushD out s := by
  unfold putS pushD
  cases hl : out.getLast? with
  | none => rfl
  | some k =>
    dsimp only
    by_cases hc : k.task = s.task ∧ k.job = s.job
    · rw [if_pos hc, if_pos ⟨h k hl hc.1 hc.2, hc⟩]
    · rw [if_neg hc, if_neg (fun h' => hc h'.2)]
theorem push_last (out : List Sl) (s : Sl) : ∃ k, (pushD out s).getLast? = some k ∧ k.to = s.to ∧ k.task = s.task ∧ k.job = s.job := by
  unfold pushD
  cases hl : out.getLast? with
  | none => exact ⟨s, by simp, rfl, rfl, rfl⟩
  | some k =>
    dsimp only
    split
    · rename_i h; exact ⟨{ k with to := s.to }, by simp, rfl, h.2.1, h.2.2⟩
    · exact ⟨s, by simp, rfl, rfl, rfl⟩
theorem push_push (out : List Sl) (i k a b c : Int) : pushD (pushD out ⟨i, k, a, b⟩) ⟨i, k, b, c⟩ = pushD out ⟨i, k, a, c⟩ := by
  have key : ∀ (o : List Sl) (x : Sl), x.to = b → x.task = i → x.job = k → pushD (o ++ [x]) ⟨i, k, b, c⟩ = o ++ [{ x with to := c }] := fun o x h1 h2 h3 => by
    unfold pushD
    simp [h1, h2, h3]
  unfold pushD
  cases hl : out.getLast? with
  | none =>
    dsimp only
    exact key out ⟨i, k, a, b⟩ rfl rfl rfl
  | some y =>
    dsimp only
    by_cases hc : y.to = a ∧ y.task = i ∧ y.job = k
    · rw [if_pos hc, if_pos hc]
      exact key out.dropLast { y with to := b } rfl hc.2.1 hc.2.2
    · rw [if_neg hc, if_neg hc]
      exact key out ⟨i, k, a, b⟩ rfl rfl rfl
def upd {α : Type} (D : Nat → α) (i : Nat) (v : α) : Nat → α := fun j => if j = i then v else D j
theorem upd_same {α : Type} (D : Nat → α) (i : Nat) (v : α) : upd D i v i = v := by simp [upd]
theorem upd_other {α : Type} (D : Nat → α) {i j : Nat} (v : α) (h : j ≠ i) : upd D i v j = D j := by simp [upd, h]
theorem upd_upd {α : Type} (D : Nat → α) (i : Nat) (v u : α) : upd (upd D i v) i u = upd D i u := by
  funext j; unfold upd; split <;> rfl
theorem upd_self {α : Type} (D : Nat → α) (i : Nat) : upd D i (D i) = D := by
  funext j; unfold upd; split
  · rename_i h; rw [h]
  · rfl
def stepD (l : List Tk) (n : Int) (d : (Nat → Int) × List Sl) : (Nat → Int) × List Sl := match pick l d.1 n with
  | none => d
  | some i => (upd d.1 i (d.1 i + 1), pushD d.2 ⟨i, d.1 i / (tk l i).cost, n, n + 1⟩)
def runD (l : List Tk) (n : Int) : Nat → (Nat → Int) × List Sl → (Nat → Int) × List Sl
  | 0, d => d
  | k + 1, d => stepD l (n + k) (runD l n k d)
def doc (l : List Tk) (n : Nat) : (Nat → Int) × List Sl := runD l 0 n (fun _ => 0, [])
theorem runD_add (l : List Tk) (n : Int) (a b : Nat) (d : (Nat → Int) × List Sl) : runD l n (a + b) d = runD l (n + a) b (runD l n a d) := by
  induction b with
  | zero => rfl
  | succ b ih =>
    rw [← Nat.add_assoc]
    simp only [runD]
    rw [ih]
    congr 1
    omega
theorem doc_add (l : List Tk) (a b : Nat) : doc l (a + b) = runD l a b (doc l a) := by
  unfold doc
  rw [runD_add, Int.zero_add]
theorem doc_succ (l : List Tk) (a : Nat) : doc l (a + 1) = stepD l a (doc l a) := by
  unfold doc
  simp only [runD, Int.zero_add]

theorem rls_mono {t : Tk} (hp : 1 ≤ t.per) {n m : Int} (h : n ≤ m) : rls t n ≤ rls t m := by
  unfold rls
  have h1 : ∀ x, t.off ≤ x → 0 ≤ (x - t.off) / t.per := fun x hx => Int.ediv_nonneg (by omega) (by omega)
  split
  · split
    · have := Int.ediv_le_ediv (a := n - t.off) (b := m - t.off) (c := t.per) (by omega) (by omega)
      omega
    · omega
  · split
    · have := h1 m (by assumption); omega
    · omega
theorem rls_nonneg {t : Tk} (hp : 1 ≤ t.per) (n : Int) : 0 ≤ rls t n := by
  unfold rls
  split
  · have := Int.ediv_nonneg (a := n - t.off) (b := t.per) (by omega) (by omega)
    omega
  · omega
/-- So many have been released, if the last of them has been, and the next has not. -/
theorem rls_is {t : Tk} (hp : 1 ≤ t.per) {n x : Int} (h0 : 0 ≤ x) (h1 : x = 0 ∨ t.off + (x - 1) * t.per ≤ n) (h2 : n < t.off + x * t.per) : rls t n = x := by
  unfold rls
  have e1 : (x - 1) * t.per = x * t.per - t.per := by rw [Int.sub_mul, Int.one_mul]
  rcases h1 with rfl | h1
  · rw [if_neg (by simp at h2; omega)]
  · have hx : x = 0 ∨ 1 ≤ x := by omega
    rcases hx with rfl | hx
    · rw [if_neg (by simp at h2; omega)]
    · have h3 : 0 ≤ (x - 1) * t.per := Int.mul_nonneg (by omega) (by omega)
      rw [if_pos (by omega)]
      have h4 : (n - t.off) / t.per = x - 1 := by
        have h5 : n - t.off = (n - t.off - (x - 1) * t.per) + (x - 1) * t.per := by omega
        rw [h5, Int.add_mul_ediv_right _ _ (by omega), Int.ediv_eq_zero_of_lt (by omega) (by omega)]
        omega
      omega

/-- What the last stretch says. -/
def LastOk (l : List Tk) (d : (Nat → Int) × List Sl) (n : Int) : Prop :=
  ∀ k, d.2.getLast? = some k → ∃ i : Nat, i < l.length ∧ k.task = i ∧ k.job + 1 ≤ rls (tk l i) n ∧ (k.to = n ∨ (k.job + 1) * (tk l i).cost ≤ d.1 i)
theorem lastOk_step {l : List Tk} (ho : Oks l) {d : (Nat → Int) × List Sl} {n : Int} (hD : ∀ i, 0 ≤ d.1 i) (h : LastOk l d n) : LastOk l (stepD l n d) (n + 1) := by
  intro k hk
  unfold stepD at hk ⊢
  cases hp : pick l d.1 n with
  | none =>
    rw [hp] at hk
    dsimp only at hk ⊢
    obtain ⟨i, hi, ht, hj, _⟩ := h k hk
    have hok := (ok_iff _).1 (ho.at i hi)
    have hpe := pick_none.1 hp i hi
    unfold pend at hpe
    simp at hpe
    have hm : (k.job + 1) * (tk l i).cost ≤ rls (tk l i) n * (tk l i).cost := Int.mul_le_mul_of_nonneg_right hj (by have : (tk l i).cost = (l.getD i tk0).cost := rfl; omega)
    refine ⟨i, hi, ht, ?_, .inr (by omega)⟩
    have := rls_mono (t := tk l i) (by have : (tk l i).per = (l.getD i tk0).per := rfl; omega) (show n ≤ n + 1 by omega)
    omega
  | some i =>
    rw [hp] at hk
    dsimp only at hk ⊢
    obtain ⟨hi, hpe, _⟩ := pick_some.1 hp
    have hok := (ok_iff _).1 (ho.at i hi)
    have hc : (tk l i).cost = (l.getD i tk0).cost := rfl
    have hpp : (tk l i).per = (l.getD i tk0).per := rfl
    obtain ⟨k', hk', h1, h2, h3⟩ := push_last d.2 ⟨i, d.1 i / (tk l i).cost, n, n + 1⟩
    rw [hk'] at hk
    injection hk with hk
    subst hk
    dsimp only at h1 h2 h3
    refine ⟨i, hi, h2, ?_, .inl h1⟩
    unfold pend at hpe
    simp at hpe
    have hq : d.1 i / (tk l i).cost < rls (tk l i) n := Int.ediv_lt_of_lt_mul (by omega) hpe
    have := rls_mono (t := tk l i) (by omega) (show n ≤ n + 1 by omega)
    omega
theorem stepD_nonneg {l : List Tk} {d : (Nat → Int) × List Sl} {n : Int} (hD : ∀ i, 0 ≤ d.1 i) : ∀ i, 0 ≤ (stepD l n d).1 i := by
  intro j
  unfold stepD
  cases hp : pick l d.1 n with
  | none => exact hD j
  | some i =>
    dsimp only
    unfold upd
    have := hD i
    split
    · omega
    · exact hD j
theorem doc_nonneg (l : List Tk) : ∀ n i, 0 ≤ (doc l n).1 i
  | 0, i => by simp [doc, runD]
  | n + 1, i => by rw [doc_succ]; exact stepD_nonneg (doc_nonneg l n) i
theorem doc_last {l : List Tk} (ho : Oks l) : ∀ n : Nat, LastOk l (doc l n) n
  | 0 => by intro k hk; simp [doc, runD] at hk
  | n + 1 => by
    rw [doc_succ]
    have := lastOk_step ho (doc_nonneg l n) (doc_last ho n)
    have e : ((n + 1 : Nat) : Int) = (n : Int) + 1 := by omega
    rw [e]
    exact this
end Go.Proofs.Ytholmeebkgpjjaa
