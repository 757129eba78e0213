/- Queues of jobs, and the document's state; no program in sight. -/
import Derived.Test.YtholmeebkgpjjaaPp
namespace Go.Proofs.Ytholmeebkgpjjaa
set_option linter.unusedVariables false

/-- A task's queue: jobs from the one at hand up to number nx; D: how long the task has run. -/
def Que (c nx D : Int) (q : List Jb) : Prop := 0 ≤ D ∧ D ≤ nx * c ∧ (q.length : Int) = nx - D / c ∧ ∀ (k : Nat) (j : Jb), q[k]? = some j → j.num = D / c + k ∧ j.left = if k = 0 then c - D % c else c
theorem Que.empty {c nx D : Int} {q : List Jb} (hc : 1 ≤ c) (h : Que c nx D q) : q = [] ↔ D = nx * c := by
  obtain ⟨h0, h1, h2, _⟩ := h
  constructor
  · intro e; subst e
    simp at h2
    have h3 : D / c = nx := by omega
    have h4 := Int.mul_ediv_add_emod D c
    have h5 := Int.emod_nonneg D (b := c) (by omega)
    rw [h3, Int.mul_comm] at h4
    omega
  · intro e
    rw [e, Int.mul_ediv_cancel _ (by omega)] at h2
    exact List.length_eq_zero_iff.1 (by omega)
theorem Que.none {c : Int} (hc : 1 ≤ c) : Que c 0 0 [] := ⟨by omega, by omega, by simp, by simp⟩
/-- A job more. -/
theorem Que.more {c nx D : Int} {q : List Jb} (hc : 1 ≤ c) (h : Que c nx D q) (t r : Int) : Que c (nx + 1) D (q ++ [⟨t, nx, r, c⟩]) := by
  have he := h.empty hc
  obtain ⟨h0, h1, h2, h3⟩ := h
  refine ⟨h0, by rw [Int.add_mul]; omega, by simp; omega, fun k j hk => ?_⟩
  rcases Nat.lt_or_ge k q.length with hl | hl
  · rw [List.getElem?_append_left hl] at hk
    exact h3 k j hk
  · rw [List.getElem?_append_right hl] at hk
    have hk0 : k - q.length = 0 := by
      rcases Nat.eq_zero_or_pos (k - q.length) with e | e
      · exact e
      · rw [List.getElem?_eq_none (by simp; omega)] at hk; simp at hk
    rw [hk0] at hk
    simp at hk
    subst hk
    dsimp only
    refine ⟨by omega, ?_⟩
    split
    · rename_i e
      have hq : q = [] := List.length_eq_zero_iff.1 (by omega)
      have hD := he.1 hq
      rw [hD, Int.mul_emod_left]
      omega
    · rfl
/-- What the job at hand has left. -/
theorem Que.head {c nx D : Int} {j : Jb} {r : List Jb} (hc : 1 ≤ c) (h : Que c nx D (j :: r)) : j.num = D / c ∧ j.left = c - D % c ∧ 1 ≤ j.left ∧ D < nx * c ∧ (D / c + 1) * c ≤ nx * c := by
  obtain ⟨h0, h1, h2, h3⟩ := h
  obtain ⟨h4, h5⟩ := h3 0 j rfl
  simp at h4 h5
  have h6 := Int.emod_lt_of_pos D (b := c) (by omega)
  have h7 := Int.mul_ediv_add_emod D c
  have h8 := Int.emod_nonneg D (b := c) (by omega)
  simp at h2
  have h9 : (D / c + 1) * c ≤ nx * c := Int.mul_le_mul_of_nonneg_right (by omega) (by omega)
  rw [Int.add_mul, Int.one_mul, Int.mul_comm (D / c)] at h9
  refine ⟨h4, h5, by omega, by omega, ?_⟩
  rw [Int.add_mul, Int.one_mul, Int.mul_comm (D / c)]
  exact h9
theorem div_in {c D s : Int} (hc : 1 ≤ c) (hs : 0 ≤ s) (h : s < c - D % c) : (D + s) / c = D / c ∧ (D + s) % c = D % c + s := by
  have h7 := Int.mul_ediv_add_emod D c
  have h8 := Int.emod_nonneg D (b := c) (by omega)
  have e : D + s = (D % c + s) + c * (D / c) := by omega
  constructor
  · rw [e, Int.add_mul_ediv_left _ _ (by omega), Int.ediv_eq_zero_of_lt (by omega) (by omega)]; omega
  · rw [e, Int.add_mul_emod_self_left, Int.emod_eq_of_lt (by omega) (by omega)]
theorem div_at {c D : Int} (hc : 1 ≤ c) : (D + (c - D % c)) / c = D / c + 1 ∧ (D + (c - D % c)) % c = 0 := by
  have h7 := Int.mul_ediv_add_emod D c
  have e : D + (c - D % c) = 0 + c * (D / c + 1) := by rw [Int.mul_add]; omega
  constructor
  · rw [e, Int.add_mul_ediv_left _ _ (by omega)]; simp
  · rw [e, Int.add_mul_emod_self_left]; simp
/-- The job at hand has run on, and has something left. -/
theorem Que.part {c nx D s : Int} {j : Jb} {r : List Jb} (hc : 1 ≤ c) (h : Que c nx D (j :: r)) (hs : 0 ≤ s) (hl : s < j.left) : Que c nx (D + s) ({ j with left := j.left - s } :: r) := by
  obtain ⟨e1, e2, e3, e4, e5⟩ := h.head hc
  obtain ⟨d1, d2⟩ := div_in (c := c) (D := D) (s := s) hc hs (by omega)
  have h7 := Int.mul_ediv_add_emod D c
  obtain ⟨h0, h1, h2, h3⟩ := h
  rw [Int.add_mul, Int.one_mul, Int.mul_comm (D / c)] at e5
  refine ⟨by omega, by omega, by rw [d1]; simpa using h2, fun k x hk => ?_⟩
  rw [d1, d2]
  cases k with
  | zero =>
    simp at hk
    subst hk
    simp
    omega
  | succ k =>
    have := h3 (k + 1) x (by simpa using hk)
    simpa using this
/-- The job at hand is done. -/
theorem Que.pop {c nx D : Int} {j : Jb} {r : List Jb} (hc : 1 ≤ c) (h : Que c nx D (j :: r)) : Que c nx (D + j.left) r := by
  obtain ⟨e1, e2, e3, e4, e5⟩ := h.head hc
  obtain ⟨d1, d2⟩ := div_at (c := c) (D := D) hc
  have h7 := Int.mul_ediv_add_emod D c
  obtain ⟨h0, h1, h2, h3⟩ := h
  rw [Int.add_mul, Int.one_mul, Int.mul_comm (D / c)] at e5
  rw [e2]
  refine ⟨by omega, by omega, by rw [d1]; simp at h2; omega, fun k x hk => ?_⟩
  rw [d1, d2]
  have := h3 (k + 1) x (by simpa using hk)
  simp at this
  refine ⟨by omega, ?_⟩
  split <;> omega

structure Ps where
  now : Int
  q : Nat → List Jb
  out : List Sl
def firstQ (L : Nat) (q : Nat → List Jb) : Option Nat := (List.range L).find? fun i => !(q i).isEmpty
theorem firstQ_none {L : Nat} {q : Nat → List Jb} : firstQ L q = none ↔ ∀ i, i < L → q i = [] := by
  unfold firstQ; rw [List.find?_eq_none]; simp
theorem firstQ_some {L : Nat} {q : Nat → List Jb} {i : Nat} : firstQ L q = some i ↔ i < L ∧ q i ≠ [] ∧ ∀ j, j < i → q j = [] := by
  unfold firstQ; rw [List.find?_range_eq_some]; simp
  constructor
  · rintro ⟨a, b, d⟩; exact ⟨b, a, d⟩
  · rintro ⟨a, b, d⟩; exact ⟨b, a, d⟩
/-- A task's first job is done up to its end, or up to a moment. -/
def work1 (i : Nat) (e : Int) (s : Ps) : Ps := match s.q i with
  | [] => s
  | j :: r => { now := s.now + min j.left (e - s.now), q := upd s.q i (if j.left - min j.left (e - s.now) = 0 then r else { j with left := j.left - min j.left (e - s.now) } :: r), out := putS s.out ⟨i, j.num, s.now, s.now + min j.left (e - s.now)⟩ }
def workN (L : Nat) (e : Int) : Nat → Ps → Ps
  | 0, s => s
  | n + 1, s => if s.now < e then (match firstQ L s.q with
    | none => { s with now := e }
    | some i => workN L e n (work1 i e s)) else s
/-- Up to a moment ahead of which no job comes any more. -/
def workTo (L : Nat) (e : Int) (s : Ps) : Ps := workN L e (e - s.now).toNat s

/-- The program's state and the document's. -/
structure Rel (l : List Tk) (nx : Nat → Int) (s : Ps) : Prop where
  now0 : 0 ≤ s.now
  out : s.out = (doc l s.now.toNat).2
  que : ∀ i, i < l.length → Que (tk l i).cost (nx i) ((doc l s.now.toNat).1 i) (s.q i)
theorem pend_nx {l : List Tk} {D : Nat → Int} {n nx : Int} {i : Nat} (h : rls (tk l i) n = nx) : pend l D n i = decide (D i < nx * (tk l i).cost) := by unfold pend; rw [h]
/-- So long as one job runs. -/
theorem run_span {l : List Tk} {nx : Nat → Int} {n : Int} {i : Nat} {d : (Nat → Int) × List Sl} (hi : i < l.length) (hc : 1 ≤ (tk l i).cost) (m : Nat) (hr : ∀ j, j < l.length → ∀ x, n ≤ x → x < n + m → rls (tk l j) x = nx j)
    (hb : ∀ j, j < i → ¬ d.1 j < nx j * (tk l j).cost) (hm : (m : Int) ≤ (tk l i).cost - d.1 i % (tk l i).cost) (hD : (d.1 i / (tk l i).cost + 1) * (tk l i).cost ≤ nx i * (tk l i).cost) (hm1 : 1 ≤ m) :
    runD l n m d = (upd d.1 i (d.1 i + m), pushD d.2 ⟨i, d.1 i / (tk l i).cost, n, n + m⟩) := by
  have e7 := Int.mul_ediv_add_emod (d.1 i) (tk l i).cost
  rw [Int.add_mul, Int.one_mul, Int.mul_comm (d.1 i / (tk l i).cost)] at hD
  have key : ∀ k : Nat, k < m → ∀ D : Nat → Int, (∀ j, j ≠ i → D j = d.1 j) → D i = d.1 i + k → pick l D (n + k) = some i := fun k hk D h1 h2 => by
    rw [pick_some]
    refine ⟨hi, ?_, fun j hj => ?_⟩
    · rw [pend_nx (hr i hi (n + k) (by omega) (by omega)), h2]
      exact decide_eq_true (by omega)
    · rw [pend_nx (hr j (by omega) (n + k) (by omega) (by omega)), h1 j (by omega)]
      exact decide_eq_false (hb j hj)
  induction m with
  | zero => omega
  | succ m ih =>
    rcases Nat.eq_zero_or_pos m with h0 | h0
    · subst h0
      simp only [runD]
      unfold stepD
      have := key 0 (by omega) d.1 (fun _ _ => rfl) (by simp)
      rw [this]
      simp
    · have ih' := ih (fun j hj x h1 h2 => hr j hj x h1 (by omega)) (by omega) h0 (fun k hk => key k (by omega))
      rw [runD, ih']
      unfold stepD
      have hk := key m (by omega) (upd d.1 i (d.1 i + m)) (fun j hj => upd_other _ _ hj) (upd_same _ _ _)
      rw [hk]
      dsimp only
      rw [upd_same, upd_upd, (div_in hc (by omega) (by omega)).1, push_push]
      have e : n + (m : Int) + 1 = n + ((m + 1 : Nat) : Int) := by omega
      rw [e]
      have e2 : d.1 i + (m : Int) + 1 = d.1 i + ((m + 1 : Nat) : Int) := by omega
      rw [e2]
/-- So long as nothing is to be done. -/
theorem run_idle {l : List Tk} {nx : Nat → Int} {n : Int} {d : (Nat → Int) × List Sl} (m : Nat) (hr : ∀ j, j < l.length → ∀ x, n ≤ x → x < n + m → rls (tk l j) x = nx j)
    (hb : ∀ j, j < l.length → ¬ d.1 j < nx j * (tk l j).cost) : runD l n m d = d := by
  induction m with
  | zero => rfl
  | succ m ih =>
    rw [runD, ih (fun j hj x h1 h2 => hr j hj x h1 (by omega))]
    unfold stepD
    have : pick l d.1 (n + m) = none := by
      rw [pick_none]
      intro j hj
      rw [pend_nx (hr j hj (n + m) (by omega) (by omega))]
      exact decide_eq_false (hb j hj)
    rw [this]
theorem Rel.work1 {l : List Tk} (ho : Oks l) {nx : Nat → Int} {s : Ps} {e : Int} {i : Nat} (h : Rel l nx s) (he : s.now < e) (hr : ∀ j, j < l.length → ∀ x, s.now ≤ x → x < e → rls (tk l j) x = nx j) (hf : firstQ l.length s.q = some i) :
    Rel l nx (work1 i e s) ∧ s.now < (Go.Proofs.Ytholmeebkgpjjaa.work1 i e s).now ∧ (Go.Proofs.Ytholmeebkgpjjaa.work1 i e s).now ≤ e := by
  obtain ⟨hi, hne, hb⟩ := firstQ_some.1 hf
  have hok := (ok_iff _).1 (ho.at i hi)
  have hc : 1 ≤ (tk l i).cost := hok.2.2.2.2.1
  cases hq : s.q i with
  | nil => exact (hne hq).elim
  | cons j r =>
    have hQ := h.que i hi
    rw [hq] at hQ
    obtain ⟨e1, e2, e3, e4, e5⟩ := hQ.head hc
    unfold Go.Proofs.Ytholmeebkgpjjaa.work1
    rw [hq]
    dsimp only
    obtain ⟨sp, hsp⟩ : ∃ sp, min j.left (e - s.now) = sp := ⟨_, rfl⟩
    have hs1 : 1 ≤ sp ∧ sp ≤ j.left ∧ sp ≤ e - s.now ∧ (sp = j.left ∨ sp = e - s.now) := by rw [← hsp]; omega
    rw [hsp]
    obtain ⟨m, hm⟩ := Int.eq_ofNat_of_zero_le (show 0 ≤ sp by omega)
    obtain ⟨n, hn⟩ := Int.eq_ofNat_of_zero_le h.now0
    have hnn : s.now.toNat = n := by omega
    have hdoc : doc l (n + m) = _ := doc_add l n m
    rw [run_span (nx := nx) hi hc m (fun j hj x h1 h2 => hr j hj x (by omega) (by omega)) (fun k hk => by
      have hQk := h.que k (by omega)
      have hokk := (ok_iff _).1 (ho.at k (by omega))
      have hck : 1 ≤ (tk l k).cost := hokk.2.2.2.2.1
      have := (hQk.empty hck).1 (hb k hk)
      rw [hnn] at this
      omega) (by rw [hnn] at e2; omega) (by rw [hnn] at e5; exact e5) (by omega)] at hdoc
    have hto : (s.now + sp).toNat = n + m := by omega
    refine ⟨⟨by dsimp only; have := h.now0; omega, ?_, fun k hk => ?_⟩, by omega, by omega⟩
    · dsimp only
      rw [hto, hdoc, h.out, hnn]
      dsimp only
      have hL := doc_last ho n
      rw [hnn] at e1
      rw [put_push (fun k hk h1 h2 => by
        dsimp only at h1 h2
        obtain ⟨i', hi', g1, g2, g3⟩ := hL k hk
        have : i' = i := by omega
        subst this
        rcases g3 with g3 | g3
        · dsimp only; omega
        · exfalso
          rw [h2, e1] at g3
          have h7 := Int.mul_ediv_add_emod ((doc l n).1 i') (tk l i').cost
          have h8 := Int.emod_lt_of_pos ((doc l n).1 i') (b := (tk l i').cost) (by omega)
          rw [Int.add_mul, Int.one_mul, Int.mul_comm (_ / _)] at g3
          omega)]
      rw [e1, hn, hm]
    · dsimp only
      rw [hto, hdoc]
      dsimp only
      by_cases hki : k = i
      · subst hki
        rw [upd_same, upd_same]
        rw [hnn] at hQ
        rw [show ((m : Nat) : Int) = sp by omega]
        split
        · rename_i hz
          have := hQ.pop hc
          rw [show j.left = sp by omega] at this
          exact this
        · exact hQ.part hc (by omega) (by omega)
      · rw [upd_other _ _ hki, upd_other _ _ hki]
        have := h.que k hk
        rw [hnn] at this
        exact this
theorem Rel.workN {l : List Tk} (ho : Oks l) {nx : Nat → Int} {e : Int} : ∀ (f : Nat) {s : Ps}, Rel l nx s → s.now ≤ e → (∀ j, j < l.length → ∀ x, s.now ≤ x → x < e → rls (tk l j) x = nx j) → (e - s.now).toNat ≤ f →
    Rel l nx (workN l.length e f s) ∧ (Go.Proofs.Ytholmeebkgpjjaa.workN l.length e f s).now = e
  | 0, s, h, he, hr, hf => by
    unfold Go.Proofs.Ytholmeebkgpjjaa.workN
    exact ⟨h, by omega⟩
  | f + 1, s, h, he, hr, hf => by
    unfold Go.Proofs.Ytholmeebkgpjjaa.workN
    by_cases hlt : s.now < e
    · rw [if_pos hlt]
      cases hq : firstQ l.length s.q with
      | none =>
        dsimp only
        refine ⟨?_, rfl⟩
        obtain ⟨n, hn⟩ := Int.eq_ofNat_of_zero_le h.now0
        obtain ⟨m, hm⟩ := Int.eq_ofNat_of_zero_le (show 0 ≤ e - s.now by omega)
        have hnn : s.now.toNat = n := by omega
        have hdoc : doc l (n + m) = _ := doc_add l n m
        rw [run_idle (nx := nx) m (fun j hj x h1 h2 => hr j hj x (by omega) (by omega)) (fun k hk => by
          have hQk := h.que k hk
          have hokk := (ok_iff _).1 (ho.at k hk)
          have hck : 1 ≤ (tk l k).cost := hokk.2.2.2.2.1
          have := (hQk.empty hck).1 (firstQ_none.1 hq k hk)
          rw [hnn] at this
          omega)] at hdoc
        have hto : e.toNat = n + m := by omega
        refine ⟨by dsimp only; omega, ?_, fun k hk => ?_⟩
        · dsimp only; rw [hto, hdoc, h.out, hnn]
        · dsimp only; rw [hto, hdoc, ← hnn]; exact h.que k hk
      | some i =>
        dsimp only
        obtain ⟨h1, h2, h3⟩ := Rel.work1 ho h hlt hr hq
        exact Rel.workN ho f h1 h3 (fun j hj x hx1 hx2 => hr j hj x (by omega) hx2) (by omega)
    · rw [if_neg hlt]
      exact ⟨h, by omega⟩
theorem Rel.workTo {l : List Tk} (ho : Oks l) {nx : Nat → Int} {e : Int} {s : Ps} (h : Rel l nx s) (he : s.now ≤ e) (hr : ∀ j, j < l.length → ∀ x, s.now ≤ x → x < e → rls (tk l j) x = nx j) :
    Rel l nx (workTo l.length e s) ∧ (Go.Proofs.Ytholmeebkgpjjaa.workTo l.length e s).now = e := Rel.workN ho _ h he hr (Nat.le_refl _)
end Go.Proofs.Ytholmeebkgpjjaa
