/- The stretches of a play, one by one: plain. -/
import Derived.Test.YtholmeebkgpjjaaPd
namespace Go.Proofs.Ytholmeebkgpjjaa
set_option linter.unusedVariables false
set_option linter.unusedSimpArgs false

/-- What a task has had in some stretches; where they end. -/
def Wk : List Sl → Nat → Int
  | [], _ => 0
  | x :: p, j => (if x.task = (j : Int) then x.to - x.fr else 0) + Wk p j
theorem Wk_app (p q : List Sl) (j : Nat) : Wk (p ++ q) j = Wk p j + Wk q j := by
  induction p with
  | nil => simp [Wk]
  | cons x p ih => simp only [List.cons_append, Wk, ih]; omega
theorem Wk_one (x : Sl) (j : Nat) : Wk [x] j = if x.task = (j : Int) then x.to - x.fr else 0 := by simp [Wk]
def nowOf (p : List Sl) : Int := match p.getLast? with
  | some y => y.to
  | none => 0
theorem nowOf_snoc (p : List Sl) (x : Sl) : nowOf (p ++ [x]) = x.to := by simp [nowOf]
structure SlOk (l : List Tk) (n : Nat) (p : List Sl) (x : Sl) (i : Nat) : Prop where
  hi : i < l.length
  task : x.task = (i : Int)
  fr0 : 0 ≤ x.fr
  lt : x.fr < x.to
  le : x.to ≤ n
  W : ∀ j, Wk p j = Dn l x.fr.toNat j
  run : ∀ t : Nat, x.fr ≤ (t : Int) → (t : Int) < x.to → who l t = some i ∧ Dn l t i / (tk l i).cost = x.job
  now : nowOf p ≤ x.fr
structure Gd (l : List Tk) (n : Nat) (out : List Sl) : Prop where
  W : ∀ j, Wk out j = Dn l n j
  now : nowOf out ≤ n
  each : ∀ k x, out[k]? = some x → ∃ i, SlOk l n (out.take k) x i
theorem SlOk.later {l : List Tk} {n : Nat} {p : List Sl} {x : Sl} {i : Nat} (h : SlOk l n p x i) : SlOk l (n + 1) p x i :=
  ⟨h.hi, h.task, h.fr0, h.lt, by have := h.le; omega, h.W, h.run, h.now⟩
theorem Gd.idle {l : List Tk} {n : Nat} {out : List Sl} (h : Gd l n out) (hw : who l n = none) : Gd l (n + 1) out := by
  refine ⟨fun j => ?_, by have := h.now; omega, fun k x hx => ?_⟩
  · rw [Dn_succ, hw, if_neg (by simp)]; exact h.W j
  · obtain ⟨i, hi⟩ := h.each k x hx
    exact ⟨i, hi.later⟩
theorem Gd.new {l : List Tk} {n i : Nat} {out : List Sl} (h : Gd l n out) (hw : who l n = some i) : Gd l (n + 1) (out ++ [⟨i, Dn l n i / (tk l i).cost, n, (n : Int) + 1⟩]) := by
  refine ⟨fun j => ?_, by rw [nowOf_snoc]; simp, fun k x hx => ?_⟩
  · rw [Wk_app, Wk_one, h.W j, Dn_succ, hw]
    by_cases e : i = j
    · subst e; simp; omega
    · have e' : ¬ ((i : Int) = (j : Int)) := by omega
      simp [e, e']
  · by_cases hk : k < out.length
    · rw [List.getElem?_append_left hk] at hx
      obtain ⟨i', hi⟩ := h.each k x hx
      rw [List.take_append_of_le_length (by omega)]
      exact ⟨i', hi.later⟩
    · have hk2 : k = out.length := by
        have := (List.getElem?_eq_some_iff.1 hx).1
        simp at this; omega
      subst hk2
      simp at hx
      subst hx
      refine ⟨i, (who_pend hw).1, rfl, by simp, by simp; omega, by simp, fun j => ?_, fun t h1 h2 => ?_, ?_⟩
      · simp; exact h.W j
      · dsimp only at h1 h2
        have : t = n := by omega
        subst this
        exact ⟨hw, rfl⟩
      · simp; exact h.now
theorem Gd.join {l : List Tk} {n i : Nat} {out : List Sl} {k0 : Sl} (h : Gd l n (out ++ [k0])) (hw : who l n = some i) (h1 : k0.to = n) (h2 : k0.task = (i : Int)) (h3 : k0.job = Dn l n i / (tk l i).cost) : Gd l (n + 1) (out ++ [{ k0 with to := (n : Int) + 1 }]) := by
  refine ⟨fun j => ?_, by rw [nowOf_snoc]; simp, fun k x hx => ?_⟩
  · have hj := h.W j
    rw [Wk_app, Wk_one] at hj ⊢
    rw [Dn_succ, hw, ← hj]
    by_cases e : i = j
    · subst e; simp [h2]; omega
    · have e' : ¬ (k0.task = (j : Int)) := by omega
      simp [e, e']
  · by_cases hk : k < out.length
    · rw [List.getElem?_append_left hk] at hx
      obtain ⟨i', hi⟩ := h.each k x (by rw [List.getElem?_append_left hk]; exact hx)
      rw [List.take_append_of_le_length (by omega)] at hi ⊢
      exact ⟨i', hi.later⟩
    · have hk2 : k = out.length := by
        have := (List.getElem?_eq_some_iff.1 hx).1
        simp at this; omega
      subst hk2
      obtain ⟨i', hi⟩ := h.each out.length k0 (by simp)
      simp at hx
      subst hx
      have e : i' = i := by have := hi.task; omega
      subst e
      simp at hi ⊢
      refine ⟨i', hi.hi, h2, hi.fr0, ?_, by simp, hi.W, fun t g1 g2 => ?_, hi.now⟩
      · have := hi.lt; dsimp only; omega
      · dsimp only at g1 g2 ⊢
        by_cases ht : (t : Int) < k0.to
        · exact hi.run t g1 ht
        · have : t = n := by omega
          subst this
          exact ⟨hw, h3.symm⟩
theorem doc_gd (l : List Tk) : ∀ n : Nat, Gd l n (doc l n).2
  | 0 => ⟨fun j => by simp [doc, runD, Wk, Dn], by simp [doc, runD, nowOf], fun k x hx => by simp [doc, runD] at hx⟩
  | n + 1 => by
    have ih := doc_gd l n
    rw [doc_succ]
    unfold stepD
    cases hw : pick l (doc l n).1 n with
    | none => exact ih.idle hw
    | some i =>
      dsimp only
      have hw' : who l n = some i := hw
      unfold pushD
      cases hl : (doc l n).2.getLast? with
      | none => exact ih.new hw'
      | some k0 =>
        dsimp only
        split
        · rename_i hc
          have e : (doc l n).2 = (doc l n).2.dropLast ++ [k0] := by
            have hne : (doc l n).2 ≠ [] := by intro e; rw [e] at hl; simp at hl
            have h1 : (doc l n).2.getLast hne = k0 := by
              rw [List.getLast?_eq_some_getLast hne] at hl
              simpa using hl
            rw [← h1, List.dropLast_concat_getLast]
          rw [e] at ih
          exact ih.join hw' hc.1 hc.2.1 hc.2.2
        · exact ih.new hw'
/-- What a stretch is to those ahead of it, in the law's words. -/
structure MeetAt (l : List Tk) (idle : Bool) (u : Nat) (p : List Sl) (x : Sl) (i : Nat) : Prop where
  hi : i < l.length
  task : x.task = (i : Int)
  fr0 : 0 ≤ x.fr
  lt : x.fr < x.to
  le : x.to ≤ u
  now : nowOf p ≤ x.fr
  job : x.job = Wk p i / (tk l i).cost
  job0 : 0 ≤ x.job
  rel : (tk l i).off + x.job * (tk l i).per ≤ x.fr
  work : Wk p i % (tk l i).cost + (x.to - x.fr) ≤ (tk l i).cost
  took : Wk p i % (tk l i).cost + (x.to - x.fr) = (tk l i).cost → x.to - ((tk l i).off + x.job * (tk l i).per) ≤ repV l i
  first : Wk p i % (tk l i).cost + (x.to - x.fr) = (tk l i).cost → idle = true → x.job = 0 → x.to - ((tk l i).off + x.job * (tk l i).per) = repV l i
theorem SlOk.meets {l : List Tk} (ho : Oks l) (hf : ∀ i, i < l.length → (rep l i).isSome = true) {idle : Bool} (h0 : idle = true → ∀ i, i < l.length → (tk l i).off = 0) {n : Nat} {p : List Sl} {x : Sl} {i : Nat} (h : SlOk l n p x i) : MeetAt l idle n p x i := by
  have ht := tk_ok ho h.hi
  have hfr := h.fr0
  have hlt := h.lt
  obtain ⟨a, ha⟩ : ∃ a : Nat, (a : Int) = x.fr := ⟨x.fr.toNat, by omega⟩
  obtain ⟨m, hm⟩ : ∃ m : Nat, (m : Int) = x.to - x.fr := ⟨(x.to - x.fr).toNat, by omega⟩
  have hW : Wk p i = Dn l a i := by rw [h.W i, ← ha]; simp
  have grow : ∀ m' : Nat, m' ≤ m → Dn l (a + m') i = Dn l a i + m' := fun m' => by
    induction m' with
    | zero => intro _; simp
    | succ m' ih =>
      intro hle
      have := ih (by omega)
      rw [← Nat.add_assoc, Dn_succ, if_pos (h.run (a + m') (by omega) (by omega)).1, this]
      omega
  have r0 := h.run a (by omega) (by omega)
  have rl := h.run (a + (m - 1)) (by omega) (by omega)
  have gl := grow (m - 1) (by omega)
  have gm := grow m (Nat.le_refl _)
  have hjob : x.job = Wk p i / (tk l i).cost := by rw [hW]; exact r0.2.symm
  have hDa := Dn_nonneg l a i
  have hj0 : 0 ≤ x.job := by rw [hjob, hW]; exact Int.ediv_nonneg hDa (by omega)
  have hp := (who_pend r0.1).2.1
  have e1 := Int.mul_ediv_add_emod (Dn l a i) (tk l i).cost
  have e2 := Int.mul_ediv_add_emod (Dn l (a + (m - 1)) i) (tk l i).cost
  have e3 := Int.emod_lt_of_pos (Dn l (a + (m - 1)) i) (b := (tk l i).cost) (by omega)
  have e4 := Int.emod_nonneg (Dn l a i) (b := (tk l i).cost) (by omega)
  rw [rl.2] at e2
  rw [← hW, ← hjob, hW] at e1
  have hwork : Wk p i % (tk l i).cost + (x.to - x.fr) ≤ (tk l i).cost := by rw [hW]; omega
  have hrls : x.job < rls (tk l i) (a : Int) := by
    have h1 : (tk l i).cost * x.job < (tk l i).cost * rls (tk l i) (a : Int) := by rw [Int.mul_comm _ (rls _ _)]; omega
    exact Int.lt_of_mul_lt_mul_left h1 (by omega)
  have hrel : (tk l i).off + x.job * (tk l i).per ≤ x.fr := by
    rw [← ha]
    unfold rls at hrls
    split at hrls
    · rename_i hoff
      have h1 : x.job ≤ ((a : Int) - (tk l i).off) / (tk l i).per := by omega
      have h2 := Int.mul_le_mul_of_nonneg_right h1 (by omega : 0 ≤ (tk l i).per)
      have h3 := Int.ediv_mul_le ((a : Int) - (tk l i).off) (b := (tk l i).per) (by omega)
      omega
    · omega
  obtain ⟨s0, hs0⟩ := Option.isSome_iff_exists.1 (hf i h.hi)
  have hrv : repV l i = (s0 : Int) + 1 := by simp [repV, hs0]
  obtain ⟨k, hk⟩ : ∃ k : Nat, (k : Int) = x.job := ⟨x.job.toNat, by omega⟩
  have hkp : 0 ≤ x.job * (tk l i).per := Int.mul_nonneg hj0 (by omega)
  have e5 : ((k : Int) + 1) * (tk l i).cost = (tk l i).cost * x.job + (tk l i).cost := by rw [hk, Int.add_mul, Int.mul_comm]; omega
  refine ⟨h.hi, h.task, h.fr0, h.lt, h.le, h.now, hjob, hj0, hrel, hwork, fun hc => ?_, fun hc hid hz => ?_⟩
  · rw [hrv]
    rw [hW] at hc
    obtain ⟨r, hr⟩ : ∃ r : Nat, (r : Int) = (tk l i).off + x.job * (tk l i).per := ⟨((tk l i).off + x.job * (tk l i).per).toNat, by omega⟩
    have hm1 := meet ho h.hi hs0 k r (by rw [hr, hk])
    apply Classical.byContradiction
    intro hn
    have h5 := Dn_mono l i (n := r + (s0 + 1)) (m := a + (m - 1)) (by omega)
    omega
  · rw [hrv]
    rw [hW] at hc
    have hoff := h0 hid i h.hi
    have h6 := exact_first ho h.hi hs0 (fun j hj => h0 hid j (by have := h.hi; omega)) (a + m) (by rw [hz] at e1; omega)
    obtain ⟨r, hr⟩ : ∃ r : Nat, (r : Int) = (tk l i).off + x.job * (tk l i).per := ⟨((tk l i).off + x.job * (tk l i).per).toNat, by omega⟩
    have hm1 := meet ho h.hi hs0 k r (by rw [hr, hk])
    have hr0 : r = 0 := by rw [hz, hoff] at hr; simp at hr; exact hr
    subst hr0
    rw [← hr]
    have h7 : ¬ (s0 + 1 ≤ a + (m - 1)) := fun hle => by
      have h5 := Dn_mono l i (n := 0 + (s0 + 1)) (m := a + (m - 1)) (by omega)
      omega
    omega
/-- Behind a stretch. -/
theorem Wk_snoc_same {p : List Sl} {x : Sl} {i : Nat} (h : x.task = (i : Int)) : Wk (p ++ [x]) i = Wk p i + (x.to - x.fr) := by rw [Wk_app, Wk_one, if_pos h]
theorem Wk_snoc_other {p : List Sl} {x : Sl} {i j : Nat} (h : x.task = (i : Int)) (hj : j ≠ i) : Wk (p ++ [x]) j = Wk p j := by rw [Wk_app, Wk_one, if_neg (by omega)]; omega
theorem step_full {a c d : Int} (hc : 1 ≤ c) (h : a % c + d = c) : (a + d) / c = a / c + 1 ∧ (a + d) % c = 0 := by
  have h1 := div_at (c := c) (D := a) hc
  rw [show a + d = a + (c - a % c) by omega]
  exact h1
theorem step_part {a c d : Int} (hc : 1 ≤ c) (hd : 0 ≤ d) (h : a % c + d < c) : (a + d) / c = a / c ∧ (a + d) % c = a % c + d := div_in hc hd (by omega)
/-- What has to be done by the end is done. -/
theorem done_all {l : List Tk} (ho : Oks l) (hf : ∀ i, i < l.length → (rep l i).isSome = true) {i : Nat} (hi : i < l.length) {u k : Nat} (h : (tk l i).off + k * (tk l i).per + repV l i ≤ u) : (k : Int) < Wk (doc l u).2 i / (tk l i).cost := by
  have ht := tk_ok ho hi
  obtain ⟨s0, hs0⟩ := Option.isSome_iff_exists.1 (hf i hi)
  have hrv : repV l i = (s0 : Int) + 1 := by simp [repV, hs0]
  have hkp : 0 ≤ (k : Int) * (tk l i).per := Int.mul_nonneg (by omega) (by omega)
  obtain ⟨r, hr⟩ : ∃ r : Nat, (r : Int) = (tk l i).off + k * (tk l i).per := ⟨((tk l i).off + k * (tk l i).per).toNat, by omega⟩
  have hm := meet ho hi hs0 k r hr
  have h5 := Dn_mono l i (n := r + (s0 + 1)) (m := u) (by omega)
  rw [(doc_gd l u).W i]
  have h6 : (k : Int) + 1 ≤ Dn l u i / (tk l i).cost := (Int.le_ediv_iff_mul_le (by omega)).2 (by omega)
  omega
end Go.Proofs.Ytholmeebkgpjjaa
