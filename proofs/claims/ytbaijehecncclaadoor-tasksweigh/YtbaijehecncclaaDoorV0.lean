/- Plain facts on texts of instructions: loops that are looked at pair by pair, and loops that are gone through with a stack, are the same; no program in sight. -/
namespace Go.Proofs.YtbaijehecncclaaDoor

/-- An instruction. -/
structure Ins where
  d : Int
  a : Int
  b : Int
  c : Int

def nth (t : List Ins) (i : Nat) : Ins := (t[i]?).getD ⟨0, 0, 0, 0⟩
def isE (t : List Ins) (i : Nat) : Bool := (nth t i).d == 13
def isR (t : List Ins) (i : Nat) : Bool := (nth t i).d == 14
/-- A Round that goes back to a place. -/
def goes (f : Int) (x : Ins) : Bool := x.d == 14 && x.b == f
/-- The first Round that goes back to a place (the length: there is none). -/
def rnd (t : List Ins) (f : Nat) : Nat := t.findIdx (goes f)
/-- How many of the first k are Rounds that go to a place. -/
def cnt (t : List Ins) (k : Nat) (f : Nat) : Nat := (t.take k).countP (goes f)

theorem nth_of_lt {t : List Ins} {i : Nat} (h : i < t.length) : nth t i = t[i] := by simp [nth, h]
theorem nth_of_ge {t : List Ins} {i : Nat} (h : t.length ≤ i) : nth t i = ⟨0, 0, 0, 0⟩ := by simp [nth, h]
theorem isR_lt {t : List Ins} {i : Nat} (h : isR t i = true) : i < t.length := by
  apply Classical.byContradiction
  intro hn
  rw [isR, nth_of_ge (by omega)] at h
  simp at h
theorem isE_lt {t : List Ins} {i : Nat} (h : isE t i = true) : i < t.length := by
  apply Classical.byContradiction
  intro hn
  rw [isE, nth_of_ge (by omega)] at h
  simp at h
theorem isE_notR {t : List Ins} {i : Nat} (h : isE t i = true) : isR t i = false := by
  simp [isE, isR] at h ⊢; omega
theorem goes_at {t : List Ins} {i : Nat} {f : Int} : goes f (nth t i) = true ↔ isR t i = true ∧ (nth t i).b = f := by
  simp [goes, isR]

/-- What the program asks of Rounds and Enters. -/
structure RdOk (t : List Ins) : Prop where
  rounds : ∀ i, isR t i = true → 1 ≤ (nth t i).b ∧ (nth t i).b ≤ i ∧ isE t ((nth t i).b - 1).toNat = true ∧ (nth t ((nth t i).b - 1).toNat).a = (nth t i).a
  enters : ∀ i, isE t i = true → cnt t t.length (i + 1) = 1

/-- What the document's answer asks of them, where each Round goes back. -/
structure LpOk (t : List Ins) : Prop where
  enters : ∀ i, isE t i = true → rnd t (i + 1) < t.length ∧ i + 1 ≤ rnd t (i + 1) ∧ (nth t (rnd t (i + 1))).a = (nth t i).a
  same : t.countP (fun x => x.d == 14) = t.countP (fun x => x.d == 13)

theorem rd_le (t : List Ins) (f : Nat) : rnd t f ≤ t.length := List.findIdx_le_length
theorem rd_goes {t : List Ins} {f : Nat} (h : rnd t f < t.length) : isR t (rnd t f) = true ∧ (nth t (rnd t f)).b = f := by
  rw [← goes_at, nth_of_lt h]
  exact List.findIdx_getElem (w := h)
theorem rd_first {t : List Ins} {f i : Nat} (h : i < rnd t f) : ¬ (isR t i = true ∧ (nth t i).b = f) := by
  rw [← goes_at, nth_of_lt (Nat.lt_of_lt_of_le h (rd_le t f))]
  have := List.not_of_lt_findIdx h
  simpa using this
theorem rd_min {t : List Ins} {f i : Nat} (h : isR t i = true) (hb : (nth t i).b = f) : rnd t f ≤ i := by
  apply Classical.byContradiction
  intro hn
  exact rd_first (by omega) ⟨h, hb⟩

theorem cnt_succ (t : List Ins) (k f : Nat) (hk : k < t.length) : cnt t (k + 1) f = cnt t k f + (if goes f (nth t k) then 1 else 0) := by
  unfold cnt
  rw [List.take_add_one, List.countP_append, nth_of_lt hk]
  simp [hk, List.countP_cons]

theorem cnt_mono (t : List Ins) (f k m : Nat) (h : k ≤ m) : cnt t k f ≤ cnt t m f := by
  unfold cnt
  exact List.Sublist.countP_le (List.take_sublist_take_left h)

theorem cnt_full (t : List Ins) (f : Nat) : cnt t t.length f = t.countP (goes f) := by simp [cnt]

/-- Where it is counted once, only one Round goes there. -/
theorem cnt_one {t : List Ins} {f i j : Nat} (h : cnt t t.length f = 1) (hi : isR t i = true ∧ (nth t i).b = f) (hj : isR t j = true ∧ (nth t j).b = f) : i = j := by
  have key : ∀ i j, i < j → isR t i = true ∧ (nth t i).b = f → isR t j = true ∧ (nth t j).b = f → False := by
    intro i j hij hi hj
    have a1 := cnt_succ t i f (isR_lt hi.1)
    have a2 := cnt_succ t j f (isR_lt hj.1)
    rw [if_pos (goes_at.2 hi)] at a1
    rw [if_pos (goes_at.2 hj)] at a2
    have b1 := cnt_mono t f (i + 1) j (by omega)
    have b2 := cnt_mono t f (j + 1) t.length (isR_lt hj.1)
    omega
  rcases Nat.lt_trichotomy i j with h1 | h1 | h1
  · exact (key i j h1 hi hj).elim
  · exact h1
  · exact (key j i h1 hj hi).elim

theorem cnt_pos {t : List Ins} {f : Nat} : 0 < cnt t t.length f ↔ rnd t f < t.length := by
  rw [cnt_full, List.countP_pos_iff, rnd, List.findIdx_lt_length]

/-- Sums of lists of numbers. -/
def sumTo (g : Nat → Nat) : Nat → Nat
  | 0 => 0
  | n + 1 => sumTo g n + g n
theorem sumTo_add (g h : Nat → Nat) (n : Nat) : sumTo (fun i => g i + h i) n = sumTo g n + sumTo h n := by
  induction n with
  | zero => rfl
  | succ n ih => simp only [sumTo, ih]; omega
theorem sumTo_one (n j : Nat) (h : j < n) : sumTo (fun i => if j = i then 1 else 0) n = 1 := by
  have z : ∀ m, m ≤ j → sumTo (fun i => if j = i then 1 else 0) m = 0 := by
    intro m
    induction m with
    | zero => intro _; rfl
    | succ m ih => intro hm; simp only [sumTo]; rw [ih (by omega), if_neg (by omega)]
  induction n with
  | zero => omega
  | succ n ih =>
    simp only [sumTo]
    by_cases hj : j = n
    · rw [z n (by omega), if_pos hj]
    · rw [ih (by omega), if_neg hj]
theorem sumTo_le {g h : Nat → Nat} (n : Nat) (hl : ∀ i, i < n → g i ≤ h i) : sumTo g n ≤ sumTo h n := by
  induction n with
  | zero => exact Nat.le_refl _
  | succ n ih => simp only [sumTo]; have := ih (fun i hi => hl i (by omega)); have := hl n (by omega); omega
theorem sumTo_eq {g h : Nat → Nat} (n : Nat) (hl : ∀ i, i < n → g i ≤ h i) (he : sumTo g n = sumTo h n) : ∀ i, i < n → g i = h i := by
  induction n with
  | zero => intro i hi; omega
  | succ n ih =>
    simp only [sumTo] at he
    have h1 := sumTo_le (g := g) (h := h) n (fun i hi => hl i (by omega))
    have h2 := hl n (by omega)
    intro i hi
    by_cases hn : i = n
    · subst hn; omega
    · exact ih (fun i hi => hl i (by omega)) (by omega) i (by omega)
theorem sumTo_congr {g h : Nat → Nat} (n : Nat) (hl : ∀ i, i < n → g i = h i) : sumTo g n = sumTo h n := by
  induction n with
  | zero => rfl
  | succ n ih => simp only [sumTo]; rw [ih (fun i hi => hl i (by omega)), hl n (by omega)]

theorem count_take (t : List Ins) (p : Ins → Bool) (k : Nat) (hk : k < t.length) : (t.take (k + 1)).countP p = (t.take k).countP p + (if p (nth t k) then 1 else 0) := by
  rw [List.take_add_one, List.countP_append, nth_of_lt hk]
  simp [hk, List.countP_cons]

theorem count_enters (t : List Ins) : t.countP (fun x => x.d == 13) = sumTo (fun i => if isE t i then 1 else 0) t.length := by
  have key : ∀ k, k ≤ t.length → (t.take k).countP (fun x => x.d == 13) = sumTo (fun i => if isE t i then 1 else 0) k := by
    intro k
    induction k with
    | zero => intro _; simp [sumTo]
    | succ k ih =>
      intro hk
      rw [count_take t _ k (by omega), ih (by omega)]
      rfl
  have := key t.length (Nat.le_refl _)
  simpa using this

theorem count_rounds (t : List Ins) (H : ∀ i, isR t i = true → 1 ≤ (nth t i).b ∧ (nth t i).b ≤ i) :
    t.countP (fun x => x.d == 14) = sumTo (fun i => cnt t t.length (i + 1)) t.length := by
  have key : ∀ k, k ≤ t.length → (t.take k).countP (fun x => x.d == 14) = sumTo (fun i => cnt t k (i + 1)) t.length := by
    intro k
    induction k with
    | zero =>
      intro _
      have : ∀ n, sumTo (fun _ => 0) n = 0 := by intro n; induction n with | zero => rfl | succ n ih => simp [sumTo, ih]
      simp [cnt, this]
    | succ k ih =>
      intro hk
      rw [count_take t _ k (by omega), ih (by omega)]
      rw [sumTo_congr (g := fun i => cnt t (k + 1) (i + 1)) t.length (fun i _ => cnt_succ t k (i + 1) (by omega)), sumTo_add]
      congr 1
      by_cases hr : isR t k = true
      · have hb := H k hr
        rw [sumTo_congr (h := fun i => if (((nth t k).b - 1).toNat) = i then 1 else 0)]
        · rw [sumTo_one _ _ (by omega), if_pos (by simpa [isR] using hr)]
        · intro i hi
          by_cases he : ((nth t k).b - 1).toNat = i
          · rw [if_pos he, if_pos (goes_at.2 ⟨hr, by omega⟩)]
          · rw [if_neg he, if_neg]
            intro hg
            have := (goes_at.1 hg).2
            omega
      · rw [if_neg (by simpa [isR] using hr)]
        have : ∀ n, sumTo (fun i => if goes ((i + 1 : Nat) : Int) (nth t k) = true then 1 else 0) n = 0 := by
          intro n
          induction n with
          | zero => rfl
          | succ n ih =>
            simp only [sumTo, ih]
            rw [if_neg]
            intro hg
            exact hr (goes_at.1 hg).1
        exact (this _).symm
  have := key t.length (Nat.le_refl _)
  simpa using this

/-- The two ask for the same, where each Round goes back. -/
theorem lp_rd (t : List Ins) : ((∀ i, isR t i = true → 1 ≤ (nth t i).b ∧ (nth t i).b ≤ i) ∧ LpOk t) ↔ RdOk t := by
  constructor
  · rintro ⟨H, h⟩
    have hs := h.same
    rw [count_rounds t H, count_enters t] at hs
    have hle : ∀ i, i < t.length → (if isE t i then 1 else 0) ≤ cnt t t.length (i + 1) := by
      intro i hi
      by_cases he : isE t i = true
      · rw [if_pos he]
        exact cnt_pos.2 (h.enters i he).1
      · rw [if_neg he]; omega
    have heq := sumTo_eq t.length hle hs.symm
    have hen : ∀ i, isE t i = true → cnt t t.length (i + 1) = 1 := by
      intro i he
      have := heq i (isE_lt he)
      rw [if_pos he] at this
      exact this.symm
    refine ⟨fun i hi => ?_, hen⟩
    obtain ⟨b1, b2⟩ := H i hi
    obtain ⟨f, hf⟩ : ∃ f : Nat, (nth t i).b = ((f + 1 : Nat) : Int) := ⟨((nth t i).b - 1).toNat, by omega⟩
    have hfi : ((nth t i).b - 1).toNat = f := by omega
    rw [hfi]
    have hlt := isR_lt hi
    have hpos : 0 < cnt t t.length (f + 1) := by
      have a1 := cnt_succ t i (f + 1) hlt
      rw [if_pos (goes_at.2 ⟨hi, hf⟩)] at a1
      have := cnt_mono t (f + 1) (i + 1) t.length hlt
      omega
    have he : isE t f = true := by
      apply Classical.byContradiction
      intro hn
      have := heq f (by omega)
      rw [if_neg hn] at this
      omega
    refine ⟨b1, b2, he, ?_⟩
    have hr := rd_goes (h.enters f he).1
    have := cnt_one (hen f he) hr ⟨hi, hf⟩
    rw [← this]
    exact (h.enters f he).2.2.symm
  · intro h
    have H : ∀ i, isR t i = true → 1 ≤ (nth t i).b ∧ (nth t i).b ≤ i := fun i hi => ⟨(h.rounds i hi).1, (h.rounds i hi).2.1⟩
    refine ⟨H, ?_, ?_⟩
    · intro i he
      have h1 : rnd t (i + 1) < t.length := cnt_pos.1 (by rw [h.enters i he]; omega)
      obtain ⟨r1, r2⟩ := rd_goes h1
      obtain ⟨c1, c2, c3, c4⟩ := h.rounds _ r1
      rw [r2] at c2 c4
      refine ⟨h1, by omega, ?_⟩
      have : ((((i + 1 : Nat) : Int)) - 1).toNat = i := by omega
      rw [this] at c4
      exact c4.symm
    · rw [count_rounds t H, count_enters t]
      apply sumTo_congr
      intro i hi
      by_cases he : isE t i = true
      · rw [if_pos he, h.enters i he]
      · rw [if_neg he]
        apply Classical.byContradiction
        intro hn
        have h1 : rnd t (i + 1) < t.length := cnt_pos.1 (by omega)
        obtain ⟨r1, r2⟩ := rd_goes h1
        obtain ⟨c1, c2, c3, c4⟩ := h.rounds _ r1
        rw [r2] at c3
        have : ((((i + 1 : Nat) : Int)) - 1).toNat = i := by omega
        rw [this] at c3
        exact he c3
end Go.Proofs.YtbaijehecncclaaDoor
