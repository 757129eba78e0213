/- One of two is active: plain. -/
import Derived.Test.YtnklkhcldcljaaaM
import Derived.Test.YtnklkhcldcljaaaG
namespace Go.Proofs.Ytnklkhcldcljaaa
open Go.RowKit
set_option linter.unusedVariables false
set_option linter.unusedSimpArgs false

/-- A side by its numbers. -/
structure Sn where
  ac : Bool
  te : Nat
  cy : Nat
  si : Nat
structure Bn where
  fr : Nat
  te : Nat
  cy : Nat
def sdOf (k pt : Nat) (s : Sn) : Sd := ⟨(k : Int), s.ac, (s.te : Int), (s.cy : Int), im2 s.cy, (s.si : Int), (pt : Int)⟩
def btOf (b : Bn) : Bt := ⟨(b.fr : Int), (b.te : Int), (b.cy : Int), im2 b.cy⟩
def oldN (k : Nat) (s : Sn) (b : Bn) : Bool := if b.te = s.te then (if s.ac then decide (k = 0) else decide (b.cy < s.cy)) else decide (b.te < s.te)
def beatN (k : Nat) (s : Sn) (b : Bn) : Nat := if b.fr = k then 6 else if oldN k s b then 18 else 0
def hearN (k : Nat) (s : Sn) (b : Bn) : Sn := if beatN k s b = 0 then ⟨false, b.te, b.cy, 0⟩ else s
def waitN (pt : Nat) (s : Sn) : Sn := if s.ac then s else if s.si + 1 < pt then ⟨false, s.te, s.cy, s.si + 1⟩ else ⟨true, s.te + 1, s.cy, 0⟩
def doneN (s : Sn) : Sn := ⟨s.ac, s.te, s.cy + 1, s.si⟩
/-- A side as it may be, by its numbers. -/
def OkN (pt N : Nat) (s : Sn) : Prop := s.te ≤ N ∧ s.cy ≤ N ∧ s.si < pt ∧ (s.ac = true → s.si = 0)
theorem can_sd {k pt N : Nat} {s : Sn} (hk : k < 2) (hp : 1 ≤ pt ∧ pt ≤ 4) (h : OkN pt N s) (hN : N ≤ 1000) : canS (sdOf k pt s) = true := by
  obtain ⟨h1, h2, h3, h4⟩ := h
  refine (canS_iff _).2 ⟨?_, ?_, ?_, ?_, ?_⟩
  · simp only [progB, Bool.and_eq_true, wi_iff, decide_eq_true_eq]
    exact ⟨by show (0 : Int) ≤ (k : Int) ∧ (k : Int) ≤ 1; omega, by show (0 : Int) ≤ (s.te : Int) ∧ (s.te : Int) ≤ 1000000; omega, by show (0 : Int) ≤ (s.cy : Int) ∧ (s.cy : Int) ≤ 999999999; omega, by show 2 ≤ 20000; omega⟩
  · show (1 : Int) ≤ (pt : Int) ∧ (pt : Int) ≤ 1000; omega
  · show (0 : Int) ≤ (s.si : Int); omega
  · show (s.si : Int) < (pt : Int); omega
  · intro ha
    show (s.si : Int) = 0
    have := h4 ha
    omega
theorem st_yes {L R : Sd} {E : Nat} (h : canS L = true) : stE L E = E ∧ (E = 0 → stS L E R = R) ∧ (E ≠ 0 → stS L E R = L) := by
  unfold stE stS
  rw [h]
  refine ⟨rfl, fun e => ?_, fun e => ?_⟩
  · rw [if_pos rfl, if_pos e]
  · rw [if_pos rfl, if_neg e]
theorem start_is {k pt : Nat} (hk : k < 2) (hp : 1 ≤ pt ∧ pt ≤ 4) : startE (k : Int) (pt : Int) (im2 0).length = 0 ∧ startS (k : Int) (pt : Int) (im2 0) = sdOf k pt ⟨decide (k = 0), 0, 0, 0⟩ := by
  have h : startE (k : Int) (pt : Int) (im2 0).length = 0 := by
    unfold startE
    rw [wi_yes (by omega) (by omega), wi_yes (by omega) (by omega)]
    rfl
  refine ⟨h, ?_⟩
  unfold startS
  rw [if_pos h]
  have : decide ((k : Int) = 0) = decide (k = 0) := by
    by_cases h0 : k = 0
    · subst h0; rfl
    · rw [decide_eq_false h0, decide_eq_false (by omega)]
  rw [this]
  rfl
theorem done_is {k pt N : Nat} {s : Sn} (hk : k < 2) (hp : 1 ≤ pt ∧ pt ≤ 4) (h : OkN pt N s) (hN : N ≤ 1000) (ha : s.ac = true) :
    stE (sdOf k pt s) (doneE (sdOf k pt s) (im2 (s.cy + 1)).length) = 0 ∧ stS (sdOf k pt s) (doneE (sdOf k pt s) (im2 (s.cy + 1)).length) (doneS (sdOf k pt s) (im2 (s.cy + 1))) = sdOf k pt (doneN s) := by
  have hE : doneE (sdOf k pt s) (im2 (s.cy + 1)).length = 0 := by
    show (if s.ac = true then (if 2 ≤ 20000 then (if (s.cy : Int) = 999999999 then 14 else 0) else 4) else 18) = 0
    have hk' : ¬ (s.cy : Int) = 999999999 := by have := h.2.1; omega
    simp [hk', ha]
  rw [hE]
  obtain ⟨a, b, _⟩ := st_yes (R := doneS (sdOf k pt s) (im2 (s.cy + 1))) (E := 0) (can_sd hk hp h hN)
  refine ⟨a, (b rfl).trans ?_⟩
  have : ((s.cy + 1 : Nat) : Int) = (s.cy : Int) + 1 := by omega
  show (⟨(k : Int), s.ac, (s.te : Int), (s.cy : Int) + 1, im2 (s.cy + 1), (s.si : Int), (pt : Int)⟩ : Sd) = ⟨(k : Int), s.ac, (s.te : Int), ((s.cy + 1 : Nat) : Int), im2 (s.cy + 1), (s.si : Int), (pt : Int)⟩
  rw [this]
theorem send_yes {k pt N : Nat} {s : Sn} (hk : k < 2) (hp : 1 ≤ pt ∧ pt ≤ 4) (h : OkN pt N s) (hN : N ≤ 1000) (ha : s.ac = true) :
    stE (sdOf k pt s) (sendE (sdOf k pt s)) = 0 ∧ sendB (sdOf k pt s) = btOf ⟨k, s.te, s.cy⟩ := by
  have hE : sendE (sdOf k pt s) = 0 := by
    show (if s.ac = true then 0 else 18) = 0
    rw [if_pos ha]
  have h1 : stE (sdOf k pt s) (sendE (sdOf k pt s)) = 0 := by
    rw [hE]
    exact (st_yes (R := sdOf k pt s) (can_sd hk hp h hN)).1
  refine ⟨h1, ?_⟩
  unfold sendB
  rw [if_pos h1]
  rfl
theorem send_no {k pt N : Nat} {s : Sn} (hk : k < 2) (hp : 1 ≤ pt ∧ pt ≤ 4) (h : OkN pt N s) (hN : N ≤ 1000) (ha : s.ac = false) :
    stE (sdOf k pt s) (sendE (sdOf k pt s)) = 18 ∧ sendB (sdOf k pt s) = zeroB := by
  have hE : sendE (sdOf k pt s) = 18 := by
    show (if s.ac = true then 0 else 18) = 18
    rw [ha]
    rfl
  have h1 : stE (sdOf k pt s) (sendE (sdOf k pt s)) = 18 := by
    rw [hE]
    exact (st_yes (R := sdOf k pt s) (can_sd hk hp h hN)).1
  refine ⟨h1, ?_⟩
  unfold sendB
  rw [if_neg (by rw [h1]; decide)]
theorem beat_is {k pt : Nat} {s : Sn} {b : Bn} (hk : k < 2) (hf : b.fr < 2) (ht : b.te ≤ 1000) (hc : b.cy ≤ 1000) : beatE (sdOf k pt s) (btOf b) = beatN k s b := by
  have hb : canB (btOf b) = true := by
    unfold canB progB
    simp only [Bool.and_eq_true, wi_iff, decide_eq_true_eq]
    exact ⟨by show (0 : Int) ≤ (b.fr : Int) ∧ (b.fr : Int) ≤ 1; omega, by show (0 : Int) ≤ (b.te : Int) ∧ (b.te : Int) ≤ 1000000; omega, by show (0 : Int) ≤ (b.cy : Int) ∧ (b.cy : Int) ≤ 999999999; omega, by show 2 ≤ 20000; omega⟩
  have ho : oldB (sdOf k pt s) (btOf b) = oldN k s b := by
    show (if (b.te : Int) = (s.te : Int) then (if s.ac = true then decide ((k : Int) = 0) else decide ((b.cy : Int) < (s.cy : Int))) else decide ((b.te : Int) < (s.te : Int))) = _
    unfold oldN
    have e1 : ((b.te : Int) = (s.te : Int)) ↔ b.te = s.te := by omega
    have e2 : decide ((k : Int) = 0) = decide (k = 0) := by
      by_cases h0 : k = 0
      · subst h0; rfl
      · rw [decide_eq_false h0, decide_eq_false (by omega)]
    have e3 : decide ((b.cy : Int) < (s.cy : Int)) = decide (b.cy < s.cy) := by
      by_cases h0 : b.cy < s.cy
      · rw [decide_eq_true h0, decide_eq_true (by omega)]
      · rw [decide_eq_false h0, decide_eq_false (by omega)]
    have e4 : decide ((b.te : Int) < (s.te : Int)) = decide (b.te < s.te) := by
      by_cases h0 : b.te < s.te
      · rw [decide_eq_true h0, decide_eq_true (by omega)]
      · rw [decide_eq_false h0, decide_eq_false (by omega)]
    simp only [e1, e2, e3, e4]
  unfold beatE beatN
  rw [hb, ho, if_pos rfl]
  have e5 : ((btOf b).fr = (sdOf k pt s).me) ↔ b.fr = k := by
    show (b.fr : Int) = (k : Int) ↔ _
    omega
  simp only [e5]
theorem hear_is {k pt N : Nat} {s : Sn} {b : Bn} (hk : k < 2) (hp : 1 ≤ pt ∧ pt ≤ 4) (h : OkN pt N s) (hN : N ≤ 1000) (hf : b.fr < 2) (ht : b.te ≤ 1000) (hc : b.cy ≤ 1000) :
    stE (sdOf k pt s) (beatE (sdOf k pt s) (btOf b)) = beatN k s b ∧ stS (sdOf k pt s) (beatE (sdOf k pt s) (btOf b)) (hearS (sdOf k pt s) (btOf b)) = sdOf k pt (hearN k s b) := by
  rw [beat_is hk hf ht hc]
  obtain ⟨a, b1, b2⟩ := st_yes (R := hearS (sdOf k pt s) (btOf b)) (E := beatN k s b) (can_sd hk hp h hN)
  refine ⟨a, ?_⟩
  unfold hearN
  by_cases hE : beatN k s b = 0
  · rw [if_pos hE, b1 hE]
    rfl
  · rw [if_neg hE, b2 hE]
theorem wait_is {k pt N : Nat} {s : Sn} (hk : k < 2) (hp : 1 ≤ pt ∧ pt ≤ 4) (h : OkN pt N s) (hN : N ≤ 1000) : stE (sdOf k pt s) (waitE (sdOf k pt s)) = 0 ∧ stS (sdOf k pt s) (waitE (sdOf k pt s)) (waitS (sdOf k pt s)) = sdOf k pt (waitN pt s) := by
  have hE : waitE (sdOf k pt s) = 0 := by
    show (if s.ac = true then 0 else if (s.si : Int) + 1 < (pt : Int) then 0 else if (s.te : Int) = 1000000 then 14 else 0) = 0
    have hk' : ¬ (s.te : Int) = 1000000 := by have := h.1; omega
    simp [hk']
  rw [hE]
  obtain ⟨a, b, _⟩ := st_yes (R := waitS (sdOf k pt s)) (E := 0) (can_sd hk hp h hN)
  refine ⟨a, (b rfl).trans ?_⟩
  show (if s.ac = true then sdOf k pt s else if (s.si : Int) + 1 < (pt : Int) then (⟨(k : Int), s.ac, (s.te : Int), (s.cy : Int), im2 s.cy, (s.si : Int) + 1, (pt : Int)⟩ : Sd) else ⟨(k : Int), true, (s.te : Int) + 1, (s.cy : Int), im2 s.cy, 0, (pt : Int)⟩) = _
  unfold waitN
  cases hac : s.ac with
  | true => rfl
  | false =>
    simp only [Bool.false_eq_true, if_false]
    by_cases h1 : s.si + 1 < pt
    · rw [if_pos h1, if_pos (by omega)]
      rfl
    · rw [if_neg h1, if_neg (by omega)]
      rfl

/-- What holds of two sides and of all beats that were sent. -/
structure Good (N pt : Nat) (s : Nat → Sn) (bs : List Bn) : Prop where
  ok : ∀ k, k < 2 → OkN pt N (s k)
  par : ∀ k, k < 2 → (s k).te % 2 = if (s k).ac then k else 1 - k
  pas : ∀ k, k < 2 → (s k).ac = false → (s k).te ≤ (s (1 - k)).te
  one : (s 0).ac = true ∨ (s 1).ac = true
  bt : ∀ b ∈ bs, b.fr < 2 ∧ b.te % 2 = b.fr ∧ b.te ≤ (s b.fr).te ∧ b.te ≤ N ∧ b.cy ≤ N
def upN {α : Type} (s : Nat → α) (k : Nat) (x : α) : Nat → α := fun j => if j = k then x else s j
/-- No side goes back. -/
def Mo (s s' : Nat → Sn) : Prop := ∀ k, k < 2 → (s k).te < (s' k).te ∨ ((s k).te = (s' k).te ∧ (s k).cy ≤ (s' k).cy)
theorem Mo.refl (s : Nat → Sn) : Mo s s := fun k _ => .inr ⟨rfl, Nat.le_refl _⟩
theorem Mo.trans {s t u : Nat → Sn} (h : Mo s t) (k : Mo t u) : Mo s u := fun j hj => by
  have h1 := h j hj
  have h2 := k j hj
  omega
theorem up_same {α : Type} (s : Nat → α) (k : Nat) (x : α) : upN s k x k = x := if_pos rfl
theorem up_ne {α : Type} (s : Nat → α) {k j : Nat} (x : α) (h : j ≠ k) : upN s k x j = s j := if_neg h
theorem Good.mono {N M pt : Nat} {s : Nat → Sn} {bs : List Bn} (h : Good N pt s bs) (hN : N ≤ M) : Good M pt s bs :=
  ⟨fun k hk => by obtain ⟨a, b, c, d⟩ := h.ok k hk; exact ⟨by omega, by omega, c, d⟩, h.par, h.pas, h.one, fun b hb => by obtain ⟨x1, x2, x3, x4, x5⟩ := h.bt b hb; exact ⟨x1, x2, x3, by omega, by omega⟩⟩
theorem Good.start {pt : Nat} (hp : 1 ≤ pt) : Good 0 pt (fun k => ⟨decide (k = 0), 0, 0, 0⟩) [] := by
  refine ⟨fun k hk => ⟨Nat.le_refl _, Nat.le_refl _, by show 0 < pt; omega, fun _ => rfl⟩, fun k hk => ?_, fun k hk _ => Nat.le_refl _, .inl rfl, fun b hb => by cases hb⟩
  have : k = 0 ∨ k = 1 := by omega
  rcases this with rfl | rfl <;> rfl
theorem two_cases {k : Nat} (h : k < 2) : k = 0 ∨ k = 1 := by omega
theorem Good.done {N pt k : Nat} {s : Nat → Sn} {bs : List Bn} (h : Good N pt s bs) (hk : k < 2) (ha : (s k).ac = true) : Good (N + 1) pt (upN s k (doneN (s k))) bs ∧ Mo s (upN s k (doneN (s k))) := by
  have hs : ∀ j, (upN s k (doneN (s k)) j).ac = (s j).ac ∧ (upN s k (doneN (s k)) j).te = (s j).te ∧ (s j).cy ≤ (upN s k (doneN (s k)) j).cy ∧ (upN s k (doneN (s k)) j).cy ≤ (s j).cy + 1 ∧ (upN s k (doneN (s k)) j).si = (s j).si := fun j => by
    unfold upN
    split
    · rename_i e; subst e; exact ⟨rfl, rfl, Nat.le_succ _, Nat.le_refl _, rfl⟩
    · exact ⟨rfl, rfl, Nat.le_refl _, Nat.le_succ _, rfl⟩
  refine ⟨⟨fun j hj => ?_, fun j hj => ?_, fun j hj => ?_, ?_, fun b hb => ?_⟩, fun j hj => ?_⟩
  · obtain ⟨a1, a2, a3, a4, a5⟩ := hs j
    obtain ⟨b1, b2, b3, b4⟩ := h.ok j hj
    exact ⟨by omega, by omega, by omega, fun e => by rw [a5]; exact b4 (by rw [← a1]; exact e)⟩
  · rw [(hs j).1, (hs j).2.1]; exact h.par j hj
  · rw [(hs j).1, (hs j).2.1, (hs (1 - j)).2.1]; exact h.pas j hj
  · rw [(hs 0).1, (hs 1).1]; exact h.one
  · obtain ⟨x1, x2, x3, x4, x5⟩ := h.bt b hb
    exact ⟨x1, x2, by rw [(hs b.fr).2.1]; exact x3, by omega, by omega⟩
  · right
    exact ⟨(hs j).2.1.symm, (hs j).2.2.1⟩
theorem Good.say {N pt k : Nat} {s : Nat → Sn} {bs : List Bn} (h : Good N pt s bs) (hk : k < 2) (ha : (s k).ac = true) : Good N pt s (bs ++ [⟨k, (s k).te, (s k).cy⟩]) := by
  refine ⟨h.ok, h.par, h.pas, h.one, fun b hb => ?_⟩
  rcases List.mem_append.1 hb with hb | hb
  · exact h.bt b hb
  · rw [List.mem_singleton] at hb
    subst hb
    have hp := h.par k hk
    rw [if_pos ha] at hp
    exact ⟨hk, hp, Nat.le_refl _, (h.ok k hk).1, (h.ok k hk).2.1⟩
theorem hearN_no {k : Nat} {s : Sn} {b : Bn} (h : beatN k s b ≠ 0) : hearN k s b = s := if_neg h
theorem hearN_yes {k : Nat} {s : Sn} {b : Bn} (h : beatN k s b = 0) : hearN k s b = ⟨false, b.te, b.cy, 0⟩ := if_pos h
theorem beatN_zero {k : Nat} {s : Sn} {b : Bn} (h : beatN k s b = 0) : b.fr ≠ k ∧ oldN k s b = false := by
  unfold beatN at h
  split at h
  · cases h
  · rename_i e
    refine ⟨e, ?_⟩
    split at h
    · cases h
    · rename_i e2; simpa using e2
theorem up_self {α : Type} (s : Nat → α) (k : Nat) : upN s k (s k) = s := by
  funext j
  unfold upN
  split
  · rename_i e; rw [e]
  · rfl
theorem Good.hear {N pt k : Nat} {s : Nat → Sn} {bs : List Bn} {b : Bn} (h : Good N pt s bs) (hp : 1 ≤ pt) (hk : k < 2) (hb : b ∈ bs) : Good N pt (upN s k (hearN k (s k) b)) bs ∧ Mo s (upN s k (hearN k (s k) b)) := by
  by_cases hE : beatN k (s k) b = 0
  case neg =>
    rw [hearN_no hE, up_self]
    exact ⟨h, Mo.refl _⟩
  rw [hearN_yes hE]
  obtain ⟨hf, ho⟩ := beatN_zero hE
  obtain ⟨x1, x2, x3, x4, x5⟩ := h.bt b hb
  have hfr : b.fr = 1 - k := by omega
  have hpk := h.par k hk
  -- what the beat's age says
  have hage : (s k).te < b.te ∨ ((s k).te = b.te ∧ (s k).ac = false ∧ (s k).cy ≤ b.cy) := by
    unfold oldN at ho
    by_cases e : b.te = (s k).te
    · rw [if_pos e] at ho
      cases hac : (s k).ac with
      | true =>
        rw [hac, if_pos rfl] at hpk
        omega
      | false =>
        rw [hac, if_neg (by decide)] at ho
        have := of_decide_eq_false ho
        exact .inr ⟨e.symm, rfl, by omega⟩
    · rw [if_neg e] at ho
      have := of_decide_eq_false ho
      omega
  have hoth : (1 - k) ≠ k := by omega
  rw [hfr] at x3 x2
  refine ⟨⟨fun j hj => ?_, fun j hj => ?_, fun j hj => ?_, ?_, fun c hc => ?_⟩, fun j hj => ?_⟩
  · by_cases e : j = k
    · subst e; rw [up_same]; exact ⟨x4, x5, by show 0 < pt; omega, fun _ => rfl⟩
    · rw [up_ne _ _ e]; exact h.ok j hj
  · by_cases e : j = k
    · subst e; rw [up_same]; exact x2
    · rw [up_ne _ _ e]; exact h.par j hj
  · by_cases e : j = k
    · subst e
      rw [up_same, up_ne _ _ hoth]
      intro _
      exact x3
    · have ej : j = 1 - k := by omega
      have e1 : 1 - j = k := by omega
      rw [up_ne _ _ e, e1, up_same]
      intro ha
      have := h.pas j hj ha
      rw [e1] at this
      show (s j).te ≤ b.te
      omega
  · -- the other one is active
    have hact : (s (1 - k)).ac = true := by
      cases hac : (s (1 - k)).ac with
      | true => rfl
      | false =>
        exfalso
        have h1 := h.pas (1 - k) (by omega) hac
        have e1 : 1 - (1 - k) = k := by omega
        rw [e1] at h1
        rcases hage with h2 | ⟨h2, h3, _⟩
        · omega
        · have := h.one
          rcases two_cases hk with e | e
          · rw [e] at h3 hac
            simp at hac
            rw [h3, hac] at this
            simp at this
          · rw [e] at h3 hac
            simp at hac
            rw [h3, hac] at this
            simp at this
    rcases two_cases hk with e | e
    · right
      rw [up_ne _ _ (by omega)]
      rw [e] at hact
      exact hact
    · left
      rw [up_ne _ _ (by omega)]
      rw [e] at hact
      exact hact
  · obtain ⟨y1, y2, y3, y4, y5⟩ := h.bt c hc
    refine ⟨y1, y2, ?_, y4, y5⟩
    by_cases e : c.fr = k
    · rw [e, up_same]
      rw [e] at y3
      show c.te ≤ b.te
      omega
    · rw [up_ne _ _ e]; exact y3
  · by_cases e : j = k
    · subst e
      rw [up_same]
      rcases hage with h2 | ⟨h2, _, h3⟩
      · exact .inl h2
      · exact .inr ⟨h2, h3⟩
    · rw [up_ne _ _ e]
      exact .inr ⟨rfl, Nat.le_refl _⟩
theorem Good.wait {N pt k : Nat} {s : Nat → Sn} {bs : List Bn} (h : Good N pt s bs) (hp : 1 ≤ pt) (hk : k < 2) : Good (N + 1) pt (upN s k (waitN pt (s k))) bs ∧ Mo s (upN s k (waitN pt (s k))) := by
  cases hac : (s k).ac with
  | true =>
    have : waitN pt (s k) = s k := by unfold waitN; rw [if_pos hac]
    rw [this, up_self]
    exact ⟨h.mono (Nat.le_succ _), Mo.refl _⟩
  | false =>
  obtain ⟨o1, o2, o3, o4⟩ := h.ok k hk
  have hpk := h.par k hk
  have hps := h.pas k hk hac
  rw [hac, if_neg (by decide)] at hpk
  have hone : (s (1 - k)).ac = true := by
    have := h.one
    rcases two_cases hk with e | e
    · subst e; rw [hac] at this; simpa using this
    · subst e; rw [hac] at this; simpa using this
  have hoth : (1 - k) ≠ k := by omega
  have hte : (s k).te ≤ (waitN pt (s k)).te ∧ (waitN pt (s k)).te ≤ (s k).te + 1 ∧ (waitN pt (s k)).cy = (s k).cy ∧ (waitN pt (s k)).si < pt ∧ ((waitN pt (s k)).ac = true → (waitN pt (s k)).si = 0) ∧ ((waitN pt (s k)).ac = false → (waitN pt (s k)).te = (s k).te) ∧ ((waitN pt (s k)).te % 2 = if (waitN pt (s k)).ac then k else 1 - k) := by
    unfold waitN
    rw [hac, if_neg (by decide)]
    split
    · rename_i e
      exact ⟨Nat.le_refl _, Nat.le_succ _, rfl, e, (fun h => by cases h), fun _ => rfl, hpk⟩
    · refine ⟨Nat.le_succ _, Nat.le_refl _, rfl, by show 0 < pt; omega, fun _ => rfl, (fun h => by cases h), ?_⟩
      show ((s k).te + 1) % 2 = if true = true then k else 1 - k
      rw [if_pos rfl]
      omega
  generalize waitN pt (s k) = x at *
  obtain ⟨t1, t2, t3, t4, t5, t6, t7⟩ := hte
  refine ⟨⟨fun j hj => ?_, fun j hj => ?_, fun j hj => ?_, ?_, fun c hc => ?_⟩, fun j hj => ?_⟩
  · by_cases e : j = k
    · subst e; rw [up_same]; exact ⟨by omega, by omega, t4, t5⟩
    · rw [up_ne _ _ e]; obtain ⟨a, b, c, d⟩ := h.ok j hj; exact ⟨by omega, by omega, c, d⟩
  · by_cases e : j = k
    · subst e; rw [up_same]; exact t7
    · rw [up_ne _ _ e]; exact h.par j hj
  · by_cases e : j = k
    · subst e
      rw [up_same, up_ne _ _ hoth]
      intro ha
      rw [t6 ha]
      exact hps
    · have ej : j = 1 - k := by omega
      rw [up_ne _ _ e, ej]
      intro ha
      rw [hone] at ha
      cases ha
  · rcases two_cases hk with e | e
    · right; rw [up_ne _ _ (by omega)]; rw [e] at hone; exact hone
    · left; rw [up_ne _ _ (by omega)]; rw [e] at hone; exact hone
  · obtain ⟨y1, y2, y3, y4, y5⟩ := h.bt c hc
    refine ⟨y1, y2, ?_, by omega, by omega⟩
    by_cases e : c.fr = k
    · rw [e, up_same]
      rw [e] at y3
      omega
    · rw [up_ne _ _ e]; exact y3
  · by_cases e : j = k
    · subst e
      rw [up_same]
      omega
    · rw [up_ne _ _ e]
      exact .inr ⟨rfl, Nat.le_refl _⟩
end Go.Proofs.Ytnklkhcldcljaaa
