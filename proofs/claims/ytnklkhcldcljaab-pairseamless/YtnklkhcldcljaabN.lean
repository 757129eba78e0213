/- Two sides in their boxes; what each step makes of them, plain. -/
import Derived.Test.YtnklkhcldcljaabM
namespace Go.Proofs.Ytnklkhcldcljaab
open Go.RowKit
attribute [local go_sem ↓] Go.wp_at_zero Go.wp_at_succ
set_option linter.unusedVariables false
set_option linter.unusedSimpArgs false

theorem canS_of {L : Sd} (h1 : 0 ≤ L.me ∧ L.me ≤ 1) (h2 : 1 ≤ L.pa ∧ L.pa ≤ 1000) (h3 : 0 ≤ L.te ∧ L.te ≤ 1000000) (h4 : 0 ≤ L.cy ∧ L.cy ≤ 999999999) (h5 : L.im.length ≤ 20000) (h6 : 0 ≤ L.si) (h7 : L.si < L.pa) (h8 : L.ac = true → L.si = 0) : canS L = true := by
  unfold canS progB
  simp only [Bool.and_eq_true, wi_iff, decide_eq_true_eq]
  refine ⟨h1, h2, ⟨h3, h4, h5⟩, h6, ?_⟩
  split
  · rename_i k; rw [h8 k]; exact Int.le_refl _
  · omega
theorem st_yes {L R : Sd} (h : canS L = true) : stE L 0 = 0 ∧ stS L 0 R = R := by
  unfold stE stS
  rw [h]
  exact ⟨rfl, rfl⟩
theorem start_is {i : Int} {pt : Nat} (hi : 0 ≤ i ∧ i ≤ 1) (hp : 1 ≤ pt ∧ pt ≤ 20) : startE i (pt : Int) (im2 0).length = 0 ∧ startS i (pt : Int) (im2 0) = ⟨i, decide (i = 0), 0, 0, im2 0, 0, (pt : Int)⟩ := by
  have h : startE i (pt : Int) (im2 0).length = 0 := by
    unfold startE
    rw [wi_yes hi.1 hi.2, wi_yes (by omega) (by omega)]
    rfl
  refine ⟨h, ?_⟩
  unfold startS
  rw [if_pos h]
theorem done_is {me te : Int} {k pt : Nat} (hm : 0 ≤ me ∧ me ≤ 1) (ht : 0 ≤ te ∧ te ≤ 1000000) (hk : k ≤ 100000) (hp : 1 ≤ pt ∧ pt ≤ 20) :
    let L : Sd := ⟨me, true, te, (k : Int), im2 k, 0, (pt : Int)⟩
    stE L (doneE L (im2 (k + 1)).length) = 0 ∧ stS L (doneE L (im2 (k + 1)).length) (doneS L (im2 (k + 1))) = ⟨me, true, te, ((k + 1 : Nat) : Int), im2 (k + 1), 0, (pt : Int)⟩ := by
  intro L
  have hE : doneE L (im2 (k + 1)).length = 0 := by
    show (if true = true then (if 2 ≤ 20000 then (if (k : Int) = 999999999 then 14 else 0) else 4) else 18) = 0
    have hk' : ¬ (k : Int) = 999999999 := by omega
    simp [hk']
  rw [hE]
  have hc : canS L = true := canS_of hm ⟨by show (1 : Int) ≤ (pt : Int); omega, by show (pt : Int) ≤ 1000; omega⟩ ht ⟨by show (0 : Int) ≤ (k : Int); omega, by show (k : Int) ≤ 999999999; omega⟩ (by show 2 ≤ 20000; omega) (by show (0 : Int) ≤ 0; omega) (by show (0 : Int) < (pt : Int); omega) (fun _ => rfl)
  obtain ⟨a, b⟩ := st_yes (R := doneS L (im2 (k + 1))) hc
  refine ⟨a, b.trans ?_⟩
  show (⟨me, true, te, (k : Int) + 1, im2 (k + 1), 0, (pt : Int)⟩ : Sd) = _
  have : ((k + 1 : Nat) : Int) = (k : Int) + 1 := by omega
  rw [this]
theorem send_is {me te : Int} {k pt : Nat} (hm : 0 ≤ me ∧ me ≤ 1) (ht : 0 ≤ te ∧ te ≤ 1000000) (hk : k ≤ 100001) (hp : 1 ≤ pt ∧ pt ≤ 20) :
    let L : Sd := ⟨me, true, te, (k : Int), im2 k, 0, (pt : Int)⟩
    stE L (sendE L) = 0 ∧ sendB L = ⟨me, te, (k : Int), im2 k⟩ := by
  intro L
  have hc : canS L = true := canS_of hm ⟨by show (1 : Int) ≤ (pt : Int); omega, by show (pt : Int) ≤ 1000; omega⟩ ht ⟨by show (0 : Int) ≤ (k : Int); omega, by show (k : Int) ≤ 999999999; omega⟩ (by show 2 ≤ 20000; omega) (by show (0 : Int) ≤ 0; omega) (by show (0 : Int) < (pt : Int); omega) (fun _ => rfl)
  have h : stE L (sendE L) = 0 := (st_yes (R := L) hc).1
  refine ⟨h, ?_⟩
  unfold sendB
  rw [if_pos h]
theorem hear_is {k pt : Nat} (hk : k ≤ 100000) (hp : 1 ≤ pt ∧ pt ≤ 20) :
    let L : Sd := ⟨1, false, 0, (k : Int), im2 k, 0, (pt : Int)⟩
    let B : Bt := ⟨0, 0, ((k + 1 : Nat) : Int), im2 (k + 1)⟩
    stE L (beatE L B) = 0 ∧ stS L (beatE L B) (hearS L B) = ⟨1, false, 0, ((k + 1 : Nat) : Int), im2 (k + 1), 0, (pt : Int)⟩ := by
  intro L B
  have hb : canB B = true := by
    unfold canB progB
    simp only [Bool.and_eq_true, wi_iff, decide_eq_true_eq]
    exact ⟨by show (0 : Int) ≤ 0 ∧ (0 : Int) ≤ 1; omega, by show (0 : Int) ≤ 0 ∧ (0 : Int) ≤ 1000000; omega, by show (0 : Int) ≤ ((k + 1 : Nat) : Int) ∧ ((k + 1 : Nat) : Int) ≤ 999999999; omega, by show 2 ≤ 20000; omega⟩
  have ho : oldB L B = false := by
    show (if (0 : Int) = 0 then (if false = true then decide ((1 : Int) = 0) else decide (((k + 1 : Nat) : Int) < (k : Int))) else _) = false
    rw [if_pos rfl, if_neg (by decide)]
    exact decide_eq_false (by omega)
  have hE : beatE L B = 0 := by
    unfold beatE
    rw [hb, ho]
    rfl
  rw [hE]
  have hc : canS L = true := canS_of (by show (0 : Int) ≤ 1 ∧ (1 : Int) ≤ 1; omega) ⟨by show (1 : Int) ≤ (pt : Int); omega, by show (pt : Int) ≤ 1000; omega⟩ (by show (0 : Int) ≤ 0 ∧ (0 : Int) ≤ 1000000; omega) ⟨by show (0 : Int) ≤ (k : Int); omega, by show (k : Int) ≤ 999999999; omega⟩ (by show 2 ≤ 20000; omega) (by show (0 : Int) ≤ 0; omega) (by show (0 : Int) < (pt : Int); omega) (fun h => by cases h)
  exact st_yes (R := hearS L B) hc
def WB (n pt i : Nat) : Sd := if i < pt then ⟨1, false, 0, (n : Int), im2 n, (i : Int), (pt : Int)⟩ else ⟨1, true, 1, (n : Int), im2 n, 0, (pt : Int)⟩
theorem wait_is {n pt i : Nat} (hn : n ≤ 100000) (hp : 1 ≤ pt ∧ pt ≤ 20) (hi : i < pt) : stE (WB n pt i) (waitE (WB n pt i)) = 0 ∧ stS (WB n pt i) (waitE (WB n pt i)) (waitS (WB n pt i)) = WB n pt (i + 1) := by
  have hw : WB n pt i = ⟨1, false, 0, (n : Int), im2 n, (i : Int), (pt : Int)⟩ := by unfold WB; rw [if_pos hi]
  rw [hw]
  have hE : waitE ⟨1, false, 0, (n : Int), im2 n, (i : Int), (pt : Int)⟩ = 0 := by
    show (if false = true then 0 else if (i : Int) + 1 < (pt : Int) then 0 else if (0 : Int) = 1000000 then 14 else 0) = 0
    simp
  rw [hE]
  have hc : canS ⟨1, false, 0, (n : Int), im2 n, (i : Int), (pt : Int)⟩ = true := canS_of (by show (0 : Int) ≤ 1 ∧ (1 : Int) ≤ 1; omega) ⟨by show (1 : Int) ≤ (pt : Int); omega, by show (pt : Int) ≤ 1000; omega⟩ (by show (0 : Int) ≤ 0 ∧ (0 : Int) ≤ 1000000; omega) ⟨by show (0 : Int) ≤ (n : Int); omega, by show (n : Int) ≤ 999999999; omega⟩ (by show 2 ≤ 20000; omega) (by show (0 : Int) ≤ (i : Int); omega) (by show (i : Int) < (pt : Int); omega) (fun h => by cases h)
  obtain ⟨a, b⟩ := st_yes (R := waitS ⟨1, false, 0, (n : Int), im2 n, (i : Int), (pt : Int)⟩) hc
  refine ⟨a, b.trans ?_⟩
  show (if false = true then _ else if (i : Int) + 1 < (pt : Int) then (⟨1, false, 0, (n : Int), im2 n, (i : Int) + 1, (pt : Int)⟩ : Sd) else ⟨1, true, 0 + 1, (n : Int), im2 n, 0, (pt : Int)⟩) = _
  rw [if_neg (by decide)]
  unfold WB
  by_cases h : i + 1 < pt
  · rw [if_pos h, if_pos (by omega)]
    have : ((i + 1 : Nat) : Int) = (i : Int) + 1 := by omega
    rw [this]
  · rw [if_neg h, if_neg (by omega)]
    rfl
theorem own_box {B : Nat} {w : World} {a : Option Addr} {c n : Nat} {l : List Int} {xs : List Value} {q : Nat} {cs : Array Value} (h : w.ownsRow B 3 1 (.slice a n c) n xs) (hq : w.heap[q]? = some (.cells cs 25)) (x : Nat) (hx : (Value.slice a n c).ownBlock = some x) : x ≠ q := by
  obtain ⟨_, ⟨hn, _⟩ | ⟨g, cap, cur, hv, hb, hr, _⟩⟩ := h
  · rw [hn] at hx; simp [Value.ownBlock] at hx
  · rw [hv] at hx
    simp [Value.ownBlock] at hx
    subst hx
    intro e
    subst e
    rw [hr] at hq
    simp at hq
/-- Two sides in their boxes. -/
structure Two (w wx : World) (pa pb : Nat) (LA LB : Sd) (a b : Option Addr) (c d : Nat) : Prop where
  ba : wx.heap[pa]? = some (.cells (sdA LA (.slice a LA.im.length c)) 25)
  bb : wx.heap[pb]? = some (.cells (sdA LB (.slice b LB.im.length d)) 25)
  oa : OwnL 0 wx a c LA.im
  ob : OwnL 0 wx b d LB.im
  ne : pa ≠ pb
  la : w.heap.size ≤ pa
  lb : w.heap.size ≤ pb
  gr : w.grownBy wx none
theorem Two.grow {w wx wy : World} {pa pb : Nat} {LA LB : Sd} {a b : Option Addr} {c d : Nat} (h : Two w wx pa pb LA LB a b c d) (hg : wx.grownBy wy none) : Two w wy pa pb LA LB a b c d :=
  ⟨kept hg h.ba, kept hg h.bb, OwnL.kept h.oa hg, OwnL.kept h.ob hg, h.ne, h.la, h.lb, grown_join h.gr hg (.inl rfl)⟩
def put7 (w : World) (q : Nat) (R : Sd) (v : Value) : World := (((((((w.setCell ⟨q, 0, none⟩ (.int .i64 R.me)).setCell ⟨q, 1, none⟩ (.bool R.ac)).setCell ⟨q, 2, none⟩ (.int .i64 R.te)).setCell ⟨q, 3, none⟩ (.int .i64 R.cy)).setCell ⟨q, 4, none⟩ v).setCell ⟨q, 5, none⟩ (.int .i64 R.si)).setCell ⟨q, 6, none⟩ (.int .i64 R.pa))
theorem Two.putA {w wx : World} {pa pb B : Nat} {LA LB R : Sd} {a b a' : Option Addr} {c d c' : Nat} (h : Two w wx pa pb LA LB a b c d) (o : OwnL B wx a' c' R.im) : Two w (put7 wx pa R (.slice a' R.im.length c')) pa pb R LB a' b c' d := by
  have g : wx.grownBy (put7 wx pa R (.slice a' R.im.length c')) (some pa) := gr7 (World.grownBy.refl _ _)
  exact ⟨box7 h.ba, keptBut g h.bb (Ne.symm h.ne), own_ne (own_low o (Nat.zero_le _)) g (fun x hx e => own_box (l := R.im) o h.ba x hx (by injection e with e; exact e.symm)), own_ne h.ob g (fun x hx e => own_box (l := LB.im) h.ob h.ba x hx (by injection e with e; exact e.symm)), h.ne, h.la, h.lb, gr7n h.gr h.la⟩
theorem Two.putB {w wx : World} {pa pb B : Nat} {LA LB R : Sd} {a b a' : Option Addr} {c d c' : Nat} (h : Two w wx pa pb LA LB a b c d) (o : OwnL B wx a' c' R.im) : Two w (put7 wx pb R (.slice a' R.im.length c')) pa pb LA R a a' c c' := by
  have g : wx.grownBy (put7 wx pb R (.slice a' R.im.length c')) (some pb) := gr7 (World.grownBy.refl _ _)
  exact ⟨keptBut g h.ba h.ne, box7 h.bb, own_ne h.oa g (fun x hx e => own_box (l := LA.im) h.oa h.bb x hx (by injection e with e; exact e.symm)), own_ne (own_low o (Nat.zero_le _)) g (fun x hx e => own_box (l := R.im) o h.bb x hx (by injection e with e; exact e.symm)), h.ne, h.la, h.lb, gr7n h.gr h.lb⟩
end Go.Proofs.Ytnklkhcldcljaab
