/- How the array and the list of beats begin; what happens, in memory. -/
import Derived.Test.YtnklkhcldcljaaaR
namespace Go.Proofs.Ytnklkhcldcljaaa
open Go.RowKit
set_option linter.unusedVariables false
set_option linter.unusedSimpArgs false

structure PM (w wx : World) (P : Nat) (S : Nat → Sd) (a : Nat → Option Addr) (c : Nat → Nat) : Prop where
  bp : wx.heap[P]? = some (.cells (sd14 S a c) 45)
  ow : ∀ k, k < 2 → OwnL 0 wx (a k) (c k) (S k).im
  lp : w.heap.size ≤ P
  gr : w.grownBy wx none
section
variable {w wx wy : World} {P : Nat} {S : Nat → Sd} {a : Nat → Option Addr} {c : Nat → Nat}
theorem PM.grow (h : PM w wx P S a c) (hg : wx.grownBy wy none) : PM w wy P S a c :=
  ⟨kept hg h.bp, fun k hk => OwnL.kept (h.ow k hk) hg, h.lp, grown_join h.gr hg (.inl rfl)⟩
theorem PM.put (h : PM w wx P S a c) {k : Nat} (hk : k < 2) {R : Sd} {a' : Option Addr} {c' B : Nat} (o : OwnL B wx a' c' R.im) : PM w (putK wx P k R (.slice a' R.im.length c')) P (upN S k R) (upN a k a') (upN c k c') := by
  have g := putK_gr wx P k R (.slice a' R.im.length c')
  have hf : Fr P wx _ := Fr.ofP g
  refine ⟨?_, fun j hj => ?_, h.lp, ?_⟩
  · have := at_set (at_set (at_set (at_set (at_set (at_set (at_set h.bp (k * 7) (.int .i64 R.me)) (k * 7 + 1) (.bool R.ac)) (k * 7 + 2) (.int .i64 R.te)) (k * 7 + 3) (.int .i64 R.cy)) (k * 7 + 4) (.slice a' R.im.length c')) (k * 7 + 5) (.int .i64 R.si)) (k * 7 + 6) (.int .i64 R.pa)
    refine Eq.trans this ?_
    rcases two_cases hk with rfl | rfl
    · simp [sd14, upN]
    · simp [sd14, upN]
  · by_cases e : j = k
    · subst e
      rw [up_same, up_same, up_same]
      exact own_fr (own_low o (Nat.zero_le _)) hf h.bp
    · rw [up_ne _ _ e, up_ne _ _ e, up_ne _ _ e]
      exact own_fr (h.ow j hj) hf h.bp
  · exact grown_join h.gr g (.inr fun y hy => by injection hy with hy; subst hy; exact h.lp)
theorem PM.cells (h : PM w wx P S a c) {k : Nat} (hk : k < 2) :
    (wx.cell? ⟨P, k * 7, none⟩ = some (.int .i64 (S k).me) ∧ wx.cell? ⟨P, k * 7 + 1, none⟩ = some (.bool (S k).ac) ∧ wx.cell? ⟨P, k * 7 + 2, none⟩ = some (.int .i64 (S k).te) ∧ wx.cell? ⟨P, k * 7 + 3, none⟩ = some (.int .i64 (S k).cy) ∧ wx.cell? ⟨P, k * 7 + 4, none⟩ = some (.slice (a k) (S k).im.length (c k)) ∧ wx.cell? ⟨P, k * 7 + 5, none⟩ = some (.int .i64 (S k).si) ∧ wx.cell? ⟨P, k * 7 + 6, none⟩ = some (.int .i64 (S k).pa)) := by
  rcases two_cases hk with rfl | rfl
  · exact ⟨at_cell h.bp _, at_cell h.bp _, at_cell h.bp _, at_cell h.bp _, at_cell h.bp _, at_cell h.bp _, at_cell h.bp _⟩
  · exact ⟨at_cell h.bp _, at_cell h.bp _, at_cell h.bp _, at_cell h.bp _, at_cell h.bp _, at_cell h.bp _, at_cell h.bp _⟩
theorem PM.frozen (h : PM w wx P S a c) (k : Nat) :
    (wx.frozen? ⟨P, k * 7, none⟩ = false ∧ wx.frozen? ⟨P, k * 7 + 1, none⟩ = false ∧ wx.frozen? ⟨P, k * 7 + 2, none⟩ = false ∧ wx.frozen? ⟨P, k * 7 + 3, none⟩ = false ∧ wx.frozen? ⟨P, k * 7 + 4, none⟩ = false ∧ wx.frozen? ⟨P, k * 7 + 5, none⟩ = false ∧ wx.frozen? ⟨P, k * 7 + 6, none⟩ = false) :=
  ⟨at_frozen h.bp _, at_frozen h.bp _, at_frozen h.bp _, at_frozen h.bp _, at_frozen h.bp _, at_frozen h.bp _, at_frozen h.bp _⟩
end
def sn0 (k : Nat) : Sn := ⟨decide (k = 0), 0, 0, 0⟩
def S1 (pt i : Nat) (j : Nat) : Sd := if j < i then sdOf j pt (sn0 j) else zeroS
theorem S1_next (pt i : Nat) : upN (S1 pt i) i (sdOf i pt (sn0 i)) = S1 pt (i + 1) := by
  funext j
  unfold upN S1
  by_cases e : j = i
  · subst e; rw [if_pos rfl, if_pos (by omega)]
  · rw [if_neg e]
    by_cases h : j < i
    · rw [if_pos h, if_pos (by omega)]
    · rw [if_neg h, if_neg (by omega)]
def SS (pt : Nat) (s : Nat → Sn) (k : Nat) : Sd := sdOf k pt (s k)
theorem SS_up (pt : Nat) (s : Nat → Sn) (k : Nat) (x : Sn) : upN (SS pt s) k (sdOf k pt x) = SS pt (upN s k x) := by
  funext j
  show upN (SS pt s) k (sdOf k pt x) j = sdOf j pt (upN s k x j)
  by_cases e : j = k
  · subst e; rw [up_same, up_same]
  · rw [up_ne _ _ e, up_ne _ _ e]; rfl
theorem PM.first {w wx : World} {P : Nat} (hP : wx.heap.size = P) (hg : w.grownBy wx none) (pt : Nat) : PM w (wx.alloc (.cells #[.int .i64 0, .bool false, .int .i64 0, .int .i64 0, .slice none 0 0, .int .i64 0, .int .i64 0, .int .i64 0, .bool false, .int .i64 0, .int .i64 0, .slice none 0 0, .int .i64 0, .int .i64 0] 45)) P (S1 pt 0) (fun _ => none) (fun _ => 0) :=
  ⟨hp_new hP.symm _, fun k hk => OwnL.nil _ _, by rw [← hP]; exact hg.size, gr_alloc hg _⟩
theorem Iv.first {w wx : World} {P T pt : Nat} {a : Nat → Option Addr} {c : Nat → Nat} (h : PM w wx P (S1 pt 2) a c) (hT : wx.heap.size = T) : Iv w (wx.alloc (.cells #[.slice none 0 0] 47)) P T (SS pt sn0) a c [] none 0 := by
  have g : wx.grownBy (wx.alloc (.cells #[.slice none 0 0] 47)) none := gr_alloc (World.grownBy.refl _ _) _
  have e : ∀ k, k < 2 → S1 pt 2 k = SS pt sn0 k := fun k hk => by unfold S1 SS; rw [if_pos hk]
  have h2 := h.grow g
  refine ⟨?_, hp_new hT.symm _, fun k hk => ?_, ⟨[], World.ownsRow_nil _ _ _ _, rfl, fun i hi => by simp at hi⟩, h.lp, by rw [← hT]; exact h.gr.size, h2.gr⟩
  · have := h2.bp
    unfold sd14 at this ⊢
    rw [e 0 (by omega), e 1 (by omega)] at this
    exact this
  · rw [← e k hk]; exact h2.ow k hk
theorem cells14 {W : World} {P : Nat} {S : Nat → Sd} {a : Nat → Option Addr} {c : Nat → Nat} (h : W.heap[P]? = some (.cells (sd14 S a c) 45)) :
    (W.cell? ⟨P, 1, none⟩ = some (.bool (S 0).ac) ∧ W.cell? ⟨P, 2, none⟩ = some (.int .i64 (S 0).te) ∧ W.cell? ⟨P, 3, none⟩ = some (.int .i64 (S 0).cy) ∧ W.cell? ⟨P, 4, none⟩ = some (.slice (a 0) (S 0).im.length (c 0)) ∧ W.cell? ⟨P, 8, none⟩ = some (.bool (S 1).ac) ∧ W.cell? ⟨P, 9, none⟩ = some (.int .i64 (S 1).te) ∧ W.cell? ⟨P, 10, none⟩ = some (.int .i64 (S 1).cy) ∧ W.cell? ⟨P, 11, none⟩ = some (.slice (a 1) (S 1).im.length (c 1))) :=
  ⟨at_cell h 1, at_cell h 2, at_cell h 3, at_cell h 4, at_cell h 8, at_cell h 9, at_cell h 10, at_cell h 11⟩
/-- What happens, in memory. -/
def BsAt (w : World) (v : Value) (ps : List (Int × Int × Int)) : Prop :=
  ∃ a cap, v = .slice a ps.length cap ∧ (ps = [] ∨ ∃ b off, a = some ⟨b, off, none⟩ ∧ ∀ i, i < ps.length → w.cell? ⟨b, off + i * 3, none⟩ = some (.int .i64 (ps.getD i (0, 0, 0)).1) ∧ w.cell? ⟨b, off + i * 3 + 1, none⟩ = some (.int .i64 (ps.getD i (0, 0, 0)).2.1) ∧ w.cell? ⟨b, off + i * 3 + 2, none⟩ = some (.int .i64 (ps.getD i (0, 0, 0)).2.2))
end Go.Proofs.Ytnklkhcldcljaaa
