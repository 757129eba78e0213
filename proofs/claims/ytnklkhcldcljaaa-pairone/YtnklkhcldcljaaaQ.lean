/- Two sides in an array, the beats that were sent, in memory. -/
import Derived.Test.YtnklkhcldcljaaaN
namespace Go.Proofs.Ytnklkhcldcljaaa
open Go.RowKit
attribute [local go_sem ↓] Go.wp_at_zero Go.wp_at_succ
set_option linter.unusedVariables false
set_option linter.unusedSimpArgs false

def sd14 (S : Nat → Sd) (a : Nat → Option Addr) (c : Nat → Nat) : Array Value :=
  #[.int .i64 (S 0).me, .bool (S 0).ac, .int .i64 (S 0).te, .int .i64 (S 0).cy, .slice (a 0) (S 0).im.length (c 0), .int .i64 (S 0).si, .int .i64 (S 0).pa, .int .i64 (S 1).me, .bool (S 1).ac, .int .i64 (S 1).te, .int .i64 (S 1).cy, .slice (a 1) (S 1).im.length (c 1), .int .i64 (S 1).si, .int .i64 (S 1).pa]
/-- What stays: all but the array, and what is of beats. -/
def Fr (P : Nat) (W W' : World) : Prop := W.heap.size ≤ W'.heap.size ∧ ∀ (q : Nat) (o : Array Value) (t : TypeId), W.heap[q]? = some (.cells o t) → t ≠ 32 → t ≠ 47 → q ≠ P → W'.heap[q]? = some (.cells o t)
theorem Fr.refl (P : Nat) (W : World) : Fr P W W := ⟨Nat.le_refl _, fun _ _ _ h _ _ _ => h⟩
theorem Fr.trans {P : Nat} {A B C : World} (h : Fr P A B) (k : Fr P B C) : Fr P A C := ⟨Nat.le_trans h.1 k.1, fun q o t h1 h2 h3 h4 => k.2 q o t (h.2 q o t h1 h2 h3 h4) h2 h3 h4⟩
theorem Fr.of {P : Nat} {A B : World} (h : A.grownBy B none) : Fr P A B := ⟨h.size, fun q o t h1 _ _ _ => kept h h1⟩
theorem Fr.ofP {P : Nat} {A B : World} (h : A.grownBy B (some P)) : Fr P A B := ⟨h.size, fun q o t h1 _ _ h4 => keptBut h h1 h4⟩
theorem Fr.ofT {P r : Nat} {A B : World} {o : Array Value} {t : TypeId} (h : A.grownBy B (some r)) (hr : A.heap[r]? = some (.cells o t)) (ht : t = 32 ∨ t = 47) : Fr P A B := ⟨h.size, fun q o' t' h1 h2 h3 _ => keptBut h h1 (fun e => by subst e; rw [hr] at h1; injection h1 with h1; injection h1 with _ h1; rcases ht with rfl | rfl; exact h2 h1.symm; exact h3 h1.symm)⟩
theorem row_kept {B e size n : Nat} {w w' : World} {v : Value} {xs : List Value} (h : w.ownsRow B e size v n xs) (hk : ∀ (q : Nat) (o : Array Value), w.heap[q]? = some (.cells o e) → w'.heap[q]? = some (.cells o e)) : w'.ownsRow B e size v n xs := by
  obtain ⟨hl, h | ⟨g, cap, cur, hv, hb, hc, hr⟩⟩ := h
  · exact ⟨hl, .inl h⟩
  · exact ⟨hl, .inr ⟨g, cap, cur, hv, hb, hk g cur hc, hr⟩⟩
theorem own_fr {B P : Nat} {w w' : World} {a : Option Addr} {c : Nat} {l : List Int} {o : Array Value} (h : OwnL B w a c l) (hf : Fr P w w') (hP : w.heap[P]? = some (.cells o 45)) : OwnL B w' a c l :=
  row_kept h (fun q o' hq => hf.2 q o' 3 hq (by decide) (by decide) (fun e => by subst e; rw [hP] at hq; injection hq with hq; injection hq with _ hq; cases hq))
def RowOk (w : World) (bs : List Bt) (xs : List Value) : Prop :=
  xs.length = bs.length * 4 ∧ ∀ i (h : i < bs.length), ∃ ai ci, xs[i * 4]? = some (.int .i64 bs[i].fr) ∧ xs[i * 4 + 1]? = some (.int .i64 bs[i].te) ∧ xs[i * 4 + 2]? = some (.int .i64 bs[i].cy) ∧ xs[i * 4 + 3]? = some (.slice ai bs[i].im.length ci) ∧ OwnL 0 w ai ci bs[i].im
structure Iv (w wx : World) (P T : Nat) (S : Nat → Sd) (a : Nat → Option Addr) (c : Nat → Nat) (bs : List Bt) (sa : Option Addr) (sc : Nat) : Prop where
  bp : wx.heap[P]? = some (.cells (sd14 S a c) 45)
  bt : wx.heap[T]? = some (.cells #[.slice sa bs.length sc] 47)
  ow : ∀ k, k < 2 → OwnL 0 wx (a k) (c k) (S k).im
  row : ∃ xs, wx.ownsRow w.heap.size 32 4 (.slice sa bs.length sc) bs.length xs ∧ RowOk wx bs xs
  lp : w.heap.size ≤ P
  lt : w.heap.size ≤ T
  gr : w.grownBy wx none
theorem RowOk.kept {w w' : World} {bs : List Bt} {xs : List Value} (h : RowOk w bs xs) (hk : ∀ a c l, OwnL 0 w a c l → OwnL 0 w' a c l) : RowOk w' bs xs :=
  ⟨h.1, fun i hi => by
    obtain ⟨ai, ci, h1, h2, h3, h4, h5⟩ := h.2 i hi
    exact ⟨ai, ci, h1, h2, h3, h4, hk _ _ _ h5⟩⟩
section
variable {w wx wy : World} {P T : Nat} {S : Nat → Sd} {a : Nat → Option Addr} {c : Nat → Nat} {bs : List Bt} {sa : Option Addr} {sc : Nat}
theorem Iv.grow (h : Iv w wx P T S a c bs sa sc) (hg : wx.grownBy wy none) : Iv w wy P T S a c bs sa sc :=
  ⟨kept hg h.bp, kept hg h.bt, fun k hk => OwnL.kept (h.ow k hk) hg, by
    obtain ⟨xs, h1, h2⟩ := h.row
    exact ⟨xs, own_keep h1 hg, h2.kept fun _ _ _ o => OwnL.kept o hg⟩, h.lp, h.lt, grown_join h.gr hg (.inl rfl)⟩
theorem Iv.cells (h : Iv w wx P T S a c bs sa sc) {k : Nat} (hk : k < 2) :
    (wx.cell? ⟨P, k * 7, none⟩ = some (.int .i64 (S k).me) ∧ wx.cell? ⟨P, k * 7 + 1, none⟩ = some (.bool (S k).ac) ∧ wx.cell? ⟨P, k * 7 + 2, none⟩ = some (.int .i64 (S k).te) ∧ wx.cell? ⟨P, k * 7 + 3, none⟩ = some (.int .i64 (S k).cy) ∧ wx.cell? ⟨P, k * 7 + 4, none⟩ = some (.slice (a k) (S k).im.length (c k)) ∧ wx.cell? ⟨P, k * 7 + 5, none⟩ = some (.int .i64 (S k).si) ∧ wx.cell? ⟨P, k * 7 + 6, none⟩ = some (.int .i64 (S k).pa)) := by
  rcases two_cases hk with rfl | rfl
  · exact ⟨at_cell h.bp _, at_cell h.bp _, at_cell h.bp _, at_cell h.bp _, at_cell h.bp _, at_cell h.bp _, at_cell h.bp _⟩
  · exact ⟨at_cell h.bp _, at_cell h.bp _, at_cell h.bp _, at_cell h.bp _, at_cell h.bp _, at_cell h.bp _, at_cell h.bp _⟩
theorem Iv.frozen (h : Iv w wx P T S a c bs sa sc) (k : Nat) :
    (wx.frozen? ⟨P, k * 7, none⟩ = false ∧ wx.frozen? ⟨P, k * 7 + 1, none⟩ = false ∧ wx.frozen? ⟨P, k * 7 + 2, none⟩ = false ∧ wx.frozen? ⟨P, k * 7 + 3, none⟩ = false ∧ wx.frozen? ⟨P, k * 7 + 4, none⟩ = false ∧ wx.frozen? ⟨P, k * 7 + 5, none⟩ = false ∧ wx.frozen? ⟨P, k * 7 + 6, none⟩ = false) :=
  ⟨at_frozen h.bp _, at_frozen h.bp _, at_frozen h.bp _, at_frozen h.bp _, at_frozen h.bp _, at_frozen h.bp _, at_frozen h.bp _⟩
def putK (w : World) (P k : Nat) (R : Sd) (v : Value) : World := (((((((w.setCell ⟨P, k * 7, none⟩ (.int .i64 R.me)).setCell ⟨P, k * 7 + 1, none⟩ (.bool R.ac)).setCell ⟨P, k * 7 + 2, none⟩ (.int .i64 R.te)).setCell ⟨P, k * 7 + 3, none⟩ (.int .i64 R.cy)).setCell ⟨P, k * 7 + 4, none⟩ v).setCell ⟨P, k * 7 + 5, none⟩ (.int .i64 R.si)).setCell ⟨P, k * 7 + 6, none⟩ (.int .i64 R.pa))
theorem putK_gr (w : World) (P k : Nat) (R : Sd) (v : Value) : w.grownBy (putK w P k R v) (some P) := gr_set (gr_set (gr_set (gr_set (gr_set (gr_set (gr_set (World.grownBy.refl _ _) _ _) _ _) _ _) _ _) _ _) _ _) _ _
theorem Iv.put (h : Iv w wx P T S a c bs sa sc) {k : Nat} (hk : k < 2) {R : Sd} {a' : Option Addr} {c' B : Nat} (o : OwnL B wx a' c' R.im) : Iv w (putK wx P k R (.slice a' R.im.length c')) P T (upN S k R) (upN a k a') (upN c k c') bs sa sc := by
  have g := putK_gr wx P k R (.slice a' R.im.length c')
  have hf : Fr P wx _ := Fr.ofP g
  have hPT : T ≠ P := fun e => by
    have h1 := h.bt
    rw [e, h.bp] at h1
    injection h1 with h1
    injection h1 with _ h1
    cases h1
  refine ⟨?_, keptBut g h.bt hPT, fun j hj => ?_, ?_, h.lp, h.lt, ?_⟩
  · have := at_set (at_set (at_set (at_set (at_set (at_set (at_set h.bp (k * 7) (.int .i64 R.me)) (k * 7 + 1) (.bool R.ac)) (k * 7 + 2) (.int .i64 R.te)) (k * 7 + 3) (.int .i64 R.cy)) (k * 7 + 4) (.slice a' R.im.length c')) (k * 7 + 5) (.int .i64 R.si)) (k * 7 + 6) (.int .i64 R.pa)
    refine Eq.trans this ?_
    rcases two_cases hk with rfl | rfl
    · simp [sd14, upN]
    · simp [sd14, upN]
  · by_cases e : j = k
    · subst e
      rw [up_same, up_same, up_same]
      exact own_fr (own_low o (Nat.zero_le _)) hf h.bp
    · rw [up_ne _ _ e, up_ne _ _ e, up_ne _ _ e]
      exact own_fr (h.ow j hj) hf h.bp
  · obtain ⟨xs, h1, h2⟩ := h.row
    refine ⟨xs, own_ne h1 g (fun x hx e => ?_), h2.kept fun _ _ _ o => own_fr o hf h.bp⟩
    injection e with e
    subst e
    obtain ⟨_, ⟨hn, _⟩ | ⟨g0, cap, cur, hv, hb, hr, _⟩⟩ := h1
    · rw [hn] at hx; simp [Value.ownBlock] at hx
    · rw [hv] at hx
      simp [Value.ownBlock] at hx
      subst hx
      rw [h.bp] at hr
      injection hr with hr
      injection hr with _ hr
      cases hr
  · exact grown_join h.gr g (.inr fun y hy => by injection hy with hy; subst hy; exact h.lp)
/-- A beat that was sent can be read. -/
theorem Iv.beat (h : Iv w wx P T S a c bs sa sc) {i : Nat} (hi : i < bs.length) : ∃ g ai ci, sa = some ⟨g, 0, none⟩ ∧ wx.cell? ⟨g, i * 4, none⟩ = some (.int .i64 bs[i].fr) ∧ wx.cell? ⟨g, i * 4 + 1, none⟩ = some (.int .i64 bs[i].te) ∧ wx.cell? ⟨g, i * 4 + 2, none⟩ = some (.int .i64 bs[i].cy) ∧ wx.cell? ⟨g, i * 4 + 3, none⟩ = some (.slice ai bs[i].im.length ci) ∧ OwnL 0 wx ai ci bs[i].im := by
  obtain ⟨xs, h1, h2, h3⟩ := h.row
  obtain ⟨ai, ci, e0, e1, e2, e3, e4⟩ := h3 i hi
  have h1' := h1
  obtain ⟨_, ⟨hx, hn⟩ | ⟨g, cap, cur, hv, hb, hr, _⟩⟩ := h1
  · omega
  · injection hv with hv1 hv2 hv3
    subst hv1 hv3
    have hc : ∀ j, j < bs.length * 4 → wx.cell? ⟨g, j, none⟩ = xs[j]? := fun j hj => World.ownsRow.cellAt h1' j hj
    exact ⟨g, ai, ci, rfl, (hc _ (by omega)).trans e0, (hc _ (by omega)).trans e1, (hc _ (by omega)).trans e2, (hc _ (by omega)).trans e3, e4⟩
end
theorem info32b : (Try.prog.info? 32).map (fun i => (i.zero, i.size, i.bytes)) = some (some (.agg #[.int .i64 0, .int .i64 0, .int .i64 0, .slice none 0 0]), 4, 48) := by kernel_rfl
/-- One beat more is sent. -/
theorem Iv.more {w wx : World} {P T : Nat} {S : Nat → Sd} {a : Nat → Option Addr} {c : Nat → Nat} {bs : List Bt} {sa : Option Addr} {sc : Nat} (h : Iv w wx P T S a c bs sa sc) (B : Bt) {ba : Option Addr} {bc : Nat} (o : OwnL 0 wx ba bc B.im) (hn : bs.length ≤ 1000) :
    ∃ sa' sc' wy, (Builtin.append_ #[47, 47] 47 #[.slice sa bs.length sc, .slice (some ⟨wx.heap.size, 0, none⟩) 1 1]).run Try.prog (wx.alloc (.cells #[.int .i64 B.fr, .int .i64 B.te, .int .i64 B.cy, .slice ba B.im.length bc] 32)) = .ok (.slice sa' (bs.length + 1) sc') wy ∧
      Fr P wx (wy.setCell ⟨T, 0, none⟩ (.slice sa' (bs.length + 1) sc')) ∧ wy.heap[T]? = some (.cells #[.slice sa bs.length sc] 47) ∧ Iv w (wy.setCell ⟨T, 0, none⟩ (.slice sa' (bs.length + 1) sc')) P T S a c (bs ++ [B]) sa' sc' := by
  obtain ⟨i0, hi, hz0, hz1, hz2⟩ := info_parts info32b
  obtain ⟨xs, h1, h2, h3⟩ := h.row
  obtain ⟨v', wy, r1, r2, r3, r4, r5⟩ := run_append_own_at (P := Try.prog) (wx.alloc (.cells #[.int .i64 B.fr, .int .i64 B.te, .int .i64 B.cy, .slice ba B.im.length bc] 32)) w.heap.size 47 47 32 i0 _ 4 48 Try.underlying47 hi hz0 hz1 hz2 rfl (by omega) _ _ _ (World.ownsRow.alloc h1 _) ⟨wx.heap.size, 0, none⟩ 1 1 [.int .i64 B.fr, .int .i64 B.te, .int .i64 B.cy, .slice ba B.im.length bc] rfl
    (fun j u hj => by
      rw [addn, at_cell (heap_alloc_new wx _) (0 + j)]
      simpa using hj)
    (by intro u hu; simp at hu; rcases hu with rfl | rfl | rfl | rfl <;> rfl) (by unfold maxLen; omega) (by omega) (by simp; have := h.gr.size; omega)
  have r2' := r2
  obtain ⟨_, ⟨hx, hn0⟩ | ⟨g', cap', cur, rfl, hg', hcur, _⟩⟩ := r2'
  · omega
  have gA : wx.grownBy (wx.alloc (.cells #[.int .i64 B.fr, .int .i64 B.te, .int .i64 B.cy, .slice ba B.im.length bc] 32)) none := gr_alloc (World.grownBy.refl _ _) _
  have fA : Fr P wx wy := by
    refine (Fr.of gA).trans ?_
    cases hob : (Value.slice sa bs.length sc).ownBlock with
    | none => rw [hob] at r3; exact Fr.of r3
    | some r =>
      rw [hob] at r3
      obtain ⟨_, ⟨hx, _⟩ | ⟨g0, cap0, cur0, hv, hb0, hr0, _⟩⟩ := h1
      · rw [hx] at hob; simp [Value.ownBlock] at hob
      · rw [hv] at hob
        simp [Value.ownBlock] at hob
        subst hob
        exact Fr.ofT r3 (kept gA hr0) (.inl rfl)
  have hTk : wy.heap[T]? = some (.cells #[.slice sa bs.length sc] 47) := by
    have hT1 := kept gA h.bt
    cases hob : (Value.slice sa bs.length sc).ownBlock with
    | none => rw [hob] at r3; exact kept r3 hT1
    | some r =>
      rw [hob] at r3
      refine keptBut r3 hT1 (fun e => ?_)
      subst e
      obtain ⟨_, ⟨hx, _⟩ | ⟨g0, cap0, cur0, hv, hb0, hr0, _⟩⟩ := h1
      · rw [hx] at hob; simp [Value.ownBlock] at hob
      · rw [hv] at hob
        simp [Value.ownBlock] at hob
        subst hob
        rw [h.bt] at hr0
        injection hr0 with hr0
        injection hr0 with _ hr0
        cases hr0
  have gT := gr_set (World.grownBy.refl wy (some T)) 0 (.slice (some ⟨g', 0, none⟩) (bs.length + 1) cap')
  have fT : Fr P wx (wy.setCell ⟨T, 0, none⟩ (.slice (some ⟨g', 0, none⟩) (bs.length + 1) cap')) := fA.trans (Fr.ofT gT hTk (.inr rfl))
  have hPT : P ≠ T := fun e => by
    have h1 := h.bt
    rw [← e, h.bp] at h1
    injection h1 with h1
    injection h1 with _ h1
    cases h1
  have hPy : wy.heap[P]? = some (.cells (sd14 S a c) 45) := by
    have hT1 := kept gA h.bp
    cases hob : (Value.slice sa bs.length sc).ownBlock with
    | none => rw [hob] at r3; exact kept r3 hT1
    | some r =>
      rw [hob] at r3
      refine keptBut r3 hT1 (fun e => ?_)
      subst e
      obtain ⟨_, ⟨hx, _⟩ | ⟨g0, cap0, cur0, hv, hb0, hr0, _⟩⟩ := h1
      · rw [hx] at hob; simp [Value.ownBlock] at hob
      · rw [hv] at hob
        simp [Value.ownBlock] at hob
        subst hob
        rw [h.bp] at hr0
        injection hr0 with hr0
        injection hr0 with _ hr0
        cases hr0
  refine ⟨some ⟨g', 0, none⟩, cap', wy, r1, fT, hTk, keptBut gT hPy hPT, ?_, fun k hk => own_fr (h.ow k hk) fT h.bp, ?_, h.lp, h.lt, ?_⟩
  · have := at_set hTk 0 (.slice (some ⟨g', 0, none⟩) (bs.length + 1) cap')
    simpa using this
  · refine ⟨xs ++ [.int .i64 B.fr, .int .i64 B.te, .int .i64 B.cy, .slice ba B.im.length bc], ?_, ?_⟩
    · have : (bs ++ [B]).length = bs.length + 1 := by simp
      rw [this]
      refine own_ne r2 gT (fun x hx e => ?_)
      injection e with e
      subst e
      simp [Value.ownBlock] at hx
      subst hx
      rw [hTk] at hcur
      injection hcur with hcur
      injection hcur with _ hcur
      cases hcur
    · refine ⟨by simp; omega, fun i hi => ?_⟩
      by_cases e : i < bs.length
      · obtain ⟨ai, ci, e0, e1, e2, e3, e4⟩ := h3 i e
        have hx : (bs ++ [B])[i] = bs[i] := List.getElem_append_left e
        rw [hx]
        refine ⟨ai, ci, ?_, ?_, ?_, ?_, own_fr e4 fT h.bp⟩
        · rw [List.getElem?_append_left (by omega)]; exact e0
        · rw [List.getElem?_append_left (by omega)]; exact e1
        · rw [List.getElem?_append_left (by omega)]; exact e2
        · rw [List.getElem?_append_left (by omega)]; exact e3
      · have ei : i = bs.length := by simp at hi; omega
        subst ei
        have hx : (bs ++ [B])[bs.length] = B := by simp
        rw [hx]
        refine ⟨ba, bc, ?_, ?_, ?_, ?_, own_fr o fT h.bp⟩
        · rw [List.getElem?_append_right (by omega)]; simp [h2]
        · rw [List.getElem?_append_right (by omega)]; simp [h2]
        · rw [List.getElem?_append_right (by omega)]; simp [h2]
        · rw [List.getElem?_append_right (by omega)]; simp [h2]
  · have g2 : w.grownBy wy none := grown_join (grown_join h.gr gA (.inl rfl)) r3 (.inr fun y hy => (World.ownsRow.lt h1 y hy).1)
    exact gr_own g2 h.lt _ _
end Go.Proofs.Ytnklkhcldcljaaa
