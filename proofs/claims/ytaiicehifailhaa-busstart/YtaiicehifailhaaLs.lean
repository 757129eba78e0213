/- The law of Start. -/
import Derived.Test.YtaiicehifailhaaP1
namespace Go.Proofs.Ytaiicehifailhaa
open Go.RowKit
attribute [local go_sem ↓] Go.wp_at_zero Go.wp_at_succ
set_option linter.unusedVariables false
set_option linter.unusedSimpArgs false

def EnvS (xb yb : Nat) (st wa : Int) (W : World) : Prop := W.cell? ⟨xb, 0, none⟩ = some (.int .i64 st) ∧ W.cell? ⟨yb, 0, none⟩ = some (.int .i64 wa)
theorem EnvS.grown {xb yb : Nat} {st wa : Int} (W W' : World) (h : EnvS xb yb st wa W) (hg : W.grownBy W' none) : EnvS xb yb st wa W' := ⟨hg.cell h.1 (by simp), hg.cell h.2 (by simp)⟩
set_option maxRecDepth 10000 in
set_option maxHeartbeats 1000000 in
theorem closS_any (st wa : Int) (L : Lk) (xb yb : Nat) (w : World) (x y : Value) (hE : EnvS xb yb st wa w) (h : LkR w L x y) (hl : L.sa.length ≤ 17592186043904) :
    Calls Try.prog 18 #[lkV L x y, .pointer (some ⟨xb, 0, none⟩), .pointer (some ⟨yb, 0, none⟩)] w fun e w' => LkE w w' e (startL st wa L.sa) (startE st wa L.sa) := by
  obtain ⟨lst, lwa, sa, wo, sq, ag, fr⟩ := L
  obtain ⟨h1, h2⟩ := h
  dsimp only [lkV, lkA] at *
  obtain ⟨p, hp⟩ : ∃ p, w.heap.size = p := ⟨_, rfl⟩
  have hW1 : ((w.alloc (.cells #[.int .i64 lst, .int .i64 lwa, x, y, .int .i64 sq, .int .i64 ag, .bool fr] 40)).alloc (.cells #[.int .i64 0, .int .i64 0, .slice none 0 0, .slice none 0 0, .int .i64 0, .int .i64 0, .bool false] 40)).heap[p]? = some (.cells #[.int .i64 lst, .int .i64 lwa, x, y, .int .i64 sq, .int .i64 ag, .bool fr] 40) := by
    rw [hp_old (by simp; omega)]; exact hp_new hp.symm _
  have hW2 : ((w.alloc (.cells #[.int .i64 lst, .int .i64 lwa, x, y, .int .i64 sq, .int .i64 ag, .bool fr] 40)).alloc (.cells #[.int .i64 0, .int .i64 0, .slice none 0 0, .slice none 0 0, .int .i64 0, .int .i64 0, .bool false] 40)).heap[p + 1]? = some (.cells #[.int .i64 0, .int .i64 0, .slice none 0 0, .slice none 0 0, .int .i64 0, .int .i64 0, .bool false] 40) := hp_new (by simp; omega) _
  have hgW : w.grownBy ((w.alloc (.cells #[.int .i64 lst, .int .i64 lwa, x, y, .int .i64 sq, .int .i64 ag, .bool fr] 40)).alloc (.cells #[.int .i64 0, .int .i64 0, .slice none 0 0, .slice none 0 0, .int .i64 0, .int .i64 0, .bool false] 40)) none := gr_alloc (gr_alloc (World.grownBy.refl _ _) _) _
  have cS := fun (X : World) (hX : w.grownBy X none) => start_any st wa sa x X (rd_grown h1 hX) hl
  generalize startL st wa sa = R at *
  generalize startE st wa sa = E at *
  go_enter Try.func18, Try.ntmps18
  go_upto_region 1 with fail
  have HP := hidI hp
  clear hp
  generalize (w.alloc (.cells #[.int .i64 lst, .int .i64 lwa, x, y, .int .i64 sq, .int .i64 ag, .bool fr] 40)).alloc (.cells #[.int .i64 0, .int .i64 0, .slice none 0 0, .slice none 0 0, .int .i64 0, .int .i64 0, .bool false] 40) = W at *
  obtain ⟨x1, x2⟩ := EnvS.grown _ _ hE hgW
  have cS := cS W hgW
  obtain ⟨i0, i1, i2, i3, i4, i5, i6⟩ := at7 hW1
  have HW := hidI (And.intro hW2 hgW)
  clear hW2 hgW hW1
  go_wp2_with fail
  refine cS.mono ?_
  rintro e w1 ⟨V, rfl, a1, c1, a2, c2, rfl, o1, o2, e6, g1⟩
  obtain ⟨hW2, hgW⟩ := HW.out
  have hW1 := kept g1 hW2
  have hpW := at_lt hW2
  dsimp only [lkV, lkA] at *
  clear i0 i1 i2 i3 i4 i5 i6 x1 x2
  obtain ⟨j0, j1, j2, j3, j4, j5, j6⟩ := at7 hW1
  obtain ⟨f0, f1, f2, f3, f4, f5, f6⟩ := fz7 hW1
  have HH := hidI (And.intro hW1 (And.intro o1 (And.intro o2 (And.intro e6 (And.intro (grown_join hgW g1 (.inl rfl)) (And.intro hpW hgW.size))))))
  clear hW1 o1 o2 e6 g1 hpW cS hgW hW2
  go_wp2
  obtain ⟨hW1, o1, o2, e6, g1, hpW, hs⟩ := HH.out
  refine bodyPost_ret (results2 rfl _ _ (p + 1) R (.slice a1 R.sa.length c1) (.slice a2 R.wo.length c2) rfl (box7 hW1)) rfl ?_
  have hp := HP.out
  exact ⟨_, rfl, a1, c1, a2, c2, rfl, own_low (own_but o1 (gr7 (World.grownBy.refl _ _)) (by omega)) (by omega), own_low (own_but o2 (gr7 (World.grownBy.refl _ _)) (by omega)) (by omega), e6, gr7n g1 (by omega)⟩
theorem startL_len (st wa : Int) (sa : List Int) (hl : sa.length ≤ 17592186043904) : (startL st wa sa).sa.length ≤ 17592186043904 ∧ (startL st wa sa).wo.length ≤ 17592186043904 := by
  unfold startL
  split
  · exact ⟨hl, hl⟩
  · exact ⟨by simp [zeroL], by simp [zeroL]⟩
set_option maxRecDepth 10000 in
set_option maxHeartbeats 1000000 in
theorem startLaw_any (st wa : Int) (sa : List Int) (v : Value) (w : World) (hv : rd w v sa) (hl : sa.length ≤ 17592186043904) : Calls Try.prog 5 #[.int .i64 st, .int .i64 wa, v] w fun e w' => e = .returned (.bool true) ∧ w.grownBy w' none := by
  obtain ⟨p, hp⟩ : ∃ p, w.heap.size = p := ⟨_, rfl⟩
  have hB1 : ((w.alloc (.cells #[.int .i64 st] 3)).alloc (.cells #[.int .i64 wa] 3)).heap[p]? = some (.cells #[.int .i64 st] 3) := by
    rw [hp_old (by simp; omega)]; exact hp_new hp.symm _
  have hB2 : ((w.alloc (.cells #[.int .i64 st] 3)).alloc (.cells #[.int .i64 wa] 3)).heap[p + 1]? = some (.cells #[.int .i64 wa] 3) := hp_new (by simp; omega) _
  have hgW : w.grownBy ((w.alloc (.cells #[.int .i64 st] 3)).alloc (.cells #[.int .i64 wa] 3)) none := gr_alloc (gr_alloc (World.grownBy.refl _ _) _) _
  have cR := linked_any st wa sa v _ (rd_grown hv hgW) hl
  obtain ⟨a, cap, rfl, _⟩ := id hv
  go_enter Try.func5, Try.ntmps5
  go_upto_region 1 with fail
  have HP := hidI hp
  clear hp
  generalize (w.alloc (.cells #[.int .i64 st] 3)).alloc (.cells #[.int .i64 wa] 3) = W at *
  have x1 : W.cell? ⟨p, 0, none⟩ = some (.int .i64 st) := at_cell hB1 0
  have x2 : W.cell? ⟨p + 1, 0, none⟩ = some (.int .i64 wa) := at_cell hB2 0
  go_wp2_with fail
  refine cR.mono ?_
  have hlen := startL_len st wa sa hl
  have cC := fun (X : World) (x y : Value) (hE : EnvS p (p + 1) st wa X) (h : LkR X ⟨0, 0, sa, [], 0, 0, false⟩ x y) => closS_any st wa ⟨0, 0, sa, [], 0, 0, false⟩ p (p + 1) X x y hE h hl
  dsimp only at cC
  generalize startL st wa sa = R at *
  generalize startE st wa sa = E at *
  rintro e w1 ⟨V, rfl, a1, c1, a2, c2, rfl, o1, o2, e6, g1⟩
  have hgA : w1.grownBy (w1.alloc (.cells (lkA R (.slice a1 R.sa.length c1) (.slice a2 R.wo.length c2)) 40)) none := gr_alloc (World.grownBy.refl _ _) _
  have gWA := grown_join g1 hgA (.inl rfl)
  have gwA := grown_join hgW gWA (.inl rfl)
  have cL := linkAs_18 ⟨0, 0, sa, [], 0, 0, false⟩ R E (.slice a sa.length cap) (.slice none 0 0) (.slice a1 R.sa.length c1) (.slice a2 R.wo.length c2) p (p + 1) _ ⟨rd_grown hv gwA, ⟨none, 0, rfl, .inl rfl⟩⟩ ⟨(OwnL.kept o1 hgA).rd, (OwnL.kept o2 hgA).rd⟩ hl (by simp) hlen.1 hlen.2 (EnvS p (p + 1) st wa) (EnvS.grown _ _ ⟨x1, x2⟩ gWA) EnvS.grown cC
  dsimp only [lkV, lkA] at *
  have hB3 := heap_alloc_new w1 (.cells #[.int .i64 R.st, .int .i64 R.wa, .slice a1 R.sa.length c1, .slice a2 R.wo.length c2, .int .i64 R.sq, .int .i64 R.ag, .bool R.fr] 40)
  obtain ⟨q, hq⟩ : ∃ q, w1.heap.size = q := ⟨_, rfl⟩
  rw [hq] at hB3
  obtain ⟨i0, i1, i2, i3, i4, i5, i6⟩ := at7 hB3
  have HG := hidI gwA
  clear hB3 hgA gWA gwA cC hB1 hB2 hgW hv o1 o2 g1 x1 x2 cR e6
  go_wp2_with fail
  refine cL.mono ?_
  rintro e w2 ⟨rfl, g2⟩
  go_wp2
  go_ret
  exact ⟨rfl, grown_join HG.out g2 (.inl rfl)⟩
end Go.Proofs.Ytaiicehifailhaa
