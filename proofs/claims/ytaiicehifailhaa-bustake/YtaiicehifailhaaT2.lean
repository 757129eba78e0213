/- Tick, the document's. -/
import Derived.Test.YtaiicehifailhaaT
namespace Go.Proofs.Ytaiicehifailhaa
open Go.RowKit
attribute [local go_sem ↓] Go.wp_at_zero Go.wp_at_succ
set_option linter.unusedVariables false
set_option linter.unusedSimpArgs false

set_option maxRecDepth 10000 in
set_option maxHeartbeats 2000000 in
theorem ticked_any (L : Lk) (s t : Value) (w : World) (h : LkR w L s t) (hl1 : L.sa.length ≤ 17592186043904) (hl2 : L.wo.length ≤ 17592186043904) : Calls Try.prog 24 #[lkV L s t] w fun e w' => LkE w w' e (tickL L) (tickE L) := by
  have cM := fun (W : World) (hW : w.grownBy W none) => couldBe_any L s t W (h.grown hW) hl1 hl2
  have cS := fun (W : World) (hW : w.grownBy W none) => copyOf_any L.sa s W (rd_grown h.1 hW) hl1
  have cW := fun (W : World) (hW : w.grownBy W none) => copyOf_any L.wo t W (rd_grown h.2 hW) hl2
  have HP1 := hidI (fun hc : couldB L = true => could_parts hc)
  have HT : Hid (tickL L = if couldB L = true then (if L.fr = true then (if L.ag + 1 = L.wa then ⟨L.st, L.wa, L.sa, L.sa, L.sq, 0, false⟩ else ⟨L.st, L.wa, L.sa, L.wo, L.sq, L.ag + 1, true⟩) else L) else zeroL) := hidI rfl
  have HTE : Hid (tickE L = if couldB L = true then 0 else 15) := hidI rfl
  generalize tickL L = TL at *
  generalize tickE L = TE at *
  obtain ⟨st, wa, sa, wo, sq, ag, fr⟩ := L
  dsimp only [lkV, lkA] at *
  obtain ⟨p, hp⟩ : ∃ p, w.heap.size = p := ⟨_, rfl⟩
  have hW1 : ((w.alloc (.cells #[.int .i64 st, .int .i64 wa, s, t, .int .i64 sq, .int .i64 ag, .bool fr] 40)).alloc (.cells #[.int .i64 0, .int .i64 0, .slice none 0 0, .slice none 0 0, .int .i64 0, .int .i64 0, .bool false] 40)).heap[p]? = some (.cells #[.int .i64 st, .int .i64 wa, s, t, .int .i64 sq, .int .i64 ag, .bool fr] 40) := by
    rw [hp_old (by simp; omega)]; exact hp_new hp.symm _
  have hW2 : ((w.alloc (.cells #[.int .i64 st, .int .i64 wa, s, t, .int .i64 sq, .int .i64 ag, .bool fr] 40)).alloc (.cells #[.int .i64 0, .int .i64 0, .slice none 0 0, .slice none 0 0, .int .i64 0, .int .i64 0, .bool false] 40)).heap[p + 1]? = some (.cells #[.int .i64 0, .int .i64 0, .slice none 0 0, .slice none 0 0, .int .i64 0, .int .i64 0, .bool false] 40) := hp_new (by simp; omega) _
  have hgW : w.grownBy ((w.alloc (.cells #[.int .i64 st, .int .i64 wa, s, t, .int .i64 sq, .int .i64 ag, .bool fr] 40)).alloc (.cells #[.int .i64 0, .int .i64 0, .slice none 0 0, .slice none 0 0, .int .i64 0, .int .i64 0, .bool false] 40)) none := gr_alloc (gr_alloc (World.grownBy.refl _ _) _) _
  generalize couldB ⟨st, wa, sa, wo, sq, ag, fr⟩ = CB at *
  go_enter Try.func24, Try.ntmps24
  go_upto_region 1 with fail
  have HP := hidI hp
  clear hp
  generalize (w.alloc (.cells #[.int .i64 st, .int .i64 wa, s, t, .int .i64 sq, .int .i64 ag, .bool fr] 40)).alloc (.cells #[.int .i64 0, .int .i64 0, .slice none 0 0, .slice none 0 0, .int .i64 0, .int .i64 0, .bool false] 40) = W at *
  obtain ⟨i0, i1, i2, i3, i4, i5, i6⟩ := at7 (hW1)
  go_wp2_with fail
  refine (cM W hgW).mono ?_
  rintro e w1 ⟨rfl, g1⟩
  clear i0 i1 i2 i3 i4 i5 i6
  have gw1 := grown_join hgW g1 (.inl rfl)
  have k1 := kept g1 hW1
  have k2 := kept g1 hW2
  have hs0 := hgW.size
  have hs1 := g1.size
  clear hW1 hW2 hgW g1 cM
  cases CB with
  | false =>
    obtain ⟨j0, j1, j2, j3, j4, j5, j6⟩ := at7 (k2)
    obtain ⟨f0, f1, f2, f3, f4, f5, f6⟩ := fz7 (k2)
    have HK := hidI (And.intro k2 gw1)
    clear k1 k2 gw1
    go_wp2
    refine bodyPost_ret (results2 rfl _ _ (p + 1) zeroL (.slice none 0 0) (.slice none 0 0) rfl (box7 HK.out.1)) rfl ?_
    rw [HT.out, HTE.out]
    exact ⟨_, rfl, LkP.zero (gr7n HK.out.2 (by rw [HP.out]; omega))⟩
  | true =>
  obtain ⟨pE, pl, pk, ⟨pq1, pq2⟩, ⟨pa1, pa2⟩, pf⟩ := HP1.out (by simp)
  obtain ⟨wa1, wa2, st1, st2, sl60, sok⟩ := startE_wa pE
  clear pE pl pk pf sok st1 st2 pq1 pq2
  obtain ⟨i0, i1, i2, i3, i4, i5, i6⟩ := at7 (k1)
  go_wp2_with fail
  refine (cS w1 gw1).mono ?_
  rintro e w2 ⟨a1, c1, rfl, o1, g2⟩
  clear i0 i1 i2 i3 i4 i5 i6
  have hB := at_lt k2
  have hpw : w.heap.size ≤ p := by rw [HP.out]; exact Nat.le_refl _
  have k1 := kept g2 k1
  have k2 := kept g2 k2
  have x1 : (w2.setCell ⟨p, 2, none⟩ (.slice a1 sa.length c1)).heap[p]? = some (.cells #[.int .i64 st, .int .i64 wa, .slice a1 sa.length c1, t, .int .i64 sq, .int .i64 ag, .bool fr] 40) := by
    have := at_set k1 2 (.slice a1 sa.length c1); simpa using this
  have x2 := other_set (i := 2) (v := .slice a1 sa.length c1) k2 (show p + 1 ≠ p by omega)
  have x3 : w.grownBy (w2.setCell ⟨p, 2, none⟩ (.slice a1 sa.length c1)) none := gr_own (grown_join gw1 g2 (.inl rfl)) hpw _ _
  have x4 : OwnL w1.heap.size (w2.setCell ⟨p, 2, none⟩ (.slice a1 sa.length c1)) a1 c1 sa := OwnL.set o1 (by omega)
  have hsz := g2.size
  have r3 : (w2.setCell ⟨p, 2, none⟩ (.slice a1 sa.length c1)).cell? ⟨p, 3, none⟩ = some t := at_cell x1 3
  have r2 : w2.cell? ⟨p, 2, none⟩ = some s := at_cell k1 2
  have f2 := at_frozen k1 2
  have hS2 : (w2.setCell ⟨p, 2, none⟩ (.slice a1 sa.length c1)).heap.size = w2.heap.size := by simp
  have HX := hidI (And.intro x1 (And.intro x2 (And.intro x3 (And.intro x4 (And.intro hB (And.intro hs0 (And.intro hpw (And.intro hsz hS2))))))))
  have cW' := cW _ x3
  clear x1 x2 x3 x4 hB hs0 hpw hsz hS2 k1 k2 o1 g2 gw1 hs1 cS cW
  go_wp2_with fail
  refine cW'.mono ?_
  rintro e w3 ⟨a2, c2, rfl, o2, g3⟩
  obtain ⟨x1, x2, x3, x4, hB, hs0, hpw, hsz, hS2⟩ := HX.out
  clear HX cW' r3 r2 f2
  rw [hS2] at o2
  have k1 := kept g3 x1
  have k2 := kept g3 x2
  have y1 : (w3.setCell ⟨p, 3, none⟩ (.slice a2 wo.length c2)).heap[p]? = some (.cells #[.int .i64 st, .int .i64 wa, .slice a1 sa.length c1, .slice a2 wo.length c2, .int .i64 sq, .int .i64 ag, .bool fr] 40) := by
    have := at_set k1 3 (.slice a2 wo.length c2); simpa using this
  have y2 := other_set (i := 3) (v := .slice a2 wo.length c2) k2 (show p + 1 ≠ p by omega)
  have y3 : w.grownBy (w3.setCell ⟨p, 3, none⟩ (.slice a2 wo.length c2)) none := gr_own (grown_join x3 g3 (.inl rfl)) hpw _ _
  have y4 : OwnL w1.heap.size (w3.setCell ⟨p, 3, none⟩ (.slice a2 wo.length c2)) a1 c1 sa := OwnL.set (OwnL.kept x4 g3) (by omega)
  have y5 : OwnL w2.heap.size (w3.setCell ⟨p, 3, none⟩ (.slice a2 wo.length c2)) a2 c2 wo := OwnL.set o2 (by omega)
  have d12 : ∀ x, (Value.slice a1 sa.length c1).ownBlock = some x → (Value.slice a2 wo.length c2).ownBlock ≠ some x := fun x hx hy => by
    have h1 := World.ownsRow.lt x4 x hx
    have h2 := World.ownsRow.lt o2 x hy
    omega
  have q3 : w3.cell? ⟨p, 3, none⟩ = some t := at_cell k1 3
  have f3 := at_frozen k1 3
  have HX := hidI (And.intro y1 (And.intro y2 (And.intro y3 (And.intro y4 (And.intro (show OwnL w1.heap.size _ a2 c2 wo from own_low y5 hsz) (And.intro d12 (And.intro hB hs0)))))))
  clear x1 x2 x3 x4 hB hs0 hpw hsz hS2 k1 k2 o2 g3 y1 y2 y3 y4 y5 d12 h HP1
  go_upto_region 5 with fail
  obtain ⟨x1, x2, x3, x4, x5, d12, hB, hs0⟩ := HX.out
  clear HX q3 f3
  generalize w3.setCell ⟨p, 3, none⟩ (.slice a2 wo.length c2) = X at *
  obtain ⟨i0, i1, i2, i3, i4, i5, i6⟩ := at7 (x1)
  cases fr with
  | false =>
    obtain ⟨j0, j1, j2, j3, j4, j5, j6⟩ := at7 (x2)
    obtain ⟨f0, f1, f2, f3, f4, f5, f6⟩ := fz7 (x2)
    have HH := hidI (And.intro x2 (And.intro x3 (And.intro x4 (And.intro x5 (And.intro d12 (And.intro hB hs0))))))
    clear x1 x2 x3 x4 x5 d12 hB hs0
    go_wp2
    obtain ⟨x2, x3, x4, x5, d12, hB, hs0⟩ := HH.out
    refine bodyPost_ret (results2 rfl _ _ (p + 1) ⟨st, wa, sa, wo, sq, ag, false⟩ (.slice a1 sa.length c1) (.slice a2 wo.length c2) rfl (box7 x2)) rfl ?_
    rw [HT.out, HTE.out]
    have hp := HP.out
    exact ⟨_, rfl, a1, c1, a2, c2, rfl, own_low (own_but x4 (gr7 (World.grownBy.refl _ _)) (by omega)) (by omega), own_low (own_but x5 (gr7 (World.grownBy.refl _ _)) (by omega)) (by omega), d12, gr7n x3 (by omega)⟩
  | true =>
  have y1 : (X.setCell ⟨p, 5, none⟩ (.int .i64 (ag + 1))).heap[p]? = some (.cells #[.int .i64 st, .int .i64 wa, .slice a1 sa.length c1, .slice a2 wo.length c2, .int .i64 sq, .int .i64 (ag + 1), .bool true] 40) := by
    have := at_set x1 5 (.int .i64 (ag + 1)); simpa using this
  have y2 := other_set (i := 5) (v := .int .i64 (ag + 1)) x2 (show p + 1 ≠ p by omega)
  have y3 : w.grownBy (X.setCell ⟨p, 5, none⟩ (.int .i64 (ag + 1))) none := gr_own x3 (by rw [HP.out]; exact Nat.le_refl _) _ _
  have y4 := x4.set (q := p) (i := 5) (v := .int .i64 (ag + 1)) (by omega)
  have y5 := x5.set (q := p) (i := 5) (v := .int .i64 (ag + 1)) (by omega)
  obtain ⟨f0, f1, f2, f3, f4, f5, f6⟩ := fz7 (x1)
  have HY := hidI (And.intro y1 (And.intro y2 (And.intro y3 (And.intro y4 (And.intro y5 (And.intro d12 (And.intro hB hs0)))))))
  clear x1 x2 x3 x4 x5 d12 hB hs0 y1 y2 y3 y4 y5
  go_upto_region 7 with fail
  obtain ⟨x1, x2, x3, x4, x5, d12, hB, hs0⟩ := HY.out
  clear HY
  clear i0 i1 i2 i3 i4 i5 i6 f0 f1 f2 f3 f4 f5 f6
  generalize X.setCell ⟨p, 5, none⟩ (.int .i64 (ag + 1)) = Y at *
  obtain ⟨i0, i1, i2, i3, i4, i5, i6⟩ := at7 (x1)
  by_cases hw : ag + 1 = wa
  case neg =>
    obtain ⟨j0, j1, j2, j3, j4, j5, j6⟩ := at7 (x2)
    obtain ⟨f0, f1, f2, f3, f4, f5, f6⟩ := fz7 (x2)
    have e1 : (ag + 1 == wa) = false := by simpa using hw
    have HH := hidI (And.intro x2 (And.intro x3 (And.intro x4 (And.intro x5 (And.intro d12 (And.intro hB hs0))))))
    clear x1 x2 x3 x4 x5 d12 hB hs0
    go_wp2
    obtain ⟨x2, x3, x4, x5, d12, hB, hs0⟩ := HH.out
    refine bodyPost_ret (results2 rfl _ _ (p + 1) ⟨st, wa, sa, wo, sq, ag + 1, true⟩ (.slice a1 sa.length c1) (.slice a2 wo.length c2) rfl (box7 x2)) rfl ?_
    rw [HT.out, HTE.out]
    simp only [if_true]
    rw [if_neg hw]
    have hp := HP.out
    exact ⟨_, rfl, a1, c1, a2, c2, rfl, own_low (own_but x4 (gr7 (World.grownBy.refl _ _)) (by omega)) (by omega), own_low (own_but x5 (gr7 (World.grownBy.refl _ _)) (by omega)) (by omega), d12, gr7n x3 (by omega)⟩
  have e1 : (ag + 1 == wa) = true := by simpa using hw
  have HW := hidI hw
  clear hw
  have hpw : w.heap.size ≤ p := by rw [HP.out]; exact Nat.le_refl _
  have y1 : ((Y.setCell ⟨p, 6, none⟩ (.bool false)).setCell ⟨p, 5, none⟩ (.int .i64 0)).heap[p]? = some (.cells #[.int .i64 st, .int .i64 wa, .slice a1 sa.length c1, .slice a2 wo.length c2, .int .i64 sq, .int .i64 0, .bool false] 40) := by
    have := at_set (at_set x1 6 (.bool false)) 5 (.int .i64 0); simpa using this
  have y2 := other_set (i := 5) (v := .int .i64 0) (other_set (i := 6) (v := .bool false) x2 (show p + 1 ≠ p by omega)) (show p + 1 ≠ p by omega)
  have y3 := gr_own (gr_own x3 hpw 6 (.bool false)) hpw 5 (.int .i64 0)
  have y4 := (x4.set (q := p) (i := 6) (v := .bool false) (by omega)).set (q := p) (i := 5) (v := .int .i64 0) (by omega)
  obtain ⟨f0, f1, f2, f3, f4, f5, f6⟩ := fz7 (x1)
  have HY := hidI (And.intro y1 (And.intro y2 (And.intro y3 (And.intro y4 (And.intro hB hs0)))))
  clear x1 x2 x3 x4 x5 d12 hB hs0 y1 y2 y3 y4 hpw
  go_upto_region 10 with fail
  obtain ⟨x1, x2, x3, x4, hB, hs0⟩ := HY.out
  clear HY
  clear i0 i1 i2 i3 i4 i5 i6 f0 f1 f2 f3 f4 f5 f6
  generalize (Y.setCell ⟨p, 6, none⟩ (.bool false)).setCell ⟨p, 5, none⟩ (.int .i64 0) = Y2 at *
  obtain ⟨i0, i1, i2, i3, i4, i5, i6⟩ := at7 (x1)
  have cK := copyOf_any sa (.slice a1 sa.length c1) Y2 x4.rd (by omega)
  have HX := hidI (And.intro x1 (And.intro x2 (And.intro x3 (And.intro x4 (And.intro hB hs0)))))
  clear x1 x2 x3 x4 hB hs0
  go_wp2_with fail
  refine cK.mono ?_
  rintro e w4 ⟨a3, c3, rfl, o3, g4⟩
  obtain ⟨x1, x2, x3, x4, hB, hs0⟩ := HX.out
  clear HX
  have z1 := kept g4 x1
  have z2 := kept g4 x2
  have z3 := grown_join x3 g4 (.inl rfl)
  have z4 := OwnL.kept x4 g4
  have hYl := at_lt x2
  have v1 : (w4.setCell ⟨p, 3, none⟩ (.slice a3 sa.length c3)).heap[p]? = some (.cells #[.int .i64 st, .int .i64 wa, .slice a1 sa.length c1, .slice a3 sa.length c3, .int .i64 sq, .int .i64 0, .bool false] 40) := by
    have := at_set z1 3 (.slice a3 sa.length c3); simpa using this
  have v2 := other_set (i := 3) (v := .slice a3 sa.length c3) z2 (show p + 1 ≠ p by omega)
  have hpw : w.heap.size ≤ p := by rw [HP.out]; exact Nat.le_refl _
  have v3 := gr_own z3 hpw 3 (.slice a3 sa.length c3)
  have v4 := z4.set (q := p) (i := 3) (v := .slice a3 sa.length c3) (by omega)
  have v5 : OwnL Y2.heap.size _ a3 c3 sa := OwnL.set (q := p) (i := 3) (v := .slice a3 sa.length c3) o3 (by omega)
  have v6 : ∀ x, (Value.slice a1 sa.length c1).ownBlock = some x → (Value.slice a3 sa.length c3).ownBlock ≠ some x := fun x hx hy => by
    have h1 := World.ownsRow.lt x4 x hx
    have h2 := World.ownsRow.lt o3 x hy
    omega
  clear i0 i1 i2 i3 i4 i5 i6
  obtain ⟨i0, i1, i2, i3, i4, i5, i6⟩ := at7 (z1)
  obtain ⟨f0, f1, f2, f3, f4, f5, f6⟩ := fz7 (z1)
  have HV := hidI (And.intro v1 (And.intro v2 (And.intro v3 (And.intro v4 (And.intro v5 (And.intro v6 (And.intro hB (And.intro hs0 hYl))))))))
  clear v1 v2 v3 v4 v5 v6 hB hs0 hYl z1 z2 z3 z4 x1 x2 x3 x4 hpw o3 g4 cK
  go_upto_region 11 with fail
  obtain ⟨x1, x2, x3, x4, x5, d12, hB, hs0, hYl⟩ := HV.out
  clear HV
  clear i0 i1 i2 i3 i4 i5 i6 f0 f1 f2 f3 f4 f5 f6
  generalize w4.setCell ⟨p, 3, none⟩ (.slice a3 sa.length c3) = X2 at *
  obtain ⟨i0, i1, i2, i3, i4, i5, i6⟩ := at7 (x1)
  obtain ⟨j0, j1, j2, j3, j4, j5, j6⟩ := at7 (x2)
  obtain ⟨f0, f1, f2, f3, f4, f5, f6⟩ := fz7 (x2)
  have HH := hidI (And.intro x2 (And.intro x3 (And.intro x4 (And.intro x5 (And.intro d12 (And.intro hB (And.intro hs0 hYl)))))))
  clear x1 x2 x3 x4 x5 d12 hB hs0 hYl
  go_wp2
  obtain ⟨x2, x3, x4, x5, d12, hB, hs0, hYl⟩ := HH.out
  refine bodyPost_ret (results2 rfl _ _ (p + 1) ⟨st, wa, sa, sa, sq, 0, false⟩ (.slice a1 sa.length c1) (.slice a3 sa.length c3) rfl (box7 x2)) rfl ?_
  rw [HT.out, HTE.out]
  simp only [if_true]
  rw [if_pos HW.out]
  have hp := HP.out
  exact ⟨_, rfl, a1, c1, a3, c3, rfl, own_low (own_but x4 (gr7 (World.grownBy.refl _ _)) (by omega)) (by omega), own_low (own_but x5 (gr7 (World.grownBy.refl _ _)) (by omega)) (by omega), d12, gr7n x3 (by omega)⟩
end Go.Proofs.Ytaiicehifailhaa
