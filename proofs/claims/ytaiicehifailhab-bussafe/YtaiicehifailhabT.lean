/- Tick, the program's. -/
import Derived.Test.YtaiicehifailhabQ
namespace Go.Proofs.Ytaiicehifailhab
open Go.RowKit
attribute [local go_sem ↓] Go.wp_at_zero Go.wp_at_succ
set_option linter.unusedVariables false
set_option linter.unusedSimpArgs false

/-- A tick goes by. -/
def tickL (L : Lk) : Lk := if couldB L = true then (if L.fr = true then (if L.ag + 1 = L.wa then ⟨L.st, L.wa, L.sa, L.sa, L.sq, 0, false⟩ else ⟨L.st, L.wa, L.sa, L.wo, L.sq, L.ag + 1, true⟩) else L) else zeroL
def tickE (L : Lk) : Nat := if couldB L = true then 0 else 15
theorem could_parts {L : Lk} (h : couldB L = true) : startE L.st L.wa L.sa = 0 ∧ L.wo.length = L.sa.length ∧ L.wo.all okW = true ∧ (0 ≤ L.sq ∧ L.sq ≤ 255) ∧ (0 ≤ L.ag ∧ L.ag ≤ L.wa - 1) ∧ (L.fr = true ∨ (L.ag = 0 ∧ L.wo = L.sa)) := by
  unfold couldB at h
  simp only [Bool.and_eq_true, Bool.or_eq_true, decide_eq_true_eq, beq_iff_eq] at h
  obtain ⟨h1, h2, h3, h4, h5, h6⟩ := h
  exact ⟨h1, h2, h3, wi_iff.1 h4, wi_iff.1 h5, h6⟩
theorem OwnL.set {B : Nat} {w : World} {a : Option Addr} {cap q i : Nat} {l : List Int} {v : Value} (h : OwnL B w a cap l) (hq : q < B) : OwnL B (w.setCell ⟨q, i, none⟩ v) a cap l := own_but h (gr_set (World.grownBy.refl _ _) _ _) hq
theorem other_set {w : World} {q r i : Nat} {v : Value} {o : Obj} (h : w.heap[r]? = some o) (hr : r ≠ q) : (w.setCell ⟨q, i, none⟩ v).heap[r]? = some o := by
  rw [Below.heap_setCell _ _ _ _ (by simpa using hr)]; exact h
set_option maxRecDepth 10000 in
set_option maxHeartbeats 2000000 in
theorem tick_any (L : Lk) (s t : Value) (w : World) (h : LkR w L s t) (hl1 : L.sa.length ≤ 17592186043904) (hl2 : L.wo.length ≤ 17592186043904) : Calls Try.prog 10 #[lkV L s t] w fun e w' => LkE w w' e (tickL L) (tickE L) := by
  have cM := fun (W : World) (hW : w.grownBy W none) => mayBe_any L s t W (h.grown hW) hl1 hl2
  have cC := fun (W : World) (hW : w.grownBy W none) => copied_any L s t W (h.grown hW) hl1 hl2
  have HP1 := hidI (fun hc : couldB L = true => could_parts hc)
  have HT : Hid (tickL L = if couldB L = true then (if L.fr = true then (if L.ag + 1 = L.wa then ⟨L.st, L.wa, L.sa, L.sa, L.sq, 0, false⟩ else ⟨L.st, L.wa, L.sa, L.wo, L.sq, L.ag + 1, true⟩) else L) else zeroL) := hidI rfl
  have HTE : Hid (tickE L = if couldB L = true then 0 else 15) := hidI rfl
  generalize tickL L = TL at *
  generalize tickE L = TE at *
  obtain ⟨st, wa, sa, wo, sq, ag, fr⟩ := L
  dsimp only [lkV, lkA] at *
  obtain ⟨p, hp⟩ : ∃ p, w.heap.size = p := ⟨_, rfl⟩
  have hW1 : ((w.alloc (.cells #[.int .i64 st, .int .i64 wa, s, t, .int .i64 sq, .int .i64 ag, .bool fr] 26)).alloc (.cells #[.int .i64 0, .int .i64 0, .slice none 0 0, .slice none 0 0, .int .i64 0, .int .i64 0, .bool false] 26)).heap[p]? = some (.cells #[.int .i64 st, .int .i64 wa, s, t, .int .i64 sq, .int .i64 ag, .bool fr] 26) := by
    rw [hp_old (by simp; omega)]; exact hp_new hp.symm _
  have hW2 : ((w.alloc (.cells #[.int .i64 st, .int .i64 wa, s, t, .int .i64 sq, .int .i64 ag, .bool fr] 26)).alloc (.cells #[.int .i64 0, .int .i64 0, .slice none 0 0, .slice none 0 0, .int .i64 0, .int .i64 0, .bool false] 26)).heap[p + 1]? = some (.cells #[.int .i64 0, .int .i64 0, .slice none 0 0, .slice none 0 0, .int .i64 0, .int .i64 0, .bool false] 26) := hp_new (by simp; omega) _
  have hgW : w.grownBy ((w.alloc (.cells #[.int .i64 st, .int .i64 wa, s, t, .int .i64 sq, .int .i64 ag, .bool fr] 26)).alloc (.cells #[.int .i64 0, .int .i64 0, .slice none 0 0, .slice none 0 0, .int .i64 0, .int .i64 0, .bool false] 26)) none := gr_alloc (gr_alloc (World.grownBy.refl _ _) _) _
  generalize couldB ⟨st, wa, sa, wo, sq, ag, fr⟩ = CB at *
  go_enter Try.func10, Try.ntmps10
  go_upto_region 1 with fail
  have HP := hidI hp
  clear hp
  generalize (w.alloc (.cells #[.int .i64 st, .int .i64 wa, s, t, .int .i64 sq, .int .i64 ag, .bool fr] 26)).alloc (.cells #[.int .i64 0, .int .i64 0, .slice none 0 0, .slice none 0 0, .int .i64 0, .int .i64 0, .bool false] 26) = W at *
  obtain ⟨i0, i1, i2, i3, i4, i5, i6⟩ := at7 (hW1)
  go_wp2_with fail
  refine (cM W hgW).mono ?_
  rintro e w1 ⟨rfl, g1⟩
  clear i0 i1 i2 i3 i4 i5 i6
  have gw1 := grown_join hgW g1 (.inl rfl)
  have k1 := kept g1 hW1
  have k2 := kept g1 hW2
  have hs0 := hgW.size
  have hs1 := g1.size
  clear hW1 hW2 hgW g1 cM
  cases CB with
  | false =>
    obtain ⟨j0, j1, j2, j3, j4, j5, j6⟩ := at7 (k2)
    obtain ⟨f0, f1, f2, f3, f4, f5, f6⟩ := fz7 (k2)
    have HK := hidI (And.intro k2 gw1)
    clear k1 k2 gw1
    go_wp2
    refine bodyPost_ret (results2 rfl _ _ (p + 1) zeroL (.slice none 0 0) (.slice none 0 0) rfl (box7 HK.out.1)) rfl ?_
    rw [HT.out, HTE.out]
    exact ⟨_, rfl, LkP.zero (gr7n HK.out.2 (by rw [HP.out]; omega))⟩
  | true =>
  obtain ⟨i0, i1, i2, i3, i4, i5, i6⟩ := at7 (k1)
  go_wp2_with fail
  refine (cC w1 gw1).mono ?_
  rintro e w2 ⟨V, rfl, a1, c1, a2, c2, rfl, o1, o2, d12, g2⟩
  dsimp only [lkV, lkA] at *
  clear i0 i1 i2 i3 i4 i5 i6
  obtain ⟨pE, pl, pk, ⟨pq1, pq2⟩, ⟨pa1, pa2⟩, pf⟩ := HP1.out (by simp)
  obtain ⟨wa1, wa2, st1, st2, sl60, sok⟩ := startE_wa pE
  clear pE pl pk pf sok st1 st2 pq1 pq2
  have gw2 := grown_join gw1 g2 (.inl rfl)
  have hB := at_lt k2
  have k1 := kept g2 k1
  have k2 := kept g2 k2
  have hpl := at_lt k2
  have hs2 := g2.size
  have x1 : ((((((((w2).setCell ⟨p, 0, none⟩ (.int .i64 st)).setCell ⟨p, 1, none⟩ (.int .i64 wa)).setCell ⟨p, 2, none⟩ (.slice a1 sa.length c1)).setCell ⟨p, 3, none⟩ (.slice a2 wo.length c2)).setCell ⟨p, 4, none⟩ (.int .i64 sq)).setCell ⟨p, 5, none⟩ (.int .i64 ag)).setCell ⟨p, 6, none⟩ (.bool fr)).heap[p]? = some (.cells #[.int .i64 st, .int .i64 wa, .slice a1 sa.length c1, .slice a2 wo.length c2, .int .i64 sq, .int .i64 ag, .bool fr] 26) := box7 k1
  have x2 : ((((((((w2).setCell ⟨p, 0, none⟩ (.int .i64 st)).setCell ⟨p, 1, none⟩ (.int .i64 wa)).setCell ⟨p, 2, none⟩ (.slice a1 sa.length c1)).setCell ⟨p, 3, none⟩ (.slice a2 wo.length c2)).setCell ⟨p, 4, none⟩ (.int .i64 sq)).setCell ⟨p, 5, none⟩ (.int .i64 ag)).setCell ⟨p, 6, none⟩ (.bool fr)).heap[p + 1]? = some (.cells #[.int .i64 0, .int .i64 0, .slice none 0 0, .slice none 0 0, .int .i64 0, .int .i64 0, .bool false] 26) := other_set (other_set (other_set (other_set (other_set (other_set (other_set k2 (by omega)) (by omega)) (by omega)) (by omega)) (by omega)) (by omega)) (by omega)
  have x3 : w.grownBy ((((((((w2).setCell ⟨p, 0, none⟩ (.int .i64 st)).setCell ⟨p, 1, none⟩ (.int .i64 wa)).setCell ⟨p, 2, none⟩ (.slice a1 sa.length c1)).setCell ⟨p, 3, none⟩ (.slice a2 wo.length c2)).setCell ⟨p, 4, none⟩ (.int .i64 sq)).setCell ⟨p, 5, none⟩ (.int .i64 ag)).setCell ⟨p, 6, none⟩ (.bool fr)) none := gr7n gw2 (by rw [HP.out]; exact Nat.le_refl _)
  have x4 : OwnL w1.heap.size ((((((((w2).setCell ⟨p, 0, none⟩ (.int .i64 st)).setCell ⟨p, 1, none⟩ (.int .i64 wa)).setCell ⟨p, 2, none⟩ (.slice a1 sa.length c1)).setCell ⟨p, 3, none⟩ (.slice a2 wo.length c2)).setCell ⟨p, 4, none⟩ (.int .i64 sq)).setCell ⟨p, 5, none⟩ (.int .i64 ag)).setCell ⟨p, 6, none⟩ (.bool fr)) a1 c1 sa := own_but o1 (gr7 (World.grownBy.refl _ _)) (by omega)
  have x5 : OwnL w1.heap.size ((((((((w2).setCell ⟨p, 0, none⟩ (.int .i64 st)).setCell ⟨p, 1, none⟩ (.int .i64 wa)).setCell ⟨p, 2, none⟩ (.slice a1 sa.length c1)).setCell ⟨p, 3, none⟩ (.slice a2 wo.length c2)).setCell ⟨p, 4, none⟩ (.int .i64 sq)).setCell ⟨p, 5, none⟩ (.int .i64 ag)).setCell ⟨p, 6, none⟩ (.bool fr)) a2 c2 wo := own_but o2 (gr7 (World.grownBy.refl _ _)) (by omega)
  obtain ⟨i0, i1, i2, i3, i4, i5, i6⟩ := at7 (k1)
  obtain ⟨f0, f1, f2, f3, f4, f5, f6⟩ := fz7 (k1)
  have HX := hidI (And.intro x1 (And.intro x2 (And.intro x3 (And.intro x4 (And.intro x5 (And.intro d12 (And.intro hB hs0)))))))
  clear x1 x2 x3 x4 x5 o1 o2 d12 g2 gw1 gw2 k1 k2 hs1 hs2 hpl hB cC h HP1
  go_upto_region 4 with fail
  obtain ⟨x1, x2, x3, x4, x5, d12, hB, hs0⟩ := HX.out
  clear HX
  clear i0 i1 i2 i3 i4 i5 i6 f0 f1 f2 f3 f4 f5 f6
  generalize (((((((w2).setCell ⟨p, 0, none⟩ (.int .i64 st)).setCell ⟨p, 1, none⟩ (.int .i64 wa)).setCell ⟨p, 2, none⟩ (.slice a1 sa.length c1)).setCell ⟨p, 3, none⟩ (.slice a2 wo.length c2)).setCell ⟨p, 4, none⟩ (.int .i64 sq)).setCell ⟨p, 5, none⟩ (.int .i64 ag)).setCell ⟨p, 6, none⟩ (.bool fr) = X at *
  obtain ⟨i0, i1, i2, i3, i4, i5, i6⟩ := at7 (x1)
  cases fr with
  | false =>
    obtain ⟨j0, j1, j2, j3, j4, j5, j6⟩ := at7 (x2)
    obtain ⟨f0, f1, f2, f3, f4, f5, f6⟩ := fz7 (x2)
    have HH := hidI (And.intro x2 (And.intro x3 (And.intro x4 (And.intro x5 (And.intro d12 (And.intro hB hs0))))))
    clear x1 x2 x3 x4 x5 d12 hB hs0
    go_wp2
    obtain ⟨x2, x3, x4, x5, d12, hB, hs0⟩ := HH.out
    refine bodyPost_ret (results2 rfl _ _ (p + 1) ⟨st, wa, sa, wo, sq, ag, false⟩ (.slice a1 sa.length c1) (.slice a2 wo.length c2) rfl (box7 x2)) rfl ?_
    rw [HT.out, HTE.out]
    have hp := HP.out
    exact ⟨_, rfl, a1, c1, a2, c2, rfl, own_low (own_but x4 (gr7 (World.grownBy.refl _ _)) (by omega)) (by omega), own_low (own_but x5 (gr7 (World.grownBy.refl _ _)) (by omega)) (by omega), d12, gr7n x3 (by omega)⟩
  | true =>
  have y1 : (X.setCell ⟨p, 5, none⟩ (.int .i64 (ag + 1))).heap[p]? = some (.cells #[.int .i64 st, .int .i64 wa, .slice a1 sa.length c1, .slice a2 wo.length c2, .int .i64 sq, .int .i64 (ag + 1), .bool true] 26) := by
    have := at_set x1 5 (.int .i64 (ag + 1)); simpa using this
  have y2 := other_set (i := 5) (v := .int .i64 (ag + 1)) x2 (show p + 1 ≠ p by omega)
  have y3 : w.grownBy (X.setCell ⟨p, 5, none⟩ (.int .i64 (ag + 1))) none := gr_own x3 (by rw [HP.out]; exact Nat.le_refl _) _ _
  have y4 := x4.set (q := p) (i := 5) (v := .int .i64 (ag + 1)) (by omega)
  have y5 := x5.set (q := p) (i := 5) (v := .int .i64 (ag + 1)) (by omega)
  obtain ⟨f0, f1, f2, f3, f4, f5, f6⟩ := fz7 (x1)
  have HY := hidI (And.intro y1 (And.intro y2 (And.intro y3 (And.intro y4 (And.intro y5 (And.intro d12 (And.intro hB hs0)))))))
  clear x1 x2 x3 x4 x5 d12 hB hs0 y1 y2 y3 y4 y5
  go_upto_region 7 with fail
  obtain ⟨x1, x2, x3, x4, x5, d12, hB, hs0⟩ := HY.out
  clear HY
  clear i0 i1 i2 i3 i4 i5 i6 f0 f1 f2 f3 f4 f5 f6
  generalize X.setCell ⟨p, 5, none⟩ (.int .i64 (ag + 1)) = Y at *
  obtain ⟨i0, i1, i2, i3, i4, i5, i6⟩ := at7 (x1)
  obtain ⟨j0, j1, j2, j3, j4, j5, j6⟩ := at7 (x2)
  obtain ⟨f0, f1, f2, f3, f4, f5, f6⟩ := fz7 (x2)
  by_cases hw : ag + 1 = wa
  case neg =>
    have e1 : (ag + 1 == wa) = false := by simpa using hw
    have HH := hidI (And.intro x2 (And.intro x3 (And.intro x4 (And.intro x5 (And.intro d12 (And.intro hB hs0))))))
    clear x1 x2 x3 x4 x5 d12 hB hs0
    go_wp2
    obtain ⟨x2, x3, x4, x5, d12, hB, hs0⟩ := HH.out
    refine bodyPost_ret (results2 rfl _ _ (p + 1) ⟨st, wa, sa, wo, sq, ag + 1, true⟩ (.slice a1 sa.length c1) (.slice a2 wo.length c2) rfl (box7 x2)) rfl ?_
    rw [HT.out, HTE.out]
    simp only [if_true]
    rw [if_neg hw]
    have hp := HP.out
    exact ⟨_, rfl, a1, c1, a2, c2, rfl, own_low (own_but x4 (gr7 (World.grownBy.refl _ _)) (by omega)) (by omega), own_low (own_but x5 (gr7 (World.grownBy.refl _ _)) (by omega)) (by omega), d12, gr7n x3 (by omega)⟩
  have cK := clone_any sa (.slice a1 sa.length c1) Y x4.rd (by omega)
  have HX := hidI (And.intro x1 (And.intro x2 (And.intro x3 (And.intro x4 (And.intro hB hs0)))))
  clear x1 x2 x3 x4 x5 d12 hB hs0
  have e1 : (ag + 1 == wa) = true := by simpa using hw
  have HW := hidI hw
  clear hw
  go_wp2_with fail
  refine cK.mono ?_
  rintro e w3 ⟨a3, c3, rfl, o3, g3⟩
  obtain ⟨x1, x2, x3, x4, hB, hs0⟩ := HX.out
  have z1 := kept g3 x1
  have z2 := kept g3 x2
  have z3 := grown_join x3 g3 (.inl rfl)
  have z4 := OwnL.kept x4 g3
  have hYl := at_lt x2
  have v1 : (((w3.setCell ⟨p, 3, none⟩ (.slice a3 sa.length c3)).setCell ⟨p, 5, none⟩ (.int .i64 0)).setCell ⟨p, 6, none⟩ (.bool false)).heap[p]? = some (.cells #[.int .i64 st, .int .i64 wa, .slice a1 sa.length c1, .slice a3 sa.length c3, .int .i64 sq, .int .i64 0, .bool false] 26) := by
    have := at_set (at_set (at_set z1 3 (.slice a3 sa.length c3)) 5 (.int .i64 0)) 6 (.bool false); simpa using this
  have v2 := other_set (i := 6) (v := .bool false) (other_set (i := 5) (v := .int .i64 0) (other_set (i := 3) (v := .slice a3 sa.length c3) z2 (show p + 1 ≠ p by omega)) (show p + 1 ≠ p by omega)) (show p + 1 ≠ p by omega)
  have hpw : w.heap.size ≤ p := by rw [HP.out]; exact Nat.le_refl _
  have v3 := gr_own (gr_own (gr_own z3 hpw 3 (.slice a3 sa.length c3)) hpw 5 (.int .i64 0)) hpw 6 (.bool false)
  have v4 := ((z4.set (q := p) (i := 3) (v := .slice a3 sa.length c3) (by omega)).set (q := p) (i := 5) (v := .int .i64 0) (by omega)).set (q := p) (i := 6) (v := .bool false) (by omega)
  have v5 : OwnL Y.heap.size _ a3 c3 sa := ((OwnL.set (q := p) (i := 3) (v := .slice a3 sa.length c3) o3 (by omega)).set (q := p) (i := 5) (v := .int .i64 0) (by omega)).set (q := p) (i := 6) (v := .bool false) (by omega)
  have v6 : ∀ x, (Value.slice a1 sa.length c1).ownBlock = some x → (Value.slice a3 sa.length c3).ownBlock ≠ some x := fun x hx hy => by
    have h1 := World.ownsRow.lt x4 x hx
    have h2 := World.ownsRow.lt o3 x hy
    omega
  clear i0 i1 i2 i3 i4 i5 i6 j0 j1 j2 j3 j4 j5 j6 f0 f1 f2 f3 f4 f5 f6
  obtain ⟨i0, i1, i2, i3, i4, i5, i6⟩ := at7 (z1)
  obtain ⟨f0, f1, f2, f3, f4, f5, f6⟩ := fz7 (z1)
  have HV := hidI (And.intro v1 (And.intro v2 (And.intro v3 (And.intro v4 (And.intro v5 (And.intro v6 (And.intro hB (And.intro hs0 hYl))))))))
  clear v1 v2 v3 v4 v5 v6 hB hs0 hYl z1 z2 z3 z4 x1 x2 x3 x4 hpw o3 g3 cK HX
  go_upto_region 9 with fail
  obtain ⟨x1, x2, x3, x4, x5, d12, hB, hs0, hYl⟩ := HV.out
  clear HV
  clear i0 i1 i2 i3 i4 i5 i6 f0 f1 f2 f3 f4 f5 f6
  generalize ((w3.setCell ⟨p, 3, none⟩ (.slice a3 sa.length c3)).setCell ⟨p, 5, none⟩ (.int .i64 0)).setCell ⟨p, 6, none⟩ (.bool false) = X2 at *
  obtain ⟨i0, i1, i2, i3, i4, i5, i6⟩ := at7 (x1)
  obtain ⟨j0, j1, j2, j3, j4, j5, j6⟩ := at7 (x2)
  obtain ⟨f0, f1, f2, f3, f4, f5, f6⟩ := fz7 (x2)
  have HH := hidI (And.intro x2 (And.intro x3 (And.intro x4 (And.intro x5 (And.intro d12 (And.intro hB (And.intro hs0 hYl)))))))
  clear x1 x2 x3 x4 x5 d12 hB hs0 hYl
  go_wp2
  obtain ⟨x2, x3, x4, x5, d12, hB, hs0, hYl⟩ := HH.out
  refine bodyPost_ret (results2 rfl _ _ (p + 1) ⟨st, wa, sa, sa, sq, 0, false⟩ (.slice a1 sa.length c1) (.slice a3 sa.length c3) rfl (box7 x2)) rfl ?_
  rw [HT.out, HTE.out]
  simp only [if_true]
  rw [if_pos HW.out]
  have hp := HP.out
  exact ⟨_, rfl, a1, c1, a3, c3, rfl, own_low (own_but x4 (gr7 (World.grownBy.refl _ _)) (by omega)) (by omega), own_low (own_but x5 (gr7 (World.grownBy.refl _ _)) (by omega)) (by omega), d12, gr7n x3 (by omega)⟩
end Go.Proofs.Ytaiicehifailhab
