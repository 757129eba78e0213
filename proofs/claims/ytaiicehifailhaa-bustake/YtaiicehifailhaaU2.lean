/- Take, the document's. -/
import Derived.Test.YtaiicehifailhaaU
import Derived.Test.YtaiicehifailhaaT2
namespace Go.Proofs.Ytaiicehifailhaa
open Go.RowKit
attribute [local go_sem ↓] Go.wp_at_zero Go.wp_at_succ
set_option linter.unusedVariables false
set_option linter.unusedSimpArgs false

theorem tmod256 (Q : Nat) (sq : Int) (hQ : Q < 256) (h1 : 0 ≤ sq) (h2 : sq ≤ 255) : ((Q : Int) - sq + 256).tmod 256 = ((by8 ((Q : Int) - sq) : Nat) : Int) := by
  rw [Int.tmod_eq_emod_of_nonneg (by omega)]
  unfold by8
  omega
set_option maxRecDepth 10000 in
set_option maxHeartbeats 2000000 in
theorem heard_any (L : Lk) (l : List Nat) (s t v : Value) (w : World) (h : LkR w L s t) (hl1 : L.sa.length ≤ 17592186043904) (hl2 : L.wo.length ≤ 17592186043904) (hb : isB l) (hv : rdB w v l) (hm : l.length ≤ maxLen) : Calls Try.prog 21 #[lkV L s t, v] w fun e w' => LkE w w' e (takeL L l) (takeE L l) := by
  have cM := fun (W : World) (hW : w.grownBy W none) => couldBe_any L s t W (h.grown hW) hl1 hl2
  have cS := fun (W : World) (hW : w.grownBy W none) => copyOf_any L.sa s W (rd_grown h.1 hW) hl1
  have cW := fun (W : World) (hW : w.grownBy W none) => copyOf_any L.wo t W (rd_grown h.2 hW) hl2
  have cO := fun (W : World) (hW : w.grownBy W none) => refOpen_any l v W hb (rdB_grown hv hW) hm
  have HP1 := hidI (fun hc : couldB L = true => could_parts hc)
  have HT : Hid (takeL L l = if couldB L = true then (if takeE L l = 0 then ⟨L.st, L.wa, L.sa, openW l, (openQ l : Int), 0, true⟩ else L) else zeroL) := hidI rfl
  have HTE : Hid (takeE L l = if couldB L = true then (if openE l = 0 then newsE L (openS l) (openQ l) (openW l) else openE l) else 15) := hidI rfl
  have HNE : Hid (newsE L (openS l) (openQ l) (openW l) = if (openS l : Int) ≠ L.st then 6 else if (openW l).length ≠ L.wo.length then 4 else if L.fr = true ∧ ¬ (1 ≤ by8 ((openQ l : Int) - L.sq) ∧ by8 ((openQ l : Int) - L.sq) ≤ 127) then 18 else 0) := hidI rfl
  have hQl := openQ_lt hb
  have hSl := openS_lt hb
  generalize takeL L l = TL at *
  generalize takeE L l = TE at *
  generalize openW l = Wd at *
  generalize openQ l = Q at *
  generalize openS l = S at *
  generalize openE l = OE at *
  generalize newsE L S Q Wd = NE at *
  obtain ⟨va, vc, rfl, _⟩ := id hv
  obtain ⟨st, wa, sa, wo, sq, ag, fr⟩ := L
  dsimp only [lkV, lkA] at *
  obtain ⟨p, hp⟩ : ∃ p, w.heap.size = p := ⟨_, rfl⟩
  have hW1 : ((w.alloc (.cells #[.int .i64 st, .int .i64 wa, s, t, .int .i64 sq, .int .i64 ag, .bool fr] 40)).alloc (.cells #[.int .i64 0, .int .i64 0, .slice none 0 0, .slice none 0 0, .int .i64 0, .int .i64 0, .bool false] 40)).heap[p]? = some (.cells #[.int .i64 st, .int .i64 wa, s, t, .int .i64 sq, .int .i64 ag, .bool fr] 40) := by
    rw [hp_old (by simp; omega)]; exact hp_new hp.symm _
  have hW2 : ((w.alloc (.cells #[.int .i64 st, .int .i64 wa, s, t, .int .i64 sq, .int .i64 ag, .bool fr] 40)).alloc (.cells #[.int .i64 0, .int .i64 0, .slice none 0 0, .slice none 0 0, .int .i64 0, .int .i64 0, .bool false] 40)).heap[p + 1]? = some (.cells #[.int .i64 0, .int .i64 0, .slice none 0 0, .slice none 0 0, .int .i64 0, .int .i64 0, .bool false] 40) := hp_new (by simp; omega) _
  have hgW : w.grownBy ((w.alloc (.cells #[.int .i64 st, .int .i64 wa, s, t, .int .i64 sq, .int .i64 ag, .bool fr] 40)).alloc (.cells #[.int .i64 0, .int .i64 0, .slice none 0 0, .slice none 0 0, .int .i64 0, .int .i64 0, .bool false] 40)) none := gr_alloc (gr_alloc (World.grownBy.refl _ _) _) _
  generalize couldB ⟨st, wa, sa, wo, sq, ag, fr⟩ = CB at *
  go_enter Try.func21, Try.ntmps21
  go_upto_region 1 with fail
  have HP := hidI hp
  clear hp
  generalize (w.alloc (.cells #[.int .i64 st, .int .i64 wa, s, t, .int .i64 sq, .int .i64 ag, .bool fr] 40)).alloc (.cells #[.int .i64 0, .int .i64 0, .slice none 0 0, .slice none 0 0, .int .i64 0, .int .i64 0, .bool false] 40) = W at *
  obtain ⟨i0, i1, i2, i3, i4, i5, i6⟩ := at7 (hW1)
  go_wp2_with fail
  refine (cM W hgW).mono ?_
  rintro e w1 ⟨rfl, g1⟩
  clear i0 i1 i2 i3 i4 i5 i6
  have gw1 := grown_join hgW g1 (.inl rfl)
  have k1 := kept g1 hW1
  have k2 := kept g1 hW2
  have hs0 := hgW.size
  have hs1 := g1.size
  clear hW1 hW2 hgW g1 cM
  cases CB with
  | false =>
    obtain ⟨j0, j1, j2, j3, j4, j5, j6⟩ := at7 (k2)
    obtain ⟨f0, f1, f2, f3, f4, f5, f6⟩ := fz7 (k2)
    have HK := hidI (And.intro k2 gw1)
    clear k1 k2 gw1
    go_wp2
    refine bodyPost_ret (results2 rfl _ _ (p + 1) zeroL (.slice none 0 0) (.slice none 0 0) rfl (box7 HK.out.1)) rfl ?_
    rw [HT.out, HTE.out]
    exact ⟨_, rfl, LkP.zero (gr7n HK.out.2 (by rw [HP.out]; omega))⟩
  | true =>
  obtain ⟨pE, pl, pk, ⟨pq1, pq2⟩, ⟨pa1, pa2⟩, pf⟩ := HP1.out (by simp)
  obtain ⟨wa1, wa2, st1, st2, sl60, sok⟩ := startE_wa pE
  have HPL := hidI pl
  clear pE pl pk pf sok st1 st2 pa1 pa2 wa1 wa2
  obtain ⟨i0, i1, i2, i3, i4, i5, i6⟩ := at7 (k1)
  go_wp2_with fail
  refine (cS w1 gw1).mono ?_
  rintro e w2 ⟨a1, c1, rfl, o1, g2⟩
  clear i0 i1 i2 i3 i4 i5 i6
  have hB := at_lt k2
  have hpw : w.heap.size ≤ p := by rw [HP.out]; exact Nat.le_refl _
  have k1 := kept g2 k1
  have k2 := kept g2 k2
  have x1 : (w2.setCell ⟨p, 2, none⟩ (.slice a1 sa.length c1)).heap[p]? = some (.cells #[.int .i64 st, .int .i64 wa, .slice a1 sa.length c1, t, .int .i64 sq, .int .i64 ag, .bool fr] 40) := by
    have := at_set k1 2 (.slice a1 sa.length c1); simpa using this
  have x2 := other_set (i := 2) (v := .slice a1 sa.length c1) k2 (show p + 1 ≠ p by omega)
  have x3 : w.grownBy (w2.setCell ⟨p, 2, none⟩ (.slice a1 sa.length c1)) none := gr_own (grown_join gw1 g2 (.inl rfl)) hpw _ _
  have x4 : OwnL w1.heap.size (w2.setCell ⟨p, 2, none⟩ (.slice a1 sa.length c1)) a1 c1 sa := OwnL.set o1 (by omega)
  have hsz := g2.size
  have r3 : (w2.setCell ⟨p, 2, none⟩ (.slice a1 sa.length c1)).cell? ⟨p, 3, none⟩ = some t := at_cell x1 3
  have r2 : w2.cell? ⟨p, 2, none⟩ = some s := at_cell k1 2
  have f2 := at_frozen k1 2
  have hS2 : (w2.setCell ⟨p, 2, none⟩ (.slice a1 sa.length c1)).heap.size = w2.heap.size := by simp
  have HX := hidI (And.intro x1 (And.intro x2 (And.intro x3 (And.intro x4 (And.intro hB (And.intro hs0 (And.intro hpw (And.intro hsz hS2))))))))
  have cW' := cW _ x3
  clear x1 x2 x3 x4 hB hs0 hpw hsz hS2 k1 k2 o1 g2 gw1 hs1 cS cW
  go_wp2_with fail
  refine cW'.mono ?_
  rintro e w3 ⟨a2, c2, rfl, o2, g3⟩
  obtain ⟨x1, x2, x3, x4, hB, hs0, hpw, hsz, hS2⟩ := HX.out
  clear HX cW' r3 r2 f2
  rw [hS2] at o2
  have k1 := kept g3 x1
  have k2 := kept g3 x2
  have y1 : (w3.setCell ⟨p, 3, none⟩ (.slice a2 wo.length c2)).heap[p]? = some (.cells #[.int .i64 st, .int .i64 wa, .slice a1 sa.length c1, .slice a2 wo.length c2, .int .i64 sq, .int .i64 ag, .bool fr] 40) := by
    have := at_set k1 3 (.slice a2 wo.length c2); simpa using this
  have y2 := other_set (i := 3) (v := .slice a2 wo.length c2) k2 (show p + 1 ≠ p by omega)
  have y3 : w.grownBy (w3.setCell ⟨p, 3, none⟩ (.slice a2 wo.length c2)) none := gr_own (grown_join x3 g3 (.inl rfl)) hpw _ _
  have y4 : OwnL w1.heap.size (w3.setCell ⟨p, 3, none⟩ (.slice a2 wo.length c2)) a1 c1 sa := OwnL.set (OwnL.kept x4 g3) (by omega)
  have y5 : OwnL w2.heap.size (w3.setCell ⟨p, 3, none⟩ (.slice a2 wo.length c2)) a2 c2 wo := OwnL.set o2 (by omega)
  have d12 : ∀ x, (Value.slice a1 sa.length c1).ownBlock = some x → (Value.slice a2 wo.length c2).ownBlock ≠ some x := fun x hx hy => by
    have h1 := World.ownsRow.lt x4 x hx
    have h2 := World.ownsRow.lt o2 x hy
    omega
  have q3 : w3.cell? ⟨p, 3, none⟩ = some t := at_cell k1 3
  have f3 := at_frozen k1 3
  have HX := hidI (And.intro y1 (And.intro y2 (And.intro y3 (And.intro y4 (And.intro (show OwnL w1.heap.size _ a2 c2 wo from own_low y5 hsz) (And.intro d12 (And.intro hB hs0)))))))
  clear x1 x2 x3 x4 hB hs0 hpw hsz hS2 k1 k2 o2 g3 y1 y2 y3 y4 y5 d12 h HP1
  go_upto_region 5 with fail
  obtain ⟨x1, x2, x3, x4, x5, d12, hB, hs0⟩ := HX.out
  clear HX q3 f3
  generalize w3.setCell ⟨p, 3, none⟩ (.slice a2 wo.length c2) = X at *
  have cO := cO X x3
  have HX := hidI (And.intro x1 (And.intro x2 (And.intro x3 (And.intro x4 (And.intro x5 (And.intro d12 (And.intro hB hs0)))))))
  clear x1 x2 x3 x4 x5 d12 hB hs0
  go_wp2_with fail
  refine cO.mono ?_
  rintro e w5 ⟨a3, c3, rfl, o3, g5⟩
  go_upto_region 6 with fail
  obtain ⟨x1, x2, x3, x4, x5, d12, hB, hs0⟩ := HX.out
  clear HX cO
  have hXl := at_lt x2
  have hXs := x4
  have gA : w5.grownBy (w5.alloc (.cells #[.int .i64 (S : Int), .int .i64 (Q : Int), .slice a3 Wd.length c3] 32)) none := gr_alloc (World.grownBy.refl _ _) _
  have gXA := grown_join g5 gA (.inl rfl)
  have x1 := kept gXA x1
  have x2 := kept gXA x2
  have x3 := grown_join x3 gXA (.inl rfl)
  have x4 := OwnL.kept x4 gXA
  have x5 := OwnL.kept x5 gXA
  have hT := heap_alloc_new w5 (.cells #[.int .i64 (S : Int), .int .i64 (Q : Int), .slice a3 Wd.length c3] 32)
  have o3' := OwnL.kept o3 gA
  obtain ⟨q, hq⟩ : ∃ q, w5.heap.size = q := ⟨_, rfl⟩
  have hqX : p + 1 < q := by rw [← hq]; have := g5.size; omega
  have HO3 := hidI (And.intro o3' (And.intro hXl (And.intro (fun x (hx : (Value.slice a1 sa.length c1).ownBlock = some x) => World.ownsRow.lt hXs x hx) hqX)))
  rw [hq] at hT ⊢
  clear o3 hXl hXs gA gXA o3' hq g5 hqX
  generalize w5.alloc (.cells #[.int .i64 (S : Int), .int .i64 (Q : Int), .slice a3 Wd.length c3] 32) = Y at *
  have t0 : Y.cell? ⟨q, 0, none⟩ = some (.int .i64 (S : Int)) := at_cell hT 0
  have t1 : Y.cell? ⟨q, 1, none⟩ = some (.int .i64 (Q : Int)) := at_cell hT 1
  have t2 : Y.cell? ⟨q, 2, none⟩ = some (.slice a3 Wd.length c3) := at_cell hT 2
  have HTT := hidI hT
  clear hT
  obtain ⟨i0, i1, i2, i3, i4, i5, i6⟩ := at7 (x1)
  by_cases hOE : OE = 0
  case neg =>
    have HR : Hid (TL = ⟨st, wa, sa, wo, sq, ag, fr⟩ ∧ TE = OE) := hidI (by
      have h1 : TE = OE := by rw [HTE.out]; simp [hOE]
      refine ⟨?_, h1⟩
      rw [HT.out, h1]
      simp [hOE])
    have e2 : ((OE : Int) != 0) = true := by simpa using hOE
    obtain ⟨j0, j1, j2, j3, j4, j5, j6⟩ := at7 (x2)
    obtain ⟨f0, f1, f2, f3, f4, f5, f6⟩ := fz7 (x2)
    have HH := hidI (And.intro x2 (And.intro x3 (And.intro x4 (And.intro x5 (And.intro d12 (And.intro hB hs0))))))
    clear x1 x2 x3 x4 x5 d12 hB hs0
    go_wp2
    obtain ⟨x2, x3, x4, x5, d12, hB, hs0⟩ := HH.out
    refine bodyPost_ret (results2 rfl _ _ (p + 1) ⟨st, wa, sa, wo, sq, ag, fr⟩ (.slice a1 sa.length c1) (.slice a2 wo.length c2) rfl (box7 x2)) rfl ?_
    rw [HR.out.1, HR.out.2]
    have hp := HP.out
    exact ⟨_, rfl, a1, c1, a2, c2, rfl, own_low (own_but x4 (gr7 (World.grownBy.refl _ _)) (by omega)) (by omega), own_low (own_but x5 (gr7 (World.grownBy.refl _ _)) (by omega)) (by omega), d12, gr7n x3 (by omega)⟩
  subst hOE
  by_cases k1 : (S : Int) = st
  case neg =>
    have HR : Hid (TL = ⟨st, wa, sa, wo, sq, ag, fr⟩ ∧ TE = 6) := hidI (by
      have h1 : TE = 6 := by rw [HTE.out]; simp; rw [HNE.out, if_pos k1]
      refine ⟨?_, h1⟩
      rw [HT.out, h1]
      simp)
    have e2 : ((S : Int) != st) = true := by simpa using k1
    obtain ⟨j0, j1, j2, j3, j4, j5, j6⟩ := at7 (x2)
    obtain ⟨f0, f1, f2, f3, f4, f5, f6⟩ := fz7 (x2)
    have HH := hidI (And.intro x2 (And.intro x3 (And.intro x4 (And.intro x5 (And.intro d12 (And.intro hB hs0))))))
    clear x1 x2 x3 x4 x5 d12 hB hs0
    go_wp2
    obtain ⟨x2, x3, x4, x5, d12, hB, hs0⟩ := HH.out
    refine bodyPost_ret (results2 rfl _ _ (p + 1) ⟨st, wa, sa, wo, sq, ag, fr⟩ (.slice a1 sa.length c1) (.slice a2 wo.length c2) rfl (box7 x2)) rfl ?_
    rw [HR.out.1, HR.out.2]
    have hp := HP.out
    exact ⟨_, rfl, a1, c1, a2, c2, rfl, own_low (own_but x4 (gr7 (World.grownBy.refl _ _)) (by omega)) (by omega), own_low (own_but x5 (gr7 (World.grownBy.refl _ _)) (by omega)) (by omega), d12, gr7n x3 (by omega)⟩
  subst k1
  by_cases k2 : Wd.length = wo.length
  case neg =>
    have HR : Hid (TL = ⟨(S : Int), wa, sa, wo, sq, ag, fr⟩ ∧ TE = 4) := hidI (by
      have h1 : TE = 4 := by rw [HTE.out]; simp; rw [HNE.out, if_neg (by simp), if_pos k2]
      refine ⟨?_, h1⟩
      rw [HT.out, h1]
      simp)
    have e2 : ((Wd.length : Int) != (sa.length : Int)) = true := by simpa using (show ¬ ((Wd.length : Int) = (sa.length : Int)) by rw [← HPL.out]; omega)
    obtain ⟨j0, j1, j2, j3, j4, j5, j6⟩ := at7 (x2)
    obtain ⟨f0, f1, f2, f3, f4, f5, f6⟩ := fz7 (x2)
    have HH := hidI (And.intro x2 (And.intro x3 (And.intro x4 (And.intro x5 (And.intro d12 (And.intro hB hs0))))))
    clear x1 x2 x3 x4 x5 d12 hB hs0
    go_wp2
    obtain ⟨x2, x3, x4, x5, d12, hB, hs0⟩ := HH.out
    refine bodyPost_ret (results2 rfl _ _ (p + 1) ⟨(S : Int), wa, sa, wo, sq, ag, fr⟩ (.slice a1 sa.length c1) (.slice a2 wo.length c2) rfl (box7 x2)) rfl ?_
    rw [HR.out.1, HR.out.2]
    have hp := HP.out
    exact ⟨_, rfl, a1, c1, a2, c2, rfl, own_low (own_but x4 (gr7 (World.grownBy.refl _ _)) (by omega)) (by omega), own_low (own_but x5 (gr7 (World.grownBy.refl _ _)) (by omega)) (by omega), d12, gr7n x3 (by omega)⟩
  have HNE2 : Hid (NE = if fr = true ∧ ¬ (1 ≤ by8 ((Q : Int) - sq) ∧ by8 ((Q : Int) - sq) ≤ 127) then 18 else 0) := hidI (by rw [HNE.out, if_neg (by simp), if_neg (by simpa using k2)])
  have e0 : ((Wd.length : Int) != (sa.length : Int)) = false := by simpa using (show ((Wd.length : Int) = (sa.length : Int)) by rw [← HPL.out]; omega)
  clear HNE k2
  have m0 := tmod256 Q sq hQl pq1 pq2
  have m1 : wrap64 ((Q : Int) - sq) = (Q : Int) - sq := by unfold wrap64; omega
  have m2 : wrap64 ((Q : Int) - sq + 256) = (Q : Int) - sq + 256 := by unfold wrap64; omega
  have m3 : ((Q : Int) - sq + 256) % 256 = ((by8 ((Q : Int) - sq) : Nat) : Int) := by unfold by8; omega
  have hd256 := by8_lt ((Q : Int) - sq)
  obtain ⟨d, hd⟩ : ∃ d, by8 ((Q : Int) - sq) = d := ⟨_, rfl⟩
  rw [hd] at m0 m3 HNE2 hd256
  clear hd
  by_cases k3 : fr = true ∧ ¬ (1 ≤ d ∧ d ≤ 127)
  · obtain ⟨rfl, k3⟩ := k3
    have HR : Hid (TL = ⟨(S : Int), wa, sa, wo, sq, ag, true⟩ ∧ TE = 18) := hidI (by
      have h1 : TE = 18 := by rw [HTE.out]; simp; rw [HNE2.out, if_pos ⟨rfl, k3⟩]
      refine ⟨?_, h1⟩
      rw [HT.out, h1]
      simp)
    clear HNE2
    obtain ⟨j0, j1, j2, j3, j4, j5, j6⟩ := at7 (x2)
    obtain ⟨f0, f1, f2, f3, f4, f5, f6⟩ := fz7 (x2)
    have k4 : (d : Int) < 1 ∨ (¬ (d : Int) < 1 ∧ 127 < (d : Int)) := by omega
    clear k3
    rcases k4 with k4 | ⟨k4, k5⟩
    · have HH := hidI (And.intro x2 (And.intro x3 (And.intro x4 (And.intro x5 (And.intro d12 (And.intro hB hs0))))))
      clear x1 x2 x3 x4 x5 d12 hB hs0
      go_wp2
      obtain ⟨x2, x3, x4, x5, d12, hB, hs0⟩ := HH.out
      refine bodyPost_ret (results2 rfl _ _ (p + 1) ⟨(S : Int), wa, sa, wo, sq, ag, true⟩ (.slice a1 sa.length c1) (.slice a2 wo.length c2) rfl (box7 x2)) rfl ?_
      rw [HR.out.1, HR.out.2]
      have hp := HP.out
      exact ⟨_, rfl, a1, c1, a2, c2, rfl, own_low (own_but x4 (gr7 (World.grownBy.refl _ _)) (by omega)) (by omega), own_low (own_but x5 (gr7 (World.grownBy.refl _ _)) (by omega)) (by omega), d12, gr7n x3 (by omega)⟩
    · have HH := hidI (And.intro x2 (And.intro x3 (And.intro x4 (And.intro x5 (And.intro d12 (And.intro hB hs0))))))
      clear x1 x2 x3 x4 x5 d12 hB hs0
      go_wp2
      obtain ⟨x2, x3, x4, x5, d12, hB, hs0⟩ := HH.out
      refine bodyPost_ret (results2 rfl _ _ (p + 1) ⟨(S : Int), wa, sa, wo, sq, ag, true⟩ (.slice a1 sa.length c1) (.slice a2 wo.length c2) rfl (box7 x2)) rfl ?_
      rw [HR.out.1, HR.out.2]
      have hp := HP.out
      exact ⟨_, rfl, a1, c1, a2, c2, rfl, own_low (own_but x4 (gr7 (World.grownBy.refl _ _)) (by omega)) (by omega), own_low (own_but x5 (gr7 (World.grownBy.refl _ _)) (by omega)) (by omega), d12, gr7n x3 (by omega)⟩
  have HR : Hid (TL = ⟨(S : Int), wa, sa, Wd, (Q : Int), 0, true⟩ ∧ TE = 0) := hidI (by
    have h1 : TE = 0 := by rw [HTE.out]; simp; rw [HNE2.out, if_neg k3]
    refine ⟨?_, h1⟩
    rw [HT.out, h1]
    simp)
  clear HNE2
  have hpw : w.heap.size ≤ p := by rw [HP.out]; exact Nat.le_refl _
  obtain ⟨o3, hXl, hr1, hqX⟩ := HO3.out
  have qne : p ≠ q := by omega
  have qne2 : q ≠ p := by omega
  have y1 : ((((Y.setCell ⟨p, 3, none⟩ (.slice a3 Wd.length c3)).setCell ⟨p, 4, none⟩ (.int .i64 (Q : Int))).setCell ⟨p, 5, none⟩ (.int .i64 0)).setCell ⟨p, 6, none⟩ (.bool true)).heap[p]? = some (.cells #[.int .i64 (S : Int), .int .i64 wa, .slice a1 sa.length c1, .slice a3 Wd.length c3, .int .i64 (Q : Int), .int .i64 0, .bool true] 40) := by
    have := at_set (at_set (at_set (at_set x1 3 (.slice a3 Wd.length c3)) 4 (.int .i64 (Q : Int))) 5 (.int .i64 0)) 6 (.bool true); simpa using this
  have y2 := other_set (i := 6) (v := .bool true) (other_set (i := 5) (v := .int .i64 0) (other_set (i := 4) (v := .int .i64 (Q : Int)) (other_set (i := 3) (v := .slice a3 Wd.length c3) x2 (show p + 1 ≠ p by omega)) (show p + 1 ≠ p by omega)) (show p + 1 ≠ p by omega)) (show p + 1 ≠ p by omega)
  have y3 := gr_own (gr_own (gr_own (gr_own x3 hpw 3 (.slice a3 Wd.length c3)) hpw 4 (.int .i64 (Q : Int))) hpw 5 (.int .i64 0)) hpw 6 (.bool true)
  have y4 := (((x4.set (q := p) (i := 3) (v := .slice a3 Wd.length c3) (by omega)).set (q := p) (i := 4) (v := .int .i64 (Q : Int)) (by omega)).set (q := p) (i := 5) (v := .int .i64 0) (by omega)).set (q := p) (i := 6) (v := .bool true) (by omega)
  have y5 := (((OwnL.set (q := p) (i := 3) (v := .slice a3 Wd.length c3) o3 (by omega)).set (q := p) (i := 4) (v := .int .i64 (Q : Int)) (by omega)).set (q := p) (i := 5) (v := .int .i64 0) (by omega)).set (q := p) (i := 6) (v := .bool true) (by omega)
  have y6 : ∀ x, (Value.slice a1 sa.length c1).ownBlock = some x → (Value.slice a3 Wd.length c3).ownBlock ≠ some x := fun x hx hy => by
    have h1 := hr1 x hx
    have h2 := World.ownsRow.lt o3 x hy
    omega
  obtain ⟨f0, f1, f2, f3, f4, f5, f6⟩ := fz7 (x1)
  have HY := hidI (And.intro y1 (And.intro y2 (And.intro y3 (And.intro y4 (And.intro y5 (And.intro y6 (And.intro hB (And.intro hs0 hXl))))))))
  clear x1 x2 x3 x4 x5 d12 hB hs0 hXl y1 y2 y3 y4 y5 y6 o3 hpw HO3 hr1 hqX
  have k4 : fr = false ∨ (fr = true ∧ ¬ (d : Int) < 1 ∧ ¬ 127 < (d : Int)) := by
    cases fr with
    | false => exact .inl rfl
    | true => refine .inr ⟨rfl, ?_⟩; simp at k3; omega
  clear k3
  rcases k4 with rfl | ⟨rfl, k4, k5⟩
  · go_upto_region 19 with fail
    obtain ⟨x1, x2, x3, x4, x5, d12, hB, hs0, hXl⟩ := HY.out
    clear HY t0 t1 t2
    clear i0 i1 i2 i3 i4 i5 i6 f0 f1 f2 f3 f4 f5 f6
    generalize (((Y.setCell ⟨p, 3, none⟩ (.slice a3 Wd.length c3)).setCell ⟨p, 4, none⟩ (.int .i64 (Q : Int))).setCell ⟨p, 5, none⟩ (.int .i64 0)).setCell ⟨p, 6, none⟩ (.bool true) = Z at *
    obtain ⟨i0, i1, i2, i3, i4, i5, i6⟩ := at7 (x1)
    obtain ⟨j0, j1, j2, j3, j4, j5, j6⟩ := at7 (x2)
    obtain ⟨f0, f1, f2, f3, f4, f5, f6⟩ := fz7 (x2)
    have HH := hidI (And.intro x2 (And.intro x3 (And.intro x4 (And.intro x5 (And.intro d12 (And.intro hB (And.intro hs0 hXl)))))))
    clear x1 x2 x3 x4 x5 d12 hB hs0 hXl
    go_wp2
    obtain ⟨x2, x3, x4, x5, d12, hB, hs0, hXl⟩ := HH.out
    refine bodyPost_ret (results2 rfl _ _ (p + 1) ⟨(S : Int), wa, sa, Wd, (Q : Int), 0, true⟩ (.slice a1 sa.length c1) (.slice a3 Wd.length c3) rfl (box7 x2)) rfl ?_
    rw [HR.out.1, HR.out.2]
    have hp := HP.out
    exact ⟨_, rfl, a1, c1, a3, c3, rfl, own_low (own_but x4 (gr7 (World.grownBy.refl _ _)) (by omega)) (by omega), own_low (own_but x5 (gr7 (World.grownBy.refl _ _)) (by omega)) (by omega), d12, gr7n x3 (by omega)⟩
  · go_upto_region 19 with fail
    obtain ⟨x1, x2, x3, x4, x5, d12, hB, hs0, hXl⟩ := HY.out
    clear HY t0 t1 t2
    clear i0 i1 i2 i3 i4 i5 i6 f0 f1 f2 f3 f4 f5 f6
    generalize (((Y.setCell ⟨p, 3, none⟩ (.slice a3 Wd.length c3)).setCell ⟨p, 4, none⟩ (.int .i64 (Q : Int))).setCell ⟨p, 5, none⟩ (.int .i64 0)).setCell ⟨p, 6, none⟩ (.bool true) = Z at *
    obtain ⟨i0, i1, i2, i3, i4, i5, i6⟩ := at7 (x1)
    obtain ⟨j0, j1, j2, j3, j4, j5, j6⟩ := at7 (x2)
    obtain ⟨f0, f1, f2, f3, f4, f5, f6⟩ := fz7 (x2)
    have HH := hidI (And.intro x2 (And.intro x3 (And.intro x4 (And.intro x5 (And.intro d12 (And.intro hB (And.intro hs0 hXl)))))))
    clear x1 x2 x3 x4 x5 d12 hB hs0 hXl
    go_wp2
    obtain ⟨x2, x3, x4, x5, d12, hB, hs0, hXl⟩ := HH.out
    refine bodyPost_ret (results2 rfl _ _ (p + 1) ⟨(S : Int), wa, sa, Wd, (Q : Int), 0, true⟩ (.slice a1 sa.length c1) (.slice a3 Wd.length c3) rfl (box7 x2)) rfl ?_
    rw [HR.out.1, HR.out.2]
    have hp := HP.out
    exact ⟨_, rfl, a1, c1, a3, c3, rfl, own_low (own_but x4 (gr7 (World.grownBy.refl _ _)) (by omega)) (by omega), own_low (own_but x5 (gr7 (World.grownBy.refl _ _)) (by omega)) (by omega), d12, gr7n x3 (by omega)⟩
end Go.Proofs.Ytaiicehifailhaa
