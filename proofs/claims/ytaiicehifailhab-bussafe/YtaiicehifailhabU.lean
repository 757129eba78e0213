/- Take, the program's. -/
import Derived.Test.YtaiicehifailhabT
namespace Go.Proofs.Ytaiicehifailhab
open Go.RowKit
attribute [local go_sem ↓] Go.wp_at_zero Go.wp_at_succ
set_option linter.unusedVariables false
set_option linter.unusedSimpArgs false

/-- Why a link does not take what a frame tells. -/
def newsE (L : Lk) (S Q : Nat) (Wd : List Int) : Nat := if (S : Int) ≠ L.st then 6 else if Wd.length ≠ L.wo.length then 4 else if L.fr = true ∧ ¬ (1 ≤ by8 ((Q : Int) - L.sq) ∧ by8 ((Q : Int) - L.sq) ≤ 127) then 18 else 0
def takeE (L : Lk) (l : List Nat) : Nat := if couldB L = true then (if openE l = 0 then newsE L (openS l) (openQ l) (openW l) else openE l) else 15
def takeL (L : Lk) (l : List Nat) : Lk := if couldB L = true then (if takeE L l = 0 then ⟨L.st, L.wa, L.sa, openW l, (openQ l : Int), 0, true⟩ else L) else zeroL
theorem openQ_lt {l : List Nat} (h : isB l) : openQ l < 256 := by
  unfold openQ
  split
  · exact at_byte h 1
  · omega
theorem openS_lt {l : List Nat} (h : isB l) : openS l < 256 := by
  unfold openS
  split
  · exact at_byte h 0
  · omega
set_option maxRecDepth 10000 in
set_option maxHeartbeats 1000000 in
theorem lookAtNews_any (L : Lk) (S Q : Nat) (Wd : List Int) (s t v : Value) (w : World) (ht : rd w t L.wo) (hv : rd w v Wd) (hq : 0 ≤ L.sq ∧ L.sq ≤ 255) (hQ : Q < 256) (hS : S < 256) : Calls Try.prog 21 #[lkV L s t, .int .i64 (S : Int), .int .i64 (Q : Int), v] w fun e w' => e = .returned (.int .i64 (newsE L S Q Wd : Int)) ∧ w.grownBy w' none := by
  have HNE : Hid (newsE L S Q Wd = if (S : Int) ≠ L.st then 6 else if Wd.length ≠ L.wo.length then 4 else if L.fr = true ∧ ¬ (1 ≤ by8 ((Q : Int) - L.sq) ∧ by8 ((Q : Int) - L.sq) ≤ 127) then 18 else 0) := hidI rfl
  generalize newsE L S Q Wd = NE at *
  obtain ⟨st, wa, sa, wo, sq, ag, fr⟩ := L
  dsimp only [lkV, lkA] at *
  obtain ⟨ta1, tc1, rfl, _⟩ := id ht
  obtain ⟨va1, vc1, rfl, _⟩ := id hv
  obtain ⟨p, hp⟩ : ∃ p, w.heap.size = p := ⟨_, rfl⟩
  have hW : (w.alloc (.cells #[.int .i64 st, .int .i64 wa, s, .slice ta1 wo.length tc1, .int .i64 sq, .int .i64 ag, .bool fr] 26)).heap[p]? = some (.cells #[.int .i64 st, .int .i64 wa, s, .slice ta1 wo.length tc1, .int .i64 sq, .int .i64 ag, .bool fr] 26) := hp_new hp.symm _
  have hgW : w.grownBy (w.alloc (.cells #[.int .i64 st, .int .i64 wa, s, .slice ta1 wo.length tc1, .int .i64 sq, .int .i64 ag, .bool fr] 26)) none := gr_alloc (World.grownBy.refl _ _) _
  go_enter Try.func21, Try.ntmps21
  go_upto_region 1 with fail
  clear hp
  generalize w.alloc (.cells #[.int .i64 st, .int .i64 wa, s, .slice ta1 wo.length tc1, .int .i64 sq, .int .i64 ag, .bool fr] 26) = W at *
  obtain ⟨i0, i1, i2, i3, i4, i5, i6⟩ := at7 (hW)
  have HW := hidI hgW
  clear hW hgW ht hv
  obtain ⟨q1, q2⟩ := hq
  by_cases k1 : (S : Int) = st
  case neg =>
    have e1 : ((S : Int) != st) = true := by simpa using k1
    have HR : Hid (NE = 6) := hidI (by rw [HNE.out, if_pos k1])
    clear HNE k1
    go_wp2
    go_ret
    exact ⟨by rw [HR.out]; rfl, HW.out⟩
  subst k1
  by_cases k2 : Wd.length = wo.length
  case neg =>
    have e1 : ((Wd.length : Int) != (wo.length : Int)) = true := by simpa using (show ¬ ((Wd.length : Int) = (wo.length : Int)) by omega)
    have HR : Hid (NE = 4) := hidI (by rw [HNE.out, if_neg (by simp), if_pos k2])
    clear HNE k2
    go_wp2
    go_ret
    exact ⟨by rw [HR.out]; rfl, HW.out⟩
  have HNE2 : Hid (NE = if fr = true ∧ ¬ (1 ≤ by8 ((Q : Int) - sq) ∧ by8 ((Q : Int) - sq) ≤ 127) then 18 else 0) := hidI (by rw [HNE.out, if_neg (by simp), if_neg (by simpa using k2)])
  clear HNE
  rw [k2]
  have HK2 := hidI k2
  clear k2
  cases fr with
  | false =>
    have HR : Hid (NE = 0) := hidI (by rw [HNE2.out, if_neg (by simp)])
    clear HNE2
    go_wp2
    go_ret
    exact ⟨by rw [HR.out]; rfl, HW.out⟩
  | true =>
  have u1 := by8_wrap ((Q : Int) - sq)
  have u2 := by8_is ((Q : Int) - sq)
  have m1 : wrap64 ((Q : Int) - sq) = (Q : Int) - sq := by unfold wrap64; omega
  obtain ⟨d, hd⟩ : ∃ d, by8 ((Q : Int) - sq) = d := ⟨_, rfl⟩
  rw [hd] at u1 u2 HNE2
  have cB := fun X => withinB_any d 1 127 X
  clear hd
  go_wp2_with fail
  refine (cB _).mono ?_
  rintro e w' ⟨rfl, rfl⟩
  clear u1 u2 m1
  by_cases k3 : 1 ≤ d ∧ d ≤ 127
  · have HR : Hid (NE = 0) := hidI (by rw [HNE2.out, if_neg (by simp [k3])])
    have e3 : (decide (1 ≤ d) && decide (d ≤ 127)) = true := by simp [k3]
    rw [e3]
    clear HNE2 e3 k3
    go_wp2
    go_ret
    exact ⟨by rw [HR.out]; rfl, HW.out⟩
  · have HR : Hid (NE = 18) := hidI (by rw [HNE2.out, if_pos ⟨by simp, k3⟩])
    have e3 : (decide (1 ≤ d) && decide (d ≤ 127)) = false := by
      cases hh : (decide (1 ≤ d) && decide (d ≤ 127)) with
      | false => rfl
      | true => simp at hh; exact absurd hh k3
    rw [e3]
    clear HNE2 e3 k3
    go_wp2
    go_ret
    exact ⟨by rw [HR.out]; rfl, HW.out⟩
set_option maxRecDepth 10000 in
set_option maxHeartbeats 2000000 in
theorem take_any (L : Lk) (l : List Nat) (s t v : Value) (w : World) (h : LkR w L s t) (hl1 : L.sa.length ≤ 17592186043904) (hl2 : L.wo.length ≤ 17592186043904) (hb : isB l) (hv : rdB w v l) (hm : l.length ≤ maxLen) : Calls Try.prog 8 #[lkV L s t, v] w fun e w' => LkE w w' e (takeL L l) (takeE L l) := by
  have cM := fun (W : World) (hW : w.grownBy W none) => mayBe_any L s t W (h.grown hW) hl1 hl2
  have cC := fun (W : World) (hW : w.grownBy W none) => copied_any L s t W (h.grown hW) hl1 hl2
  have cO := fun (W : World) (hW : w.grownBy W none) => open_any l v W hb (rdB_grown hv hW) hm
  have HP1 := hidI (fun hc : couldB L = true => could_parts hc)
  have HT : Hid (takeL L l = if couldB L = true then (if takeE L l = 0 then ⟨L.st, L.wa, L.sa, openW l, (openQ l : Int), 0, true⟩ else L) else zeroL) := hidI rfl
  have HTE : Hid (takeE L l = if couldB L = true then (if openE l = 0 then newsE L (openS l) (openQ l) (openW l) else openE l) else 15) := hidI rfl
  have hQl := openQ_lt hb
  have hSl := openS_lt hb
  have cN := fun (x y u : Value) (W : World) (ht : rd W y L.wo) (hu : rd W u (openW l)) (hq : 0 ≤ L.sq ∧ L.sq ≤ 255) => lookAtNews_any L (openS l) (openQ l) (openW l) x y u W ht hu hq hQl hSl
  generalize takeL L l = TL at *
  generalize takeE L l = TE at *
  generalize openW l = Wd at *
  generalize openQ l = Q at *
  generalize openS l = S at *
  generalize openE l = OE at *
  generalize newsE L S Q Wd = NE at *
  obtain ⟨va, vc, rfl, _⟩ := id hv
  obtain ⟨st, wa, sa, wo, sq, ag, fr⟩ := L
  dsimp only [lkV, lkA] at *
  obtain ⟨p, hp⟩ : ∃ p, w.heap.size = p := ⟨_, rfl⟩
  have hW1 : ((w.alloc (.cells #[.int .i64 st, .int .i64 wa, s, t, .int .i64 sq, .int .i64 ag, .bool fr] 26)).alloc (.cells #[.int .i64 0, .int .i64 0, .slice none 0 0, .slice none 0 0, .int .i64 0, .int .i64 0, .bool false] 26)).heap[p]? = some (.cells #[.int .i64 st, .int .i64 wa, s, t, .int .i64 sq, .int .i64 ag, .bool fr] 26) := by
    rw [hp_old (by simp; omega)]; exact hp_new hp.symm _
  have hW2 : ((w.alloc (.cells #[.int .i64 st, .int .i64 wa, s, t, .int .i64 sq, .int .i64 ag, .bool fr] 26)).alloc (.cells #[.int .i64 0, .int .i64 0, .slice none 0 0, .slice none 0 0, .int .i64 0, .int .i64 0, .bool false] 26)).heap[p + 1]? = some (.cells #[.int .i64 0, .int .i64 0, .slice none 0 0, .slice none 0 0, .int .i64 0, .int .i64 0, .bool false] 26) := hp_new (by simp; omega) _
  have hgW : w.grownBy ((w.alloc (.cells #[.int .i64 st, .int .i64 wa, s, t, .int .i64 sq, .int .i64 ag, .bool fr] 26)).alloc (.cells #[.int .i64 0, .int .i64 0, .slice none 0 0, .slice none 0 0, .int .i64 0, .int .i64 0, .bool false] 26)) none := gr_alloc (gr_alloc (World.grownBy.refl _ _) _) _
  generalize couldB ⟨st, wa, sa, wo, sq, ag, fr⟩ = CB at *
  go_enter Try.func8, Try.ntmps8
  go_upto_region 1 with fail
  have HP := hidI hp
  clear hp
  generalize (w.alloc (.cells #[.int .i64 st, .int .i64 wa, s, t, .int .i64 sq, .int .i64 ag, .bool fr] 26)).alloc (.cells #[.int .i64 0, .int .i64 0, .slice none 0 0, .slice none 0 0, .int .i64 0, .int .i64 0, .bool false] 26) = W at *
  obtain ⟨i0, i1, i2, i3, i4, i5, i6⟩ := at7 (hW1)
  go_wp2_with fail
  refine (cM W hgW).mono ?_
  rintro e w1 ⟨rfl, g1⟩
  clear i0 i1 i2 i3 i4 i5 i6
  have gw1 := grown_join hgW g1 (.inl rfl)
  have k1 := kept g1 hW1
  have k2 := kept g1 hW2
  have hs0 := hgW.size
  have hs1 := g1.size
  clear hW1 hW2 hgW g1 cM
  cases CB with
  | false =>
    obtain ⟨j0, j1, j2, j3, j4, j5, j6⟩ := at7 (k2)
    obtain ⟨f0, f1, f2, f3, f4, f5, f6⟩ := fz7 (k2)
    have HK := hidI (And.intro k2 gw1)
    clear k1 k2 gw1
    go_wp2
    refine bodyPost_ret (results2 rfl _ _ (p + 1) zeroL (.slice none 0 0) (.slice none 0 0) rfl (box7 HK.out.1)) rfl ?_
    rw [HT.out, HTE.out]
    exact ⟨_, rfl, LkP.zero (gr7n HK.out.2 (by rw [HP.out]; omega))⟩
  | true =>
  obtain ⟨i0, i1, i2, i3, i4, i5, i6⟩ := at7 (k1)
  go_wp2_with fail
  refine (cC w1 gw1).mono ?_
  rintro e w2 ⟨V, rfl, a1, c1, a2, c2, rfl, o1, o2, d12, g2⟩
  dsimp only [lkV, lkA] at *
  clear i0 i1 i2 i3 i4 i5 i6
  obtain ⟨pE, pl, pk, ⟨pq1, pq2⟩, ⟨pa1, pa2⟩, pf⟩ := HP1.out (by simp)
  obtain ⟨wa1, wa2, st1, st2, sl60, sok⟩ := startE_wa pE
  clear pE pl pk pf sok st1 st2 pa1 pa2 wa1 wa2
  have gw2 := grown_join gw1 g2 (.inl rfl)
  have hB := at_lt k2
  have k1 := kept g2 k1
  have k2 := kept g2 k2
  have hpl := at_lt k2
  have hs2 := g2.size
  have x1 : ((((((((w2).setCell ⟨p, 0, none⟩ (.int .i64 st)).setCell ⟨p, 1, none⟩ (.int .i64 wa)).setCell ⟨p, 2, none⟩ (.slice a1 sa.length c1)).setCell ⟨p, 3, none⟩ (.slice a2 wo.length c2)).setCell ⟨p, 4, none⟩ (.int .i64 sq)).setCell ⟨p, 5, none⟩ (.int .i64 ag)).setCell ⟨p, 6, none⟩ (.bool fr)).heap[p]? = some (.cells #[.int .i64 st, .int .i64 wa, .slice a1 sa.length c1, .slice a2 wo.length c2, .int .i64 sq, .int .i64 ag, .bool fr] 26) := box7 k1
  have x2 : ((((((((w2).setCell ⟨p, 0, none⟩ (.int .i64 st)).setCell ⟨p, 1, none⟩ (.int .i64 wa)).setCell ⟨p, 2, none⟩ (.slice a1 sa.length c1)).setCell ⟨p, 3, none⟩ (.slice a2 wo.length c2)).setCell ⟨p, 4, none⟩ (.int .i64 sq)).setCell ⟨p, 5, none⟩ (.int .i64 ag)).setCell ⟨p, 6, none⟩ (.bool fr)).heap[p + 1]? = some (.cells #[.int .i64 0, .int .i64 0, .slice none 0 0, .slice none 0 0, .int .i64 0, .int .i64 0, .bool false] 26) := other_set (other_set (other_set (other_set (other_set (other_set (other_set k2 (by omega)) (by omega)) (by omega)) (by omega)) (by omega)) (by omega)) (by omega)
  have x3 : w.grownBy ((((((((w2).setCell ⟨p, 0, none⟩ (.int .i64 st)).setCell ⟨p, 1, none⟩ (.int .i64 wa)).setCell ⟨p, 2, none⟩ (.slice a1 sa.length c1)).setCell ⟨p, 3, none⟩ (.slice a2 wo.length c2)).setCell ⟨p, 4, none⟩ (.int .i64 sq)).setCell ⟨p, 5, none⟩ (.int .i64 ag)).setCell ⟨p, 6, none⟩ (.bool fr)) none := gr7n gw2 (by rw [HP.out]; exact Nat.le_refl _)
  have x4 : OwnL w1.heap.size ((((((((w2).setCell ⟨p, 0, none⟩ (.int .i64 st)).setCell ⟨p, 1, none⟩ (.int .i64 wa)).setCell ⟨p, 2, none⟩ (.slice a1 sa.length c1)).setCell ⟨p, 3, none⟩ (.slice a2 wo.length c2)).setCell ⟨p, 4, none⟩ (.int .i64 sq)).setCell ⟨p, 5, none⟩ (.int .i64 ag)).setCell ⟨p, 6, none⟩ (.bool fr)) a1 c1 sa := own_but o1 (gr7 (World.grownBy.refl _ _)) (by omega)
  have x5 : OwnL w1.heap.size ((((((((w2).setCell ⟨p, 0, none⟩ (.int .i64 st)).setCell ⟨p, 1, none⟩ (.int .i64 wa)).setCell ⟨p, 2, none⟩ (.slice a1 sa.length c1)).setCell ⟨p, 3, none⟩ (.slice a2 wo.length c2)).setCell ⟨p, 4, none⟩ (.int .i64 sq)).setCell ⟨p, 5, none⟩ (.int .i64 ag)).setCell ⟨p, 6, none⟩ (.bool fr)) a2 c2 wo := own_but o2 (gr7 (World.grownBy.refl _ _)) (by omega)
  obtain ⟨i0, i1, i2, i3, i4, i5, i6⟩ := at7 (k1)
  obtain ⟨f0, f1, f2, f3, f4, f5, f6⟩ := fz7 (k1)
  have HX := hidI (And.intro x1 (And.intro x2 (And.intro x3 (And.intro x4 (And.intro x5 (And.intro d12 (And.intro hB hs0)))))))
  clear x1 x2 x3 x4 x5 o1 o2 d12 g2 gw1 gw2 k1 k2 hs1 hs2 hpl hB cC h HP1
  go_upto_region 4 with fail
  obtain ⟨x1, x2, x3, x4, x5, d12, hB, hs0⟩ := HX.out
  clear HX
  clear i0 i1 i2 i3 i4 i5 i6 f0 f1 f2 f3 f4 f5 f6
  generalize (((((((w2).setCell ⟨p, 0, none⟩ (.int .i64 st)).setCell ⟨p, 1, none⟩ (.int .i64 wa)).setCell ⟨p, 2, none⟩ (.slice a1 sa.length c1)).setCell ⟨p, 3, none⟩ (.slice a2 wo.length c2)).setCell ⟨p, 4, none⟩ (.int .i64 sq)).setCell ⟨p, 5, none⟩ (.int .i64 ag)).setCell ⟨p, 6, none⟩ (.bool fr) = X at *
  have cO := cO X x3
  have HX := hidI (And.intro x1 (And.intro x2 (And.intro x3 (And.intro x4 (And.intro x5 (And.intro d12 (And.intro hB hs0)))))))
  clear x1 x2 x3 x4 x5 d12 hB hs0
  go_wp2_with fail
  refine cO.mono ?_
  rintro e w3 ⟨a3, c3, rfl, o3, g3⟩
  obtain ⟨x1, x2, x3, x4, x5, d12, hB, hs0⟩ := HX.out
  clear HX cO
  have hXl := at_lt x2
  have hXs := x4
  have x1 := kept g3 x1
  have x2 := kept g3 x2
  have x3 := grown_join x3 g3 (.inl rfl)
  have x4 := OwnL.kept x4 g3
  have x5 := OwnL.kept x5 g3
  have HO3 := hidI (And.intro o3 (And.intro hXl (fun x (hx : (Value.slice a1 sa.length c1).ownBlock = some x) => World.ownsRow.lt hXs x hx)))
  have ho3r := OwnL.rd o3
  clear o3 hXl hXs
  obtain ⟨i0, i1, i2, i3, i4, i5, i6⟩ := at7 (x1)
  by_cases hOE : OE = 0
  case neg =>
    have HR : Hid (TL = ⟨st, wa, sa, wo, sq, ag, fr⟩ ∧ TE = OE) := hidI (by
      have h1 : TE = OE := by rw [HTE.out]; simp [hOE]
      refine ⟨?_, h1⟩
      rw [HT.out, h1]
      simp [hOE])
    have e1 : ((OE : Int) == 0) = false := by simpa using hOE
    have e2 : ((OE : Int) != 0) = true := by simpa using hOE
    obtain ⟨j0, j1, j2, j3, j4, j5, j6⟩ := at7 (x2)
    obtain ⟨f0, f1, f2, f3, f4, f5, f6⟩ := fz7 (x2)
    have HH := hidI (And.intro x2 (And.intro x3 (And.intro x4 (And.intro x5 (And.intro d12 (And.intro hB hs0))))))
    clear x1 x2 x3 x4 x5 d12 hB hs0
    go_wp2
    obtain ⟨x2, x3, x4, x5, d12, hB, hs0⟩ := HH.out
    refine bodyPost_ret (results2 rfl _ _ (p + 1) ⟨st, wa, sa, wo, sq, ag, fr⟩ (.slice a1 sa.length c1) (.slice a2 wo.length c2) rfl (box7 x2)) rfl ?_
    rw [HR.out.1, HR.out.2]
    have hp := HP.out
    exact ⟨_, rfl, a1, c1, a2, c2, rfl, own_low (own_but x4 (gr7 (World.grownBy.refl _ _)) (by omega)) (by omega), own_low (own_but x5 (gr7 (World.grownBy.refl _ _)) (by omega)) (by omega), d12, gr7n x3 (by omega)⟩
  subst hOE
  have cN := cN (.slice a1 sa.length c1) (.slice a2 wo.length c2) (.slice a3 Wd.length c3) w3 x5.rd ho3r ⟨pq1, pq2⟩
  have HX := hidI (And.intro x1 (And.intro x2 (And.intro x3 (And.intro x4 (And.intro x5 (And.intro d12 (And.intro hB hs0)))))))
  clear x1 x2 x3 x4 x5 d12 hB hs0 ho3r
  go_wp2_with fail
  refine cN.mono ?_
  rintro e w4 ⟨rfl, g4⟩
  obtain ⟨x1, x2, x3, x4, x5, d12, hB, hs0⟩ := HX.out
  clear HX cN
  have x1 := kept g4 x1
  have x2 := kept g4 x2
  have x3 := grown_join x3 g4 (.inl rfl)
  have x4 := OwnL.kept x4 g4
  have x5 := OwnL.kept x5 g4
  have o3 := OwnL.kept HO3.out.1 g4
  clear i0 i1 i2 i3 i4 i5 i6
  obtain ⟨i0, i1, i2, i3, i4, i5, i6⟩ := at7 (x1)
  by_cases hNE : NE = 0
  case neg =>
    have HR : Hid (TL = ⟨st, wa, sa, wo, sq, ag, fr⟩ ∧ TE = NE) := hidI (by
      have h1 : TE = NE := by rw [HTE.out]; simp
      refine ⟨?_, h1⟩
      rw [HT.out, h1]
      simp [hNE])
    have e2 : ((NE : Int) != 0) = true := by simpa using hNE
    obtain ⟨j0, j1, j2, j3, j4, j5, j6⟩ := at7 (x2)
    obtain ⟨f0, f1, f2, f3, f4, f5, f6⟩ := fz7 (x2)
    have HH := hidI (And.intro x2 (And.intro x3 (And.intro x4 (And.intro x5 (And.intro d12 (And.intro hB hs0))))))
    clear x1 x2 x3 x4 x5 d12 hB hs0
    go_wp2
    obtain ⟨x2, x3, x4, x5, d12, hB, hs0⟩ := HH.out
    refine bodyPost_ret (results2 rfl _ _ (p + 1) ⟨st, wa, sa, wo, sq, ag, fr⟩ (.slice a1 sa.length c1) (.slice a2 wo.length c2) rfl (box7 x2)) rfl ?_
    rw [HR.out.1, HR.out.2]
    have hp := HP.out
    exact ⟨_, rfl, a1, c1, a2, c2, rfl, own_low (own_but x4 (gr7 (World.grownBy.refl _ _)) (by omega)) (by omega), own_low (own_but x5 (gr7 (World.grownBy.refl _ _)) (by omega)) (by omega), d12, gr7n x3 (by omega)⟩
  subst hNE
  have HR : Hid (TL = ⟨st, wa, sa, Wd, (Q : Int), 0, true⟩ ∧ TE = 0) := hidI (by
    have h1 : TE = 0 := by rw [HTE.out]; simp
    refine ⟨?_, h1⟩
    rw [HT.out, h1]
    simp)
  have hpw : w.heap.size ≤ p := by rw [HP.out]; exact Nat.le_refl _
  have hXl := HO3.out.2.1
  have y1 : ((((w4.setCell ⟨p, 3, none⟩ (.slice a3 Wd.length c3)).setCell ⟨p, 4, none⟩ (.int .i64 (Q : Int))).setCell ⟨p, 5, none⟩ (.int .i64 0)).setCell ⟨p, 6, none⟩ (.bool true)).heap[p]? = some (.cells #[.int .i64 st, .int .i64 wa, .slice a1 sa.length c1, .slice a3 Wd.length c3, .int .i64 (Q : Int), .int .i64 0, .bool true] 26) := by
    have := at_set (at_set (at_set (at_set x1 3 (.slice a3 Wd.length c3)) 4 (.int .i64 (Q : Int))) 5 (.int .i64 0)) 6 (.bool true); simpa using this
  have y2 := other_set (i := 6) (v := .bool true) (other_set (i := 5) (v := .int .i64 0) (other_set (i := 4) (v := .int .i64 (Q : Int)) (other_set (i := 3) (v := .slice a3 Wd.length c3) x2 (show p + 1 ≠ p by omega)) (show p + 1 ≠ p by omega)) (show p + 1 ≠ p by omega)) (show p + 1 ≠ p by omega)
  have y3 := gr_own (gr_own (gr_own (gr_own x3 hpw 3 (.slice a3 Wd.length c3)) hpw 4 (.int .i64 (Q : Int))) hpw 5 (.int .i64 0)) hpw 6 (.bool true)
  have y4 := (((x4.set (q := p) (i := 3) (v := .slice a3 Wd.length c3) (by omega)).set (q := p) (i := 4) (v := .int .i64 (Q : Int)) (by omega)).set (q := p) (i := 5) (v := .int .i64 0) (by omega)).set (q := p) (i := 6) (v := .bool true) (by omega)
  have y5 := (((OwnL.set (q := p) (i := 3) (v := .slice a3 Wd.length c3) o3 (by omega)).set (q := p) (i := 4) (v := .int .i64 (Q : Int)) (by omega)).set (q := p) (i := 5) (v := .int .i64 0) (by omega)).set (q := p) (i := 6) (v := .bool true) (by omega)
  have y6 : ∀ x, (Value.slice a1 sa.length c1).ownBlock = some x → (Value.slice a3 Wd.length c3).ownBlock ≠ some x := fun x hx hy => by
    have h1 := HO3.out.2.2 x hx
    have h2 := World.ownsRow.lt HO3.out.1 x hy
    omega
  obtain ⟨f0, f1, f2, f3, f4, f5, f6⟩ := fz7 (x1)
  have HY := hidI (And.intro y1 (And.intro y2 (And.intro y3 (And.intro y4 (And.intro y5 (And.intro y6 (And.intro hB (And.intro hs0 hXl))))))))
  clear x1 x2 x3 x4 x5 d12 hB hs0 hXl y1 y2 y3 y4 y5 y6 o3 g4 hpw HO3 g3
  go_upto_region 10 with fail
  obtain ⟨x1, x2, x3, x4, x5, d12, hB, hs0, hXl⟩ := HY.out
  clear HY
  clear i0 i1 i2 i3 i4 i5 i6 f0 f1 f2 f3 f4 f5 f6
  generalize (((w4.setCell ⟨p, 3, none⟩ (.slice a3 Wd.length c3)).setCell ⟨p, 4, none⟩ (.int .i64 (Q : Int))).setCell ⟨p, 5, none⟩ (.int .i64 0)).setCell ⟨p, 6, none⟩ (.bool true) = Y at *
  obtain ⟨i0, i1, i2, i3, i4, i5, i6⟩ := at7 (x1)
  obtain ⟨j0, j1, j2, j3, j4, j5, j6⟩ := at7 (x2)
  obtain ⟨f0, f1, f2, f3, f4, f5, f6⟩ := fz7 (x2)
  have HH := hidI (And.intro x2 (And.intro x3 (And.intro x4 (And.intro x5 (And.intro d12 (And.intro hB (And.intro hs0 hXl)))))))
  clear x1 x2 x3 x4 x5 d12 hB hs0 hXl
  go_wp2
  obtain ⟨x2, x3, x4, x5, d12, hB, hs0, hXl⟩ := HH.out
  refine bodyPost_ret (results2 rfl _ _ (p + 1) ⟨st, wa, sa, Wd, (Q : Int), 0, true⟩ (.slice a1 sa.length c1) (.slice a3 Wd.length c3) rfl (box7 x2)) rfl ?_
  rw [HR.out.1, HR.out.2]
  have hp := HP.out
  exact ⟨_, rfl, a1, c1, a3, c3, rfl, own_low (own_but x4 (gr7 (World.grownBy.refl _ _)) (by omega)) (by omega), own_low (own_but x5 (gr7 (World.grownBy.refl _ _)) (by omega)) (by omega), d12, gr7n x3 (by omega)⟩
end Go.Proofs.Ytaiicehifailhab
