/- Numbers picked, lists compared, the closed example. -/
import Derived.Test.YtaiicehifailhabV0
namespace Go.Proofs.Ytaiicehifailhab
open Go.RowKit
attribute [local go_sem ↓] Go.wp_at_zero Go.wp_at_succ
set_option linter.unusedVariables false
set_option linter.unusedSimpArgs false
def in64 (n : Int) : Prop := -9223372036854775808 ≤ n ∧ n ≤ 9223372036854775807
def pk (n : Int) (m : Nat) : Nat := ((if n < 0 then -(n + 1) else n) % (m : Int)).toNat
theorem pk_lt (n : Int) {m : Nat} (h : 0 < m) : pk n m < m := by
  unfold pk
  have h1 := Int.emod_lt_of_pos (if n < 0 then -(n + 1) else n) (show (0 : Int) < m by omega)
  have h2 := Int.emod_nonneg (if n < 0 then -(n + 1) else n) (show (m : Int) ≠ 0 by omega)
  omega
theorem pk_cast (n : Int) {m : Nat} (h : 0 < m) : ((pk n m : Nat) : Int) = (if n < 0 then -(n + 1) else n) % (m : Int) := by
  unfold pk
  have h2 := Int.emod_nonneg (if n < 0 then -(n + 1) else n) (show (m : Int) ≠ 0 by omega)
  omega
theorem picked_any (n : Int) (m : Nat) (w : World) (hn : in64 n) (hm : 0 < m) (hm2 : m < 9223372036854775807) : Calls Try.prog 5 #[.int .i64 n, .int .i64 (m : Int)] w fun e w' => e = .returned (.int .i64 ((pk n m : Nat) : Int)) ∧ w = w' := by
  have hc := pk_cast n hm
  obtain ⟨h1, h2⟩ := hn
  have hm0 : (0 : Int) < (m : Int) := by omega
  have hm1 : ¬ (m : Int) = 0 := by omega
  by_cases h : n < 0
  · rw [if_pos h] at hc
    have e2 : (-(n + 1)).tmod (m : Int) = -(n + 1) % (m : Int) := Int.tmod_eq_emod_of_nonneg (by omega)
    go_enter Try.func5, Try.ntmps5
    go_wp2
    go_ret
    refine ⟨ret_int ?_, rfl⟩
    rw [hc]
  · rw [if_neg h] at hc
    have e2 : n.tmod (m : Int) = n % (m : Int) := Int.tmod_eq_emod_of_nonneg (by omega)
    go_enter Try.func5, Try.ntmps5
    go_wp2
    go_ret
    exact ⟨ret_int rfl, rfl⟩
set_option maxHeartbeats 1000000 in
theorem keepEq_any (la lb : List Int) (u v : Value) (w : World) (hu : rd w u la) (hv : rd w v lb) (hl : la.length ≤ 17592186044416) (hl2 : lb.length ≤ 17592186044416) : Calls Try.prog 9 #[u, v] w fun e w' => e = .returned (.bool (decide (la = lb))) ∧ w.grownBy w' none := by
  obtain ⟨a, cap, rfl, ha⟩ := hu
  obtain ⟨b, cap', rfl, hb⟩ := hv
  by_cases hne : la.length = lb.length
  · have HA : Hid (la = [] ∨ ∃ b off, a = some ⟨b, off, none⟩ ∧ ∀ i, i < la.length → w.cell? ⟨b, off + i, none⟩ = some (.int .i64 (la.getD i 0))) := ha
    have HB : Hid (lb = [] ∨ ∃ b' off, b = some ⟨b', off, none⟩ ∧ ∀ i, i < lb.length → w.cell? ⟨b', off + i, none⟩ = some (.int .i64 (lb.getD i 0))) := hb
    obtain ⟨n, hn⟩ : ∃ n, la.length = n := ⟨_, rfl⟩
    have hn' : lb.length = n := by omega
    have HN : Hid (la.length = n) := hn
    have HN' : Hid (lb.length = n) := hn'
    rw [hn, hn']
    rw [hn] at hl
    clear hn hn' hne ha hb hl2
    go_enter Try.func9, Try.ntmps9
    go_wp2
    go_loopg [5] n (fun gk s5 wx => ∃ k : Nat, s5 = .int .i64 k ∧ k ≤ n ∧ gk = n - k ∧ Hid (la.take k = lb.take k) ∧ w.grownBy wx none)
    case atStart => exact ⟨0, rfl, Nat.zero_le _, by omega, hidI rfl, World.grownBy.refl _ _⟩
    case round =>
      obtain ⟨k, rfl, hk, hgk, HT, hgr⟩ := hrel
      have HG : Hid (gk = n - k) := hgk
      clear hgk
      by_cases hlt : k < n
      · have hka : k < la.length := by rw [HN.out]; exact hlt
        have hkb : k < lb.length := by rw [HN'.out]; exact hlt
        rcases HA.out with h | ⟨b1, o1, rfl, hc⟩
        · subst h; simp at hka
        rcases HB.out with h | ⟨b2, o2, rfl, hc'⟩
        · subst h; simp at hkb
        have q0 := hgr.cell (hc k hka) (by simp)
        have q1 := hgr.cell (hc' k hkb) (by simp)
        have eA : la.take (k + 1) = la.take k ++ [la.getD k 0] := by rw [List.take_add_one]; simp [List.getD, hka]
        have eB : lb.take (k + 1) = lb.take k ++ [lb.getD k 0] := by rw [List.take_add_one]; simp [List.getD, hkb]
        have HXY : Hid (la.getD k 0 ≠ lb.getD k 0 → decide (la = lb) = false) := hidI (fun hne => by
          rw [decide_eq_false_iff_not]
          intro he
          exact hne (by rw [he]))
        have HT2 : Hid (la.getD k 0 = lb.getD k 0 → la.take (k + 1) = lb.take (k + 1)) := hidI (fun he => by rw [eA, eB, HT.out, he])
        clear hc hc' hka hkb eA eB
        generalize la.getD k 0 = x at *
        generalize lb.getD k 0 = y at *
        have j1 : (0 : Int) ≤ (k : Int) := by omega
        have j2 : (k : Int) < (n : Int) := by omega
        by_cases hxy : x = y
        · subst hxy
          have HT3 : Hid (_ = _) := HT2.out rfl
          clear HT2
          go_wp2
          go_region_held3 (fun w' => w'.cell? ⟨b1, o1 + k, none⟩ = some (.int .i64 x) ∧ w'.cell? ⟨b2, o2 + k, none⟩ = some (.int .i64 x)) (go_keep) (fail)
          go_wp2
          have hgl := HG.out
          go_roundg (n - (k + 1))
          all_goals first | omega | exact ⟨k + 1, by go_num, by omega, by omega, HT3, gr_drew hgr⟩
        · have HF : Hid (_ = _) := HXY.out hxy
          go_wp2
          go_region_held3 (fun w' => w'.cell? ⟨b1, o1 + k, none⟩ = some (.int .i64 x) ∧ w'.cell? ⟨b2, o2 + k, none⟩ = some (.int .i64 y)) (go_keep) (fail)
          go_wp2
          go_ret
          exact ⟨ret_bool HF.out.symm, gr_drew hgr⟩
      · have j2 : ¬ (k : Int) < (n : Int) := by omega
        have HE : Hid (decide (la = lb) = true) := hidI (by
          rw [decide_eq_true_iff]
          have := HT.out
          rwa [List.take_of_length_le (by rw [HN.out]; omega), List.take_of_length_le (by rw [HN'.out]; omega)] at this)
        go_wp2
        go_ret
        exact ⟨ret_bool HE.out.symm, hgr⟩
  · have i0 : ¬ (la.length : Int) = (lb.length : Int) := by omega
    have hd : decide (la = lb) = false := by
      rw [decide_eq_false_iff_not]
      intro h
      exact hne (by rw [h])
    rw [hd]
    go_enter Try.func9, Try.ntmps9
    go_wp2
    go_ret
    exact ⟨rfl, World.grownBy.refl _ _⟩

theorem keepEq_yes (l : List Int) (u v : Value) (w : World) (hu : rd w u l) (hv : rd w v l) (hl : l.length ≤ 17592186044416) : Calls Try.prog 9 #[u, v] w fun e w' => e = .returned (.bool true) ∧ w.grownBy w' none :=
  (keepEq_any l l u v w hu hv hl hl).mono fun e w' h => ⟨by rw [h.1]; simp, h.2⟩
theorem two_rd (w : World) (x y : Int) : rd (w.alloc (.cells #[.int .i64 x, .int .i64 y] 3)) (.slice (some ⟨w.heap.size, 0, none⟩) 2 2) [x, y] :=
  ⟨_, _, rfl, .inr ⟨_, 0, rfl, fun i hi => by
    rw [at_cell (heap_alloc_new w _)]
    have : i = 0 ∨ i = 1 := by simp at hi; omega
    rcases this with rfl | rfl <;> rfl⟩⟩
theorem on_start : startE 3 2 [7, 8] = 0 ∧ startL 3 2 [7, 8] = ⟨3, 2, [7, 8], [7, 8], 0, 0, false⟩ := by
  have h : startE 3 2 [7, 8] = 0 := by decide
  exact ⟨h, by unfold startL; rw [if_pos h]⟩
theorem on_frame : frameE 3 200 [1, 2] = 0 := by decide
theorem on_take : takeE ⟨3, 2, [7, 8], [7, 8], 0, 0, false⟩ (frameS 3 200 [1, 2]) = 0 ∧ takeL ⟨3, 2, [7, 8], [7, 8], 0, 0, false⟩ (frameS 3 200 [1, 2]) = ⟨3, 2, [7, 8], [1, 2], 200, 0, true⟩ := by
  obtain ⟨o1, o2, o3, o4⟩ := open_frame on_frame
  have hc : couldB ⟨3, 2, [7, 8], [7, 8], 0, 0, false⟩ = true := by decide
  have hE : takeE ⟨3, 2, [7, 8], [7, 8], 0, 0, false⟩ (frameS 3 200 [1, 2]) = 0 := by
    unfold takeE
    rw [if_pos hc, if_pos o1, o2, o3, o4]
    decide
  refine ⟨hE, ?_⟩
  unfold takeL
  rw [if_pos hc, if_pos hE, o3, o4]
  rfl
set_option maxRecDepth 10000 in
set_option maxHeartbeats 1000000 in
theorem onward_any (w : World) : Calls Try.prog 4 #[] w fun e w' => e = .returned (.bool true) ∧ w.grownBy w' none := by
  have c1 := start_any 3 2 [7, 8] _ _ (two_rd w 7 8) (by simp)
  rw [on_start.1, on_start.2] at c1
  go_enter Try.func4, Try.ntmps4
  go_wp2_with fail
  refine c1.mono ?_
  rintro e w1 ⟨V, rfl, a1, c1, a2, c2, rfl, o1, o2, d12, g1⟩
  dsimp only [lkV, lkA] at *
  have gw1 := grown_join (gr_alloc (World.grownBy.refl w none) (.cells #[.int .i64 7, .int .i64 8] 3)) g1 (.inl rfl)
  obtain ⟨q, hq⟩ : ∃ q, w1.heap.size = q := ⟨_, rfl⟩
  have gA : w1.grownBy (w1.alloc (.cells #[.int .i64 3, .int .i64 2, .slice a1 2 c1, .slice a2 2 c2, .int .i64 0, .int .i64 0, .bool false] 26)) none := gr_alloc (World.grownBy.refl _ _) _
  have B1 : (w1.alloc (.cells #[.int .i64 3, .int .i64 2, .slice a1 2 c1, .slice a2 2 c2, .int .i64 0, .int .i64 0, .bool false] 26)).heap[q]? = some (.cells #[.int .i64 3, .int .i64 2, .slice a1 2 c1, .slice a2 2 c2, .int .i64 0, .int .i64 0, .bool false] 26) := hp_new hq.symm _
  have cF := frame_any 3 200 [1, 2] _ _ (two_rd (w1.alloc (.cells #[.int .i64 3, .int .i64 2, .slice a1 2 c1, .slice a2 2 c2, .int .i64 0, .int .i64 0, .bool false] 26)) 1 2) (by simp)
  have hgB := gr_alloc (World.grownBy.refl (w1.alloc (.cells #[.int .i64 3, .int .i64 2, .slice a1 2 c1, .slice a2 2 c2, .int .i64 0, .int .i64 0, .bool false] 26)) none) (.cells #[.int .i64 1, .int .i64 2] 3)
  have hsz : (w1.alloc (.cells #[.int .i64 3, .int .i64 2, .slice a1 2 c1, .slice a2 2 c2, .int .i64 0, .int .i64 0, .bool false] 26)).heap.size = q + 1 := by simp [hq]
  rw [hsz] at cF
  have HB := hidI (And.intro B1 (And.intro gA (And.intro gw1 (And.intro hgB (And.intro o1 o2)))))
  clear B1 gA gw1 hgB hsz o1 o2 g1
  go_wp2_with fail
  refine cF.mono ?_
  have hFB := frameS_B 3 200 [1, 2]
  have hFl := frameS_len 3 200 [1, 2]
  have hT := on_take
  have hFE := on_frame
  rw [hFE]
  clear hFE cF
  obtain ⟨F, hF⟩ : ∃ F, frameS 3 200 [1, 2] = F := ⟨_, rfl⟩
  rw [hF] at hFB hFl hT ⊢
  clear hF
  rintro e w2 ⟨a3, c3, rfl, o3, g2⟩
  obtain ⟨B1, gA, gw1, hgB, o1, o2⟩ := HB.out
  clear HB
  have gX2 := grown_join hgB g2 (.inl rfl)
  have B2 := kept gX2 B1
  have g12 := grown_join gA gX2 (.inl rfl)
  have gw2 := grown_join gw1 g12 (.inl rfl)
  have o1 := OwnL.kept o1 g12
  have o2 := OwnL.kept o2 g12
  have cT := take_any ⟨3, 2, [7, 8], [7, 8], 0, 0, false⟩ F (.slice a1 2 c1) (.slice a2 2 c2) (.slice a3 F.length c3) w2 ⟨OwnL.rd o1, OwnL.rd o2⟩ (by simp) (by simp) hFB o3.rd (by unfold maxLen; omega)
  rw [hT.1, hT.2] at cT
  dsimp only [lkV, lkA] at cT
  obtain ⟨i0, i1, i2, i3, i4, i5, i6⟩ := at7 B2
  have HQ := hidI hq
  have HB := hidI (And.intro B2 (And.intro gw2 (And.intro o1 o2)))
  clear B1 B2 gA gw1 hgB o1 o2 g12 gw2 gX2 hT hq g2 o3
  go_wp2_with fail
  refine cT.mono ?_
  rintro e w3 ⟨V, rfl, b1, d1, b2, d2, rfl, p1, p2, d34, g3⟩
  dsimp only [lkV, lkA] at *
  obtain ⟨B2, gw2, o1, o2⟩ := HB.out
  clear HB i0 i1 i2 i3 i4 i5 i6 cT
  have B3 := kept g3 B2
  have o2 := OwnL.kept o2 g3
  have gw3 := grown_join gw2 g3 (.inl rfl)
  obtain ⟨r, hr⟩ : ∃ r, w3.heap.size = r := ⟨_, rfl⟩
  have gC : w3.grownBy (w3.alloc (.cells #[.int .i64 3, .int .i64 2, .slice b1 2 d1, .slice b2 2 d2, .int .i64 200, .int .i64 0, .bool true] 26)) none := gr_alloc (World.grownBy.refl _ _) _
  have B4 : (w3.alloc (.cells #[.int .i64 3, .int .i64 2, .slice b1 2 d1, .slice b2 2 d2, .int .i64 200, .int .i64 0, .bool true] 26)).heap[r]? = some (.cells #[.int .i64 3, .int .i64 2, .slice b1 2 d1, .slice b2 2 d2, .int .i64 200, .int .i64 0, .bool true] 26) := hp_new hr.symm _
  have B3 := kept gC B3
  have o2 := OwnL.kept o2 gC
  have p2 := OwnL.kept p2 gC
  have gwC := grown_join gw3 gC (.inl rfl)
  clear g3 gw2 gw3 B2 o1 p1
  have hszC : (w3.alloc (.cells #[.int .i64 3, .int .i64 2, .slice b1 2 d1, .slice b2 2 d2, .int .i64 200, .int .i64 0, .bool true] 26)).heap.size = r + 1 := by simp [hr]
  have kE1 := keepEq_yes [7, 8] _ _ _ (rd_grown (OwnL.rd o2) (gr_alloc (World.grownBy.refl _ _) (.cells #[.int .i64 7, .int .i64 8] 3))) (two_rd (w3.alloc (.cells #[.int .i64 3, .int .i64 2, .slice b1 2 d1, .slice b2 2 d2, .int .i64 200, .int .i64 0, .bool true] 26)) 7 8) (by simp)
  rw [hszC] at kE1
  have gD := gr_alloc (World.grownBy.refl (w3.alloc (.cells #[.int .i64 3, .int .i64 2, .slice b1 2 d1, .slice b2 2 d2, .int .i64 200, .int .i64 0, .bool true] 26)) none) (.cells #[.int .i64 7, .int .i64 8] 3)
  obtain ⟨i0, i1, i2, i3, i4, i5, i6⟩ := at7 B3
  have HB := hidI (And.intro B3 (And.intro B4 (And.intro gwC (And.intro p2 gD))))
  clear B3 B4 gwC p2 o2 gD gC hszC
  go_wp2_with fail
  refine kE1.mono ?_
  rintro e w4 ⟨rfl, g4⟩
  obtain ⟨B3, B4, gwC, p2, gD⟩ := HB.out
  clear HB i0 i1 i2 i3 i4 i5 i6 kE1
  have gC4 := grown_join gD g4 (.inl rfl)
  have B3 := kept gC4 B3
  have B4 := kept gC4 B4
  have p2 := OwnL.kept p2 gC4
  have gw4 := grown_join gwC gC4 (.inl rfl)
  have gE := gr_alloc (World.grownBy.refl w4 none) (.cells #[.int .i64 1, .int .i64 2] 3)
  have kE2 := keepEq_yes [1, 2] _ _ _ (rd_grown (OwnL.rd p2) gE) (two_rd w4 1 2) (by simp)
  obtain ⟨i0, i1, i2, i3, i4, i5, i6⟩ := at7 B4
  have HB := hidI (And.intro B3 (And.intro B4 (And.intro gw4 gE)))
  have HR := hidI hr
  clear B3 B4 gw4 gE p2 gC4 gwC gD g4 hr
  go_wp2_with fail
  refine kE2.mono ?_
  rintro e w5 ⟨rfl, g5⟩
  obtain ⟨B3, B4, gw4, gE⟩ := HB.out
  clear HB i0 i1 i2 i3 i4 i5 i6 kE2
  have g45 := grown_join gE g5 (.inl rfl)
  obtain ⟨i0, i1, i2, i3, i4, i5, i6⟩ := at7 (kept g45 B3)
  obtain ⟨j0, j1, j2, j3, j4, j5, j6⟩ := at7 (kept g45 B4)
  have HG := hidI (grown_join gw4 g45 (.inl rfl))
  clear B3 B4 gw4 gE g5 g45
  go_wp2
  go_ret
  exact ⟨rfl, HG.out⟩
end Go.Proofs.Ytaiicehifailhab
