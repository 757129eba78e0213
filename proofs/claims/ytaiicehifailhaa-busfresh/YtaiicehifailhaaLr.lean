/- The law of what is fresh. -/
import Derived.Test.YtaiicehifailhaaV2
import Derived.Deep.CutRange
import Derived.Deep.CutBlock
namespace Go.Proofs.Ytaiicehifailhaa
open Go.RowKit
attribute [local go_sem ↓] Go.wp_at_zero Go.wp_at_succ
set_option linter.unusedVariables false
set_option linter.unusedSimpArgs false

theorem start_5 {wt : Nat} (h : 1 ≤ wt ∧ wt ≤ 6) : startE 5 (wt : Int) [0, 65535] = 0 ∧ startL 5 (wt : Int) [0, 65535] = ⟨5, (wt : Int), [0, 65535], [0, 65535], 0, 0, false⟩ := by
  have hS : startE 5 (wt : Int) [0, 65535] = 0 := by
    unfold startE
    rw [wi_yes (by omega) (by omega), wi_yes (by omega) (by omega)]
    decide
  exact ⟨hS, by unfold startL; rw [if_pos hS]⟩
set_option maxRecDepth 10000 in
set_option maxHeartbeats 8000000 in
theorem freshLaw_any (wt0 : Int) (ps : List (Int × Int)) (v : Value) (w : World) (hw0 : in64 wt0) (hv : PsAt w v ps) (hz : ∀ x ∈ ps, in64 x.1 ∧ in64 x.2) (hl : ps.length ≤ maxLen) : Calls Try.prog 8 #[.int .i64 wt0, v] w fun e w' => e = .returned (.bool true) ∧ w.grownBy w' none := by
  obtain ⟨pa, pc, rfl, hpa⟩ := id hv
  unfold maxLen at hl
  by_cases h4 : 400 < ps.length
  · have i0 : (400 : Int) < (ps.length : Int) := by omega
    go_enter Try.func8, Try.ntmps8
    go_wp2
    go_ret
    exact ⟨rfl, World.grownBy.refl _ _⟩
  obtain ⟨N, hN⟩ : ∃ N, ps.length = N := ⟨_, rfl⟩
  have HPS : Hid ((ps = [] ∨ ∃ b off, pa = some ⟨b, off, none⟩ ∧ ∀ i, i < ps.length → w.cell? ⟨b, off + i * 3, none⟩ = some (.int .i64 (ps.getD i (0, 0)).1) ∧ w.cell? ⟨b, off + i * 3 + 1, none⟩ = some (.int .i64 (ps.getD i (0, 0)).2)) ∧ (∀ x ∈ ps, in64 x.1 ∧ in64 x.2) ∧ ps.length = N) := hidI ⟨hpa, hz, hN⟩
  rw [hN] at h4 hl ⊢
  clear hN hpa hz hv
  have i0 : ¬ (400 : Int) < (N : Int) := by omega
  have cO := onward_any w
  go_enter Try.func8, Try.ntmps8
  go_wp2_with fail
  refine cO.mono ?_
  rintro e w1 ⟨rfl, g1⟩
  have cP := picked_any wt0 6 w1 hw0 (by omega) (by omega)
  have hp6 := pk_lt wt0 (show 0 < 6 by omega)
  generalize pk wt0 6 = pw at *
  clear cO
  go_wp2_with fail
  refine cP.mono ?_
  rintro e w' ⟨rfl, rfl⟩
  obtain ⟨wt, hwt⟩ : ∃ wt : Nat, wt = 1 + pw := ⟨_, rfl⟩
  have hwt6 : 1 ≤ wt ∧ wt ≤ 6 := by omega
  have mwt : wrap64 (1 + (pw : Int)) = (wt : Int) := by unfold wrap64; omega
  have mwt2 : 1 + (pw : Int) = (wt : Int) := by omega
  have cS := start_any 5 (wt : Int) [0, 65535] _ _ (two_rd w1 0 65535) (by simp)
  rw [(start_5 hwt6).1, (start_5 hwt6).2] at cS
  have gA1 : w1.grownBy (w1.alloc (.cells #[.int .i64 0, .int .i64 65535] 3)) none := gr_alloc (World.grownBy.refl _ _) _
  obtain ⟨b6, hb6⟩ : ∃ b, w1.heap.size = b := ⟨_, rfl⟩
  have h6 := two_rd w1 0 65535
  rw [hb6] at h6 cS
  have HB6 := hidI (And.intro h6 (And.intro gA1 g1))
  clear hwt cP hp6 h6 gA1
  go_wp2_with fail
  refine cS.mono ?_
  rintro e w2 ⟨V, rfl, a1, c1, a2, c2, rfl, o1, o2, d12, g2⟩
  dsimp only [lkV, lkA] at *
  obtain ⟨h6, gA1, g1⟩ := HB6.out
  obtain ⟨q, hq⟩ : ∃ q, w2.heap.size = q := ⟨_, rfl⟩
  have gB : w2.grownBy (w2.alloc (.cells #[.int .i64 5, .int .i64 (wt : Int), .slice a1 2 c1, .slice a2 2 c2, .int .i64 0, .int .i64 0, .bool false] 40)) none := gr_alloc (World.grownBy.refl _ _) _
  have hbx : (w2.alloc (.cells #[.int .i64 5, .int .i64 (wt : Int), .slice a1 2 c1, .slice a2 2 c2, .int .i64 0, .int .i64 0, .bool false] 40)).heap[q]? = some (.cells #[.int .i64 5, .int .i64 (wt : Int), .slice a1 2 c1, .slice a2 2 c2, .int .i64 0, .int .i64 0, .bool false] 40) := hp_new hq.symm _
  have gw2 := grown_join g1 (grown_join gA1 g2 (.inl rfl)) (.inl rfl)
  have hI0 : Inv w (w2.alloc (.cells #[.int .i64 5, .int .i64 (wt : Int), .slice a1 2 c1, .slice a2 2 c2, .int .i64 0, .int .i64 0, .bool false] 40)) q (.slice (some ⟨b6, 0, none⟩) 2 2) wt (-1) 0 0 (.slice none 0 0) ⟨5, (wt : Int), [0, 65535], [0, 65535], 0, 0, false⟩ (.slice a1 2 c1) (.slice a2 2 c2) :=
    ⟨grown_join gw2 gB (.inl rfl), hbx, ⟨rfl, rfl, rfl, ⟨by show (0 : Int) ≤ 0; omega, by show (0 : Int) ≤ 255; omega⟩, hwt6, .inl ⟨rfl, rfl, rfl, rfl⟩⟩, OwnL.rd (OwnL.kept o1 gB), OwnL.rd (OwnL.kept o2 gB), rd_grown (rd_grown h6 g2) gB,
      off_lt (OwnL.rd o1) (by omega), off_lt (OwnL.rd o2) (by omega), off_lt (rd_grown h6 g2) (by omega), Off.none _, Off.none _, Off.none _, ⟨[], World.ownsRow_nil _ _ _ _, fun i hi => by omega⟩, by have := gw2.size; omega, by simp [Value.ownBlock]⟩
  have HI0 := hidI hI0
  clear hI0 gw2 hbx gB o1 o2 d12 g2 h6 gA1 g1 HB6 cS
  go_wp2_with fail
  generalize w2.alloc (.cells #[.int .i64 5, .int .i64 (wt : Int), .slice a1 2 c1, .slice a2 2 c2, .int .i64 0, .int .i64 0, .bool false] 40) = W3 at *
  clear hq hb6 mwt mwt2
  go_loopg [9, 10, 11, 12] N (fun gk s9 s10 s11 s12 wx => ∃ (k : Nat) (nw : Int) (qt n : Nat) (sa : Option Addr) (sc : Nat) (L : Lk) (s t : Value), s12 = .int .i64 k ∧ s9 = .slice sa n sc ∧ s10 = .int .i64 nw ∧ s11 = .int .i64 (qt : Int) ∧ k ≤ N ∧ n ≤ k ∧ qt ≤ k ∧ gk = N - k ∧ Hid (Inv w wx q (.slice (some ⟨b6, 0, none⟩) 2 2) wt nw qt n (.slice sa n sc) L s t))
  case atStart => exact ⟨0, -1, 0, 0, none, 0, _, _, _, rfl, rfl, rfl, rfl, Nat.zero_le _, by omega, by omega, by omega, HI0⟩
  case round =>
    obtain ⟨k, nw, qt, n, sa, sc, L, s, t, rfl, rfl, rfl, rfl, hk, hnk, hqk, hgk, HI⟩ := hrel
    have HG : Hid (gk = N - k) := hgk
    clear hgk HI0
    by_cases hlt : k < N
    case neg =>
      have hk' : ¬ ((k : Int) < (N : Int)) := by omega
      go_wp2
      go_ret
      exact ⟨rfl, HI.out.grown⟩
    have j1 : (0 : Int) ≤ (k : Int) := by omega
    have j2 : (k : Int) < (N : Int) := by omega
    obtain ⟨hps, hz, hN⟩ := HPS.out
    have hkp : k < ps.length := by omega
    rcases hps with h | ⟨b, off, rfl, hc⟩
    · subst h; simp at hkp
    have p0 := HI.out.grown.cell (hc k hkp).1 (by simp)
    have p1 := HI.out.grown.cell (hc k hkp).2 (by simp)
    obtain ⟨z0, z1⟩ := hz (ps.getD k (0, 0)) (by
      have : ps.getD k (0, 0) = ps[k] := by simp [List.getD, hkp]
      rw [this]
      exact List.getElem_mem _)
    generalize (ps.getD k (0, 0)).1 = x at *
    generalize (ps.getD k (0, 0)).2 = y at *
    clear hc hz hN hkp
    have cP := picked_any x 4 wr z0 (by omega) (by omega)
    have hx4 := pk_lt x (show 0 < 4 by omega)
    generalize pk x 4 = pw4 at *
    have h4c : pw4 = 0 ∨ pw4 = 1 ∨ pw4 = 2 ∨ pw4 = 3 := by omega
    clear hx4 z0
    go_wp2_with fail
    refine cP.mono ?_
    rintro e w' ⟨rfl, rfl⟩
    clear cP
    go_upto_block 2 with fail
    go_cut [9, 10, 11, 13, 14, 15, 16, 17, 18, 19, 20, 21, 22] from 46 to 168 (fun s9 s10 s11 _ _ _ _ _ _ _ _ _ _ wx => ∃ (nw : Int) (qt n : Nat) (sa : Option Addr) (sc : Nat) (L : Lk) (s t : Value), s9 = .slice sa n sc ∧ s10 = .int .i64 nw ∧ s11 = .int .i64 (qt : Int) ∧ n ≤ k + 1 ∧ qt ≤ k + 1 ∧ Hid (Inv w wx q (.slice (some ⟨b6, 0, none⟩) 2 2) wt nw qt n (.slice sa n sc) L s t))
    case rest =>
      obtain ⟨nw, qt, n, sa, sc, L, s, t, rfl, rfl, rfl, hnk, hqk, HI⟩ := hcut
      have hBx : wc.heap[q]? = some (.cells #[.int .i64 L.st, .int .i64 L.wa, s, t, .int .i64 L.sq, .int .i64 L.ag, .bool L.fr] 40) := HI.out.box
      obtain ⟨i0, i1, i2, i3, i4, i5, i6⟩ := at7 (hBx)
      have hrt := HI.out.rt
      have hr6 := HI.out.r6
      rcases HI.out.stt.2.2.2.2.2 with ⟨hnw, hwo, _, hfr⟩ | ⟨⟨hn0, hn4⟩, hwo, _, _, _, hfr⟩
      · subst hnw
        rw [hwo] at hrt
        rw [hfr] at i6
        have cE := keepEq_yes [0, 65535] _ _ wc hrt hr6 (by simp)
        clear hwo hfr hBx hrt hr6
        go_wp2_with fail
        refine cE.mono ?_
        rintro e wf ⟨rfl, gf⟩
        have j6 := gf.cell i6 (by simp)
        have HI2 := hidI (HI.out.grow gf)
        clear i0 i1 i2 i3 i4 i5 i6
        clear cE gf
        go_wp2
        have hgl := HG.out
        go_roundg (N - (k + 1))
        all_goals first | omega | exact ⟨k + 1, -1, qt, n, sa, sc, L, s, t, by go_num, rfl, rfl, rfl, by omega, by omega, by omega, by omega, HI2⟩
      · rw [hwo] at hrt
        rw [hfr] at i6
        have gA : wc.grownBy (wc.alloc (.cells #[.int .i64 (nw), .int .i64 (1000 - (nw))] 3)) none := gr_alloc (World.grownBy.refl _ _) _
        have cE := keepEq_yes [nw, 1000 - (nw)] _ _ _ (rd_grown hrt gA) (two_rd wc (nw) (1000 - (nw))) (by simp)
        have i3 := gA.cell i3 (by simp)
        have i6 := gA.cell i6 (by simp)
        have mw : wrap64 (1000 - (nw)) = 1000 - (nw) := by unfold wrap64; omega
        have HGA := hidI gA
        clear hwo hfr hBx hrt hr6 gA
        go_wp2_with fail
        refine cE.mono ?_
        rintro e wf ⟨rfl, gf⟩
        have j6 := gf.cell i6 (by simp)
        have HI2 := hidI (HI.out.grow (grown_join HGA.out gf (.inl rfl)))
        clear cE gf i3 i6 mw HGA
        go_wp2
        have hgl := HG.out
        go_roundg (N - (k + 1))
        all_goals first | omega | exact ⟨k + 1, nw, qt, n, sa, sc, L, s, t, by go_num, rfl, rfl, rfl, by omega, by omega, by omega, by omega, HI2⟩
    case first =>
    rcases h4c with rfl | hk12 | hk12 | rfl
    · have hn4 : n < 400 := by omega
      have hfe := frN_E hn4
      have hsq : ((n % 256 : Nat) : Int) = (n : Int) % 256 := by omega
      have cF := frame_any 5 ((n % 256 : Nat) : Int) [(n : Int), 1000 - (n : Int)] _ _ (two_rd wr (n : Int) (1000 - (n : Int))) (by simp)
      rw [hfe] at cF
      have HFR : Hid (frameS 5 ((n % 256 : Nat) : Int) [(n : Int), 1000 - (n : Int)] = frN n) := hidI rfl
      rw [HFR.out, hsq] at cF
      have gA : wr.grownBy (wr.alloc (.cells #[.int .i64 (n : Int), .int .i64 (1000 - (n : Int))] 3)) none := gr_alloc (World.grownBy.refl _ _) _
      have HA := hidI gA
      have m1 : (n : Int).tmod 256 = (n : Int) % 256 := Int.tmod_eq_emod_of_nonneg (by omega)
      have m2 : wrap64 (1000 - (n : Int)) = 1000 - (n : Int) := by unfold wrap64; omega
      clear hfe hsq HFR gA
      go_wp2_with fail
      refine cF.mono ?_
      rintro e w4 ⟨fa, fc, rfl, of, gf⟩
      have gAf := grown_join HA.out gf (.inl rfl)
      have of' : OwnB wr.heap.size w4 fa fc (frN n) := own_low of HA.out.size
      obtain ⟨sa', sc', wz, hrun, hI2⟩ := HI.out.send gAf of' (by omega)
      have HRUN := hidI hrun
      have HI := hidI hI2
      clear cF hrun hI2 gf gAf of of' HA m1 m2
      generalize (frN n).length = fl at *
      go_wp2_with (first | (at_builtin; refine hidG ?_))
      refine hidI ?_
      refine wpList_append_run rfl _ _ 51 rfl _ _ _ wz rfl rfl HRUN.out ?_
      clear HRUN p0 p1
      go_wp2_with fail
      go_meet
      exact ⟨nw, qt, (n + 1), sa', sc', L, s, t, rfl, rfl, rfl, by omega, by omega, HI⟩
    · subst hk12
      by_cases hn : n = 0
      · subst hn
        have e0 : ((0 : Nat) : Int) = 0 := rfl
        go_wp2
        have hgl := HG.out
        go_roundg (N - (k + 1))
        all_goals first | omega | exact ⟨k + 1, nw, qt, 0, sa, sc, L, s, t, by go_num, rfl, rfl, rfl, by omega, by omega, by omega, by omega, HI⟩
      have cP := picked_any y n wr z1 (by omega) (by omega)
      have hyn := pk_lt y (show 0 < n by omega)
      generalize pk y n = pw5 at *
      have e0 : ((n : Int) == 0) = false := by simpa using hn
      have e0' : ¬ ((n : Int) = 0) := by omega
      obtain ⟨kk, hkk⟩ : ∃ kk : Nat, kk = n - 1 - pw5 := ⟨_, rfl⟩
      have hkn : kk < n := by omega
      have hk4 : kk < 400 := by omega
      have mk1 : wrap64 ((n : Int) - 1) = (n : Int) - 1 := by unfold wrap64; omega
      have mk2 : (n : Int) - 1 - (pw5 : Int) = (kk : Int) := by omega
      have mk3 : wrap64 ((n : Int) - 1 - (pw5 : Int)) = (kk : Int) := by unfold wrap64; omega
      obtain ⟨hkn0, hkn1⟩ : (0 : Int) ≤ (kk : Int) ∧ (kk : Int) < (n : Int) := by omega
      clear hkk hyn
      go_wp2_with fail
      refine cP.mono ?_
      rintro e w' ⟨rfl, rfl⟩
      clear cP p0 p1 mk1
      go_upto_region 24 with fail
      clear mk2 mk3
      obtain ⟨g, fa, fc, hsa, hcell, hrdF⟩ := HI.out.at_ hkn
      subst hsa
      have hT := stt_take HI.out.stt hk4
      have hLl : L.sa.length ≤ 17592186043904 ∧ L.wo.length ≤ 17592186043904 := by
        rcases HI.out.stt with ⟨_, _, h3, _, _, ⟨_, h6, _⟩ | ⟨_, h6, _⟩⟩ <;> rw [h3, h6] <;> simp
      have cT := fun (X : World) (hX : wr.grownBy X none) => take_any L (frN kk) s t (.slice fa (frN kk).length fc) X ⟨rd_grown HI.out.rs hX, rd_grown HI.out.rt hX⟩ hLl.1 hLl.2 (frN_B kk) (rdB_grown hrdF hX) (by have := frN_len kk; unfold maxLen; omega)
      generalize takeL L (frN kk) = R at *
      generalize takeE L (frN kk) = TE at *
      generalize (frN kk).length = fl at *
      dsimp only [lkV, lkA] at *
      have hBx : wr.heap[q]? = some (.cells #[.int .i64 L.st, .int .i64 L.wa, s, t, .int .i64 L.sq, .int .i64 L.ag, .bool L.fr] 40) := HI.out.box
      have cQ1 : Calls Try.prog 23 #[.agg #[.int .i64 L.st, .int .i64 L.wa, s, t, .int .i64 L.sq, .int .i64 L.ag, .bool L.fr], .slice fa fl fc] wr.drew (fun e w2 => ∃ a1 c1 a2 c2, e = .returned (.tuple #[.agg #[.int .i64 R.st, .int .i64 R.wa, .slice a1 R.sa.length c1, .slice a2 R.wo.length c2, .int .i64 R.sq, .int .i64 R.ag, .bool R.fr], .int .i64 (TE : Int)]) ∧ Hid (OwnL wr.heap.size w2 a1 c1 R.sa ∧ OwnL wr.heap.size w2 a2 c2 R.wo ∧ wr.grownBy w2 none) ∧ (w2.cell? ⟨q, 0, none⟩ = some (.int .i64 L.st) ∧ w2.cell? ⟨q, 1, none⟩ = some (.int .i64 L.wa) ∧ w2.cell? ⟨q, 2, none⟩ = some (s) ∧ w2.cell? ⟨q, 3, none⟩ = some (t) ∧ w2.cell? ⟨q, 4, none⟩ = some (.int .i64 L.sq) ∧ w2.cell? ⟨q, 5, none⟩ = some (.int .i64 L.ag) ∧ w2.cell? ⟨q, 6, none⟩ = some (.bool L.fr)) ∧ w2.cell? ⟨g, kk, none⟩ = some (.slice fa fl fc)) := (cT wr.drew (gr_drew (World.grownBy.refl _ _))).mono fun e w2 ⟨V, e1, a1, c1, a2, c2, e2, e3, e4, _, e6⟩ => by
        have hj := grown_join (gr_drew (World.grownBy.refl wr none)) e6 (.inl rfl)
        subst e2
        exact ⟨a1, c1, a2, c2, e1, hidI ⟨e3, e4, hj⟩, at7 (kept hj hBx), hj.cell hcell (by simp)⟩
      have cQ2 : Calls Try.prog 23 #[.agg #[.int .i64 L.st, .int .i64 L.wa, s, t, .int .i64 L.sq, .int .i64 L.ag, .bool L.fr], .slice fa fl fc] (wr.alloc (.cells #[.int .i64 0, .int .i64 0, .slice none 0 0, .slice none 0 0, .int .i64 0, .int .i64 0, .bool false] 40)).drew (fun e w2 => ∃ a1 c1 a2 c2, e = .returned (.tuple #[.agg #[.int .i64 R.st, .int .i64 R.wa, .slice a1 R.sa.length c1, .slice a2 R.wo.length c2, .int .i64 R.sq, .int .i64 R.ag, .bool R.fr], .int .i64 (TE : Int)]) ∧ Hid (OwnL (wr.heap.size + 1) w2 a1 c1 R.sa ∧ OwnL (wr.heap.size + 1) w2 a2 c2 R.wo ∧ wr.grownBy w2 none ∧ w2.heap[wr.heap.size]? = some (.cells #[.int .i64 0, .int .i64 0, .slice none 0 0, .slice none 0 0, .int .i64 0, .int .i64 0, .bool false] 40)) ∧ (w2.cell? ⟨q, 0, none⟩ = some (.int .i64 L.st) ∧ w2.cell? ⟨q, 1, none⟩ = some (.int .i64 L.wa) ∧ w2.cell? ⟨q, 2, none⟩ = some (s) ∧ w2.cell? ⟨q, 3, none⟩ = some (t) ∧ w2.cell? ⟨q, 4, none⟩ = some (.int .i64 L.sq) ∧ w2.cell? ⟨q, 5, none⟩ = some (.int .i64 L.ag) ∧ w2.cell? ⟨q, 6, none⟩ = some (.bool L.fr)) ∧ w2.cell? ⟨g, kk, none⟩ = some (.slice fa fl fc) ∧ (w2.cell? ⟨wr.heap.size, 0, none⟩ = some (.int .i64 0) ∧ w2.cell? ⟨wr.heap.size, 1, none⟩ = some (.int .i64 0) ∧ w2.cell? ⟨wr.heap.size, 2, none⟩ = some (.slice none 0 0) ∧ w2.cell? ⟨wr.heap.size, 3, none⟩ = some (.slice none 0 0) ∧ w2.cell? ⟨wr.heap.size, 4, none⟩ = some (.int .i64 0) ∧ w2.cell? ⟨wr.heap.size, 5, none⟩ = some (.int .i64 0) ∧ w2.cell? ⟨wr.heap.size, 6, none⟩ = some (.bool false)) ∧ (w2.frozen? ⟨wr.heap.size, 0, none⟩ = false ∧ w2.frozen? ⟨wr.heap.size, 1, none⟩ = false ∧ w2.frozen? ⟨wr.heap.size, 2, none⟩ = false ∧ w2.frozen? ⟨wr.heap.size, 3, none⟩ = false ∧ w2.frozen? ⟨wr.heap.size, 4, none⟩ = false ∧ w2.frozen? ⟨wr.heap.size, 5, none⟩ = false ∧ w2.frozen? ⟨wr.heap.size, 6, none⟩ = false)) := (cT _ (gr_drew (gr_alloc (World.grownBy.refl _ _) _))).mono fun e w2 ⟨V, e1, a1, c1, a2, c2, e2, e3, e4, _, e6⟩ => by
        have hj := grown_join (gr_drew (gr_alloc (World.grownBy.refl wr none) (.cells #[.int .i64 0, .int .i64 0, .slice none 0 0, .slice none 0 0, .int .i64 0, .int .i64 0, .bool false] 40))) e6 (.inl rfl)
        have hzb : w2.heap[wr.heap.size]? = some (.cells #[.int .i64 0, .int .i64 0, .slice none 0 0, .slice none 0 0, .int .i64 0, .int .i64 0, .bool false] 40) := kept e6 (show (wr.alloc (.cells #[.int .i64 0, .int .i64 0, .slice none 0 0, .slice none 0 0, .int .i64 0, .int .i64 0, .bool false] 40)).drew.heap[wr.heap.size]? = _ from heap_alloc_new wr _)
        subst e2
        have hsz : (wr.alloc (.cells #[.int .i64 0, .int .i64 0, .slice none 0 0, .slice none 0 0, .int .i64 0, .int .i64 0, .bool false] 40)).drew.heap.size = wr.heap.size + 1 := by show (wr.alloc _).heap.size = _; simp
        rw [hsz] at e3 e4
        exact ⟨a1, c1, a2, c2, e1, hidI ⟨e3, e4, hj, hzb⟩, at7 (kept hj hBx), hj.cell hcell (by simp), at7 hzb, fz7 hzb⟩
      clear cT hLl hrdF
      obtain ⟨i0, i1, i2, i3, i4, i5, i6⟩ := at7 (hBx)
      have HBX := hidI hBx
      have hqw := at_lt hBx
      have HQW := hidI hqw
      have hq1 : q ≠ wr.heap.size := by omega
      have hgw : g < wr.heap.size := by have := World.block_lt_of_cell? wr _ hcell; simpa using this
      have hg1 : g ≠ wr.heap.size := by omega
      clear hBx hqw hgw
      go_cut [17, 18] from 46 to 168 (fun s17 s18 wx => ∃ (r : Nat) (a1 : Option Addr) (c1 : Nat) (a2 : Option Addr) (c2 : Nat), s17 = .pointer (some ⟨r, 0, none⟩) ∧ s18 = .int .i64 (TE : Int) ∧ Hid (wx.heap[r]? = some (.cells #[.int .i64 R.st, .int .i64 R.wa, .slice a1 R.sa.length c1, .slice a2 R.wo.length c2, .int .i64 R.sq, .int .i64 R.ag, .bool R.fr] 40) ∧ OwnL wr.heap.size wx a1 c1 R.sa ∧ OwnL wr.heap.size wx a2 c2 R.wo ∧ wr.grownBy wx none ∧ wr.heap.size ≤ r))
      case first =>
        go_region_held3 (fun w' => w'.cell? ⟨q, 0, none⟩ = some (.int .i64 L.st) ∧ w'.cell? ⟨q, 1, none⟩ = some (.int .i64 L.wa) ∧ w'.cell? ⟨q, 2, none⟩ = some (s) ∧ w'.cell? ⟨q, 3, none⟩ = some (t) ∧ w'.cell? ⟨q, 4, none⟩ = some (.int .i64 L.sq) ∧ w'.cell? ⟨q, 5, none⟩ = some (.int .i64 L.ag) ∧ w'.cell? ⟨q, 6, none⟩ = some (.bool L.fr) ∧ w'.cell? ⟨g, kk, none⟩ = some (.slice fa fl fc)) (refine ⟨?_, ?_, ?_, ?_, ?_, ?_, ?_, ?_⟩ <;> first | with_reducible assumption | (go_keep; done) | ((repeat (with_reducible refine ck_set (by with_reducible assumption) ?_)); with_reducible assumption)) (first | (go_at_call 23; with_reducible refine cQ1.mono ?_; rintro e w2 ⟨a1, c1, a2, c2, rfl, HO, ⟨y0, y1, y2, y3, y4, y5, y6⟩, y7⟩) | (go_at_call 23; with_reducible refine cQ2.mono ?_; rintro e w2 ⟨a1, c1, a2, c2, rfl, HO, ⟨y0, y1, y2, y3, y4, y5, y6⟩, y7, ⟨x0, x1, x2, x3, x4, x5, x6⟩, ⟨f0, f1, f2, f3, f4, f5, f6⟩⟩))
        · go_wp2_with fail
          go_meet
          have gA : w2.grownBy (w2.alloc (.cells #[.int .i64 R.st, .int .i64 R.wa, .slice a1 R.sa.length c1, .slice a2 R.wo.length c2, .int .i64 R.sq, .int .i64 R.ag, .bool R.fr] 40)) none := gr_alloc (World.grownBy.refl _ _) _
          exact ⟨w2.heap.size, a1, c1, a2, c2, rfl, rfl, hidI ⟨heap_alloc_new w2 _, OwnL.kept HO.out.1 gA, OwnL.kept HO.out.2.1 gA, grown_join HO.out.2.2 gA (.inl rfl), HO.out.2.2.size⟩⟩
        · go_wp2_with fail
          go_meet
          exact ⟨wr.heap.size, a1, c1, a2, c2, rfl, rfl, hidI ⟨box7 HO.out.2.2.2, own_low (own_but HO.out.1 (gr7 (World.grownBy.refl _ _)) (Nat.lt_succ_self _)) (Nat.le_succ _), own_low (own_but HO.out.2.1 (gr7 (World.grownBy.refl _ _)) (Nat.lt_succ_self _)) (Nat.le_succ _), gr7n HO.out.2.2.1 (Nat.le_refl _), Nat.le_refl _⟩⟩
      case rest =>
      obtain ⟨r, a1, c1, a2, c2, rfl, rfl, HR⟩ := hcut
      clear i0 i1 i2 i3 i4 i5 i6
      clear cQ1 cQ2 hcell hq1 hg1
      obtain ⟨hr1, o1, o2, gc, hrs⟩ := HR.out
      have hqc := kept gc HBX.out
      have hqr : q < r := by have := HQW.out; omega
      obtain ⟨u0, u1, u2, u3, u4, u5, u6⟩ := at7 (hr1)
      obtain ⟨m0, m1, m2, m3, m4, m5, m6⟩ := at7 (hqc)
      obtain ⟨f0, f1, f2, f3, f4, f5, f6⟩ := fz7 (hqc)
      have HBQ := hidI hqr
      clear hr1 hqc hqr
      cases hh : hearB nw kk with
      | true =>
        obtain ⟨hTE, hS⟩ := hT.1 hh
        subst hTE
        have hI := HI.out.put gc hS o1 o2
        have HIP := hidI hI
        clear hI hS hT o1 o2 gc HR
        have hcs : (nw = -1 ∨ (¬ nw < 0 ∧ nw < 400)) := by
          rcases HI.out.stt.2.2.2.2.2 with ⟨h, _⟩ | ⟨⟨h, h'⟩, _⟩
          · exact .inl h
          · exact .inr ⟨by omega, h'⟩
        rcases hcs with rfl | ⟨hn0, hn4⟩
        · have ma1 : wrap64 ((kk : Int) - (-1)) = (kk : Int) + 1 := by unfold wrap64; omega
          have ma2 : wrap64 ((kk : Int) + 1 + 512) = (kk : Int) + 513 := by unfold wrap64; omega
          clear hh
          have HI := HIP
          clear HIP
          go_wp2_with fail
          go_meet
          exact ⟨(kk : Int), 0, n, (some ⟨g, 0, none⟩), sc, R, (.slice a1 R.sa.length c1), (.slice a2 R.wo.length c2), rfl, rfl, rfl, by omega, by omega, HI⟩
        · obtain ⟨a, ha⟩ : ∃ a : Nat, ((kk : Int) - nw + 512) % 256 = (a : Int) := ⟨(((kk : Int) - nw + 512) % 256).toNat, by omega⟩
          have hh2 : 0 < a ∧ a < 128 := by
            unfold hearB at hh
            rw [ha] at hh
            simp at hh
            omega
          have ma1 : wrap64 ((kk : Int) - nw) = (kk : Int) - nw := by unfold wrap64; omega
          have ma2 : wrap64 ((kk : Int) - nw + 512) = (kk : Int) - nw + 512 := by unfold wrap64; omega
          have ma3 : ((kk : Int) - nw + 512).tmod 256 = (a : Int) := by rw [Int.tmod_eq_emod_of_nonneg (by omega)]; exact ha
          obtain ⟨hb1, hb2⟩ : (0 : Int) < (a : Int) ∧ (a : Int) < 128 := by omega
          have hb3 : 0 < a := hh2.1
          clear hh hh2
          have HI := HIP
          clear HIP
          go_wp2_with fail
          go_meet
          exact ⟨(kk : Int), 0, n, (some ⟨g, 0, none⟩), sc, R, (.slice a1 R.sa.length c1), (.slice a2 R.wo.length c2), rfl, rfl, rfl, by omega, by omega, HI⟩
      | false =>
        obtain ⟨hTE, hRL⟩ := hT.2 hh
        subst hTE
        have hS : Stt wt nw qt R := by rw [hRL]; exact HI.out.stt
        have hI := HI.out.put gc hS o1 o2
        have HIP := hidI hI
        have hcs : ¬ nw < 0 ∧ nw < 400 := by
          rcases HI.out.stt.2.2.2.2.2 with ⟨h, _⟩ | ⟨⟨h, h'⟩, _⟩
          · rw [h] at hh; simp [hearB] at hh
          · exact ⟨by omega, h'⟩
        clear hI hS hT o1 o2 gc HR hRL
        obtain ⟨hn0, hn4⟩ := hcs
        obtain ⟨a, ha⟩ : ∃ a : Nat, ((kk : Int) - nw + 512) % 256 = (a : Int) := ⟨(((kk : Int) - nw + 512) % 256).toNat, by omega⟩
        have hh2 : a = 0 ∨ 128 ≤ a := by
          unfold hearB at hh
          rw [ha] at hh
          simp at hh
          omega
        have ma1 : wrap64 ((kk : Int) - nw) = (kk : Int) - nw := by unfold wrap64; omega
        have ma2 : wrap64 ((kk : Int) - nw + 512) = (kk : Int) - nw + 512 := by unfold wrap64; omega
        have ma3 : ((kk : Int) - nw + 512).tmod 256 = (a : Int) := by rw [Int.tmod_eq_emod_of_nonneg (by omega)]; exact ha
        clear hh
        rcases hh2 with rfl | hb
        · go_upto_region 40 with fail
          have HI := HIP
          clear HIP
          go_wp2_with fail
          go_meet
          exact ⟨nw, qt, n, (some ⟨g, 0, none⟩), sc, R, (.slice a1 R.sa.length c1), (.slice a2 R.wo.length c2), rfl, rfl, rfl, by omega, by omega, HI⟩
        · have hb1 : ¬ (a : Int) < 128 := by omega
          have hb2 : (0 : Int) < (a : Int) := by omega
          have hb3 : 0 < a := by omega
          have HI := HIP
          clear HIP
          go_wp2_with fail
          go_meet
          exact ⟨nw, qt, n, (some ⟨g, 0, none⟩), sc, R, (.slice a1 R.sa.length c1), (.slice a2 R.wo.length c2), rfl, rfl, rfl, by omega, by omega, HI⟩
    · subst hk12
      by_cases hn : n = 0
      · subst hn
        have e0 : ((0 : Nat) : Int) = 0 := rfl
        go_wp2
        have hgl := HG.out
        go_roundg (N - (k + 1))
        all_goals first | omega | exact ⟨k + 1, nw, qt, 0, sa, sc, L, s, t, by go_num, rfl, rfl, rfl, by omega, by omega, by omega, by omega, HI⟩
      have cP := picked_any y n wr z1 (by omega) (by omega)
      have hyn := pk_lt y (show 0 < n by omega)
      generalize pk y n = pw5 at *
      have e0 : ((n : Int) == 0) = false := by simpa using hn
      have e0' : ¬ ((n : Int) = 0) := by omega
      obtain ⟨kk, hkk⟩ : ∃ kk : Nat, kk = n - 1 - pw5 := ⟨_, rfl⟩
      have hkn : kk < n := by omega
      have hk4 : kk < 400 := by omega
      have mk1 : wrap64 ((n : Int) - 1) = (n : Int) - 1 := by unfold wrap64; omega
      have mk2 : (n : Int) - 1 - (pw5 : Int) = (kk : Int) := by omega
      have mk3 : wrap64 ((n : Int) - 1 - (pw5 : Int)) = (kk : Int) := by unfold wrap64; omega
      obtain ⟨hkn0, hkn1⟩ : (0 : Int) ≤ (kk : Int) ∧ (kk : Int) < (n : Int) := by omega
      clear hkk hyn
      go_wp2_with fail
      refine cP.mono ?_
      rintro e w' ⟨rfl, rfl⟩
      clear cP p0 p1 mk1
      go_upto_region 24 with fail
      clear mk2 mk3
      obtain ⟨g, fa, fc, hsa, hcell, hrdF⟩ := HI.out.at_ hkn
      subst hsa
      have hT := stt_take HI.out.stt hk4
      have hLl : L.sa.length ≤ 17592186043904 ∧ L.wo.length ≤ 17592186043904 := by
        rcases HI.out.stt with ⟨_, _, h3, _, _, ⟨_, h6, _⟩ | ⟨_, h6, _⟩⟩ <;> rw [h3, h6] <;> simp
      have cT := fun (X : World) (hX : wr.grownBy X none) => take_any L (frN kk) s t (.slice fa (frN kk).length fc) X ⟨rd_grown HI.out.rs hX, rd_grown HI.out.rt hX⟩ hLl.1 hLl.2 (frN_B kk) (rdB_grown hrdF hX) (by have := frN_len kk; unfold maxLen; omega)
      generalize takeL L (frN kk) = R at *
      generalize takeE L (frN kk) = TE at *
      generalize (frN kk).length = fl at *
      dsimp only [lkV, lkA] at *
      have hBx : wr.heap[q]? = some (.cells #[.int .i64 L.st, .int .i64 L.wa, s, t, .int .i64 L.sq, .int .i64 L.ag, .bool L.fr] 40) := HI.out.box
      have cQ1 : Calls Try.prog 23 #[.agg #[.int .i64 L.st, .int .i64 L.wa, s, t, .int .i64 L.sq, .int .i64 L.ag, .bool L.fr], .slice fa fl fc] wr.drew (fun e w2 => ∃ a1 c1 a2 c2, e = .returned (.tuple #[.agg #[.int .i64 R.st, .int .i64 R.wa, .slice a1 R.sa.length c1, .slice a2 R.wo.length c2, .int .i64 R.sq, .int .i64 R.ag, .bool R.fr], .int .i64 (TE : Int)]) ∧ Hid (OwnL wr.heap.size w2 a1 c1 R.sa ∧ OwnL wr.heap.size w2 a2 c2 R.wo ∧ wr.grownBy w2 none) ∧ (w2.cell? ⟨q, 0, none⟩ = some (.int .i64 L.st) ∧ w2.cell? ⟨q, 1, none⟩ = some (.int .i64 L.wa) ∧ w2.cell? ⟨q, 2, none⟩ = some (s) ∧ w2.cell? ⟨q, 3, none⟩ = some (t) ∧ w2.cell? ⟨q, 4, none⟩ = some (.int .i64 L.sq) ∧ w2.cell? ⟨q, 5, none⟩ = some (.int .i64 L.ag) ∧ w2.cell? ⟨q, 6, none⟩ = some (.bool L.fr)) ∧ w2.cell? ⟨g, kk, none⟩ = some (.slice fa fl fc)) := (cT wr.drew (gr_drew (World.grownBy.refl _ _))).mono fun e w2 ⟨V, e1, a1, c1, a2, c2, e2, e3, e4, _, e6⟩ => by
        have hj := grown_join (gr_drew (World.grownBy.refl wr none)) e6 (.inl rfl)
        subst e2
        exact ⟨a1, c1, a2, c2, e1, hidI ⟨e3, e4, hj⟩, at7 (kept hj hBx), hj.cell hcell (by simp)⟩
      have cQ2 : Calls Try.prog 23 #[.agg #[.int .i64 L.st, .int .i64 L.wa, s, t, .int .i64 L.sq, .int .i64 L.ag, .bool L.fr], .slice fa fl fc] (wr.alloc (.cells #[.int .i64 0, .int .i64 0, .slice none 0 0, .slice none 0 0, .int .i64 0, .int .i64 0, .bool false] 40)).drew (fun e w2 => ∃ a1 c1 a2 c2, e = .returned (.tuple #[.agg #[.int .i64 R.st, .int .i64 R.wa, .slice a1 R.sa.length c1, .slice a2 R.wo.length c2, .int .i64 R.sq, .int .i64 R.ag, .bool R.fr], .int .i64 (TE : Int)]) ∧ Hid (OwnL (wr.heap.size + 1) w2 a1 c1 R.sa ∧ OwnL (wr.heap.size + 1) w2 a2 c2 R.wo ∧ wr.grownBy w2 none ∧ w2.heap[wr.heap.size]? = some (.cells #[.int .i64 0, .int .i64 0, .slice none 0 0, .slice none 0 0, .int .i64 0, .int .i64 0, .bool false] 40)) ∧ (w2.cell? ⟨q, 0, none⟩ = some (.int .i64 L.st) ∧ w2.cell? ⟨q, 1, none⟩ = some (.int .i64 L.wa) ∧ w2.cell? ⟨q, 2, none⟩ = some (s) ∧ w2.cell? ⟨q, 3, none⟩ = some (t) ∧ w2.cell? ⟨q, 4, none⟩ = some (.int .i64 L.sq) ∧ w2.cell? ⟨q, 5, none⟩ = some (.int .i64 L.ag) ∧ w2.cell? ⟨q, 6, none⟩ = some (.bool L.fr)) ∧ w2.cell? ⟨g, kk, none⟩ = some (.slice fa fl fc) ∧ (w2.cell? ⟨wr.heap.size, 0, none⟩ = some (.int .i64 0) ∧ w2.cell? ⟨wr.heap.size, 1, none⟩ = some (.int .i64 0) ∧ w2.cell? ⟨wr.heap.size, 2, none⟩ = some (.slice none 0 0) ∧ w2.cell? ⟨wr.heap.size, 3, none⟩ = some (.slice none 0 0) ∧ w2.cell? ⟨wr.heap.size, 4, none⟩ = some (.int .i64 0) ∧ w2.cell? ⟨wr.heap.size, 5, none⟩ = some (.int .i64 0) ∧ w2.cell? ⟨wr.heap.size, 6, none⟩ = some (.bool false)) ∧ (w2.frozen? ⟨wr.heap.size, 0, none⟩ = false ∧ w2.frozen? ⟨wr.heap.size, 1, none⟩ = false ∧ w2.frozen? ⟨wr.heap.size, 2, none⟩ = false ∧ w2.frozen? ⟨wr.heap.size, 3, none⟩ = false ∧ w2.frozen? ⟨wr.heap.size, 4, none⟩ = false ∧ w2.frozen? ⟨wr.heap.size, 5, none⟩ = false ∧ w2.frozen? ⟨wr.heap.size, 6, none⟩ = false)) := (cT _ (gr_drew (gr_alloc (World.grownBy.refl _ _) _))).mono fun e w2 ⟨V, e1, a1, c1, a2, c2, e2, e3, e4, _, e6⟩ => by
        have hj := grown_join (gr_drew (gr_alloc (World.grownBy.refl wr none) (.cells #[.int .i64 0, .int .i64 0, .slice none 0 0, .slice none 0 0, .int .i64 0, .int .i64 0, .bool false] 40))) e6 (.inl rfl)
        have hzb : w2.heap[wr.heap.size]? = some (.cells #[.int .i64 0, .int .i64 0, .slice none 0 0, .slice none 0 0, .int .i64 0, .int .i64 0, .bool false] 40) := kept e6 (show (wr.alloc (.cells #[.int .i64 0, .int .i64 0, .slice none 0 0, .slice none 0 0, .int .i64 0, .int .i64 0, .bool false] 40)).drew.heap[wr.heap.size]? = _ from heap_alloc_new wr _)
        subst e2
        have hsz : (wr.alloc (.cells #[.int .i64 0, .int .i64 0, .slice none 0 0, .slice none 0 0, .int .i64 0, .int .i64 0, .bool false] 40)).drew.heap.size = wr.heap.size + 1 := by show (wr.alloc _).heap.size = _; simp
        rw [hsz] at e3 e4
        exact ⟨a1, c1, a2, c2, e1, hidI ⟨e3, e4, hj, hzb⟩, at7 (kept hj hBx), hj.cell hcell (by simp), at7 hzb, fz7 hzb⟩
      clear cT hLl hrdF
      obtain ⟨i0, i1, i2, i3, i4, i5, i6⟩ := at7 (hBx)
      have HBX := hidI hBx
      have hqw := at_lt hBx
      have HQW := hidI hqw
      have hq1 : q ≠ wr.heap.size := by omega
      have hgw : g < wr.heap.size := by have := World.block_lt_of_cell? wr _ hcell; simpa using this
      have hg1 : g ≠ wr.heap.size := by omega
      clear hBx hqw hgw
      go_cut [17, 18] from 46 to 168 (fun s17 s18 wx => ∃ (r : Nat) (a1 : Option Addr) (c1 : Nat) (a2 : Option Addr) (c2 : Nat), s17 = .pointer (some ⟨r, 0, none⟩) ∧ s18 = .int .i64 (TE : Int) ∧ Hid (wx.heap[r]? = some (.cells #[.int .i64 R.st, .int .i64 R.wa, .slice a1 R.sa.length c1, .slice a2 R.wo.length c2, .int .i64 R.sq, .int .i64 R.ag, .bool R.fr] 40) ∧ OwnL wr.heap.size wx a1 c1 R.sa ∧ OwnL wr.heap.size wx a2 c2 R.wo ∧ wr.grownBy wx none ∧ wr.heap.size ≤ r))
      case first =>
        go_region_held3 (fun w' => w'.cell? ⟨q, 0, none⟩ = some (.int .i64 L.st) ∧ w'.cell? ⟨q, 1, none⟩ = some (.int .i64 L.wa) ∧ w'.cell? ⟨q, 2, none⟩ = some (s) ∧ w'.cell? ⟨q, 3, none⟩ = some (t) ∧ w'.cell? ⟨q, 4, none⟩ = some (.int .i64 L.sq) ∧ w'.cell? ⟨q, 5, none⟩ = some (.int .i64 L.ag) ∧ w'.cell? ⟨q, 6, none⟩ = some (.bool L.fr) ∧ w'.cell? ⟨g, kk, none⟩ = some (.slice fa fl fc)) (refine ⟨?_, ?_, ?_, ?_, ?_, ?_, ?_, ?_⟩ <;> first | with_reducible assumption | (go_keep; done) | ((repeat (with_reducible refine ck_set (by with_reducible assumption) ?_)); with_reducible assumption)) (first | (go_at_call 23; with_reducible refine cQ1.mono ?_; rintro e w2 ⟨a1, c1, a2, c2, rfl, HO, ⟨y0, y1, y2, y3, y4, y5, y6⟩, y7⟩) | (go_at_call 23; with_reducible refine cQ2.mono ?_; rintro e w2 ⟨a1, c1, a2, c2, rfl, HO, ⟨y0, y1, y2, y3, y4, y5, y6⟩, y7, ⟨x0, x1, x2, x3, x4, x5, x6⟩, ⟨f0, f1, f2, f3, f4, f5, f6⟩⟩))
        · go_wp2_with fail
          go_meet
          have gA : w2.grownBy (w2.alloc (.cells #[.int .i64 R.st, .int .i64 R.wa, .slice a1 R.sa.length c1, .slice a2 R.wo.length c2, .int .i64 R.sq, .int .i64 R.ag, .bool R.fr] 40)) none := gr_alloc (World.grownBy.refl _ _) _
          exact ⟨w2.heap.size, a1, c1, a2, c2, rfl, rfl, hidI ⟨heap_alloc_new w2 _, OwnL.kept HO.out.1 gA, OwnL.kept HO.out.2.1 gA, grown_join HO.out.2.2 gA (.inl rfl), HO.out.2.2.size⟩⟩
        · go_wp2_with fail
          go_meet
          exact ⟨wr.heap.size, a1, c1, a2, c2, rfl, rfl, hidI ⟨box7 HO.out.2.2.2, own_low (own_but HO.out.1 (gr7 (World.grownBy.refl _ _)) (Nat.lt_succ_self _)) (Nat.le_succ _), own_low (own_but HO.out.2.1 (gr7 (World.grownBy.refl _ _)) (Nat.lt_succ_self _)) (Nat.le_succ _), gr7n HO.out.2.2.1 (Nat.le_refl _), Nat.le_refl _⟩⟩
      case rest =>
      obtain ⟨r, a1, c1, a2, c2, rfl, rfl, HR⟩ := hcut
      clear i0 i1 i2 i3 i4 i5 i6
      clear cQ1 cQ2 hcell hq1 hg1
      obtain ⟨hr1, o1, o2, gc, hrs⟩ := HR.out
      have hqc := kept gc HBX.out
      have hqr : q < r := by have := HQW.out; omega
      obtain ⟨u0, u1, u2, u3, u4, u5, u6⟩ := at7 (hr1)
      obtain ⟨m0, m1, m2, m3, m4, m5, m6⟩ := at7 (hqc)
      obtain ⟨f0, f1, f2, f3, f4, f5, f6⟩ := fz7 (hqc)
      have HBQ := hidI hqr
      clear hr1 hqc hqr
      cases hh : hearB nw kk with
      | true =>
        obtain ⟨hTE, hS⟩ := hT.1 hh
        subst hTE
        have hI := HI.out.put gc hS o1 o2
        have HIP := hidI hI
        clear hI hS hT o1 o2 gc HR
        have hcs : (nw = -1 ∨ (¬ nw < 0 ∧ nw < 400)) := by
          rcases HI.out.stt.2.2.2.2.2 with ⟨h, _⟩ | ⟨⟨h, h'⟩, _⟩
          · exact .inl h
          · exact .inr ⟨by omega, h'⟩
        rcases hcs with rfl | ⟨hn0, hn4⟩
        · have ma1 : wrap64 ((kk : Int) - (-1)) = (kk : Int) + 1 := by unfold wrap64; omega
          have ma2 : wrap64 ((kk : Int) + 1 + 512) = (kk : Int) + 513 := by unfold wrap64; omega
          clear hh
          have HI := HIP
          clear HIP
          go_wp2_with fail
          go_meet
          exact ⟨(kk : Int), 0, n, (some ⟨g, 0, none⟩), sc, R, (.slice a1 R.sa.length c1), (.slice a2 R.wo.length c2), rfl, rfl, rfl, by omega, by omega, HI⟩
        · obtain ⟨a, ha⟩ : ∃ a : Nat, ((kk : Int) - nw + 512) % 256 = (a : Int) := ⟨(((kk : Int) - nw + 512) % 256).toNat, by omega⟩
          have hh2 : 0 < a ∧ a < 128 := by
            unfold hearB at hh
            rw [ha] at hh
            simp at hh
            omega
          have ma1 : wrap64 ((kk : Int) - nw) = (kk : Int) - nw := by unfold wrap64; omega
          have ma2 : wrap64 ((kk : Int) - nw + 512) = (kk : Int) - nw + 512 := by unfold wrap64; omega
          have ma3 : ((kk : Int) - nw + 512).tmod 256 = (a : Int) := by rw [Int.tmod_eq_emod_of_nonneg (by omega)]; exact ha
          obtain ⟨hb1, hb2⟩ : (0 : Int) < (a : Int) ∧ (a : Int) < 128 := by omega
          have hb3 : 0 < a := hh2.1
          clear hh hh2
          have HI := HIP
          clear HIP
          go_wp2_with fail
          go_meet
          exact ⟨(kk : Int), 0, n, (some ⟨g, 0, none⟩), sc, R, (.slice a1 R.sa.length c1), (.slice a2 R.wo.length c2), rfl, rfl, rfl, by omega, by omega, HI⟩
      | false =>
        obtain ⟨hTE, hRL⟩ := hT.2 hh
        subst hTE
        have hS : Stt wt nw qt R := by rw [hRL]; exact HI.out.stt
        have hI := HI.out.put gc hS o1 o2
        have HIP := hidI hI
        have hcs : ¬ nw < 0 ∧ nw < 400 := by
          rcases HI.out.stt.2.2.2.2.2 with ⟨h, _⟩ | ⟨⟨h, h'⟩, _⟩
          · rw [h] at hh; simp [hearB] at hh
          · exact ⟨by omega, h'⟩
        clear hI hS hT o1 o2 gc HR hRL
        obtain ⟨hn0, hn4⟩ := hcs
        obtain ⟨a, ha⟩ : ∃ a : Nat, ((kk : Int) - nw + 512) % 256 = (a : Int) := ⟨(((kk : Int) - nw + 512) % 256).toNat, by omega⟩
        have hh2 : a = 0 ∨ 128 ≤ a := by
          unfold hearB at hh
          rw [ha] at hh
          simp at hh
          omega
        have ma1 : wrap64 ((kk : Int) - nw) = (kk : Int) - nw := by unfold wrap64; omega
        have ma2 : wrap64 ((kk : Int) - nw + 512) = (kk : Int) - nw + 512 := by unfold wrap64; omega
        have ma3 : ((kk : Int) - nw + 512).tmod 256 = (a : Int) := by rw [Int.tmod_eq_emod_of_nonneg (by omega)]; exact ha
        clear hh
        rcases hh2 with rfl | hb
        · go_upto_region 40 with fail
          have HI := HIP
          clear HIP
          go_wp2_with fail
          go_meet
          exact ⟨nw, qt, n, (some ⟨g, 0, none⟩), sc, R, (.slice a1 R.sa.length c1), (.slice a2 R.wo.length c2), rfl, rfl, rfl, by omega, by omega, HI⟩
        · have hb1 : ¬ (a : Int) < 128 := by omega
          have hb2 : (0 : Int) < (a : Int) := by omega
          have hb3 : 0 < a := by omega
          have HI := HIP
          clear HIP
          go_wp2_with fail
          go_meet
          exact ⟨nw, qt, n, (some ⟨g, 0, none⟩), sc, R, (.slice a1 R.sa.length c1), (.slice a2 R.wo.length c2), rfl, rfl, rfl, by omega, by omega, HI⟩
    · have hBx : wr.heap[q]? = some (.cells #[.int .i64 L.st, .int .i64 L.wa, s, t, .int .i64 L.sq, .int .i64 L.ag, .bool L.fr] 40) := HI.out.box
      have hLl : L.sa.length ≤ 17592186043904 ∧ L.wo.length ≤ 17592186043904 := by
        rcases HI.out.stt with ⟨_, _, h3, _, _, ⟨_, h6, _⟩ | ⟨_, h6, _⟩⟩ <;> rw [h3, h6] <;> simp
      obtain ⟨hTE, hS⟩ := stt_tick HI.out.stt
      have cT := tick_any L s t wr ⟨HI.out.rs, HI.out.rt⟩ hLl.1 hLl.2
      rw [hTE] at cT
      generalize tickL L = R at *
      dsimp only [lkV, lkA] at *
      obtain ⟨i0, i1, i2, i3, i4, i5, i6⟩ := at7 (hBx)
      have HS := hidI hS
      have HBX := hidI hBx
      clear hBx hLl hTE hS p0 p1
      go_wp2_with fail
      refine cT.mono ?_
      rintro e w2 ⟨V, rfl, a1, c1, a2, c2, rfl, o1, o2, _, gc⟩
      dsimp only [lkV, lkA] at *
      clear i0 i1 i2 i3 i4 i5 i6
      clear cT
      obtain ⟨r, hr⟩ : ∃ r, w2.heap.size = r := ⟨_, rfl⟩
      have gA : w2.grownBy (w2.alloc (.cells #[.int .i64 R.st, .int .i64 R.wa, .slice a1 R.sa.length c1, .slice a2 R.wo.length c2, .int .i64 R.sq, .int .i64 R.ag, .bool R.fr] 40)) none := gr_alloc (World.grownBy.refl _ _) _
      have hr1 : (w2.alloc (.cells #[.int .i64 R.st, .int .i64 R.wa, .slice a1 R.sa.length c1, .slice a2 R.wo.length c2, .int .i64 R.sq, .int .i64 R.ag, .bool R.fr] 40)).heap[r]? = some (.cells #[.int .i64 R.st, .int .i64 R.wa, .slice a1 R.sa.length c1, .slice a2 R.wo.length c2, .int .i64 R.sq, .int .i64 R.ag, .bool R.fr] 40) := hp_new hr.symm _
      have gcA := grown_join gc gA (.inl rfl)
      have hqc := kept gcA HBX.out
      have HIP := hidI (HI.out.put gcA HS.out (OwnL.kept o1 gA) (OwnL.kept o2 gA))
      have hrq : q < r := by rw [← hr]; have := at_lt HBX.out; have := gc.size; omega
      have hqr : q ≠ r := by omega
      have hrq2 : r ≠ q := by omega
      clear hrq o1 o2 gA gc gcA
      go_upto_region 34 with fail
      clear hr
      generalize w2.alloc (.cells #[.int .i64 R.st, .int .i64 R.wa, .slice a1 R.sa.length c1, .slice a2 R.wo.length c2, .int .i64 R.sq, .int .i64 R.ag, .bool R.fr] 40) = Y at *
      obtain ⟨u0, u1, u2, u3, u4, u5, u6⟩ := at7 (hr1)
      obtain ⟨m0, m1, m2, m3, m4, m5, m6⟩ := at7 (hqc)
      obtain ⟨f0, f1, f2, f3, f4, f5, f6⟩ := fz7 (hqc)
      clear hr1 hqc
      have mq : wrap64 ((qt : Int) + 1) = (qt : Int) + 1 := by unfold wrap64; omega
      by_cases hw : wt ≤ qt + 1
      · have hwi : (wt : Int) ≤ (qt : Int) + 1 := by omega
        rw [if_pos hw] at HIP
        clear hw
        have HI := HIP
        clear HIP
        go_wp2_with fail
        go_meet
        exact ⟨(-1), (qt + 1), n, sa, sc, R, (.slice a1 R.sa.length c1), (.slice a2 R.wo.length c2), rfl, rfl, rfl, by omega, by omega, HI⟩
      · have hwi : ¬ (wt : Int) ≤ (qt : Int) + 1 := by omega
        rw [if_neg hw] at HIP
        clear hw
        have HI := HIP
        clear HIP
        go_wp2_with fail
        go_meet
        exact ⟨nw, (qt + 1), n, sa, sc, R, (.slice a1 R.sa.length c1), (.slice a2 R.wo.length c2), rfl, rfl, rfl, by omega, by omega, HI⟩
end Go.Proofs.Ytaiicehifailhaa
