/- The law of Play. -/
import Derived.Test.YtholmeebkgpjjaaU2
import Derived.Test.YtholmeebkgpjjaaF
namespace Go.Proofs.Ytholmeebkgpjjaa
open Go.RowKit Go.Shelf
attribute [local go_sem ↓] Go.wp_at_zero Go.wp_at_succ
set_option linter.unusedVariables false
set_option linter.unusedSimpArgs false
theorem hid {p : Prop} (h : p) : Hid p := h
theorem hidG' {p : Prop} (h : Hid p) : p := h
theorem play_len (l : List Tk) (u : Int) : (playS l u).1.length ≤ 20000 := by
  unfold playS
  split
  · simp
  · split
    · simp
    · have := doc_len l u.toNat
      dsimp only
      omega
set_option maxHeartbeats 4000000 in
theorem playLaw_any (l : List Tk) (v : Value) (n : Int) (w : World) (hb : l.length * 48 ≤ 140737488351232) (hv : TsAt w v l) :
    Calls Try.prog 5 #[v, .int .i64 n] w fun e w' => e = .returned (.bool true) ∧ w.grownBy w' none := by
  have cR := played_any l v n w (by unfold maxLen; omega) hv
  have cF : ∀ W x, TsAt W x l → Calls Try.prog 14 #[x, .int .i64 n] W fun e w' => PlayP W w' e (playS l n) := fun W x hx => play_any l x n W (by unfold maxLen; omega) hx
  have hr := play_len l n
  generalize playS l n = R at *
  obtain ⟨r, c, m⟩ := R
  dsimp only at hr
  obtain ⟨a, cap, rfl, hcells⟩ := hv.cells
  obtain ⟨i0, hi, hz0, hz1, hz2⟩ := info_parts info42
  go_enter Try.func5, Try.ntmps5
  go_wp2_with fail
  refine cR.mono ?_
  rintro e w1 ⟨a0, cp0, rfl, ho0, hg0⟩
  dsimp only at ho0 ⊢
  have hx0 := gr_alloc hg0 (.cells #[.int .i64 c, .int .i64 m, .int .i64 0] 26)
  have hv1 := hv.grown hx0
  obtain ⟨ax, cx, hex, hc1⟩ := hv1.cells
  injection hex with e1 e2 e3
  subst e1 e3
  obtain ⟨oa, oc, w2, hrun, hown, hg1⟩ := run_append_all (P := Try.prog) (w1.alloc (.cells #[.int .i64 c, .int .i64 m, .int .i64 0] 26)) 22 22 42 i0 _ 5 48 Try.underlying22 hi hz0 hz1 hz2 rfl (by omega) a l.length cap (l.flatMap rowT) (flat_len rowT 5 rowT_len l) hc1 (rowT_one l) (by unfold maxLen; omega) (by omega)
  have hm : OwnT (w1.heap.size + 1) w2 oa oc l := by unfold OwnT; simpa using hown
  have HRUN : Hid ((Builtin.append_ #[22, 22] 22 #[.slice none 0 0, .slice a l.length cap]).run Try.prog (w1.alloc (.cells #[.int .i64 c, .int .i64 m, .int .i64 0] 26)) = .ok (.slice oa l.length oc) w2) := hrun
  clear hrun hown hcells hc1 hv1
  go_wp2_with (first | (at_builtin; refine wpList_append_run rfl _ _ 22 rfl _ _ _ w2 rfl rfl HRUN.out ?_))
  refine (cF _ _ hm.ts).mono ?_
  rintro e w3 ⟨a1, cp1, rfl, ho1, hg2⟩
  have hg2' := gr_alloc hg2 (.cells #[.int .i64 c, .int .i64 m, .int .i64 0] 26)
  have hm2 := hm.kept hg2'
  dsimp only at ho1
  dsimp only
  go_wp2_with fail
  refine (cF _ _ hm2.ts).mono ?_
  rintro e w4 ⟨a2, cp2, rfl, ho2, hg3⟩
  dsimp only at ho2
  dsimp only
  have hg13 := grown_join hg2' hg3 (.inl rfl)
  obtain ⟨hl3, f0, f1, f2, _, _, _, _⟩ := flt hg3
  obtain ⟨hl0, y0, y1, y2, _, _, _, _⟩ := flt (grown_join hg1 hg13 (.inl rfl))
  have hg03 := grown_join (grown_join hx0 hg1 (.inl rfl)) hg13 (.inl rfl)
  have hg3' := gr_alloc hg3 (.cells #[.int .i64 c, .int .i64 m, .int .i64 0] 26)
  have hg23 := grown_join (gr_alloc (World.grownBy.refl w3 none) _) hg3' (.inl rfl)
  have hm3 := hm2.kept hg3'
  have ho13 := own_keep ho1 hg23
  have ho23 := own_keep ho2 (gr_alloc (World.grownBy.refl w4 none) (.cells #[.int .i64 c, .int .i64 m, .int .i64 0] 26))
  have hg03' := gr_alloc hg03 (.cells #[.int .i64 c, .int .i64 m, .int .i64 0] 26)
  have hg14 : w1.grownBy (w4.alloc (.cells #[.int .i64 c, .int .i64 m, .int .i64 0] 26)) none := gr_alloc (grown_join (gr_alloc (World.grownBy.refl w1 none) _) (grown_join hg1 hg13 (.inl rfl)) (.inl rfl)) _
  have ho03 := own_keep ho0 hg14
  go_wp2_with fail
  refine (sameTasks_yes _ _ l _ (hv.grown hg03') hm3.ts (by omega)).mono ?_
  rintro e w6 ⟨rfl, hg6⟩
  have ho06 := own_keep ho03 hg6
  have ho16 := own_keep ho13 hg6
  have ho26 := own_keep ho23 hg6
  have hg06 := grown_join hg03' hg6 (.inl rfl)
  have hA0 : ∀ y, (Value.slice a0 r.length cp0).ownBlock = some y → w.heap.size ≤ y ∧ y < w1.heap.size := World.ownsRow.lt ho0
  have hA1 : ∀ y, (Value.slice a1 r.length cp1).ownBlock = some y → w2.heap.size ≤ y ∧ y < w3.heap.size := World.ownsRow.lt ho1
  have hA2 : ∀ y, (Value.slice a2 r.length cp2).ownBlock = some y → w3.heap.size + 1 ≤ y := fun y hy => by have := (World.ownsRow.lt ho2 y hy).1; simpa using this
  have s01 := hg0.size
  have s12 := hg1.size
  have s23 := hg2.size
  simp at s12
  have hcell : ∀ (W : World) (B : Nat) (aa : Option Addr) (cc : Nat) (xs : List Value), W.ownsRow B 36 4 (.slice aa r.length cc) r.length xs → ∀ k, k < r.length → ∃ g, aa = some ⟨g, 0, none⟩ ∧ (Value.slice aa r.length cc).ownBlock = some g ∧ (∀ j, W.frozen? ⟨g, j, none⟩ = false) ∧ ∀ j, j < 4 → W.cell? ⟨g, k * 4 + j, none⟩ = xs[k * 4 + j]? := fun W B aa cc xs h k hk => by
    obtain ⟨_, ⟨_, h0⟩ | ⟨g, cap', cur, e, hb, hc, hn, _⟩⟩ := id h
    · omega
    · injection e with e1 e2 e3
      subst e1 e3
      exact ⟨g, rfl, rfl, fun j => at_frozen hc j, fun j hj => World.ownsRow.cellAt h _ (by omega)⟩
  have hrow : ∀ k, k < r.length → ∃ x : Sl, (r.flatMap rowL)[k * 4]? = some (.int .i64 x.task) ∧ (r.flatMap rowL)[k * 4 + 1]? = some (.int .i64 x.job) ∧ (r.flatMap rowL)[k * 4 + 2]? = some (.int .i64 x.fr) ∧ (r.flatMap rowL)[k * 4 + 3]? = some (.int .i64 x.to) := fun k hk =>
    ⟨r[k], flat_at rowL 4 (by omega) rowL_len r k 0 hk (by omega), flat_at rowL 4 (by omega) rowL_len r k 1 hk (by omega), flat_at rowL 4 (by omega) rowL_len r k 2 hk (by omega), flat_at rowL 4 (by omega) rowL_len r k 3 hk (by omega)⟩
  have s34 := hg3.size
  have s46 := hg6.size
  simp at s34 s46
  have HS26 : Hid (w2.heap.size ≤ w6.heap.size) := hid (by omega)
  have HCELL := hid hcell
  have HROW := hid hrow
  have H0 := hid ho06
  have H1 := hid ho16
  have H2 := hid ho26
  have HA0 := hid hA0
  have HA1 := hid hA1
  have HA2 := hid hA2
  obtain ⟨N, hN⟩ : ∃ N, r.length = N := ⟨_, rfl⟩
  have HN : Hid (r.length = N) := hN
  have HG06 := hid hg06
  clear hcell hrow ho06 ho16 ho26 hA0 hA1 hA2 ho0 ho1 ho2 ho03 ho13 ho23 hg0 hg1 hg2 hg2' hg3 hg3' hg6 hg13 hg03 hg03' hg23 hg14 hm hm2 hm3 cF cR HRUN f0 f1 f2 y0 y1 y2 hx0 hg06 hi hz0 hz1 hz2
  rw [hN] at hr HCELL HROW H0 H1 H2 HA0 HA1 HA2 ⊢
  clear hN
  go_wp2_with fail
  go_loopg [12] N (fun gk s12 wx => ∃ (k : Nat) (xs : List Value), s12 = .int .i64 k ∧ k ≤ N ∧ gk = N - k ∧ Hid (wx.ownsRow w2.heap.size 36 4 (.slice a1 N cp1) N xs ∧ (∀ i, k ≤ i → i < N → ∀ j, j < 4 → xs[i * 4 + j]? = (r.flatMap rowL)[i * 4 + j]?)) ∧ Hid (w6.grownBy wx (Value.slice a1 N cp1).ownBlock))
  case atStart => exact ⟨0, _, rfl, Nat.zero_le _, by omega, hid ⟨H1.out, fun _ _ _ _ _ => rfl⟩, hid (World.grownBy.refl _ _)⟩
  case round =>
    obtain ⟨k, xs, rfl, hk, hgk, HO, HGR⟩ := hrel
    have HG : Hid (gk = N - k) := hgk
    clear hgk
    by_cases hlt : k < N
    · obtain ⟨x, e0, e1, e2, e3⟩ := HROW.out k hlt
      obtain ⟨ga, rfl, hga, hfz, hca⟩ := HCELL.out wr _ _ _ _ HO.out.1 k hlt
      have hwant := own_row H0.out HGR.out (fun y hy e => by have := HA0.out y hy; have := HA1.out y e; omega)
      obtain ⟨gw, rfl, hgw, _, hcw⟩ := HCELL.out wr _ _ _ _ hwant k hlt
      have c0 := hca 0 (by omega)
      have c1 := hca 1 (by omega)
      have c2 := hca 2 (by omega)
      have c3 := hca 3 (by omega)
      rw [HO.out.2 k (Nat.le_refl _) hlt _ (by omega)] at c0 c1 c2 c3
      have d0 := hcw 0 (by omega)
      have d1 := hcw 1 (by omega)
      have d2 := hcw 2 (by omega)
      have d3 := hcw 3 (by omega)
      rw [Nat.add_zero] at c0 d0
      rw [e0] at c0 d0
      rw [e1] at c1 d1
      rw [e2] at c2 d2
      rw [e3] at c3 d3
      have z0 := hfz (k * 4)
      have z1 := hfz (k * 4 + 1)
      have z2 := hfz (k * 4 + 2)
      have z3 := hfz (k * 4 + 3)
      clear hca hcw hwant hfz e0 e1 e2 e3
      have i1 : (0 : Int) ≤ (k : Int) := by omega
      have i2 : (k : Int) < (N : Int) := by omega
      go_wp2_with fail
      go_quiet (fail)
      have HNEW : Hid ((((((wr.drewN nq).setCell ⟨ga, k * 4, none⟩ (.int .i64 (-77))).setCell ⟨ga, k * 4 + 1, none⟩ (.int .i64 0)).setCell ⟨ga, k * 4 + 2, none⟩ (.int .i64 0)).setCell ⟨ga, k * 4 + 3, none⟩ (.int .i64 0)).ownsRow w2.heap.size 36 4 (.slice (some ⟨ga, 0, none⟩) N cp1) N ((((xs.set (k * 4) (.int .i64 (-77))).set (k * 4 + 1) (.int .i64 0)).set (k * 4 + 2) (.int .i64 0)).set (k * 4 + 3) (.int .i64 0)) ∧ (∀ i, k + 1 ≤ i → i < N → ∀ j, j < 4 → ((((xs.set (k * 4) (.int .i64 (-77))).set (k * 4 + 1) (.int .i64 0)).set (k * 4 + 2) (.int .i64 0)).set (k * 4 + 3) (.int .i64 0))[i * 4 + j]? = (r.flatMap rowL)[i * 4 + j]?)) := hid ⟨own_set (own_set (own_set (own_set (own_keep HO.out.1 (gr_drewN (World.grownBy.refl _ _) _)) _) _) _) _, fun i hi hiN j hj => by
        rw [List.getElem?_set_ne (by omega), List.getElem?_set_ne (by omega), List.getElem?_set_ne (by omega), List.getElem?_set_ne (by omega)]
        exact HO.out.2 i (by omega) hiN j hj⟩
      have HGR2 : Hid (w6.grownBy (((((wr.drewN nq).setCell ⟨ga, k * 4, none⟩ (.int .i64 (-77))).setCell ⟨ga, k * 4 + 1, none⟩ (.int .i64 0)).setCell ⟨ga, k * 4 + 2, none⟩ (.int .i64 0)).setCell ⟨ga, k * 4 + 3, none⟩ (.int .i64 0)) (some ga)) := hid (gr_set (gr_set (gr_set (gr_set (gr_drewN HGR.out _) _ _) _ _) _ _) _ _)
      clear HO HGR
      go_wp2
      have hgl := HG.out
      go_roundg (N - (k + 1))
      all_goals first | omega | exact ⟨k + 1, _, by go_num, by omega, by omega, HNEW, HGR2⟩
    · have i2 : ¬ (k : Int) < (N : Int) := by omega
      obtain ⟨i0, hi, hz0, hz1, hz2⟩ := info_parts info36
      have hsz6 := HGR.out.size
      have hlt2 := HG06.out.size
      obtain ⟨v', w7, q1, q2, q3, _, q5⟩ := run_append_own_at (P := Try.prog) (wr.alloc (.cells #[.int .i64 (-77), .int .i64 0, .int .i64 0, .int .i64 0, .int .i64 (-77), .int .i64 0, .int .i64 0, .int .i64 0] 36)) w2.heap.size 31 31 36 i0 _ 4 32 Try.underlying31 hi hz0 hz1 hz2 rfl (by omega) _ N xs (World.ownsRow.alloc HO.out.1 _) ⟨wr.heap.size, 0, none⟩ 2 2 [.int .i64 (-77), .int .i64 0, .int .i64 0, .int .i64 0, .int .i64 (-77), .int .i64 0, .int .i64 0, .int .i64 0] rfl
        (fun j u hj => by
          rw [addn, at_cell (heap_alloc_new wr _) _]
          simpa using hj)
        (by simp [Value.oneCell']) (by unfold maxLen; omega) (by omega) (by simp; have := HS26.out; omega)
      have HG7 : Hid (w6.grownBy w7 (Value.slice a1 N cp1).ownBlock) := hid (grown_join (gr_alloc HGR.out _) q3 (.inl rfl))
      obtain ⟨_, ⟨_, hbad⟩ | ⟨gv, cv, curv, rfl, _⟩⟩ := id q2
      · omega
      have HRUN : Hid (_ = _) := q1
      have hw7 := own_row H0.out HG7.out (fun y hy e => by have := HA0.out y hy; have := HA1.out y e; omega)
      have hb7 := own_row H2.out HG7.out (fun y hy e => by have := HA2.out y hy; have := HA1.out y e; omega)
      have HW7 := hid hw7
      have HB7 := hid hb7
      have hg07 : w.grownBy w7 none := grown_join HG06.out HG7.out (.inr fun y hy => by have := HA1.out y hy; omega)
      clear q1 q2 q3 q5 hw7 hb7 hi hz0 hz1 hz2 HO HGR
      go_wp2_with (first | (at_builtin; refine hidG' ?_))
      refine hid ?_
      refine wpList_append_run rfl _ _ 31 rfl _ _ _ w7 rfl rfl HRUN.out ?_
      go_wp2_with fail
      go_loopg [13] N (fun gk s13 wx => ∃ (k : Nat), s13 = .int .i64 k ∧ k ≤ N ∧ gk = N - k ∧ Hid (w7.grownBy wx none))
      case atStart => exact ⟨0, rfl, Nat.zero_le _, by omega, hid (World.grownBy.refl _ _)⟩
      case round =>
        obtain ⟨j, rfl, hj, hgj, HGJ⟩ := hrel
        have HJ : Hid (_ = _) := hgj
        clear hgj
        by_cases hltj : j < N
        · obtain ⟨x, e0, e1, e2, e3⟩ := HROW.out j hltj
          obtain ⟨gb, rfl, hgb, _, hcb⟩ := HCELL.out wr _ _ _ _ (own_keep HB7.out HGJ.out) j hltj
          obtain ⟨gw, rfl, hgw, _, hcw⟩ := HCELL.out wr _ _ _ _ (own_keep HW7.out HGJ.out) j hltj
          have c0 := hcb 0 (by omega)
          have c1 := hcb 1 (by omega)
          have c2 := hcb 2 (by omega)
          have c3 := hcb 3 (by omega)
          have d0 := hcw 0 (by omega)
          have d1 := hcw 1 (by omega)
          have d2 := hcw 2 (by omega)
          have d3 := hcw 3 (by omega)
          rw [Nat.add_zero] at c0 d0
          rw [e0] at c0 d0
          rw [e1] at c1 d1
          rw [e2] at c2 d2
          rw [e3] at c3 d3
          clear hcb hcw e0 e1 e2 e3
          have j1 : (0 : Int) ≤ (j : Int) := by omega
          have j2 : (j : Int) < (N : Int) := by omega
          go_wp2_with fail
          go_quiet (fail)
          go_wp2
          have hgl := HJ.out
          go_roundg (N - (j + 1))
          all_goals first | omega | exact ⟨j + 1, by go_num, by omega, by omega, hid (gr_drewN HGJ.out _)⟩
        · have j2 : ¬ (j : Int) < (N : Int) := by omega
          go_wp2
          go_ret
          exact ⟨rfl, grown_join hg07 HGJ.out (.inl rfl)⟩
end Go.Proofs.Ytholmeebkgpjjaa
