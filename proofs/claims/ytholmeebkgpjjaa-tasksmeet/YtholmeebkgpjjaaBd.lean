/- The law of TasksBest, walked. -/
import Derived.Test.YtholmeebkgpjjaaBc
import Derived.Test.YtholmeebkgpjjaaJ2
import Derived.Deep.CutBlock
namespace Go.Proofs.Ytholmeebkgpjjaa
open Go.RowKit
attribute [local go_sem ↓] Go.wp_at_zero Go.wp_at_succ
set_option linter.unusedVariables false
set_option linter.unusedSimpArgs false

/-- What is laid in order so far, what is marked. -/
structure BestAt (w4 : World) (u n : Nat) (m : List Tk) (o : List Nat) (wx : World) (a : Option Addr) (c : Nat) : Prop where
  own : OwnT w4.heap.size wx a c (inOrd m o)
  used : wx.heap[u]? = some (.cells (boolsA (usedL n o)) 4)
  grown : w4.grownBy wx (some u)
theorem BestAt.step {w4 : World} {u n : Nat} {m : List Tk} {o : List Nat} {wx : World} {a : Option Addr} {c : Nat} (h : BestAt w4 u n m o wx a c) (hu : u < w4.heap.size) (hl : o.length ≤ 1000) (b : Nat) (x : Tk) (hx : m.getD b tk0 = x) :
    ∃ a' c' w', (Builtin.append_ #[22, 22] 22 #[.slice a o.length c, .slice (some ⟨(wx.setCell ⟨u, b, none⟩ (.bool true)).heap.size, 0, none⟩) 1 1]).run Try.prog ((wx.setCell ⟨u, b, none⟩ (.bool true)).alloc (.cells #[.string x.name, .int .i64 x.per, .int .i64 x.off, .int .i64 x.cost, .int .i64 x.dead] 42)) = .ok (.slice a' (o.length + 1) c') w' ∧ BestAt w4 u n m (o ++ [b]) w' a' c' := by
  obtain ⟨i0, hi, hz0, hz1, hz2⟩ := info_parts info42
  have g1 : wx.grownBy (wx.setCell ⟨u, b, none⟩ (.bool true)) (some u) := gr_set (World.grownBy.refl _ _) _ _
  have hy := World.ownsRow.lt h.own
  have o1 := own_row h.own g1 (fun y hy' e => by simp at e; have := (hy y hy').1; omega)
  obtain ⟨a', c', w', r1, r2, r3, r4⟩ := own_more2 Try.underlying22 hi hz0 hz1 hz2 rfl (by omega) o1 (rowT x) rfl (by simp [rowT, Value.oneCell']) (by rw [inOrd_len]; omega) (by omega) (Nat.le_trans h.grown.size g1.size)
  have hu1 := at_set h.used b (.bool true)
  rw [boolsA_set, usedL_set] at hu1
  rw [inOrd_len] at r1 r2 r3 hy
  refine ⟨a', c', w', r1, ?_, ?_, ?_⟩
  · unfold OwnT
    have e : inOrd m (o ++ [b]) = inOrd m o ++ [x] := by rw [← hx]; simp [inOrd]
    rw [e, List.length_append, inOrd_len, List.flatMap_append]
    simpa using r2
  · exact (r3.block u (at_lt hu1) (fun e => by have := (hy u e.symm).1; omega)).trans hu1
  · exact grown_join (gr_set h.grown _ _) r3 (.inr fun y hy' => (hy y hy').1)
theorem ownT_at {B : Nat} {w : World} {a : Option Addr} {c : Nat} {L : List Tk} (h : OwnT B w a c L) (hl : 0 < L.length) : ∃ g, a = some ⟨g, 0, none⟩ ∧ g < w.heap.size ∧ ∀ i, i < L.length → w.cell? ⟨g, i * 5, none⟩ = some (.string (L.getD i tk0).name) ∧ w.cell? ⟨g, i * 5 + 1, none⟩ = some (.int .i64 (L.getD i tk0).per) ∧ w.cell? ⟨g, i * 5 + 2, none⟩ = some (.int .i64 (L.getD i tk0).off) ∧ w.cell? ⟨g, i * 5 + 3, none⟩ = some (.int .i64 (L.getD i tk0).cost) ∧ w.cell? ⟨g, i * 5 + 4, none⟩ = some (.int .i64 (L.getD i tk0).dead) := by
  have ht := h.ts
  obtain ⟨_, ⟨_, h0⟩ | ⟨g, cap', cur, e, hb, hc, hn, _⟩⟩ := id h
  · omega
  · injection e with e1 e2 e3
    subst e1 e3
    refine ⟨g, rfl, at_lt hc, fun i hi => ?_⟩
    have := TsAt.atb (tb := g) (toff := 0) ht i hi
    simpa using this

set_option maxHeartbeats 4000000 in
theorem bestLaw_any (l : List Dy) (v : Value) (w : World) (hv : DsAt w v l) (hi : ∀ d ∈ l, d.In) : Calls Try.prog 7 #[v] w fun e w' => e = .returned (.bool true) ∧ w.grownBy w' none := by
  have cK := known_any w
  have cD := fun W (hW : w.grownBy W none) => duties_any l v 4 true W (hv.grown hW) hi (by omega)
  have hln := duty_len l 4 true
  have hok := duty_oks l 4 true
  obtain ⟨va, vc, rfl, _⟩ := id hv
  clear hv hi
  generalize dutyL l 4 true = m at *
  generalize l.length = N at *
  obtain ⟨h1, h5⟩ := hln
  have hz := look_zero (by omega) h1 hok
  have cO : ∀ W x, TsAt W x m → Calls Try.prog 12 #[x] W fun e w' => RespP W w' e (ordS m) := fun W x h => order_any m x W (by unfold maxLen; omega) h
  have HB : Hid (∀ p, p.Perm m → (respS p).2.1 = 0 → (respS (inOrd m (srt m m.length))).2.1 = 0) := (fun p hp hr => best (by omega) (by omega) hok hp hr : ∀ p, p.Perm m → (respS p).2.1 = 0 → (respS (inOrd m (srt m m.length))).2.1 = 0)
  have HP : Hid (∀ b, b ∈ srt m m.length → b < m.length) := (fun b hb => (srt_mem m).1 hb : ∀ b, b ∈ srt m m.length → b < m.length)
  have HND : Hid ((srt m m.length).Nodup) := ((srt_perm m).nodup_iff.2 List.nodup_range : (srt m m.length).Nodup)
  have HPL : Hid ((srt m m.length).length = m.length) := srt_len m m.length
  have hiP := inOrd_oks hok (srt m m.length) HP.out
  have hlP : (inOrd m (srt m m.length)).length = m.length := by rw [inOrd_len, HPL.out]
  by_cases hc : (respS (inOrd m (srt m m.length))).2.1 = 0
  · have ho := ord_all (by rw [hz]) hc
    rw [ho] at cO
    have HW : Hid (wl (inOrd m (srt m m.length)) = true) := (by simp [wl, hc] : wl (inOrd m (srt m m.length)) = true)
    have HIL : Hid (inOrd m (srt m m.length) = inOrd m (srt m m.length)) := rfl
    clear ho hc hz HB hiP hlP hok
    generalize srt m m.length = P at *
    go_enter Try.func7, Try.ntmps7
    go_wp2_with fail
    refine cK.mono ?_
    rintro e w1 ⟨rfl, hg1⟩
    go_wp2_with fail
    refine (cD _ hg1).mono ?_
    rintro e w2 ⟨ma, mc, rfl, hO2, hg2⟩
    have hgw2 := grown_join hg1 hg2 (.inl rfl)
    obtain ⟨gm, rfl, hgm, hcm⟩ := ownT_at hO2 (by omega)
    have HT : Hid (TsAt w2 (.slice (some ⟨gm, 0, none⟩) m.length mc) m) := hO2.ts
    clear hO2 hg1 hg2 cD cK
    obtain ⟨n, hn⟩ : ∃ n, m.length = n := ⟨_, rfl⟩
    rw [hn] at HT HP HPL h1 h5 hcm ⊢
    go_wp2_with fail
    refine (cO _ _ HT.out).mono ?_
    rintro e w3 ⟨oa, oc, rfl, ho3, hg3⟩
    dsimp only at ho3 ⊢
    have hnP : (nums P).length = n := by simp [nums, HPL.out]
    obtain ⟨go, rfl, hgo, hco⟩ := ownL_at ho3 (by omega)
    rw [hnP] at hco ⊢
    have HCO : Hid (∀ j, j < n → w3.cell? ⟨go, j, none⟩ = some (.int .i64 ((P.getD j 0 : Nat) : Int))) := (fun j hj => by rw [hco j hj, nums_get (by rw [HPL.out]; exact hj)] : ∀ j, j < n → w3.cell? ⟨go, j, none⟩ = some (.int .i64 ((P.getD j 0 : Nat) : Int)))
    have HCM := hid hcm
    have HN : Hid (m.length = n) := hn
    have hmk := make_bools n (by omega)
    clear ho3 cO hco hcm hn hnP
    go_wp2_with fail
    obtain ⟨w4, hw4⟩ : ∃ w4, (w3.alloc (.cells #[.int .i64 0, .int .i64 0, .int .i64 0] 26)).alloc (.cells (boolsA (List.replicate n false)) 4) = w4 := ⟨_, rfl⟩
    have h40 : BestAt w4 (w3.heap.size + 1) n m [] w4 none 0 := ⟨World.ownsRow_nil _ _ _ _, by rw [usedL_nil, ← hw4]; exact hp_new (by simp) _, World.grownBy.refl _ _⟩
    have hs4 : w4.heap.size = w3.heap.size + 2 := by rw [← hw4]; simp
    have hg34 : w3.grownBy w4 none := by rw [← hw4]; exact gr_alloc (gr_alloc (World.grownBy.refl _ _) _) _
    rw [hw4]
    obtain ⟨u, hu⟩ : ∃ u, w3.heap.size + 1 = u := ⟨_, rfl⟩
    rw [hu] at h40 ⊢
    have hgw4 : w.grownBy w4 none := grown_join (grown_join hgw2 hg3 (.inl rfl)) hg34 (.inl rfl)
    have hg24 : w2.grownBy w4 none := grown_join hg3 hg34 (.inl rfl)
    have hs23 := hg3.size
    have hwu : w.heap.size ≤ u := by have := hgw2.size; omega
    have hu4 : u < w4.heap.size := by omega
    have hgu : gm ≠ u := by omega
    have hou : go ≠ u := by omega
    have HO4 : Hid (∀ j, j < n → w4.cell? ⟨go, j, none⟩ = some (.int .i64 ((P.getD j 0 : Nat) : Int))) := (fun j hj => hg34.cell (HCO.out j hj) (by simp) : ∀ j, j < n → w4.cell? ⟨go, j, none⟩ = some (.int .i64 ((P.getD j 0 : Nat) : Int)))
    have H40 := hid h40
    have HS : Hid (gm < w4.heap.size ∧ go < w4.heap.size) := (⟨by omega, by omega⟩ : gm < w4.heap.size ∧ go < w4.heap.size)
    clear hw4 hmk h40 HCO hg34 hs4 hu hg3 hs23 hgw2 hgm hgo HT
    go_loopg [7, 9] n (fun gk s7 s9 wx => ∃ (k : Nat) (a : Option Addr) (c : Nat), s9 = .int .i64 k ∧ k ≤ n ∧ gk = n - k ∧ s7 = .slice a k c ∧ Hid (BestAt w4 u n m (P.take k) wx a c))
    case atStart => exact ⟨0, none, 0, rfl, Nat.zero_le _, by omega, rfl, by rw [List.take_zero]; exact H40.out⟩
    case round =>
      obtain ⟨k, a, c, rfl, hk, hgk, rfl, HM⟩ := hrel
      have HG : Hid (gk = n - k) := hgk
      clear hgk
      by_cases hlt : k < n
      · have hkP : k < P.length := by rw [HPL.out]; exact hlt
        obtain ⟨b, hb⟩ : ∃ b, P.getD k 0 = b := ⟨_, rfl⟩
        have hbk : P[k] = b := by rw [← hb]; simp [List.getD, hkP]
        have hbn : b < n := HP.out b (by rw [← hbk]; exact List.getElem_mem _)
        have HTK : Hid (P.take (k + 1) = P.take k ++ [b]) := (by rw [List.take_succ_eq_append_getElem hkP, hbk] : P.take (k + 1) = P.take k ++ [b])
        have hnb : b ∉ P.take k := fun hm => by
          have hnd := HND.out
          rw [← List.take_append_drop (k + 1) P, HTK.out, List.nodup_append] at hnd
          have h2 := (List.nodup_append.1 hnd.1).2.2 b hm b (by simp)
          exact h2 rfl
        have hu0 := bools_get HM.out.used b (by rw [usedL_len]; exact hbn)
        rw [usedL_get hbn] at hu0
        simp [hnb] at hu0
        have hfz := at_frozen HM.out.used b
        have co := HM.out.grown.cell (HO4.out k hlt) (by simpa using hou)
        rw [hb] at co
        have i1 : (0 : Int) ≤ (k : Int) := by omega
        have i2 : (k : Int) < (n : Int) := by omega
        have j1 : (0 : Int) ≤ (b : Int) := by omega
        have j2 : (b : Int) < (n : Int) := by omega
        have j3 : ¬ (b : Int) < 0 := by omega
        have j4 : ¬ (n : Int) ≤ (b : Int) := by omega
        have HX : Hid (_ = _) := (rfl : m.getD b tk0 = m.getD b tk0)
        have htl : (P.take k).length = k := by simp; omega
        obtain ⟨x, hx⟩ : ∃ x, m.getD b tk0 = x := ⟨_, rfl⟩
        obtain ⟨a', c', w6, hrun, h6⟩ := HM.out.step hu4 (by rw [htl]; omega) b x hx
        rw [htl] at hrun
        obtain ⟨e0, e1, e2, e3, e4⟩ := HCM.out b hbn
        rw [hx] at e0 e1 e2 e3 e4
        have hgs : w4.grownBy (wr.setCell ⟨u, b, none⟩ (.bool true)) (some u) := gr_set HM.out.grown _ _
        have tr : ∀ {i : Nat} {y : Value}, w2.cell? ⟨gm, i, none⟩ = some y → (wr.setCell ⟨u, b, none⟩ (.bool true)).cell? ⟨gm, i, none⟩ = some y := fun h => hgs.cell (hg24.cell h (by simp)) (by simpa using hgu)
        have d0 := tr e0
        have d1 := tr e1
        have d2 := tr e2
        have d3 := tr e3
        have d4 := tr e4
        have co2 := hgs.cell (HO4.out k hlt) (by simpa using hou)
        rw [hb] at co2
        obtain ⟨w5, hw5⟩ : ∃ w5, wr.setCell ⟨u, b, none⟩ (.bool true) = w5 := ⟨_, rfl⟩
        rw [hw5] at hrun d0 d1 d2 d3 d4 co2
        have HRUN : Hid (_ = _) := hrun
        have H6 : Hid (BestAt w4 u n m (P.take (k + 1)) w6 a' c') := (by rw [HTK.out]; exact h6 : BestAt w4 u n m (P.take (k + 1)) w6 a' c')
        have HW5 : Hid (_ = _) := hw5
        have HC2 := hid co2
        clear hrun h6 tr e0 e1 e2 e3 e4 hw5 hgs hx htl hnb hbk hb HTK hkP
        obtain ⟨x0, x1, x2, x3, x4⟩ := x
        dsimp only at d0 d1 d2 d3 d4 HRUN
        have D0 := hid d0
        have D1 := hid d1
        have D2 := hid d2
        have D3 := hid d3
        have D4 := hid d4
        clear d0 d1 d2 d3 d4 co2
        go_upto_region 18 with fail
        rw [HW5.out]
        clear hu0 hfz co
        have d0 := D0.out
        have d1 := D1.out
        have d2 := D2.out
        have d3 := D3.out
        have d4 := D4.out
        have co2 := HC2.out
        go_wp2_with (first | (at_builtin; refine wpList_append_run rfl _ _ 22 rfl _ _ _ w6 rfl rfl HRUN.out ?_))
        have hgl := HG.out
        go_roundg (n - (k + 1))
        all_goals first | omega | exact ⟨k + 1, a', c', by go_num, by omega, by omega, rfl, H6.out⟩
      · have i2 : ¬ (k : Int) < (n : Int) := by omega
        obtain rfl : k = n := by omega
        have HPT : Hid (P.take k = P) := (List.take_of_length_le (by rw [HPL.out]; exact Nat.le_refl _) : P.take k = P)
        have hT := HM.out.own.ts
        rw [HPT.out, inOrd_len, HPL.out] at hT
        have hgw : w.grownBy wr none := grown_join hgw4 HM.out.grown (.inr fun y hy => by simp at hy; omega)
        have cW := will_any (inOrd m P) (.slice a k c) wr (by rw [inOrd_len, HPL.out]; unfold maxLen; omega) hT
        rw [HW.out] at cW
        clear hT
        go_wp2_with fail
        refine cW.mono ?_
        rintro e w7 ⟨rfl, hg7⟩
        go_wp2_with fail
        go_ret
        exact ⟨rfl, grown_join hgw hg7 (.inl rfl)⟩
  · have ho := ord_slow (by rw [hz]) hc
    rw [resp_slow_code (by omega) (by omega) hiP hc] at ho
    rw [ho] at cO
    have cS : ∀ W x, TsAt W x m → Calls Try.prog 19 #[x, .slice none 0 0, .func (.func 18) #[] #[]] W fun e w' => ShP W w' e m [] := fun W x h => shuf_any m.length m [] x _ W rfl (by simp; omega) h ⟨none, 0, rfl, by simp, .inl rfl⟩
    have HNO : Hid (∀ p : List Tk, p.Perm m → (respS ([] ++ p)).2.1 = 0 → False) := (fun p hp hr => hc (HB.out p hp hr) : ∀ p : List Tk, p.Perm m → (respS ([] ++ p)).2.1 = 0 → False)
    generalize (((srt m m.length).getD (respS (inOrd m (srt m m.length))).2.2.toNat 0 : Nat) : Int) = z at *
    clear ho hc hz HB hiP hlP HP HND HPL
    go_enter Try.func7, Try.ntmps7
    go_wp2_with fail
    refine cK.mono ?_
    rintro e w1 ⟨rfl, hg1⟩
    go_wp2_with fail
    refine (cD _ hg1).mono ?_
    rintro e w2 ⟨ma, mc, rfl, hO2, hg2⟩
    have HT : Hid (TsAt w2 (.slice ma m.length mc) m) := hO2.ts
    have hgw2 := grown_join hg1 hg2 (.inl rfl)
    clear hO2 hg1 hg2 cD cK
    obtain ⟨n, hn⟩ : ∃ n, m.length = n := ⟨_, rfl⟩
    rw [hn] at HT ⊢
    go_wp2_with fail
    refine (cO _ _ HT.out).mono ?_
    rintro e w3 ⟨oa, oc, rfl, ho3, hg3⟩
    dsimp only
    clear ho3 cO
    go_wp2_with fail
    refine (cS _ _ (HT.out.grown (gr_alloc hg3 _))).mono ?_
    rintro e w4 ⟨bb, rfl, hg4, hp⟩
    have hbb : bb = false := by
      cases bb with
      | false => rfl
      | true => obtain ⟨p, h1, h2⟩ := hp rfl; exact (HNO.out p h1 h2).elim
    subst hbb
    have hgw4 : w.grownBy w4 none := grown_join (grown_join hgw2 (gr_alloc hg3 _) (.inl rfl)) hg4 (.inl rfl)
    clear hp
    go_wp2_with fail
    go_ret
    exact ⟨rfl, hgw4⟩
end Go.Proofs.Ytholmeebkgpjjaa
