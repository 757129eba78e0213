/- The law: more demands never come later. -/
import Derived.Test.YtefekafpmnaeoaaAj
namespace Go.Proofs.Ytefekafpmnaeoaa
open Go.RowKit
attribute [local go_sem ↓] Go.wp_at_zero Go.wp_at_succ
set_option linter.unusedVariables false
set_option linter.unusedSimpArgs false

theorem own_frozen {B : Nat} {w : World} {g cap : Nat} {l : List Int} (h : OwnL B w (some ⟨g, 0, none⟩) cap l) (k : Nat) : w.frozen? ⟨g, k, none⟩ = false := OwnV.frozen (show OwnV B w (.slice (some ⟨g, 0, none⟩) l.length cap) l from h) k

set_option maxRecDepth 10000 in
set_option maxHeartbeats 8000000 in
theorem votesLaw_any (bl : List (Int × List Int)) (delay : Int) (st : List (List Int × Bool)) (mo : List Int) (v s m : Value) (w : World) (hv : rdVs w v bl) (hs : rdTs w s st) (hm : rd w m mo) (hdl : in64 delay) (hz : ∀ b ∈ bl, in64 b.1 ∧ ∀ x ∈ b.2, in64 x) (hl : OkL bl) (hzs : ∀ b ∈ st, (∀ x ∈ b.1, in64 x) ∧ b.1.length ≤ 17592186043904) (hsl : st.length ≤ 17592186043904) (hzm : ∀ x ∈ mo, in64 x) (hml : mo.length ≤ 9223372036854775807) :
    Calls Try.prog 6 #[v, .int .i64 delay, s, m] w fun e w' => e = .returned (.bool true) ∧ w.grownBy w' none := by
  obtain ⟨sa, sc, rfl, _⟩ := id hs
  obtain ⟨va, vc, rfl, _⟩ := id hv
  obtain ⟨mb, mc, rfl, _⟩ := id hm
  by_cases h500 : 500 < st.length
  · have h5 : (500 : Int) < (st.length : Int) := by omega
    go_enter Try.func6, Try.ntmps6
    go_wp2
    go_ret
    exact ⟨rfl, World.grownBy.refl _ _⟩
  have h5 : ¬ (500 : Int) < (st.length : Int) := by omega
  have cG := fun (X : World) (hX : w.grownBy X none) => guard_any bl delay _ X (rdVs_grown hv hX) hdl hz hl
  have hD4 := pk_lt delay (m := 4) (by omega)
  obtain ⟨D, hD⟩ : ∃ d, pk delay 4 = d := ⟨_, rfl⟩
  obtain ⟨L, hL⟩ : ∃ L, gvs bl = L := ⟨_, rfl⟩
  have hck : (checkF 6 (D : Int) L).1 = 0 := by rw [← hL]; exact gvs_ok bl (by omega) (by omega)
  have hL0 : L.getD 0 (0, []) = (2, [0, 1, 2]) := by rw [← hL]; rfl
  rw [hD] at cG hD4
  rw [hL] at cG
  obtain ⟨_, _, hn1, hn16, _, _, hvok⟩ := checkF_ok hck
  have hok1 : ∀ (L : List (Int × List Int)), (checkF 6 (D : Int) L).1 = 0 → OkL L := fun L hck => by
    obtain ⟨_, _, hn1, hn16, _, _, hvok⟩ := checkF_ok hck
    exact ⟨by omega, fun x hx => by
      have hv0 := hvok x hx
      have h1 := ok_named (se := 6) hv0 (by omega)
      have h2 : x.2.Nodup := by
        unfold voteE at hv0
        split at hv0
        · omega
        split at hv0
        · omega
        split at hv0
        · omega
        · next _ _ h => exact twB_no.1 (by simpa using h)
      have := nodup_len 6 h2 h1
      omega⟩
  have hOk := hok1 L hck
  have hckr := checkF_rev hck
  have hOkr := hok1 _ hckr
  obtain ⟨n, hn⟩ : ∃ n, L.length = n := ⟨_, rfl⟩
  have HN := hidI hn
  obtain ⟨ms, hms⟩ : ∃ n, st.length = n := ⟨_, rfl⟩
  have HMS := hidI hms
  obtain ⟨mn, hmn⟩ : ∃ n, mo.length = n := ⟨_, rfl⟩
  have HMN := hidI hmn
  have HIN := hidI (And.intro hs (And.intro hzs (And.intro hck (And.intro hOk (And.intro hckr (And.intro hOkr (And.intro hL0 (And.intro hm (And.intro hzm hvok)))))))))
  rw [hn] at hn1 hn16
  rw [hms] at h500 h5 hsl ⊢
  rw [hmn] at hml ⊢
  have cG1 := cG w (World.grownBy.refl _ _)
  have HG0 := hidI cG
  clear hD hL hvok hs hv hz hl hzs hck hOk hn hms hckr hOkr hL0 hm hzm hmn hok1 cG
  go_enter Try.func6, Try.ntmps6
  go_wp2_with fail
  refine cG1.mono ?_
  rintro e w1 ⟨ga, gc, ns1, rfl, hrow, g1⟩
  clear cG1
  rw [HN.out]
  have hrd1 : rdVs w1 (.slice ga n gc) L := by have := hrow.row.rd; rw [HN.out] at this; exact this
  have gA1 : w1.grownBy (w1.alloc (.cells #[.int .i64 6, .int .i64 (D : Int), .slice ga n gc] 24)) none := gr_alloc (World.grownBy.refl _ _) _
  have k9 : (w1.alloc (.cells #[.int .i64 6, .int .i64 (D : Int), .slice ga n gc] 24)).heap[w1.heap.size]? = _ := heap_alloc_new _ _
  have z9 : (w1.alloc (.cells #[.int .i64 6, .int .i64 (D : Int), .slice ga n gc] 24)).heap.size = w1.heap.size + 1 := by simp
  go_upto_region 4 with fail
  obtain ⟨q9, hq9⟩ : ∃ x, w1.heap.size = x := ⟨_, rfl⟩
  rw [hq9] at k9 z9 ⊢
  generalize w1.alloc (.cells #[.int .i64 6, .int .i64 (D : Int), .slice ga n gc] 24) = A1 at *
  have cG1 := HG0.out A1 (grown_join g1 gA1 (.inl rfl))
  have H1 := hidI (And.intro (grown_join g1 gA1 (.inl rfl)) (And.intro (rdVs_grown hrd1 gA1) (And.intro k9 z9)))
  clear hq9 g1 hrd1 gA1 k9 z9 hrow HG0
  go_wp2_with fail
  refine cG1.mono ?_
  rintro e w2 ⟨ha, hc, ns, rfl, hrow, g2⟩
  clear cG1
  rw [HN.out]
  have gA2 : A1.grownBy (w2.alloc (.cells #[.int .i64 6, .int .i64 (D : Int), .slice ha n hc] 24)) none := gr_alloc g2 _
  have k10 : (w2.alloc (.cells #[.int .i64 6, .int .i64 (D : Int), .slice ha n hc] 24)).heap[w2.heap.size]? = _ := heap_alloc_new _ _
  have hrow2 := hrow.grown (gr_alloc (World.grownBy.refl w2 none) (.cells #[.int .i64 6, .int .i64 (D : Int), .slice ha n hc] 24))
  have HNS := hidI (fun i hi => hrow.lt i hi)
  go_upto_region 5 with fail
  obtain ⟨q10, hq10⟩ : ∃ x, w2.heap.size = x := ⟨_, rfl⟩
  rw [hq10] at k10 HNS ⊢
  generalize w2.alloc (.cells #[.int .i64 6, .int .i64 (D : Int), .slice ha n hc] 24) = A2 at *
  obtain ⟨B, hB⟩ : ∃ B, A1.heap.size = B := ⟨_, rfl⟩
  rw [hB] at hrow2
  have HB := hidI hB
  have HST : Hid (A1.grownBy A2 none ∧ A2.heap[q10]? = some (.cells #[.int .i64 6, .int .i64 (D : Int), .slice ha n hc] 24) ∧ Row2 B B A2 ha hc (LrK L 0) ns) := hidI ⟨gA2, k10, by rw [LrK_zero]; exact hrow2⟩
  clear hq10 gA2 k10 hrow2 g2 hrow hB
  go_wp2_with fail

  go_loopg [11] n (fun gk s11 wx => ∃ (k : Nat), s11 = .int .i64 k ∧ k ≤ n ∧ gk = n - k ∧ Hid (A1.grownBy wx none ∧ wx.heap[q10]? = some (.cells #[.int .i64 6, .int .i64 (D : Int), .slice ha n hc] 24) ∧ Row2 B B wx ha hc (LrK L k) ns))
  case atStart => exact ⟨0, rfl, Nat.zero_le _, by omega, HST⟩
  case round =>
  clear HST
  obtain ⟨k, rfl, hk, hgk, HK⟩ := hrel
  have HG := hidI hgk
  clear hgk
  by_cases hlt : k < n
  case pos =>
    have hk' : (k : Int) < (n : Int) := by omega
    have hk0 : (0 : Int) ≤ (k : Int) := by omega
    obtain ⟨hgA, h10, hrow⟩ := HK.out
    have hkl : k < (LrK L k).length := by rw [LrK_len, HN.out]; exact hlt
    have hkL : k < L.length := by rw [HN.out]; exact hlt
    obtain ⟨rb, rfl, rc⟩ := hrow.row.cell k hkl
    obtain ⟨_, ua, uc, e2, ho, hne⟩ := hrow.row.each k hkl
    have hV : (LrK L k).getD k (0, []) = L.getD k (0, []) := LrK_at L k hkL
    rw [hV] at e2 ho hne
    have hVl : L.getD k (0, []) = L[k] := by simp [List.getD, hkL]
    have hvk : voteE 6 (L.getD k (0, [])).1 (L.getD k (0, [])).2 = 0 := by rw [hVl]; exact HIN.out.2.2.2.2.2.2.2.2.2 _ (List.getElem_mem hkL)
    have hC16 : (L.getD k (0, [])).2.length ≤ 17592186043904 := by rw [hVl]; have := HIN.out.2.2.2.1.2 _ (List.getElem_mem hkL); omega
    have hCp := voteE_pos hvk
    obtain ⟨need, C⟩ : ∃ x, L.getD k (0, []) = x := ⟨_, rfl⟩
    obtain ⟨V, hVe⟩ : ∃ x, L.getD k (0, []) = x := ⟨_, rfl⟩
    rw [hVe] at hV e2 ho hne hC16 hCp
    obtain ⟨need, C⟩ := V
    dsimp only at hV e2 ho hne hC16 hCp
    obtain ⟨g, rfl, hBg⟩ := own_some ho hCp
    obtain ⟨cl, hcl⟩ : ∃ x, C.length = x := ⟨_, rfl⟩
    have hgq : g < q10 := HNS.out k (by rw [hrow.row.len]; exact hkl) g (by rw [e2]; rfl) |>.2
    rw [e2, hcl] at rc
    rw [hcl] at hC16 hCp
    have HST2 : Hid (A1.grownBy wr none ∧ wr.heap[q10]? = some (.cells #[.int .i64 6, .int .i64 (D : Int), .slice (some ⟨rb, 0, none⟩) n hc] 24) ∧ Row2 B B wr (some ⟨rb, 0, none⟩) hc ((LrK L k).set k (need, revK C 0)) ns) := hidI ⟨hgA, h10, by
      have : (LrK L k).set k (need, revK C 0) = LrK L k := by
        rw [revK_zero, ← hV]
        simp [List.getD, hkl]
      rw [this]; exact hrow⟩
    have HC := hidI (And.intro hcl (And.intro hVe (And.intro e2 (And.intro hgq hBg))))
    obtain ⟨i0, i1, i2⟩ := at3 h10
    clear hgA h10 hrow hV hVl hvk ho hne hVe e2 hcl hgq hBg
    have hs1 : IntKind.i64.wrap ((cl : Int) - 1) = (cl : Int) - 1 := i64_id (by omega) (by omega)
    go_wp2_with fail
    clear i0 i1 i2 rc
    go_loopg [13, 14] cl (fun gk s13 s14 wx => ∃ (j : Nat), s13 = .int .i64 j ∧ s14 = .int .i64 ((cl : Int) - 1 - j) ∧ j ≤ cl ∧ gk = cl - j ∧ Hid (A1.grownBy wx none ∧ wx.heap[q10]? = some (.cells #[.int .i64 6, .int .i64 (D : Int), .slice (some ⟨rb, 0, none⟩) n hc] 24) ∧ Row2 B B wx (some ⟨rb, 0, none⟩) hc ((LrK L k).set k (need, revK C j)) ns))
    case atStart => exact ⟨0, rfl, by simp, Nat.zero_le _, by omega, HST2⟩
    case round =>
    clear HST2
    obtain ⟨j, rfl, rfl, hj, hgj, HJ⟩ := hrel
    have HGJ := hidI hgj
    clear hgj
    by_cases hsw : 2 * j + 1 < cl
    case neg =>
      have hj' : ¬ ((j : Int) < (cl : Int) - 1 - (j : Int)) := by omega
      have HNK : Hid (A1.grownBy wr none ∧ wr.heap[q10]? = some (.cells #[.int .i64 6, .int .i64 (D : Int), .slice (some ⟨rb, 0, none⟩) n hc] 24) ∧ Row2 B B wr (some ⟨rb, 0, none⟩) hc (LrK L (k + 1)) ns) := hidI ⟨HJ.out.1, HJ.out.2.1, by
        have h1 := HJ.out.2.2
        rw [revK_end C j (by rw [HC.out.1]; omega)] at h1
        have h2 := LrK_set L k hkL
        rw [HC.out.2.1] at h2
        rw [← h2]
        exact h1⟩
      go_wp2
      have hgl := HG.out
      go_roundg (n - (k + 1))
      all_goals first | omega | exact ⟨k + 1, by go_num, by omega, by omega, HNK⟩
    case pos =>
    have hj' : (j : Int) < (cl : Int) - 1 - (j : Int) := by omega
    obtain ⟨hgA, h10, hrow⟩ := HJ.out
    have hkl2 : k < ((LrK L k).set k (need, revK C j)).length := by rw [List.length_set]; exact hkl
    obtain ⟨_, ua2, uc2, e3, ho, hne⟩ := hrow.row.each k hkl2
    have hV : ((LrK L k).set k (need, revK C j)).getD k (0, []) = (need, revK C j) := by simp [List.getD, hkl]
    rw [hV] at e3 ho
    dsimp only at e3 ho
    rw [HC.out.2.2.1, revK_len] at e3
    injection e3 with e4 e5 e6
    subst e4 e6
    have hov : OwnV B wr (.slice (some ⟨g, 0, none⟩) (revK C j).length uc) (revK C j) := ho
    have hrl : (revK C j).length = cl := by rw [revK_len]; exact HC.out.1
    have c1 := hov.get j (by omega)
    have c2 := hov.get (cl - 1 - j) (by omega)
    have f1 := hov.frozen j
    have f2 := hov.frozen (cl - 1 - j)
    have hsw2 := revK_swap C j (by rw [HC.out.1]; exact hsw)
    rw [HC.out.1] at hsw2
    obtain ⟨x, hx⟩ : ∃ x, (revK C j).getD j 0 = x := ⟨_, rfl⟩
    obtain ⟨y, hy⟩ : ∃ x, (revK C j).getD (cl - 1 - j) 0 = x := ⟨_, rfl⟩
    rw [hx] at c1 hsw2
    rw [hy] at c2 hsw2
    have r1 := hrow.store k hkl2 g uc need (revK C j) hV (by rw [HC.out.2.2.1, revK_len]) j y
    have hset1 : (((LrK L k).set k (need, revK C j)).set k (need, (revK C j).set j y)).getD k (0, []) = (need, (revK C j).set j y) := by simp [List.getD, hkl]
    have r2 := r1.store k (by rw [List.length_set]; exact hkl2) g uc need _ hset1 (by rw [HC.out.2.2.1, List.length_set, revK_len]) (cl - 1 - j) x
    rw [hsw2, List.set_set, List.set_set] at r2
    have HNJ : Hid (A1.grownBy ((wr.setCell ⟨g, j, none⟩ (.int .i64 y)).setCell ⟨g, cl - 1 - j, none⟩ (.int .i64 x)) none ∧ ((wr.setCell ⟨g, j, none⟩ (.int .i64 y)).setCell ⟨g, cl - 1 - j, none⟩ (.int .i64 x)).heap[q10]? = some (.cells #[.int .i64 6, .int .i64 (D : Int), .slice (some ⟨rb, 0, none⟩) n hc] 24) ∧ Row2 B B ((wr.setCell ⟨g, j, none⟩ (.int .i64 y)).setCell ⟨g, cl - 1 - j, none⟩ (.int .i64 x)) (some ⟨rb, 0, none⟩) hc ((LrK L k).set k (need, revK C (j + 1))) ns) := hidI ⟨gr_own (gr_own hgA (by have := HC.out.2.2.2.2; have := HB.out; omega) _ _) (by have := HC.out.2.2.2.2; have := HB.out; omega) _ _, keptBut (gr_set (gr_set (World.grownBy.refl wr (some g)) _ _) _ _) h10 (by have := HC.out.2.2.2.1; omega), r2⟩
    have d1 : ((cl : Int) - 1 - (j : Int)).toNat = cl - 1 - j := by omega
    have d2 : (0 : Int) ≤ (cl : Int) - 1 - (j : Int) := by omega
    have d3 : (cl : Int) - 1 - (j : Int) < (cl : Int) := by omega
    have d4 : (j : Int) < (cl : Int) := by omega
    have d5 : (0 : Int) ≤ (j : Int) := by omega
    have d6 : IntKind.i64.wrap ((cl : Int) - 1 - (j : Int) - 1) = (cl : Int) - 1 - (j : Int) - 1 := i64_id (by omega) (by omega)
    have d7 : ((cl : Int) - 1 - (j : Int)) = ((cl - 1 - j : Nat) : Int) := by omega
    have f3 : (wr.setCell ⟨g, j, none⟩ (.int .i64 y)).frozen? ⟨g, cl - 1 - j, none⟩ = false := own_frozen (own_set ho j y) _
    clear hgA h10 hrow hkl2 e5 hne hV ho hov hrl hsw2 hx hy r1 r2 hset1
    go_wp2_with fail
    go_region
    all_goals (
      go_wp2
      have hgl := HGJ.out
      go_roundg (cl - (j + 1))
      all_goals first | omega | exact ⟨j + 1, by go_num, by go_num, by omega, by omega, hidI ⟨gr_drew HNJ.out.1, kept (gr_drew (World.grownBy.refl _ _)) HNJ.out.2.1, HNJ.out.2.2.grown (gr_drew (World.grownBy.refl _ _))⟩⟩)
  case neg =>
  have hk' : ¬ ((k : Int) < (n : Int)) := by omega
  have hke : n = k := by omega
  subst hke

  have hrdh : rdVs wr (.slice ha n hc) (Lr L) := by
    have h1 := HK.out.2.2.row.rd
    have h2 : LrK L n = Lr L := by rw [← HN.out]; exact LrK_end L
    rw [h2, Lr_len, HN.out] at h1
    exact h1
  have hrdg : rdVs wr (.slice ga n gc) L := rdVs_grown H1.out.2.1 HK.out.1
  have HW := hidI (And.intro (grown_join H1.out.1 HK.out.1 (.inl rfl)) (And.intro (kept HK.out.1 H1.out.2.2.1) (And.intro HK.out.2.1 (And.intro hrdg hrdh))))
  have cSg := fun (X : World) (hX : wr.grownBy X none) => start_any 6 (D : Int) L _ X (rdVs_grown hrdg hX) HIN.out.2.2.2.1
  have cSh := fun (X : World) (hX : wr.grownBy X none) => start_any 6 (D : Int) (Lr L) _ X (rdVs_grown hrdh hX) HIN.out.2.2.2.2.2.1
  have hT0 : startT 6 (D : Int) L = ⟨false, -1, List.replicate n 0, false⟩ := by unfold startT; rw [HIN.out.2.2.1, if_pos rfl, HN.out]
  have hT1 : startT 6 (D : Int) (Lr L) = ⟨false, -1, List.replicate n 0, false⟩ := by unfold startT; rw [HIN.out.2.2.2.2.1, if_pos rfl, Lr_len, HN.out]
  rw [hT0, HIN.out.2.2.1] at cSg
  rw [hT1, HIN.out.2.2.2.2.1] at cSh
  obtain ⟨i0, i1, i2⟩ := at3 HW.out.2.1
  obtain ⟨j0, j1, j2⟩ := at3 HW.out.2.2.1
  clear hrdh hrdg hT0 hT1 HK HNS hlt hk

  go_wp2_with fail
  refine (cSg _ (World.grownBy.refl _ _)).mono ?_
  rintro e w6 ⟨V6, rfl, alt, cct, rfl, ot, g6⟩
  dsimp only [trV, trA] at *
  rw [List.length_replicate]
  have gAt : wr.grownBy (w6.alloc (.cells #[.bool false, .int .i64 (-1), .slice alt n cct, .bool false] 28)) none := gr_alloc g6 _
  have kbt : (w6.alloc (.cells #[.bool false, .int .i64 (-1), .slice alt n cct, .bool false] 28)).heap[w6.heap.size]? = _ := heap_alloc_new _ _
  have ot' := OwnL.kept ot (gr_alloc (World.grownBy.refl w6 none) (.cells #[.bool false, .int .i64 (-1), .slice alt n cct, .bool false] 28))
  have zzt : (w6.alloc (.cells #[.bool false, .int .i64 (-1), .slice alt n cct, .bool false] 28)).heap.size = w6.heap.size + 1 := by simp
  have bbt := own_lt ot
  go_upto_region 14 with fail
  obtain ⟨q15, hq15⟩ : ∃ x, w6.heap.size = x := ⟨_, rfl⟩
  rw [hq15] at kbt zzt bbt ⊢
  generalize w6.alloc (.cells #[.bool false, .int .i64 (-1), .slice alt n cct, .bool false] 28) = Xt at *
  have szt : wr.heap.size ≤ q15 := by have := g6.size; omega
  have HXt := hidI (And.intro gAt (And.intro kbt (And.intro ot' (And.intro bbt (And.intro zzt szt)))))
  clear hq15 g6 gAt kbt ot' zzt bbt szt ot
  clear i0 i1 i2 j0 j1 j2
  obtain ⟨i0, i1, i2⟩ := at3 (kept HXt.out.1 (HW.out.2.1))
  obtain ⟨j0, j1, j2⟩ := at3 (kept HXt.out.1 (HW.out.2.2.1))

  go_wp2_with fail
  refine (cSg _ (HXt.out.1)).mono ?_
  rintro e w6 ⟨V6, rfl, alu, ccu, rfl, ou, g6⟩
  dsimp only [trV, trA] at *
  rw [List.length_replicate]
  have gAu : Xt.grownBy (w6.alloc (.cells #[.bool false, .int .i64 (-1), .slice alu n ccu, .bool false] 28)) none := gr_alloc g6 _
  have kbu : (w6.alloc (.cells #[.bool false, .int .i64 (-1), .slice alu n ccu, .bool false] 28)).heap[w6.heap.size]? = _ := heap_alloc_new _ _
  have ou' := OwnL.kept ou (gr_alloc (World.grownBy.refl w6 none) (.cells #[.bool false, .int .i64 (-1), .slice alu n ccu, .bool false] 28))
  have zzu : (w6.alloc (.cells #[.bool false, .int .i64 (-1), .slice alu n ccu, .bool false] 28)).heap.size = w6.heap.size + 1 := by simp
  have bbu := own_lt ou
  go_upto_region 15 with fail
  obtain ⟨q17, hq17⟩ : ∃ x, w6.heap.size = x := ⟨_, rfl⟩
  rw [hq17] at kbu zzu bbu ⊢
  generalize w6.alloc (.cells #[.bool false, .int .i64 (-1), .slice alu n ccu, .bool false] 28) = Xu at *
  have szu : Xt.heap.size ≤ q17 := by have := g6.size; omega
  have HXu := hidI (And.intro gAu (And.intro kbu (And.intro ou' (And.intro bbu (And.intro zzu szu)))))
  clear hq17 g6 gAu kbu ou' zzu bbu szu ou
  clear i0 i1 i2 j0 j1 j2
  obtain ⟨i0, i1, i2⟩ := at3 (kept HXu.out.1 (kept HXt.out.1 HW.out.2.1))
  obtain ⟨j0, j1, j2⟩ := at3 (kept HXu.out.1 (kept HXt.out.1 HW.out.2.2.1))

  go_wp2_with fail
  refine (cSh _ (grown_join HXt.out.1 HXu.out.1 (.inl rfl))).mono ?_
  rintro e w6 ⟨V6, rfl, alv, ccv, rfl, ov, g6⟩
  dsimp only [trV, trA] at *
  rw [List.length_replicate]
  have gAv : Xu.grownBy (w6.alloc (.cells #[.bool false, .int .i64 (-1), .slice alv n ccv, .bool false] 28)) none := gr_alloc g6 _
  have kbv : (w6.alloc (.cells #[.bool false, .int .i64 (-1), .slice alv n ccv, .bool false] 28)).heap[w6.heap.size]? = _ := heap_alloc_new _ _
  have ov' := OwnL.kept ov (gr_alloc (World.grownBy.refl w6 none) (.cells #[.bool false, .int .i64 (-1), .slice alv n ccv, .bool false] 28))
  have zzv : (w6.alloc (.cells #[.bool false, .int .i64 (-1), .slice alv n ccv, .bool false] 28)).heap.size = w6.heap.size + 1 := by simp
  have bbv := own_lt ov
  go_upto_region 16 with fail
  obtain ⟨q19, hq19⟩ : ∃ x, w6.heap.size = x := ⟨_, rfl⟩
  rw [hq19] at kbv zzv bbv ⊢
  generalize w6.alloc (.cells #[.bool false, .int .i64 (-1), .slice alv n ccv, .bool false] 28) = Xv at *
  have szv : Xu.heap.size ≤ q19 := by have := g6.size; omega
  have HXv := hidI (And.intro gAv (And.intro kbv (And.intro ov' (And.intro bbv (And.intro zzv szv)))))
  clear hq19 g6 gAv kbv ov' zzv bbv szv ov
  clear i0 i1 i2 j0 j1 j2
  obtain ⟨i0, i1, i2⟩ := at3 (kept HXv.out.1 (kept HXu.out.1 (kept HXt.out.1 HW.out.2.1)))
  obtain ⟨j0, j1, j2⟩ := at3 (kept HXv.out.1 (kept HXu.out.1 (kept HXt.out.1 HW.out.2.2.1)))

  clear i0 i1 i2 j0 j1 j2 cSg cSh
  go_upto_region 18 with fail
  obtain ⟨w5, hw5⟩ : ∃ x, x = wr := ⟨_, rfl⟩
  subst hw5
  have HQ : Hid (w5.heap.size ≤ q15 ∧ q15 < q17 ∧ q17 < q19) := hidI (by have h1 := HXt.out.2.2.2.2; have h2 := HXu.out.2.2.2.2; have h3 := HXv.out.2.2.2.2; omega)
  have hmay0 : mayB (D : Int) n ⟨false, -1, List.replicate n 0, false⟩ = true := mayB_iff.2 ⟨by simp, fun x hx => by rw [List.mem_replicate] at hx; omega, by simp⟩
  have HST : Hid (w5.grownBy Xv none ∧ TBx Xv q15 [q15, q17, q19] n ⟨false, -1, List.replicate n 0, false⟩ ∧ TBx Xv q17 [q15, q17, q19] n ⟨false, -1, List.replicate n 0, false⟩ ∧ TBx Xv q19 [q15, q17, q19] n ⟨false, -1, List.replicate n 0, false⟩ ∧ mayB (D : Int) n ⟨false, -1, List.replicate n 0, false⟩ = true ∧ mayB (D : Int) n ⟨false, -1, List.replicate n 0, false⟩ = true ∧ Later n ⟨false, -1, List.replicate n 0, false⟩ ⟨false, -1, List.replicate n 0, false⟩) := hidI (by
    obtain ⟨t1, t2, t3, t4, t5, t6⟩ := HXt.out
    obtain ⟨s1, s2, s3, s4, s5, s6⟩ := HXu.out
    obtain ⟨r1, r2, r3, r4, r5, r6⟩ := HXv.out
    refine ⟨grown_join t1 (grown_join s1 r1 (.inl rfl)) (.inl rfl), TBx.grow ⟨alt, cct, t2, own_low t3 (Nat.zero_le _), by simp, fun x hx hm => ?_⟩ (grown_join s1 r1 (.inl rfl)), TBx.grow ⟨alu, ccu, s2, own_low s3 (Nat.zero_le _), by simp, fun x hx hm => ?_⟩ r1, ⟨alv, ccv, r2, own_low r3 (Nat.zero_le _), by simp, fun x hx hm => ?_⟩, hmay0, hmay0, rfl, rfl, fun _ _ => Int.le_refl _, fun h => h⟩
    · have := t4 x hx
      simp at hm
      omega
    · have := s4 x hx
      simp at hm
      omega
    · have := r4 x hx
      simp at hm
      omega)
  clear HXt HXu HXv hmay0
  go_wp2_with fail

  go_loopg [16, 18, 20, 21, 22] ms (fun gk s16 s18 s20 s21 s22 wx => ∃ (k : Nat) (T U : Tr), s16 = .int .i64 0 ∧ s18 = .int .i64 0 ∧ s20 = .int .i64 0 ∧ s21 = .bool T.d ∧ s22 = .int .i64 k ∧ k ≤ ms ∧ gk = ms - k ∧ Hid (w5.grownBy wx none ∧ TBx wx q15 [q15, q17, q19] n T ∧ TBx wx q17 [q15, q17, q19] n U ∧ TBx wx q19 [q15, q17, q19] n T ∧ mayB (D : Int) n T = true ∧ mayB (D : Int) n U = true ∧ Later n T U))
  case atStart => exact ⟨0, _, _, rfl, rfl, rfl, rfl, rfl, Nat.zero_le _, by omega, HST⟩
  case round =>
  clear HST
  obtain ⟨k, T, U, rfl, rfl, rfl, rfl, rfl, hk, hgk, HK⟩ := hrel
  have HG := hidI hgk
  clear hgk
  by_cases hlt : k < ms
  case pos =>
    have hk' : (k : Int) < (ms : Int) := by omega
    have hk0 : (0 : Int) ≤ (k : Int) := by omega
    have hkl : k < st.length := by rw [HMS.out]; exact hlt
    have hgw : w.grownBy wr none := grown_join HW.out.1 HK.out.1 (.inl rfl)
    obtain ⟨sa1, sc1, ev, h | ⟨b, off, rfl, hcc⟩⟩ := rdTs_grown HIN.out.1 hgw
    · subst h; simp at hkl
    simp at ev
    obtain ⟨rfl, rfl⟩ := ev
    obtain ⟨u, q0, q1, hu⟩ := hcc k hkl
    have hVl : st.getD k ([], false) = st[k] := by simp [List.getD, hkl]
    have hraw : (∀ x ∈ (st.getD k ([], false)).1, in64 x) ∧ (st.getD k ([], false)).1.length ≤ 17592186043904 := by rw [hVl]; exact HIN.out.2.1 _ (List.getElem_mem hkl)
    clear hcc hkl hVl
    generalize st.getD k ([], false) = V at *
    obtain ⟨raw, key⟩ := V
    dsimp only at *
    obtain ⟨ua, uc, rfl, _⟩ := id hu
    have cT := fun (X : World) (hX : wr.grownBy X none) => tellS_any raw key _ X (rd_grown hu hX) hraw.1 hraw.2
    have htl := tellL_len raw
    have htk := tellL_ok raw
    obtain ⟨told, htold⟩ : ∃ t, tellL raw = t := ⟨_, rfl⟩
    rw [htold] at htl htk
    simp only [htold] at cT
    have HCU := hidI (And.intro q0 q1)
    clear htold hu hraw
    go_wp2_with fail
    refine (cT _ (World.grownBy.refl _ _)).mono ?_
    rintro e w7 ⟨ta, tc, rfl, ot, g7⟩
    rw [htl]
    have HOT := hidI ot
    have q0 := g7.cell HCU.out.1 (by simp)
    have q1 := g7.cell HCU.out.2 (by simp)
    clear ot
    go_wp2_with fail
    refine (cT _ g7).mono ?_
    rintro e w8 ⟨la, lc, rfl, ol, g8⟩
    rw [htl]
    obtain ⟨lg, rfl, hlg⟩ := own_some ol (by omega)
    have HOL := hidI (And.intro ol hlg)
    have HG78 := hidI (And.intro g7 g8)
    clear ol cT q0 q1 hlg g7 g8 HCU
    have HTL := hidI (And.intro htl htk)
    go_upto_if 116 with fail
    go_cut [25] from 98 to 204 (fun s25 wx => ∃ loud, Hid (w7.grownBy wx none ∧ OwnL w7.heap.size wx (some ⟨lg, 0, none⟩) lc loud ∧ Louder told loud ∧ loud.any tl = false ∧ loud.length = 6))
    case first =>
      have HSAME : Hid (∃ loud, Hid (w7.grownBy w8 none ∧ OwnL w7.heap.size w8 (some ⟨lg, 0, none⟩) lc loud ∧ Louder told loud ∧ loud.any tl = false ∧ loud.length = 6)) := hidI ⟨told, hidI ⟨HG78.out.2, HOL.out.1, loud_same told, HTL.out.2, HTL.out.1⟩⟩
      by_cases h0 : mn = 0
      · subst h0
        go_wp2_with fail
        go_meet
        exact HSAME.out
      have hm0 : (0 : Int) < (mn : Int) := by omega
      have hm1 : ¬ (mn : Int) = 0 := by omega
      have hmod : k % mn < mn := Nat.mod_lt _ (by omega)
      have e2 : (k : Int).tmod (mn : Int) = ((k % mn : Nat) : Int) := by rw [Int.tmod_eq_emod_of_nonneg (by omega)]; simp
      have e3 : (k : Int).tmod 2 = ((k % 2 : Nat) : Int) := by rw [Int.tmod_eq_emod_of_nonneg (by omega)]; simp
      obtain ⟨mb1, mc1, ev, h | ⟨bm, offm, rfl, hmm⟩⟩ := rd_grown HIN.out.2.2.2.2.2.2.2.1 (grown_join hgw (grown_join HG78.out.1 HG78.out.2 (.inl rfl)) (.inl rfl))
      · exfalso; have := HMN.out; rw [h] at this; simp at this; omega
      simp at ev
      obtain ⟨rfl, rfl⟩ := ev
      have c1 := hmm (k % mn) (by rw [HMN.out]; exact hmod)
      have hxm : in64 (mo.getD (k % mn) 0) := by
        have h1 : k % mn < mo.length := by rw [HMN.out]; exact hmod
        have h2 : mo.getD (k % mn) 0 = mo[k % mn] := by simp [List.getD, h1]
        rw [h2]; exact HIN.out.2.2.2.2.2.2.2.2.1 _ (List.getElem_mem h1)
      clear hmm
      obtain ⟨xm, hxe⟩ : ∃ x, mo.getD (k % mn) 0 = x := ⟨_, rfl⟩
      rw [hxe] at c1 hxm
      clear hxe
      obtain ⟨kr, hkr⟩ : ∃ x, k % mn = x := ⟨_, rfl⟩
      rw [hkr] at c1 hmod e2
      clear hkr
      have d1 : (kr : Int) < (mn : Int) := by omega
      have d2 : (0 : Int) ≤ (kr : Int) := by omega
      have cP := picked_any xm 12 w8 hxm (by omega) (by omega)
      have hp := pk_lt xm (m := 12) (by omega)
      obtain ⟨p, hpe⟩ : ∃ x, pk xm 12 = x := ⟨_, rfl⟩
      rw [hpe] at cP hp
      clear hpe hxm
      go_wp2_with fail
      refine cP.mono ?_
      rintro e w9 ⟨rfl, rfl⟩
      clear cP
      by_cases hp6 : p < 6
      case neg =>
        have hp' : ¬ (p : Int) < 6 := by omega
        go_wp2_with fail
        go_meet
        exact HSAME.out
      have hp' : (p : Int) < 6 := by omega
      have hp0 : (0 : Int) ≤ (p : Int) := by omega
      have hov : OwnV w7.heap.size w8 (.slice (some ⟨lg, 0, none⟩) told.length lc) told := HOL.out.1
      have cl := hov.get p (by rw [htl]; exact hp6)
      have fl := hov.frozen p
      obtain ⟨xt, hxt⟩ : ∃ x, told.getD p 0 = x := ⟨_, rfl⟩
      rw [hxt] at cl
      by_cases hx0 : xt = 0
      case neg =>
        clear hov
        go_wp2_with fail
        go_meet
        exact HSAME.out
      subst hx0
      have hk2 : k % 2 < 2 := Nat.mod_lt _ (by omega)
      obtain ⟨k2, hk2e⟩ : ∃ x, k % 2 = x := ⟨_, rfl⟩
      rw [hk2e] at hk2 e3
      have e4 : IntKind.i64.wrap (1 + (k2 : Int)) = 1 + (k2 : Int) := i64_id (by omega) (by omega)
      have hlo := loud_set (told := told) (i := p) (x := 1 + (k2 : Int)) (by omega) HTL.out.2 hxt
      have HRS : Hid (∃ loud, Hid (w7.grownBy (w8.setCell ⟨lg, p, none⟩ (.int .i64 (1 + (k2 : Int)))) none ∧ OwnL w7.heap.size (w8.setCell ⟨lg, p, none⟩ (.int .i64 (1 + (k2 : Int)))) (some ⟨lg, 0, none⟩) lc loud ∧ Louder told loud ∧ loud.any tl = false ∧ loud.length = 6)) := hidI ⟨told.set p (1 + (k2 : Int)), hidI ⟨gr_own HG78.out.2 HOL.out.2 _ _, own_set HOL.out.1 p _, hlo.1, hlo.2, by rw [List.length_set]; exact HTL.out.1⟩⟩
      clear hov hxt hlo hk2e
      go_wp2_with fail
      go_meet
      exact HRS.out
    case rest =>
    obtain ⟨loud, HL⟩ := hcut
    obtain ⟨T1, hT1⟩ : ∃ x, nextT (D : Int) L T told false = x := ⟨_, rfl⟩
    obtain ⟨U1, hU1⟩ : ∃ x, nextT (D : Int) L U loud false = x := ⟨_, rfl⟩
    have hmT : mayB (D : Int) L.length T = true := by rw [HN.out]; exact HK.out.2.2.2.2.1
    have hmU : mayB (D : Int) L.length U = true := by rw [HN.out]; exact HK.out.2.2.2.2.2.1
    have hmT1 : mayB (D : Int) n T1 = true := by rw [← hT1, ← HN.out]; exact next_may (by omega) hmT
    have hmU1 : mayB (D : Int) n U1 = true := by rw [← hU1, ← HN.out]; exact next_may (by omega) hmU
    have hlat : Later n T1 U1 := by
      have := next_later (de := (D : Int)) (L := L) (T := T) (U := U) (told := told) (loud := loud) (by omega) hmT hmU (by rw [HN.out]; exact HK.out.2.2.2.2.2.2) HL.out.2.2.1
      rw [HN.out, hT1, hU1] at this
      exact this
    have hdd : T.d = true → T1.d = true := fun h => by rw [← hT1]; exact next_d.2 (.inl h)
    have HU := hidI (And.intro hT1 (And.intro hU1 ((next_rev (D : Int) L T told false).trans hT1)))
    have HP := hidI (And.intro hmT1 (And.intro hmU1 (And.intro hlat (And.intro (mayB_iff.1 hmT1).1 (And.intro (mayB_iff.1 hmU1).1 (And.intro HIN.out.2.2.1 (And.intro HIN.out.2.2.2.2.1 (And.intro HIN.out.2.2.2.1 (And.intro HIN.out.2.2.2.2.2.1 hdd)))))))))
    have hbq : q19 < wr.heap.size := HK.out.2.2.2.1.lt
    have h7c : wr.grownBy wc none := grown_join HG78.out.1 HL.out.1 (.inl rfl)
    have HS0 : Hid (Six w5 wc q15 q17 q19 n wr.heap.size T U T ta tc told lg lc loud) := hidI ⟨grown_join HK.out.1 h7c (.inl rfl), HK.out.2.1.grow h7c, HK.out.2.2.1.grow h7c, HK.out.2.2.2.1.grow h7c, OwnL.kept HOT.out HL.out.1, own_low HL.out.2.1 HG78.out.1.size, HQ.out.1, HQ.out.2.1, HQ.out.2.2, hbq⟩
    have hrdt : ∀ {X : World}, OwnL wr.heap.size X ta tc told → rd X (.slice ta 6 tc) told := fun h => by have := h.rd; rw [HTL.out.1] at this; exact this
    have hrdl : ∀ {X : World}, OwnL wr.heap.size X (some ⟨lg, 0, none⟩) lc loud → rd X (.slice (some ⟨lg, 0, none⟩) 6 lc) loud := fun h => by have := h.rd; rw [HL.out.2.2.2.2] at this; exact this
    have HRD := hidI (And.intro (@hrdt) (@hrdl))
    clear hT1 hU1 hmT hmU hmT1 hmU1 hlat hdd hbq h7c hrdt hrdl htl htk

    obtain ⟨a1, c1, b1, o1, l1, x1⟩ := HS0.out.t
    obtain ⟨i0, i1, i2⟩ := at3 (kept HS0.out.g HW.out.2.1)
    obtain ⟨j0, j1, j2, j3⟩ := at4 b1
    have cS := step_q D (L) T told n (.slice ga n gc) (.slice ta 6 tc) a1 c1 wc (rdVs_grown HW.out.2.2.2.1 HS0.out.g) o1 (HRD.out.1 HS0.out.ot) HP.out.2.2.2.2.2.1 HP.out.2.2.2.2.2.2.2.1 (by exact HN.out) hn16 HK.out.2.2.2.2.1 HTL.out.1 HTL.out.2 T1 HU.out.1
    have HB1 := hidI b1
    clear b1 o1 l1 x1
    go_wp2_with fail
    refine cS.mono ?_
    rintro e w9 ⟨a2, c2, rfl, o2, g9⟩
    have HS1 := hidI (HS0.out.putT T1 g9 o2 HP.out.2.2.2.1)
    obtain ⟨f0, f1, f2, f3⟩ := fz4 (kept g9 HB1.out)
    obtain ⟨v0, v1, v2, v3⟩ := at4 (kept g9 HB1.out)
    have HFZ := hidI (kept g9 HB1.out)
    clear cS o2 g9 HB1 i0 i1 i2 j0 j1 j2 j3 HFZ
    go_upto_region 29 with fail
    generalize ((((w9.setCell ⟨q15, 0, none⟩ (.bool T1.d)).setCell ⟨q15, 1, none⟩ (.int .i64 T1.f)).setCell ⟨q15, 2, none⟩ (.slice a2 n c2)).setCell ⟨q15, 3, none⟩ (.bool T1.k)) = Y1 at HS1 ⊢
    clear f0 f1 f2 f3 v0 v1 v2 v3

    obtain ⟨a1, c1, b1, o1, l1, x1⟩ := HS1.out.u
    obtain ⟨i0, i1, i2⟩ := at3 (kept HS1.out.g HW.out.2.1)
    obtain ⟨j0, j1, j2, j3⟩ := at4 b1
    have cS := step_q D (L) U loud n (.slice ga n gc) (.slice (some ⟨lg, 0, none⟩) 6 lc) a1 c1 Y1 (rdVs_grown HW.out.2.2.2.1 HS1.out.g) o1 (HRD.out.2 HS1.out.ol) HP.out.2.2.2.2.2.1 HP.out.2.2.2.2.2.2.2.1 (by exact HN.out) hn16 HK.out.2.2.2.2.2.1 HL.out.2.2.2.2 HL.out.2.2.2.1 U1 HU.out.2.1
    have HB1 := hidI b1
    clear b1 o1 l1 x1
    go_wp2_with fail
    refine cS.mono ?_
    rintro e w9 ⟨a2, c2, rfl, o2, g9⟩
    have HS2 := hidI (HS1.out.putU U1 g9 o2 HP.out.2.2.2.2.1)
    obtain ⟨f0, f1, f2, f3⟩ := fz4 (kept g9 HB1.out)
    obtain ⟨v0, v1, v2, v3⟩ := at4 (kept g9 HB1.out)
    have HFZ := hidI (kept g9 HB1.out)
    clear cS o2 g9 HB1 i0 i1 i2 j0 j1 j2 j3 HFZ
    go_upto_region 30 with fail
    generalize ((((w9.setCell ⟨q17, 0, none⟩ (.bool U1.d)).setCell ⟨q17, 1, none⟩ (.int .i64 U1.f)).setCell ⟨q17, 2, none⟩ (.slice a2 n c2)).setCell ⟨q17, 3, none⟩ (.bool U1.k)) = Y2 at HS2 ⊢
    clear f0 f1 f2 f3 v0 v1 v2 v3

    obtain ⟨a1, c1, b1, o1, l1, x1⟩ := HS2.out.v
    obtain ⟨i0, i1, i2⟩ := at3 (kept HS2.out.g HW.out.2.2.1)
    obtain ⟨j0, j1, j2, j3⟩ := at4 b1
    have cS := step_q D (Lr L) T told n (.slice ha n hc) (.slice ta 6 tc) a1 c1 Y2 (rdVs_grown HW.out.2.2.2.2 HS2.out.g) o1 (HRD.out.1 HS2.out.ot) HP.out.2.2.2.2.2.2.1 HP.out.2.2.2.2.2.2.2.2.1 (by rw [Lr_len]; exact HN.out) hn16 HK.out.2.2.2.2.1 HTL.out.1 HTL.out.2 T1 HU.out.2.2
    have HB1 := hidI b1
    clear b1 o1 l1 x1
    go_wp2_with fail
    refine cS.mono ?_
    rintro e w9 ⟨a2, c2, rfl, o2, g9⟩
    have HS3 := hidI (HS2.out.putV T1 g9 o2 HP.out.2.2.2.1)
    obtain ⟨f0, f1, f2, f3⟩ := fz4 (kept g9 HB1.out)
    obtain ⟨v0, v1, v2, v3⟩ := at4 (kept g9 HB1.out)
    have HFZ := hidI (kept g9 HB1.out)
    clear cS o2 g9 HB1 i0 i1 i2 j0 j1 j2 j3 HFZ
    go_upto_region 31 with fail
    generalize ((((w9.setCell ⟨q19, 0, none⟩ (.bool T1.d)).setCell ⟨q19, 1, none⟩ (.int .i64 T1.f)).setCell ⟨q19, 2, none⟩ (.slice a2 n c2)).setCell ⟨q19, 3, none⟩ (.bool T1.k)) = Y3 at HS3 ⊢
    clear f0 f1 f2 f3 v0 v1 v2 v3

    obtain ⟨a1, c1, b1, -, -, -⟩ := HS3.out.t
    obtain ⟨a2, c2, b2, -, -, -⟩ := HS3.out.u
    obtain ⟨a3, c3, b3, -, -, -⟩ := HS3.out.v
    have HNX : Hid (w5.grownBy Y3 none ∧ TBx Y3 q15 [q15, q17, q19] n T1 ∧ TBx Y3 q17 [q15, q17, q19] n U1 ∧ TBx Y3 q19 [q15, q17, q19] n T1 ∧ mayB (D : Int) n T1 = true ∧ mayB (D : Int) n U1 = true ∧ Later n T1 U1) := hidI ⟨HS3.out.g, HS3.out.t, HS3.out.u, HS3.out.v, HP.out.1, HP.out.2.1, HP.out.2.2.1⟩
    obtain ⟨j0, j1, j2, j3⟩ := at4 b1
    obtain ⟨k0, k1, k2, k3⟩ := at4 b2
    obtain ⟨l0, l1, l2, l3⟩ := at4 b3
    have hdd := HP.out.2.2.2.2.2.2.2.2.2
    have hud := HP.out.2.2.1.2.2.2
    clear b1 b2 b3 HS0 HS1 HS2 HS3 HL HRD HOT HOL
    obtain ⟨d0, hd0⟩ : ∃ d, T.d = d := ⟨_, rfl⟩
    obtain ⟨d1, hd1⟩ : ∃ d, T1.d = d := ⟨_, rfl⟩
    obtain ⟨d2, hd2⟩ : ∃ d, U1.d = d := ⟨_, rfl⟩
    obtain ⟨f1, hf1⟩ : ∃ d, T1.f = d := ⟨_, rfl⟩
    have HD1 := hidI hd1
    rw [hd1] at j0 l0 hdd hud
    rw [hd2] at k0 hud
    rw [hf1] at j1 l1
    rw [hd0] at hdd ⊢
    clear hd0 hd1 hd2 hf1 j2 j3 k1 k2 k3 l2 l3
    cases d1 with
    | true =>
      have : d2 = true := hud rfl
      subst this
      clear hdd hud
      cases d0
      all_goals (
        go_wp2
        have hgl := HG.out
        go_roundg (ms - (k + 1))
        all_goals first | omega | exact ⟨k + 1, T1, U1, rfl, rfl, rfl, by rw [HD1.out], by go_num, by omega, by omega, HNX⟩)
    | false =>
      cases d0 with
      | true => exact absurd (hdd rfl) (by simp)
      | false =>
        clear hdd hud
        go_wp2
        have hgl := HG.out
        go_roundg (ms - (k + 1))
        all_goals first | omega | exact ⟨k + 1, T1, U1, rfl, rfl, rfl, by rw [HD1.out], by go_num, by omega, by omega, HNX⟩
  case neg =>
  have hk' : ¬ ((k : Int) < (ms : Int)) := by omega
  have HST : Hid (w5.grownBy wr none ∧ TBx wr q15 [q15] n T ∧ mayB (D : Int) n T = true ∧ Near D 0 T) := hidI ⟨HK.out.1, HK.out.2.1.sub (fun x hx => by simp at hx; simp [hx]), HK.out.2.2.2.2.1, .inr ⟨by
    obtain ⟨h1, h2, h3⟩ := mayB_iff.1 HK.out.2.2.2.2.1
    have h4 : 0 < T.h.length := by omega
    have h5 : T.h.getD 0 0 = T.h[0] := by simp [List.getD, h4]
    rw [h5]
    have := (h2 _ (List.getElem_mem h4)).1
    simpa using this, Nat.zero_le _⟩⟩
  clear HK HG
  go_wp2_with fail
  go_loopg [16, 26] (D + 1) (fun gk s16 s26 wx => ∃ (j : Nat) (T : Tr), s16 = .int .i64 0 ∧ s26 = .int .i64 j ∧ j ≤ D + 1 ∧ gk = D + 1 - j ∧ Hid (w5.grownBy wx none ∧ TBx wx q15 [q15] n T ∧ mayB (D : Int) n T = true ∧ Near D j T))
  case atStart => exact ⟨0, T, rfl, rfl, Nat.zero_le _, by omega, HST⟩
  case round =>
  clear HST
  obtain ⟨j, T2, rfl, rfl, hj, hgj, HJ⟩ := hrel
  have HGJ := hidI hgj
  clear hgj
  obtain ⟨a1, c1, b1, o1, l1, x1⟩ := HJ.out.2.1
  obtain ⟨i0, i1, i2⟩ := at3 (kept HJ.out.1 HW.out.2.1)
  obtain ⟨j0, j1, j2, j3⟩ := at4 b1
  by_cases hjD : j ≤ D
  case neg =>
    have hjn : ¬ ((j : Int) ≤ (D : Int)) := by omega
    have hdt : T2.d = true := by
      rcases HJ.out.2.2.2 with h | ⟨_, h⟩
      · exact h
      · omega
    rw [hdt] at j0
    clear b1 o1 l1 x1 hdt
    go_wp2
    go_ret
    exact ⟨rfl, grown_join HW.out.1 HJ.out.1 (.inl rfl)⟩
  have hjp : (j : Int) ≤ (D : Int) := by omega
  obtain ⟨T3, hT3⟩ : ∃ x, nextT (D : Int) L T2 [1, 1, 2, 0, 0, 0] false = x := ⟨_, rfl⟩
  have hmT : mayB (D : Int) L.length T2 = true := by rw [HN.out]; exact HJ.out.2.2.1
  have hmT3 : mayB (D : Int) n T3 = true := by rw [← hT3, ← HN.out]; exact next_may (by omega) hmT
  have hne3 : Near D (j + 1) T3 := by rw [← hT3]; exact near_next HIN.out.2.2.2.2.2.2.1 (by rw [HN.out]; omega) j hjD HJ.out.2.2.2
  have gA : wr.grownBy (wr.alloc (.cells #[.int .i64 1, .int .i64 1, .int .i64 2, .int .i64 0, .int .i64 0, .int .i64 0] 3)) none := gr_alloc (World.grownBy.refl _ _) _
  have cS := step_q D L T2 [1, 1, 2, 0, 0, 0] n (.slice ga n gc) _ a1 c1 _ (rdVs_grown HW.out.2.2.2.1 (grown_join HJ.out.1 gA (.inl rfl))) (o1.kept gA) (rd_last wr) HIN.out.2.2.1 HIN.out.2.2.2.1 HN.out hn16 HJ.out.2.2.1 rfl (by decide) T3 hT3
  have HP := hidI (And.intro hmT3 (And.intro hne3 (And.intro (mayB_iff.1 hmT3).1 gA)))
  have HB1 := hidI b1
  clear b1 o1 l1 x1 hT3 hmT hmT3 hne3 gA
  go_wp2_with fail
  refine cS.mono ?_
  rintro e w9 ⟨a2, c2, rfl, o2, g9⟩
  have hw9 : wr.grownBy w9 none := grown_join HP.out.2.2.2 g9 (.inl rfl)
  obtain ⟨f0, f1, f2, f3⟩ := fz4 (kept hw9 HB1.out)
  obtain ⟨v0, v1, v2, v3⟩ := at4 (kept hw9 HB1.out)
  have hlt1 := HJ.out.2.1.lt
  have hq15 := HQ.out.1
  have HNX : Hid (w5.grownBy ((((w9.setCell ⟨q15, 0, none⟩ (.bool T3.d)).setCell ⟨q15, 1, none⟩ (.int .i64 T3.f)).setCell ⟨q15, 2, none⟩ (.slice a2 n c2)).setCell ⟨q15, 3, none⟩ (.bool T3.k)) none ∧ TBx ((((w9.setCell ⟨q15, 0, none⟩ (.bool T3.d)).setCell ⟨q15, 1, none⟩ (.int .i64 T3.f)).setCell ⟨q15, 2, none⟩ (.slice a2 n c2)).setCell ⟨q15, 3, none⟩ (.bool T3.k)) q15 [q15] n T3 ∧ mayB (D : Int) n T3 = true ∧ Near D (j + 1) T3) := hidI ⟨gr4n (grown_join HJ.out.1 hw9 (.inl rfl)) hq15, (HJ.out.2.1.grow hw9).put o2 (fun x hx => by have := HP.out.2.2.2.size; simp at hx; simp; omega) HP.out.2.2.1 (by simp), HP.out.1, HP.out.2.1⟩
  clear cS o2 g9 hw9 HB1 hlt1 hq15 i0 i1 i2 j0 j1 j2 j3
  go_wp2
  have hgl := HGJ.out
  go_roundg (D + 1 - (j + 1))
  all_goals first | omega | exact ⟨j + 1, T3, rfl, by go_num, by omega, by omega, HNX⟩
end Go.Proofs.Ytefekafpmnaeoaa
