/- copyCode. -/
import Derived.Test.YtmkgobmlpmjocaaCa
namespace Go.Proofs.Ytmkgobmlpmjocaa
open Go.RowKit
attribute [local go_sem ↓] Go.wp_at_zero Go.wp_at_succ
set_option linter.unusedVariables false
set_option linter.unusedSimpArgs false

set_option maxRecDepth 10000 in
set_option maxHeartbeats 2000000 in
theorem copy_any (cv : Value) (ps : List Pr) (w : World) (hC : CdP w cv ps) (hB : BdP ps) :
    Calls Try.prog 5 #[.agg #[cv]] w fun e w' => ∃ v us, e = .returned (.agg #[v]) ∧ CopyAt w' (w.heap.size + 2) v us ∧ us.map Un.p = ps ∧ w.grownBy w' none := by
  obtain ⟨ca, cap, rfl, hcap, hc⟩ := hC
  have HC : Hid (ps = [] ∨ ∃ b off, ca = some ⟨b, off, none⟩ ∧ ∀ i, i < ps.length → ∃ fv sv tv, PrAt w b (off + i * 5) (ps.getD i pr0) fv sv tv) := hc
  have HBD : Hid (BdP ps) := hB
  have hl := hB.n
  clear hc hB
  obtain ⟨n, hn⟩ : ∃ n, ps.length = n := ⟨_, rfl⟩
  have HN : Hid (ps.length = n) := hn
  rw [hn] at hl hcap ⊢
  clear hn
  obtain ⟨H, hH⟩ : ∃ H, w.heap.size = H := ⟨_, rfl⟩
  obtain ⟨i4, hi4, z4, s4, b4⟩ := info_parts info27
  obtain ⟨i6, hi6, z6, s6, b6⟩ := info_parts info50
  obtain ⟨i7, hi7, z7, s7, b7⟩ := info_parts info54
  have I4 : Hid (Try.prog.info? 27 = some i4 ∧ i4.zero = some (.agg #[.int .i64 0, .string ByteArray.empty, .slice none 0 0, .slice none 0 0, .slice none 0 0]) ∧ i4.size = 5 ∧ i4.bytes = 96) := ⟨hi4, z4, s4, b4⟩
  have I6 : Hid (Try.prog.info? 50 = some i6 ∧ i6.zero = some (.agg #[.string ByteArray.empty, .int .i64 0, .int .i64 0, .int .i64 0, .bool false, .int .i64 0]) ∧ i6.size = 6 ∧ i6.bytes = 56) := ⟨hi6, z6, s6, b6⟩
  have I7 : Hid (Try.prog.info? 54 = some i7 ∧ i7.zero = some (.agg #[.int .i64 0, .int .i64 0, .int .i64 0, .int .i64 0]) ∧ i7.size = 4 ∧ i7.bytes = 32) := ⟨hi7, z7, s7, b7⟩
  clear hi4 z4 s4 b4 hi6 z6 s6 b6 hi7 z7 s7 b7
  go_enter Try.func5, Try.ntmps5
  go_wp2
  go_loopg [3, 4] n (fun gk s3 s4 wx => ∃ (k : Nat) (pa : Option Addr) (pc : Nat) (us : List Un), s3 = .slice pa k pc ∧ s4 = .int .i64 k ∧ k ≤ n ∧ gk = n - k ∧ us.length = k ∧ us.map Un.p = ps.take k ∧ CopyAt wx (H + 2) (.slice pa k pc) us ∧ wx.heap[H]? = some (.cells #[.slice ca n cap] 36) ∧ wx.heap[H + 1]? = some (.cells #[.slice none 0 0] 36) ∧ w.grownBy wx none ∧ H + 2 ≤ wx.heap.size)
  case atStart =>
    refine ⟨0, none, 0, [], rfl, rfl, Nat.zero_le _, by omega, rfl, by simp, ⟨World.ownsRow_nil _ _ _ _, fun i hi => by simp at hi⟩, ?_, ?_, gr_alloc (gr1 _ _) _, by simp [hH]⟩
    · rw [hp_old (by simp [hH]), hp_new hH.symm]
    · rw [hp_new (by simp [hH])]
  case round =>
    obtain ⟨k, pa, pc, us, rfl, rfl, hk, hgk, hul, hup, hcp, hb0, hb1, hgr, hsz⟩ := hrel
    have HG : Hid (gk = n - k) := hgk
    have HUL : Hid (us.length = k) := hul
    have HUP : Hid (us.map Un.p = ps.take k) := hup
    have HCP : Hid (CopyAt wr (H + 2) (.slice pa k pc) us) := hcp
    have HB0 : Hid (wr.heap[H]? = some (.cells #[.slice ca n cap] 36)) := hb0
    have HB1 : Hid (wr.heap[H + 1]? = some (.cells #[.slice none 0 0] 36)) := hb1
    have z0 := at_cell hb0 0
    simp at z0
    clear hgk hul hup hcp hb0 hb1
    by_cases hlt : k < n
    · have hkl : k < ps.length := by rw [HN.out]; exact hlt
      rcases HC.out with h | ⟨b', off, rfl, hc⟩
      · subst h; simp at hkl
      obtain ⟨fv, sv, tv, hp0⟩ := hc k hkl
      have hp := hp0.grown hgr
      have e1 := HBD.out.fs k hkl
      have e2 := HBD.out.sl k hkl
      have e3 := HBD.out.tx k hkl
      obtain ⟨p, hpe⟩ : ∃ p, ps.getD k pr0 = p := ⟨_, rfl⟩
      have HP : Hid (ps.getD k pr0 = p) := hpe
      rw [hpe] at hp e1 e2 e3
      obtain ⟨pk, pn, fs, sl, tx⟩ := p
      have HPA : Hid (PrAt wr b' (off + k * 5) ⟨pk, pn, fs, sl, tx⟩ fv sv tv) := hp
      obtain ⟨fa, fc, rfl, _⟩ := hp.first
      obtain ⟨sa, sc, rfl, hsl⟩ := hp.slots.cells
      obtain ⟨ta, tc, rfl, htx⟩ := hp.text.cells
      have q0 := hp.kind
      have q1 := hp.name
      have q2 := hp.fcell
      have q3 := hp.scell
      have q4 := hp.tcell
      dsimp only at e1 e2 e3 q0 q1 q2 q3 q4
      have cR : ∀ W, wr.grownBy W none → Calls Try.prog 15 #[.slice fa fs.length fc] W fun e w' => e = .returned (.slice (some ⟨W.heap.size, 0, none⟩) fs.length (fs.length + 5)) ∧ RoomAt w' W.heap.size fs ∧ W.grownBy w' none := fun W hW => roomy_any _ fs W (rd_grown HPA.out.first hW) e1
      have HSL : Hid (∀ W, wr.grownBy W none → sl.length = 0 ∨ ∃ b off, sa = some ⟨b, off, none⟩ ∧ ∀ j u, (sl.flatMap rowS)[j]? = some u → W.cell? ((⟨b, off, none⟩ : Addr).add j) = some u) := fun W hW => by
        rcases hsl with h | ⟨b, o, h, h2⟩
        · exact .inl h
        · exact .inr ⟨b, o, h, fun j u hj => hW.cell (h2 j u hj) (by simp)⟩
      have HTX : Hid (∀ W, wr.grownBy W none → tx.length = 0 ∨ ∃ b off, ta = some ⟨b, off, none⟩ ∧ ∀ j u, (tx.flatMap rowI)[j]? = some u → W.cell? ((⟨b, off, none⟩ : Addr).add j) = some u) := fun W hW => by
        rcases htx with h | ⟨b, o, h, h2⟩
        · exact .inl h
        · exact .inr ⟨b, o, h, fun j u hj => hW.cell (h2 j u hj) (by simp)⟩
      clear hp hp0 hpe hc hsl htx
      have i1 : (0 : Int) ≤ (k : Int) := by omega
      have i2 : (k : Int) < (n : Int) := by omega
      obtain ⟨nf, hnf⟩ : ∃ m, fs.length = m := ⟨_, rfl⟩
      obtain ⟨ns, hns⟩ : ∃ m, sl.length = m := ⟨_, rfl⟩
      obtain ⟨nt, hnt⟩ : ∃ m, tx.length = m := ⟨_, rfl⟩
      have HNF : Hid (fs.length = nf) := hnf
      have HNS : Hid (sl.length = ns) := hns
      have HNT : Hid (tx.length = nt) := hnt
      rw [hnf] at cR e1 q2
      rw [hns] at e2 q3
      rw [hnt] at e3 q4
      clear hnf hns hnt
      have HSN : Hid (∀ W, wr.grownBy W none → ns = 0 ∨ ∃ b off, sa = some ⟨b, off, none⟩ ∧ ∀ j u, (sl.flatMap rowS)[j]? = some u → W.cell? ((⟨b, off, none⟩ : Addr).add j) = some u) := fun W hW => by have := HSL.out W hW; rw [HNS.out] at this; exact this
      have HTN : Hid (∀ W, wr.grownBy W none → nt = 0 ∨ ∃ b off, ta = some ⟨b, off, none⟩ ∧ ∀ j u, (tx.flatMap rowI)[j]? = some u → W.cell? ((⟨b, off, none⟩ : Addr).add j) = some u) := fun W hW => by have := HTX.out W hW; rw [HNT.out] at this; exact this
      have HLS : Hid ((sl.flatMap rowS).length = ns * 6) := (by rw [flat_len rowS 6 rowS_len, HNS.out] : (sl.flatMap rowS).length = ns * 6)
      have HLT : Hid ((tx.flatMap rowI).length = nt * 4) := (by rw [flat_len rowI 4 rowI_len, HNT.out] : (tx.flatMap rowI).length = nt * 4)
      clear HSL HTX
      go_wp2_with fail
      refine (cR _ (gr_alloc (World.grownBy.refl _ _) _)).mono ?_
      rintro e w1 ⟨rfl, hR, hg1⟩
      have ez : ∀ o : Obj, (wr.alloc o).heap.size = wr.heap.size + 1 := fun o => by simp
      rw [ez] at hR
      have HR : Hid (RoomAt w1 (wr.heap.size + 1) fs) := hR
      have hX1 : w1.heap[wr.heap.size]? = some (.cells #[.int .i64 pk, .string pn, .slice fa nf fc, .slice sa ns sc, .slice ta nt tc] 27) := kept hg1 (heap_alloc_new _ _)
      have HX1 : Hid (w1.heap[wr.heap.size]? = some (.cells #[.int .i64 pk, .string pn, .slice fa nf fc, .slice sa ns sc, .slice ta nt tc] 27)) := hX1
      have d2 := at_cell hX1 2
      have d3 := at_cell hX1 3
      simp at d2 d3
      have f2 := at_frozen hX1 2
      have hgw1 : wr.grownBy w1 none := (gr1 _ _).trans hg1
      have hs1 := hg1.size
      simp at hs1
      clear hR hX1 hg1 cR q0 q1 q2 q3 q4
      go_wp2_with (first
        | (at_builtin
           refine wpList_append_all rfl _ _ 24 rfl 50 i6 _ 6 56 Try.underlying24 I6.out.1 I6.out.2.1 I6.out.2.2.1 I6.out.2.2.2 rfl (by omega) sa ns sc (sl.flatMap rowS) rfl rfl HLS.out (HSN.out _ (gr_own hgw1 (Nat.le_refl _) _ _)) (rowS_one sl) (by unfold maxLen; omega) (by omega) ?_
           intro oa oc w2 hown2 hg2
           have hX2 : w2.heap[wr.heap.size]? = some (.cells #[.int .i64 pk, .string pn, .slice (some ⟨wr.heap.size + 1, 0, none⟩) nf (nf + 5), .slice sa ns sc, .slice ta nt tc] 27) := kept hg2 (by simpa using at_set HX1.out 2 (.slice (some ⟨wr.heap.size + 1, 0, none⟩) nf (nf + 5)))
           have HX2 : Hid (w2.heap[wr.heap.size]? = some (.cells #[.int .i64 pk, .string pn, .slice (some ⟨wr.heap.size + 1, 0, none⟩) nf (nf + 5), .slice sa ns sc, .slice ta nt tc] 27)) := hX2
           have d3' := at_cell hX2 3
           simp at d3'
           have f3 := at_frozen hX2 3
           have hgw2 : wr.grownBy w2 none := (gr_own hgw1 (Nat.le_refl _) _ _).trans hg2
           have HR2 : Hid (RoomAt w2 (wr.heap.size + 1) fs) := (RoomAt.butO HR.out (gr_set (World.grownBy.refl w1 (some wr.heap.size)) _ _) (by simp)).kept hg2
           have HO2 : Hid (w2.ownsRow (wr.heap.size + 1) 50 6 (.slice oa ns oc) ns (sl.flatMap rowS)) := by
             refine ⟨hown2.1, ?_⟩
             rcases hown2.2 with h | ⟨g, c, cur, h1, h2, h3⟩
             · exact .inl h
             · exact .inr ⟨g, c, cur, h1, by simp at h2; omega, h3⟩
           clear hX2 hown2 d2 d3 f2))
      generalize hw3 : w2.setCell ⟨wr.heap.size, 3, none⟩ (.slice oa ns oc) = w3
      have hg23 : w2.grownBy w3 (some wr.heap.size) := hw3 ▸ gr_set (World.grownBy.refl _ _) _ _
      have hX3 : w3.heap[wr.heap.size]? = some (.cells #[.int .i64 pk, .string pn, .slice (some ⟨wr.heap.size + 1, 0, none⟩) nf (nf + 5), .slice oa ns oc, .slice ta nt tc] 27) := by rw [← hw3]; simpa using at_set HX2.out 3 (.slice oa ns oc)
      have hgw3 : wr.grownBy w3 none := hw3 ▸ gr_own hgw2 (Nat.le_refl _) _ _
      have HR3 : Hid (RoomAt w3 (wr.heap.size + 1) fs) := RoomAt.butO HR2.out hg23 (by simp)
      have HO3 : Hid (w3.ownsRow (wr.heap.size + 1) 50 6 (.slice oa ns oc) ns (sl.flatMap rowS)) := World.ownsRow.kept HO2.out hg23 (.inr fun e => by have := (World.ownsRow.lt HO2.out _ e).1; omega)
      have hs3 : wr.heap.size + 1 < w3.heap.size := by obtain ⟨_, h, _⟩ := HR3.out; exact at_lt h
      have d4 := at_cell hX3 4
      simp at d4
      have f4 := at_frozen hX3 4
      have HX3 : Hid (w3.heap[wr.heap.size]? = some (.cells #[.int .i64 pk, .string pn, .slice (some ⟨wr.heap.size + 1, 0, none⟩) nf (nf + 5), .slice oa ns oc, .slice ta nt tc] 27)) := hX3
      clear hX3 hw3 hg23 hgw2 hg2 HR2 HO2 HX2 HX1 HR hgw1 hs1 d3' f3
      have j1 : (0 : Int) ≤ (nt : Int) := by omega
      have k3a : ∀ o : Obj, (w3.alloc o).cell? ⟨wr.heap.size, 4, none⟩ = some (.slice ta nt tc) := fun o => (gr1 w3 o).cell d4 (by simp)
      go_cut [5] (fun s5 wx => s5 = .pointer (some ⟨wr.heap.size, 0, none⟩) ∧ ∃ g tcap, nt + 1 ≤ tcap ∧ Hid (wx.heap[wr.heap.size]? = some (.cells #[.int .i64 pk, .string pn, .slice (some ⟨wr.heap.size + 1, 0, none⟩) nf (nf + 5), .slice oa ns oc, .slice (some ⟨g, 0, none⟩) nt tcap] 27)) ∧ wr.grownBy wx none ∧ Hid (wx.ownsRow (wr.heap.size + 1) 54 4 (.slice (some ⟨g, 0, none⟩) (nt + 1) tcap) (nt + 1) (tx.flatMap rowI ++ rowI ⟨0, -9, 0, 0⟩)) ∧ Hid (RoomAt wx (wr.heap.size + 1) fs) ∧ Hid (wx.ownsRow (wr.heap.size + 1) 50 6 (.slice oa ns oc) ns (sl.flatMap rowS)))
      case first =>
        go_region_law (first
        | (refine step_append_lies _ (by rfl) _ _ 25 (by rfl) _ 54 i7 _ 4 32 Try.underlying25 I7.out.1 I7.out.2.1 I7.out.2.2.1 I7.out.2.2.2 rfl (by omega) (.slice ta4 nt tc4) nt (tx.flatMap rowI) (by rfl) (hown4.alloc _) ⟨w4.heap.size, 0, none⟩ 1 1 (rowI ⟨0, -9, 0, 0⟩) (by rfl) rfl (World.news_of_block (heap_alloc_new w4 _)) (by simp [rowI, Value.oneCell']) (by omega) (by unfold maxLen; omega) (by omega) (by have := hg4.size; simp at this ⊢; omega) _ rfl ?_
           intro g tcap w5 hown5 hg5 hat5 hlt5
           have hw45 : w4.grownBy w5 (Value.slice ta4 nt tc4).ownBlock := grown_join (World.grownBy_alloc w4 _ _) hg5 (.inl rfl)
           have hX5 := (hw45.block wr.heap.size (at_lt hX4) hne4).trans hX4
           have f5 := at_frozen hX5 4
           have k5 := at_cell hX5 4
           simp at k5
           have HX5 : Hid (w5.heap[wr.heap.size]? = _) := hX5
           have hcap5 := own_cap hown5
           have hi5 : (nt : Int) ≤ (tcap : Int) := by omega
           have HW5 : Hid (wr.grownBy w5 none ∧ w5.ownsRow (wr.heap.size + 1) 54 4 (.slice (some ⟨g, 0, none⟩) (nt + 1) tcap) (nt + 1) (tx.flatMap rowI ++ rowI ⟨0, -9, 0, 0⟩) ∧ RoomAt w5 (wr.heap.size + 1) fs ∧ w5.ownsRow (wr.heap.size + 1) 50 6 (.slice oa ns oc) ns (sl.flatMap rowS)) := ⟨grown_join (hgw3.trans hw34) hw45 (.inr fun x hx => by have := hb4 x hx; omega), own_less hown5 (by simp; omega), RoomAt.butO HR4.out hw45 (fun e => by have := hb4 _ e; omega), World.ownsRow.kept HO4.out hw45 (own_apart HO3.out hb4)⟩
           clear hX5)
        | (refine step_append_lies _ (by rfl) _ _ 25 (by rfl) _ 54 i7 _ 4 32 Try.underlying25 I7.out.1 I7.out.2.1 I7.out.2.2.1 I7.out.2.2.2 rfl (by omega) (.slice ta4 nt tc4) nt (tx.flatMap rowI) (by rfl) hown4 ⟨w3.heap.size, 0, none⟩ 1 1 (rowI ⟨0, -9, 0, 0⟩) (by rfl) rfl (World.news_of_block (kept hg4 (show (w3.alloc (.cells #[.int .i64 0, .int .i64 (-9), .int .i64 0, .int .i64 0] 54)).drew.heap[w3.heap.size]? = _ from heap_alloc_new w3 _))) (by simp [rowI, Value.oneCell']) (by omega) (by unfold maxLen; omega) (by omega) (by have := hg4.size; simp at this ⊢; omega) _ rfl ?_
           intro g tcap w5 hown5 hg5 hat5 hlt5
           have hw45 : w4.grownBy w5 (Value.slice ta4 nt tc4).ownBlock := hg5
           have hX5 := (hw45.block wr.heap.size (at_lt hX4) hne4).trans hX4
           have f5 := at_frozen hX5 4
           have k5 := at_cell hX5 4
           simp at k5
           have HX5 : Hid (w5.heap[wr.heap.size]? = _) := hX5
           have hcap5 := own_cap hown5
           have hi5 : (nt : Int) ≤ (tcap : Int) := by omega
           have HW5 : Hid (wr.grownBy w5 none ∧ w5.ownsRow (wr.heap.size + 1) 54 4 (.slice (some ⟨g, 0, none⟩) (nt + 1) tcap) (nt + 1) (tx.flatMap rowI ++ rowI ⟨0, -9, 0, 0⟩) ∧ RoomAt w5 (wr.heap.size + 1) fs ∧ w5.ownsRow (wr.heap.size + 1) 50 6 (.slice oa ns oc) ns (sl.flatMap rowS)) := ⟨grown_join (hgw3.trans hw34) hw45 (.inr fun x hx => by have := hb4 x hx; omega), own_less hown5 (by simp; omega), RoomAt.butO HR4.out hw45 (fun e => by have := hb4 _ e; omega), World.ownsRow.kept HO4.out hw45 (own_apart HO3.out hb4)⟩
           clear hX5)
        | (refine step_append_all (by rfl) _ _ 25 (by rfl) 54 i7 _ 4 32 Try.underlying25 I7.out.1 I7.out.2.1 I7.out.2.2.1 I7.out.2.2.2 rfl (by omega) ta nt tc (tx.flatMap rowI) (by rfl) (by rfl) HLT.out (HTN.out _ (by first | exact gr_drew hgw3 | exact gr_alloc (gr_drew hgw3) _ | exact gr_drew (gr_alloc hgw3 _))) (rowI_one tx) (by unfold maxLen; omega) (by omega) ?_
           intro ta4 tc4 w4 hown4 hg4
           have hw34 : w3.grownBy w4 none := by first | exact (gr_drew (World.grownBy.refl w3 none)).trans hg4 | exact (gr_alloc (gr_drew (World.grownBy.refl w3 none)) _).trans hg4 | exact (gr_drew (gr_alloc (World.grownBy.refl w3 none) _)).trans hg4
           have hb4 : ∀ y, (Value.slice ta4 nt tc4).ownBlock = some y → w3.heap.size ≤ y := fun y hy => by have := (World.ownsRow.lt hown4 y hy).1; simp at this; omega
           have hX4 : w4.heap[wr.heap.size]? = some (.cells #[.int .i64 pk, .string pn, .slice (some ⟨wr.heap.size + 1, 0, none⟩) nf (nf + 5), .slice oa ns oc, .slice ta nt tc] 27) := kept hw34 HX3.out
           have k4 := at_cell hX4 4
           simp at k4
           have k4a : ∀ o : Obj, (w4.alloc o).cell? ⟨wr.heap.size, 4, none⟩ = some (.slice ta nt tc) := fun o => (gr1 w4 o).cell k4 (by simp)
           have HR4 : Hid (RoomAt w4 (wr.heap.size + 1) fs) := HR3.out.kept hw34
           have HO4 : Hid (w4.ownsRow (wr.heap.size + 1) 50 6 (.slice oa ns oc) ns (sl.flatMap rowS)) := own_keptN HO3.out hw34
           have hne4 : some wr.heap.size ≠ (Value.slice ta4 nt tc4).ownBlock := fun e => by have := hb4 _ e.symm; omega))
        all_goals go_wp2_with fail
        all_goals go_meet
        all_goals refine ⟨rfl, g, tcap, hcap5, (by have h := at_set HX5.out 4 (.slice (some ⟨g, 0, none⟩) nt tcap); simp at h; exact h), gr_own HW5.out.1 (Nat.le_refl _) _ _, World.ownsRow.kept HW5.out.2.1 (gr_set (World.grownBy.refl _ (some wr.heap.size)) _ _) (.inr fun e => by have := (World.ownsRow.lt HW5.out.2.1 _ e).1; omega), RoomAt.butO HW5.out.2.2.1 (gr_set (World.grownBy.refl _ (some wr.heap.size)) _ _) (by simp), World.ownsRow.kept HW5.out.2.2.2 (gr_set (World.grownBy.refl _ (some wr.heap.size)) _ _) (.inr fun e => by have := (World.ownsRow.lt HW5.out.2.2.2 _ e).1; omega)⟩
      case rest =>
        obtain ⟨rfl, g, tcap, hcap5, HX6, hgw6, HT6, HR6, HO6⟩ := hcut
        have d0 := at_cell HX6.out 0
        have d1 := at_cell HX6.out 1
        have d2 := at_cell HX6.out 2
        have d3 := at_cell HX6.out 3
        have d5 := at_cell HX6.out 4
        simp at d0 d1 d2 d3 d5
        have hs6 : wr.heap.size + 1 < wc.heap.size := by obtain ⟨_, h, _⟩ := HR6.out; exact at_lt h
        have HPW : Hid (wc.ownsRow (H + 2) 27 5 (.slice pa k pc) k (rowsU us)) := by
          have := own_keptN HCP.out.1 hgw6
          rw [HUL.out] at this
          exact this
        have HPB : Hid (∀ y, (Value.slice pa k pc).ownBlock = some y → y < wr.heap.size) := fun y hy => (World.ownsRow.lt HCP.out.1 y hy).2
        have HCN : Hid (CpAt wc (H + 2) (Value.slice pa k pc).ownBlock ⟨⟨pk, pn, fs, sl, tx⟩, .slice (some ⟨wr.heap.size + 1, 0, none⟩) nf (nf + 5), .slice oa ns oc, .slice (some ⟨g, 0, none⟩) nt tcap⟩) := by
          have := cp_new (w := wc) (B := H + 2) (X := wr.heap.size) (x := (Value.slice pa k pc).ownBlock) (pk := pk) (pn := pn) (fs := fs) (sl := sl) (tx := tx) (oa := oa) (oc := oc) (g := g) (tcap := tcap) (by omega) HR6.out (by rw [HNS.out]; exact HO6.out) (by rw [HNT.out]; exact HT6.out) (fun y hy => by have := HPB.out y hy; omega)
          rw [HNF.out, HNS.out, HNT.out] at this
          exact this
        clear d4 f4 k3a HX3 HR3 HO3 hgw3 hs3
        go_wp2_with (first
          | (at_builtin
             refine wpList_append_lies _ rfl _ _ 34 rfl (H + 2) 27 i4 _ 5 96 Try.underlying34 I4.out.1 I4.out.2.1 I4.out.2.2.1 I4.out.2.2.2 rfl (by omega) (.slice pa k pc) k (rowsU us) rfl (World.ownsRow.alloc HPW.out _) ⟨wc.heap.size, 0, none⟩ 1 1 (rowU ⟨⟨pk, pn, fs, sl, tx⟩, .slice (some ⟨wr.heap.size + 1, 0, none⟩) nf (nf + 5), .slice oa ns oc, .slice (some ⟨g, 0, none⟩) nt tcap⟩) rfl rfl (World.news_of_block (heap_alloc_new wc _)) (by simp [rowU, Value.oneCell']) (by omega) (by unfold maxLen; omega) (by omega) (by simp; omega) _ rfl ?_
             intro g7 cap7 w7 hown7 hg7 hat7 hlt7
             have HO7 : Hid (w7.ownsRow (H + 2) 27 5 (.slice (some ⟨g7, 0, none⟩) (k + 1) cap7) (k + 1) _) := hown7
             have HA7 : Hid ((Value.slice pa k pc).ownBlock = some g7 ∨ g7 = _) := hat7
             have HG7 : Hid (wc.grownBy w7 (Value.slice pa k pc).ownBlock) := grown_join (World.grownBy_alloc wc _ _) hg7 (.inl rfl)
             clear hown7 hat7 hg7 hlt7 d0 d1 d2 d3 d5))
        have hgl := HG.out
        go_roundg (n - (k + 1))
        all_goals first | omega | skip
        have hw7 : wr.grownBy w7 (Value.slice pa k pc).ownBlock := grown_join (gr_any hgw6) HG7.out (.inl rfl)
        have hsz7 := HG7.out.size
        have hg7s : (some g7 : Option Nat) = (Value.slice pa k pc).ownBlock ∨ ∀ y, (some g7 : Option Nat) = some y → y < H + 2 ∨ wc.heap.size ≤ y := by
          rcases HA7.out with h | h
          · exact .inl h.symm
          · right
            intro y hy
            simp at hy h
            omega
        have hrow : ∀ y, (Value.slice pa k pc).ownBlock = some y → H + 2 ≤ y := fun y hy => (World.ownsRow.lt HCP.out.1 y hy).1
        refine ⟨k + 1, some ⟨g7, 0, none⟩, cap7, us ++ [⟨⟨pk, pn, fs, sl, tx⟩, .slice (some ⟨wr.heap.size + 1, 0, none⟩) nf (nf + 5), .slice oa ns oc, .slice (some ⟨g, 0, none⟩) nt tcap⟩], rfl, by go_num, by omega, by omega, by simp [HUL.out], ?_, ⟨?_, fun i hi => ?_⟩, ?_, ?_, ?_, by omega⟩
        · rw [List.map_append, HUP.out, List.take_add_one]
          congr 1
          have : ps[k]? = some ⟨pk, pn, fs, sl, tx⟩ := by
            rw [List.getElem?_eq_getElem hkl, ← HP.out]
            simp [List.getD, hkl]
          rw [this]
          rfl
        · rw [List.length_append, HUL.out, rowsU_more]
          exact HO7.out
        · simp [HUL.out] at hi
          by_cases hik : i < k
          · have e : (us ++ [(⟨⟨pk, pn, fs, sl, tx⟩, .slice (some ⟨wr.heap.size + 1, 0, none⟩) nf (nf + 5), .slice oa ns oc, .slice (some ⟨g, 0, none⟩) nt tcap⟩ : Un)]).getD i un0 = us.getD i un0 := by
              simp [List.getD, List.getElem?_append_left (show i < us.length by rw [HUL.out]; exact hik)]
            rw [e]
            refine (HCP.out.2 i (by rw [HUL.out]; exact hik)).but hw7 (.inr (.inl rfl)) ?_
            rcases hg7s with h | h
            · exact .inl h
            · right
              intro y hy
              rcases h y hy with h | h
              · exact .inl h
              · right; omega
          · have e0 : i = k := by omega
            subst e0
            have e : (us ++ [(⟨⟨pk, pn, fs, sl, tx⟩, .slice (some ⟨wr.heap.size + 1, 0, none⟩) nf (nf + 5), .slice oa ns oc, .slice (some ⟨g, 0, none⟩) nt tcap⟩ : Un)]).getD i un0 = ⟨⟨pk, pn, fs, sl, tx⟩, .slice (some ⟨wr.heap.size + 1, 0, none⟩) nf (nf + 5), .slice oa ns oc, .slice (some ⟨g, 0, none⟩) nt tcap⟩ := by
              rw [← HUL.out]; simp [List.getD]
            rw [e]
            exact HCN.out.but HG7.out (.inr (.inl rfl)) hg7s
        · exact (hw7.block H (at_lt HB0.out) (fun e => by have := hrow _ e.symm; omega)).trans HB0.out
        · exact (hw7.block (H + 1) (at_lt HB1.out) (fun e => by have := hrow _ e.symm; omega)).trans HB1.out
        · exact grown_join hgr hw7 (.inr fun y hy => by have := hrow y hy; omega)
    · have hkn : k = n := by omega
      subst hkn
      have hk' : ¬ ((k : Int) < (k : Int)) := by omega
      have z1 := at_cell HB1.out 0
      simp at z1
      have f1 := at_frozen HB1.out 0
      clear HG
      go_wp2
      refine bodyPost_ret (v := .agg #[.slice pa k pc]) (by simp [results, Try.results5, go_sem, z1]) rfl ?_
      refine ⟨.slice pa k pc, rfl, us, ?_, ?_, gr_own hgr (by omega) _ _⟩
      · exact HCP.out.kept (gr_set (World.grownBy.refl wr (some (H + 1))) 0 _) (fun y hy => by simp at hy; omega)
      · rw [HUP.out]
        exact List.take_of_length_le (by rw [HN.out]; exact Nat.le_refl _)
end Go.Proofs.Ytmkgobmlpmjocaa
