/- The law of ChangeCarry, walked. -/
import Derived.Test.YtmkgobmlpmjocaaQ
import Derived.Deep.CutBlock
import Derived.Deep.DeepCutAuto
namespace Go.Proofs.Ytmkgobmlpmjocaa
open Go.RowKit
attribute [local go_sem ↓] Go.wp_at_zero Go.wp_at_succ
set_option linter.unusedVariables false
set_option linter.unusedSimpArgs false

set_option maxRecDepth 10000 in
set_option maxHeartbeats 2000000 in
theorem law_any (k k' : Int) (nm nm' : ByteArray) (ra oa na : Option Addr) (rc oc nc : Nat) (sv tv sv' tv' : Value) (fr fo fn : List Int) (so sn : List Slt) (xto xtn : List Ins) (w : World)
    (hr : rd w (.slice ra fr.length rc) fr) (hcap : fr.length ≤ rc) (ho : rd w (.slice oa fo.length oc) fo) (hn : rd w (.slice na fn.length nc) fn) (hSo : SlAt w sv so) (hSn : SlAt w sv' sn) (hTo : TxtAt w tv xto) (hTn : TxtAt w tv' xtn) (hwo : ∀ s ∈ so, WfS s) (hwn : ∀ s ∈ sn, WfS s)
    (hB : BdP [⟨k, nm, fo, so, xto⟩, ⟨k', nm', fn, sn, xtn⟩]) (hrb : fr.length ≤ 17592186043904) :
    Calls Try.prog 3 #[pV k nm (.slice oa fo.length oc) sv tv, .slice ra fr.length rc, pV k' nm' (.slice na fn.length nc) sv' tv'] w fun e w' => e = .returned (.bool true) ∧ w.grownBy w' none := by
  have HSO : Hid (SlAt w sv so) := hSo
  have HSN : Hid (SlAt w sv' sn) := hSn
  have HTO : Hid (TxtAt w tv xto) := hTo
  have HTN : Hid (TxtAt w tv' xtn) := hTn
  have HR : Hid (rd w (.slice ra fr.length rc) fr) := hr
  have HO : Hid (rd w (.slice oa fo.length oc) fo) := ho
  have HN : Hid (rd w (.slice na fn.length nc) fn) := hn
  have HWO : Hid (∀ s ∈ so, WfS s) := hwo
  have HWN : Hid (∀ s ∈ sn, WfS s) := hwn
  have HBD : Hid (BdP [⟨k, nm, fo, so, xto⟩, ⟨k', nm', fn, sn, xtn⟩]) := hB
  have cR : ∀ W, w.grownBy W none → Calls Try.prog 4 #[pV k nm (.slice oa fo.length oc) sv tv, .slice ra fr.length rc, pV k' nm' (.slice na fn.length nc) sv' tv'] W fun e w' => CarP W w' e (carE fr fo so fn sn) (carR fr fo so fn sn) (carL fr fo so fn sn) (carH fr fo so fn sn) :=
    fun W hW => Carried_any k k' nm nm' ra oa na rc oc nc sv tv sv' tv' fr fo fn so sn W (rd_grown hr hW) hcap (rd_grown ho hW) (rd_grown hn hW) (hSo.grown hW) (hSn.grown hW) hwo hwn
  have cC : ∀ (j j' : Int) (m m' : ByteArray) (fa ga ha : Option Addr) (fc gc hc : Nat) (v u v' u' : Value) W, rd W (.slice fa fr.length fc) fr → fr.length ≤ fc → rd W (.slice ga fo.length gc) fo → rd W (.slice ha fn.length hc) fn → SlAt W v so → SlAt W v' sn → Calls Try.prog 6 #[pV j m (.slice ga fo.length gc) v u, .slice fa fr.length fc, pV j' m' (.slice ha fn.length hc) v' u'] W fun e w' => CarP W w' e (carE fr fo so fn sn) (carR fr fo so fn sn) (carL fr fo so fn sn) (carH fr fo so fn sn) :=
    fun j j' m m' fa ga ha fc gc hc v u v' u' W q1 q2 q3 q4 q5 q6 => Carry_any j j' m m' fa ga ha fc gc hc v u v' u' fr fo fn so sn W q1 q2 q3 q4 q5 q6 hwo hwn
  have HCC := hidI cC
  obtain ⟨hLF, hLL, hLH⟩ := carR_len fr fo so fn sn
  generalize carE fr fo so fn sn = er at cR cC
  generalize carR fr fo so fn sn = F at cR cC hLF
  generalize carL fr fo so fn sn = L at cR cC hLL
  generalize carH fr fo so fn sn = H at cR cC hLH
  clear HCC
  have HCC := hidI cC
  have HLEN := hidI (And.intro hLF (And.intro hLL hLH))
  clear cC hr ho hn hwo hwn hB hLF hLL hLH
  obtain ⟨sa, sc, rfl, hS1⟩ := hSo
  obtain ⟨ta, tc, rfl, hS2⟩ := hSn
  obtain ⟨xa, xc, rfl, hS3⟩ := hTo
  obtain ⟨ya, yc, rfl, hS4⟩ := hTn
  clear hS1 hS2 hS3 hS4
  obtain ⟨qr, hqr⟩ : ∃ q, fr.length = q := ⟨_, rfl⟩
  obtain ⟨qo, hqo⟩ : ∃ q, fo.length = q := ⟨_, rfl⟩
  obtain ⟨qn, hqn⟩ : ∃ q, fn.length = q := ⟨_, rfl⟩
  obtain ⟨mo, hmo⟩ : ∃ q, so.length = q := ⟨_, rfl⟩
  obtain ⟨mn, hmn⟩ : ∃ q, sn.length = q := ⟨_, rfl⟩
  obtain ⟨xo, hxo⟩ : ∃ q, xto.length = q := ⟨_, rfl⟩
  obtain ⟨xn, hxn⟩ : ∃ q, xtn.length = q := ⟨_, rfl⟩
  have HQ := hidI (And.intro hqr (And.intro hqo (And.intro hqn (And.intro hmo (And.intro hmn (And.intro hxo hxn))))))
  unfold pV at cR ⊢
  rw [hqr, hqo, hqn, hmo, hmn, hxo, hxn] at cR ⊢
  rw [hqr] at hcap hrb
  clear hqr hqo hqn hmo hmn hxo hxn
  obtain ⟨p, hp⟩ : ∃ p, w.heap.size = p := ⟨_, rfl⟩
  have HP : Hid (w.heap.size = p) := hp
  generalize hw0 : (w.alloc (.cells #[.int .i64 k, .string nm, .slice oa qo oc, .slice sa mo sc, .slice xa xo xc] 27)).alloc (.cells #[.int .i64 k', .string nm', .slice na qn nc, .slice ta mn tc, .slice ya xn yc] 27) = w0
  have hg0 : w.grownBy w0 none := by rw [← hw0]; exact gr_alloc (gr1 _ _) _
  have b0 : w0.heap[p]? = some (.cells #[.int .i64 k, .string nm, .slice oa qo oc, .slice sa mo sc, .slice xa xo xc] 27) := by rw [← hw0, hp_old (by simp; omega)]; exact hp_new hp.symm _
  have b1 : w0.heap[p + 1]? = some (.cells #[.int .i64 k', .string nm', .slice na qn nc, .slice ta mn tc, .slice ya xn yc] 27) := by rw [← hw0]; exact hp_new (by simp; omega) _
  have x0 := at_cell b0 0
  have x1 := at_cell b0 1
  have x2 := at_cell b0 2
  have x3 := at_cell b0 3
  have x4 := at_cell b0 4
  have y0 := at_cell b1 0
  have y1 := at_cell b1 1
  have y2 := at_cell b1 2
  have y3 := at_cell b1 3
  have y4 := at_cell b1 4
  simp at x0 x1 x2 x3 x4 y0 y1 y2 y3 y4
  have B0 := hidI b0
  have B1 := hidI b1
  clear b0 b1
  go_enter Try.func3, Try.ntmps3
  go_wp2_with fail
  refine (cR _ hg0).mono ?_
  rintro e w1 ⟨fa, fc, la, lc, ha, hc, E1, E2, rfl, oF, oL, oH, e1, e2, e3, e4, hg1⟩
  have hgw1 := hg0.trans hg1
  have HWANT := hidI (And.intro oF (And.intro oL oH))
  have b0 := kept hg1 B0.out
  have b1 := kept hg1 B1.out
  obtain ⟨nF, hnF⟩ : ∃ q, F.length = q := ⟨_, rfl⟩
  obtain ⟨nL, hnL⟩ : ∃ q, L.length = q := ⟨_, rfl⟩
  obtain ⟨nH, hnH⟩ : ∃ q, H.length = q := ⟨_, rfl⟩
  have HNS := hidI (And.intro hnF (And.intro hnL hnH))
  rw [hnF, hnL, hnH]
  clear hw0 x0 x1 x2 x3 x4 y0 y1 y2 y3 y4 oF oL oH e1 e2 e3 e4 hnF hnL hnH cR
  have x0 := at_cell (kept (gr1 w1 (.cells #[.slice fa nF fc, .slice la nL lc, .slice ha nH hc] 30)) b0) 0
  have x1 := at_cell (kept (gr1 w1 (.cells #[.slice fa nF fc, .slice la nL lc, .slice ha nH hc] 30)) b0) 1
  have x2 := at_cell (kept (gr1 w1 (.cells #[.slice fa nF fc, .slice la nL lc, .slice ha nH hc] 30)) b0) 2
  have x3 := at_cell (kept (gr1 w1 (.cells #[.slice fa nF fc, .slice la nL lc, .slice ha nH hc] 30)) b0) 3
  have x4 := at_cell (kept (gr1 w1 (.cells #[.slice fa nF fc, .slice la nL lc, .slice ha nH hc] 30)) b0) 4
  have y0 := at_cell (kept (gr1 w1 (.cells #[.slice fa nF fc, .slice la nL lc, .slice ha nH hc] 30)) b1) 0
  have y1 := at_cell (kept (gr1 w1 (.cells #[.slice fa nF fc, .slice la nL lc, .slice ha nH hc] 30)) b1) 1
  have y2 := at_cell (kept (gr1 w1 (.cells #[.slice fa nF fc, .slice la nL lc, .slice ha nH hc] 30)) b1) 2
  have y3 := at_cell (kept (gr1 w1 (.cells #[.slice fa nF fc, .slice la nL lc, .slice ha nH hc] 30)) b1) 3
  have y4 := at_cell (kept (gr1 w1 (.cells #[.slice fa nF fc, .slice la nL lc, .slice ha nH hc] 30)) b1) 4
  simp at x0 x1 x2 x3 x4 y0 y1 y2 y3 y4
  have B0' := hidI b0
  have B1' := hidI b1
  clear b0 b1
  go_wp2_with fail
  obtain ⟨T, hT⟩ : ∃ T, w1.heap.size = T := ⟨_, rfl⟩
  rw [hT]
  generalize hw2 : ((w1.alloc (.cells #[.slice fa nF fc, .slice la nL lc, .slice ha nH hc] 30)).alloc (.cells #[.int .i64 k, .string nm, .slice oa qo oc, .slice sa mo sc, .slice xa xo xc, .int .i64 k', .string nm', .slice na qn nc, .slice ta mn tc, .slice ya xn yc] 27)).alloc (.cells #[.slice (some ⟨T + 1, 0, none⟩) 2 2] 36) = w2
  have hg12 : w1.grownBy w2 none := by rw [← hw2]; exact gr_alloc (gr_alloc (gr1 _ _) _) _
  have bT : w2.heap[T]? = some (.cells #[.slice fa nF fc, .slice la nL lc, .slice ha nH hc] 30) := by rw [← hw2, hp_old (by simp; omega), hp_old (by simp; omega)]; exact hp_new hT.symm _
  have bT1 : w2.heap[T + 1]? = some (.cells #[.int .i64 k, .string nm, .slice oa qo oc, .slice sa mo sc, .slice xa xo xc, .int .i64 k', .string nm', .slice na qn nc, .slice ta mn tc, .slice ya xn yc] 27) := by rw [← hw2, hp_old (by simp; omega)]; exact hp_new (by simp; omega) _
  have bT2 : w2.heap[T + 2]? = some (.cells #[.slice (some ⟨T + 1, 0, none⟩) 2 2] 36) := by rw [← hw2]; exact hp_new (by simp; omega) _
  have hs2 : w2.heap.size = T + 3 := by rw [← hw2]; simp; omega
  have hgw2 := hgw1.trans hg12
  have HCD : Hid (CdP w2 (.slice (some ⟨T + 1, 0, none⟩) 2 2) [⟨k, nm, fo, so, xto⟩, ⟨k', nm', fn, sn, xtn⟩]) := by
    obtain ⟨e1, e2, e3, e4, e5, e6, e7⟩ := HQ.out
    refine ⟨_, 2, rfl, by simp, .inr ⟨T + 1, 0, rfl, fun i hi => ?_⟩⟩
    have hi2 : i = 0 ∨ i = 1 := by simp at hi; omega
    rcases hi2 with rfl | rfl
    · refine ⟨.slice oa qo oc, .slice sa mo sc, .slice xa xo xc, ?_, ?_, ?_, ?_, ?_, ?_, ?_, ?_⟩
      · rw [at_cell bT1]; simp
      · rw [at_cell bT1]; simp
      · rw [at_cell bT1]; simp
      · rw [at_cell bT1]; simp
      · rw [at_cell bT1]; simp
      · have := rd_grown HO.out hgw2; rw [e2] at this; exact this
      · have := HSO.out.grown hgw2; rw [e4] at this; exact this
      · have := HTO.out.grown hgw2; rw [e6] at this; exact this
    · refine ⟨.slice na qn nc, .slice ta mn tc, .slice ya xn yc, ?_, ?_, ?_, ?_, ?_, ?_, ?_, ?_⟩
      · rw [at_cell bT1]; simp
      · rw [at_cell bT1]; simp
      · rw [at_cell bT1]; simp
      · rw [at_cell bT1]; simp
      · rw [at_cell bT1]; simp
      · have := rd_grown HN.out hgw2; rw [e3] at this; exact this
      · have := HSN.out.grown hgw2; rw [e5] at this; exact this
      · have := HTN.out.grown hgw2; rw [e7] at this; exact this
  have HB2 := hidI (And.intro bT (And.intro bT2 hs2))
  have HW2 : Hid (OwnV w0.heap.size w2 (.slice fa F.length fc) F ∧ OwnP E1 w2 la lc L ∧ OwnP E2 w2 ha hc H) := hidI ⟨HWANT.out.1.keptB hg12 (by simp), HWANT.out.2.1.keptB hg12 (by simp), HWANT.out.2.2.keptB hg12 (by simp)⟩
  have HLT : Hid (∀ y, ((Value.slice fa F.length fc).ownBlock = some y ∨ (Value.slice la L.length lc).ownBlock = some y ∨ (Value.slice ha H.length hc).ownBlock = some y) → y < T) := hidI (by
    intro y hy
    rw [← hT]
    rcases hy with h | h | h
    · exact (World.ownsRow.lt HWANT.out.1 y h).2
    · exact (World.ownsRow.lt HWANT.out.2.1 y h).2
    · exact (World.ownsRow.lt HWANT.out.2.2 y h).2)
  have cP := copy_any _ _ w2 HCD.out HBD.out
  clear x0 x1 x2 x3 x4 y0 y1 y2 y3 y4 hw2 bT bT1 bT2
  refine cP.mono ?_
  rintro e w3 ⟨v, us, rfl, hcp, hup, hg3⟩
  obtain ⟨hb, vc, c0, c1, s0a, s0c, s1a, s1c, t0a, t0c, t1a, t1c, rfl, h0, h1, hr0, hr1, hsl0, hsl1, hcb, hbb, hcn, hbl, hcl⟩ := two_copy hcp hup
  dsimp only at h0 h1 hr0 hr1 hsl0 hsl1
  have HCP := hidI (And.intro hcp hup)
  have HROOM := hidI (And.intro hr0 hr1)
  have HSL := hidI (And.intro hsl0 hsl1)
  have HORD := hidI (And.intro hcb (And.intro hbb (And.intro hcn (And.intro hbl hcl))))
  obtain ⟨g0, g1, g2, g3, g4⟩ := h0
  obtain ⟨g5, g6, g7, g8, g9⟩ := h1
  rw [HQ.out.2.1] at g2
  rw [HQ.out.2.2.1] at g7
  rw [HQ.out.2.2.2.1] at g3
  rw [HQ.out.2.2.2.2.1] at g8
  rw [HQ.out.2.2.2.2.2.1] at g4
  rw [HQ.out.2.2.2.2.2.2] at g9
  have HG := hidI (And.intro g0 (And.intro g1 (And.intro g2 (And.intro g3 (And.intro g4 (And.intro g5 (And.intro g6 (And.intro g7 (And.intro g8 g9)))))))))
  obtain ⟨i3, hi3, zz3, ss3, bb3⟩ := info_parts info3
  have HAP : Hid ((fr.map (Value.int .i64)).length = qr * 1 ∧ ∀ W, w3.grownBy W none → (qr = 0 ∨ ∃ b off, ra = some ⟨b, off, none⟩ ∧ ∀ j u, (fr.map (Value.int .i64))[j]? = some u → W.cell? ((⟨b, off, none⟩ : Addr).add j) = some u)) := by
    refine ⟨by simp [HQ.out.1], fun W hW => ?_⟩
    obtain ⟨a', c', e, h | ⟨b1, o1, h0, h1⟩⟩ := HR.out
    · left
      rw [← HQ.out.1, h]
      rfl
    · right
      simp at e
      obtain ⟨rfl, rfl⟩ := e
      refine ⟨b1, o1, h0, fun j u hj => ?_⟩
      have hjl : j < fr.length := by
        rcases Nat.lt_or_ge j fr.length with h | h
        · exact h
        · rw [List.getElem?_eq_none (by simpa using h)] at hj; simp at hj
      rw [addn, ((hgw2.trans hg3).trans hW).cell (h1 j hjl) (by simp), ← hj]
      simp [hjl]
  clear cP hcp hup hr0 hr1 hsl0 hsl1 hcb hbb hcn hbl hcl g0 g1 g2 g3 g4 g5 g6 g7 g8 g9
  go_wp2_with (first
    | (at_builtin
       refine wpList_append_all rfl _ _ 23 rfl 3 i3 _ 1 8 Try.underlying23 hi3 zz3 ss3 bb3 rfl (by omega) ra qr rc (fr.map (Value.int .i64)) rfl rfl HAP.out.1 (HAP.out.2 _ (gr1 _ _)) (by simp [Value.oneCell']) (by unfold maxLen; omega) (by omega) ?_
       intro da dc w4 hown4 hg4))
  obtain ⟨Y, hY⟩ : ∃ Y, w3.heap.size = Y := ⟨_, rfl⟩
  have hg34 : w3.grownBy w4 none := (gr1 _ _).trans hg4
  have bY : w4.heap[Y]? = some (.cells #[.slice (some ⟨hb, 0, none⟩) 2 vc] 36) := kept hg4 (hp_new hY.symm _)
  have yY := at_cell bY 0
  simp at yY
  have HG4 : Hid (w4.cell? ⟨Y, 0, none⟩ = some (.slice (some ⟨hb, 0, none⟩) 2 vc) ∧ w4.cell? ⟨hb, 0, none⟩ = some (.int .i64 k) ∧ w4.cell? ⟨hb, 1, none⟩ = some (.string nm) ∧ w4.cell? ⟨hb, 2, none⟩ = some (.slice (some ⟨c0, 0, none⟩) qo (qo + 5)) ∧ w4.cell? ⟨hb, 3, none⟩ = some (.slice s0a mo s0c) ∧ w4.cell? ⟨hb, 4, none⟩ = some (.slice t0a xo t0c) ∧ w4.cell? ⟨hb, 5, none⟩ = some (.int .i64 k') ∧ w4.cell? ⟨hb, 6, none⟩ = some (.string nm') ∧ w4.cell? ⟨hb, 7, none⟩ = some (.slice (some ⟨c1, 0, none⟩) qn (qn + 5)) ∧ w4.cell? ⟨hb, 8, none⟩ = some (.slice s1a mn s1c) ∧ w4.cell? ⟨hb, 9, none⟩ = some (.slice t1a xn t1c)) := hidI ⟨yY, hg34.cell HG.out.1 (by simp), hg34.cell HG.out.2.1 (by simp), hg34.cell HG.out.2.2.1 (by simp), hg34.cell HG.out.2.2.2.1 (by simp), hg34.cell HG.out.2.2.2.2.1 (by simp), hg34.cell HG.out.2.2.2.2.2.1 (by simp), hg34.cell HG.out.2.2.2.2.2.2.1 (by simp), hg34.cell HG.out.2.2.2.2.2.2.2.1 (by simp), hg34.cell HG.out.2.2.2.2.2.2.2.2.1 (by simp), hg34.cell HG.out.2.2.2.2.2.2.2.2.2 (by simp)⟩
  have HBY := hidI bY
  have HOF : Hid (OwnV (Y + 1) w4 (.slice da fr.length dc) fr) := hidI (by
    unfold OwnV
    rw [HQ.out.1]
    have := hown4
    rw [show (w3.alloc (.cells #[.slice (some ⟨hb, 0, none⟩) 2 vc] 36)).heap.size = Y + 1 by simp; omega] at this
    exact this)
  have hdc : qr ≤ dc := by
    obtain ⟨_, ⟨h1, h2⟩ | ⟨g, c, cur, h1, _, _, h3, _⟩⟩ := hown4
    · omega
    · simp at h1
      obtain ⟨_, rfl⟩ := h1
      exact h3
  have hgw4 := hgw2.trans (hg3.trans hg34)
  have cD : ∀ W, w4.grownBy W none → Calls Try.prog 6 #[.agg #[.int .i64 k, .string nm, .slice (some ⟨c0, 0, none⟩) qo (qo + 5), .slice s0a mo s0c, .slice t0a xo t0c], .slice da qr dc, .agg #[.int .i64 k', .string nm', .slice (some ⟨c1, 0, none⟩) qn (qn + 5), .slice s1a mn s1c, .slice t1a xn t1c]] W fun e w' => ∃ a1 p1 a2 p2 a3 p3, e = .returned (.tuple #[.agg #[.slice a1 nF p1, .slice a2 nL p2, .slice a3 nH p3], .int .i64 er]) ∧ AnsC W.heap.size w' a1 p1 F a2 p2 L a3 p3 H ∧ W.grownBy w' none := fun W hW => by
    have h := HCC.out k k' nm nm' da (some ⟨c0, 0, none⟩) (some ⟨c1, 0, none⟩) dc (fo.length + 5) (fn.length + 5) (.slice s0a so.length s0c) (.slice t0a xo t0c) (.slice s1a sn.length s1c) (.slice t1a xn t1c) W (HOF.out.keptB hW (by simp)).rd (by rw [HQ.out.1]; exact hdc) ((HROOM.out.1.kept (hg34.trans hW)).rd) ((HROOM.out.2.kept (hg34.trans hW)).rd) (HSL.out.1.grown (hg34.trans hW)) (HSL.out.2.grown (hg34.trans hW))
    unfold pV at h
    rw [HQ.out.1, HQ.out.2.1, HQ.out.2.2.1, HQ.out.2.2.2.1, HQ.out.2.2.2.2.1] at h
    refine h.mono fun e w' hc => ?_
    obtain ⟨a1, p1, a2, p2, a3, p3, h1, h2, h3⟩ := hc.ans
    rw [HNS.out.1, HNS.out.2.1, HNS.out.2.2] at h1
    exact ⟨a1, p1, a2, p2, a3, p3, h1, h2, h3⟩
  rw [hY]
  clear hown4 hg4 bY yY hi3 zz3 ss3 bb3
  go_cut [12, 13] (fun s12 s13 wx => ∃ q a1 p1 a2 p2 a3 p3, s12 = .pointer (some ⟨q, 0, none⟩) ∧ s13 = .int .i64 er ∧ Hid (Ans w4.heap.size wx q nF nL nH a1 p1 F a2 p2 L a3 p3 H ∧ w4.grownBy wx none))
  case first =>
    have HKEEP : Hid (∀ X : World, w4.grownBy X none → X.cell? ⟨Y, 0, none⟩ = some (.slice (some ⟨hb, 0, none⟩) 2 vc) ∧ X.cell? ⟨hb, 0, none⟩ = some (.int .i64 k) ∧ X.cell? ⟨hb, 1, none⟩ = some (.string nm) ∧ X.cell? ⟨hb, 2, none⟩ = some (.slice (some ⟨c0, 0, none⟩) qo (qo + 5)) ∧ X.cell? ⟨hb, 3, none⟩ = some (.slice s0a mo s0c) ∧ X.cell? ⟨hb, 4, none⟩ = some (.slice t0a xo t0c) ∧ X.cell? ⟨hb, 5, none⟩ = some (.int .i64 k') ∧ X.cell? ⟨hb, 6, none⟩ = some (.string nm') ∧ X.cell? ⟨hb, 7, none⟩ = some (.slice (some ⟨c1, 0, none⟩) qn (qn + 5)) ∧ X.cell? ⟨hb, 8, none⟩ = some (.slice s1a mn s1c) ∧ X.cell? ⟨hb, 9, none⟩ = some (.slice t1a xn t1c)) := hidI (fun X hX => ⟨hX.cell (HG4).out.1 (by simp), hX.cell (HG4).out.2.1 (by simp), hX.cell (HG4).out.2.2.1 (by simp), hX.cell (HG4).out.2.2.2.1 (by simp), hX.cell (HG4).out.2.2.2.2.1 (by simp), hX.cell (HG4).out.2.2.2.2.2.1 (by simp), hX.cell (HG4).out.2.2.2.2.2.2.1 (by simp), hX.cell (HG4).out.2.2.2.2.2.2.2.1 (by simp), hX.cell (HG4).out.2.2.2.2.2.2.2.2.1 (by simp), hX.cell (HG4).out.2.2.2.2.2.2.2.2.2.1 (by simp), hX.cell (HG4).out.2.2.2.2.2.2.2.2.2.2 (by simp)⟩)
    obtain ⟨m0, m1, m2, m3, m4, m5, m6, m7, m8, m9, m10⟩ := HKEEP.out _ (World.grownBy.refl _ _)
    go_region_held3 (fun X => X.cell? ⟨Y, 0, none⟩ = some (.slice (some ⟨hb, 0, none⟩) 2 vc) ∧ X.cell? ⟨hb, 0, none⟩ = some (.int .i64 k) ∧ X.cell? ⟨hb, 1, none⟩ = some (.string nm) ∧ X.cell? ⟨hb, 2, none⟩ = some (.slice (some ⟨c0, 0, none⟩) qo (qo + 5)) ∧ X.cell? ⟨hb, 3, none⟩ = some (.slice s0a mo s0c) ∧ X.cell? ⟨hb, 4, none⟩ = some (.slice t0a xo t0c) ∧ X.cell? ⟨hb, 5, none⟩ = some (.int .i64 k') ∧ X.cell? ⟨hb, 6, none⟩ = some (.string nm') ∧ X.cell? ⟨hb, 7, none⟩ = some (.slice (some ⟨c1, 0, none⟩) qn (qn + 5)) ∧ X.cell? ⟨hb, 8, none⟩ = some (.slice s1a mn s1c) ∧ X.cell? ⟨hb, 9, none⟩ = some (.slice t1a xn t1c)) (first | (go_keep; done) | exact HKEEP.out _ (by assumption) | exact HKEEP.out _ (gr_drew (by assumption)) | exact HKEEP.out _ (gr_alloc (by assumption) _) | exact HKEEP.out _ (gr3n (by assumption) (Nat.le_refl _)))
      ((go_at_call 6; refine (cD _ (by first | exact World.grownBy.refl _ _ | exact gr_drew (World.grownBy.refl _ _) | exact gr_alloc (World.grownBy.refl _ _) _ | exact gr_alloc (gr_drew (World.grownBy.refl _ _)) _ | exact gr_drew (gr_alloc (World.grownBy.refl _ _) _))).mono ?_; rintro e w5 ⟨a1, p1, a2, p2, a3, p3, rfl, ho5, g5'⟩; have g5 : w4.grownBy w5 none := (grown_join (by first | exact World.grownBy.refl _ _ | exact gr_drew (World.grownBy.refl _ _) | exact gr_alloc (World.grownBy.refl _ _) _ | exact gr_alloc (gr_drew (World.grownBy.refl _ _)) _ | exact gr_drew (gr_alloc (World.grownBy.refl _ _) _)) g5' (.inl rfl)); have HO5 := hidI ho5; clear ho5; try (have B5 : w5.heap[w4.heap.size]? = some (.cells #[.slice none 0 0, .slice none 0 0, .slice none 0 0] 30) := (by first | exact kept g5' (heap_alloc_new w4 _) | exact kept g5' (heap_alloc_new w4.drew _)); obtain ⟨u0, u1, u2, v0, v1, v2⟩ := at3 B5; have HB5 := hidI B5; clear B5)))
    · have h5 := g5.size
      go_wp2_with fail
      go_meet
      exact ⟨w5.heap.size, a1, p1, a2, p2, a3, p3, rfl, rfl, hidI ⟨Ans.after HO5.out h5 rfl, gr_alloc g5 _⟩⟩
    · go_wp2_with fail
      go_meet
      exact ⟨w4.heap.size, a1, p1, a2, p2, a3, p3, rfl, rfl, hidI ⟨Ans.before (HO5.out.less (by show _ ≤ (World.alloc w4 _).heap.size; simp)) (Nat.le_refl _) HB5.out, gr3n g5 (Nat.le_refl _)⟩⟩
  case rest =>
  obtain ⟨qa, a1, p1, a2, p2, a3, p3, rfl, rfl, HCA⟩ := hcut
  generalize wc = wA at *
  have hg4A := HCA.out.2
  have HGA : Hid (wA.cell? ⟨Y, 0, none⟩ = some (.slice (some ⟨hb, 0, none⟩) 2 vc) ∧ wA.cell? ⟨hb, 0, none⟩ = some (.int .i64 k) ∧ wA.cell? ⟨hb, 1, none⟩ = some (.string nm) ∧ wA.cell? ⟨hb, 2, none⟩ = some (.slice (some ⟨c0, 0, none⟩) qo (qo + 5)) ∧ wA.cell? ⟨hb, 3, none⟩ = some (.slice s0a mo s0c) ∧ wA.cell? ⟨hb, 4, none⟩ = some (.slice t0a xo t0c) ∧ wA.cell? ⟨hb, 5, none⟩ = some (.int .i64 k') ∧ wA.cell? ⟨hb, 6, none⟩ = some (.string nm') ∧ wA.cell? ⟨hb, 7, none⟩ = some (.slice (some ⟨c1, 0, none⟩) qn (qn + 5)) ∧ wA.cell? ⟨hb, 8, none⟩ = some (.slice s1a mn s1c) ∧ wA.cell? ⟨hb, 9, none⟩ = some (.slice t1a xn t1c)) := hidI ⟨hg4A.cell HG4.out.1 (by simp), hg4A.cell HG4.out.2.1 (by simp), hg4A.cell HG4.out.2.2.1 (by simp), hg4A.cell HG4.out.2.2.2.1 (by simp), hg4A.cell HG4.out.2.2.2.2.1 (by simp), hg4A.cell HG4.out.2.2.2.2.2.1 (by simp), hg4A.cell HG4.out.2.2.2.2.2.2.1 (by simp), hg4A.cell HG4.out.2.2.2.2.2.2.2.1 (by simp), hg4A.cell HG4.out.2.2.2.2.2.2.2.2.1 (by simp), hg4A.cell HG4.out.2.2.2.2.2.2.2.2.2.1 (by simp), hg4A.cell HG4.out.2.2.2.2.2.2.2.2.2.2 (by simp)⟩
  have cE : ∀ W, wA.grownBy W none → Calls Try.prog 6 #[.agg #[.int .i64 k, .string nm, .slice (some ⟨c0, 0, none⟩) qo (qo + 5), .slice s0a mo s0c, .slice t0a xo t0c], .slice da qr dc, .agg #[.int .i64 k', .string nm', .slice (some ⟨c1, 0, none⟩) qn (qn + 5), .slice s1a mn s1c, .slice t1a xn t1c]] W fun e w' => ∃ a1 p1 a2 p2 a3 p3, e = .returned (.tuple #[.agg #[.slice a1 nF p1, .slice a2 nL p2, .slice a3 nH p3], .int .i64 er]) ∧ AnsC W.heap.size w' a1 p1 F a2 p2 L a3 p3 H ∧ W.grownBy w' none := fun W hW => cD W (hg4A.trans hW)
  clear cD
  go_wp2_with fail
  go_cut [14, 15] (fun s14 s15 wx => ∃ q a1 p1 a2 p2 a3 p3, s14 = .pointer (some ⟨q, 0, none⟩) ∧ s15 = .int .i64 er ∧ Hid (Ans wA.heap.size wx q nF nL nH a1 p1 F a2 p2 L a3 p3 H ∧ wA.grownBy wx none))
  case first =>
    have HKEEP : Hid (∀ X : World, wA.grownBy X none → X.cell? ⟨Y, 0, none⟩ = some (.slice (some ⟨hb, 0, none⟩) 2 vc) ∧ X.cell? ⟨hb, 0, none⟩ = some (.int .i64 k) ∧ X.cell? ⟨hb, 1, none⟩ = some (.string nm) ∧ X.cell? ⟨hb, 2, none⟩ = some (.slice (some ⟨c0, 0, none⟩) qo (qo + 5)) ∧ X.cell? ⟨hb, 3, none⟩ = some (.slice s0a mo s0c) ∧ X.cell? ⟨hb, 4, none⟩ = some (.slice t0a xo t0c) ∧ X.cell? ⟨hb, 5, none⟩ = some (.int .i64 k') ∧ X.cell? ⟨hb, 6, none⟩ = some (.string nm') ∧ X.cell? ⟨hb, 7, none⟩ = some (.slice (some ⟨c1, 0, none⟩) qn (qn + 5)) ∧ X.cell? ⟨hb, 8, none⟩ = some (.slice s1a mn s1c) ∧ X.cell? ⟨hb, 9, none⟩ = some (.slice t1a xn t1c)) := hidI (fun X hX => ⟨hX.cell (HGA).out.1 (by simp), hX.cell (HGA).out.2.1 (by simp), hX.cell (HGA).out.2.2.1 (by simp), hX.cell (HGA).out.2.2.2.1 (by simp), hX.cell (HGA).out.2.2.2.2.1 (by simp), hX.cell (HGA).out.2.2.2.2.2.1 (by simp), hX.cell (HGA).out.2.2.2.2.2.2.1 (by simp), hX.cell (HGA).out.2.2.2.2.2.2.2.1 (by simp), hX.cell (HGA).out.2.2.2.2.2.2.2.2.1 (by simp), hX.cell (HGA).out.2.2.2.2.2.2.2.2.2.1 (by simp), hX.cell (HGA).out.2.2.2.2.2.2.2.2.2.2 (by simp)⟩)
    obtain ⟨m0, m1, m2, m3, m4, m5, m6, m7, m8, m9, m10⟩ := HKEEP.out _ (World.grownBy.refl _ _)
    go_region_held3 (fun X => X.cell? ⟨Y, 0, none⟩ = some (.slice (some ⟨hb, 0, none⟩) 2 vc) ∧ X.cell? ⟨hb, 0, none⟩ = some (.int .i64 k) ∧ X.cell? ⟨hb, 1, none⟩ = some (.string nm) ∧ X.cell? ⟨hb, 2, none⟩ = some (.slice (some ⟨c0, 0, none⟩) qo (qo + 5)) ∧ X.cell? ⟨hb, 3, none⟩ = some (.slice s0a mo s0c) ∧ X.cell? ⟨hb, 4, none⟩ = some (.slice t0a xo t0c) ∧ X.cell? ⟨hb, 5, none⟩ = some (.int .i64 k') ∧ X.cell? ⟨hb, 6, none⟩ = some (.string nm') ∧ X.cell? ⟨hb, 7, none⟩ = some (.slice (some ⟨c1, 0, none⟩) qn (qn + 5)) ∧ X.cell? ⟨hb, 8, none⟩ = some (.slice s1a mn s1c) ∧ X.cell? ⟨hb, 9, none⟩ = some (.slice t1a xn t1c)) (first | (go_keep; done) | exact HKEEP.out _ (by assumption) | exact HKEEP.out _ (gr_drew (by assumption)) | exact HKEEP.out _ (gr_alloc (by assumption) _) | exact HKEEP.out _ (gr3n (by assumption) (Nat.le_refl _)))
      ((go_at_call 6; refine (cE _ (by first | exact World.grownBy.refl _ _ | exact gr_drew (World.grownBy.refl _ _) | exact gr_alloc (World.grownBy.refl _ _) _ | exact gr_alloc (gr_drew (World.grownBy.refl _ _)) _ | exact gr_drew (gr_alloc (World.grownBy.refl _ _) _))).mono ?_; rintro e w5 ⟨a1, p1, a2, p2, a3, p3, rfl, ho5, g5'⟩; have g5 : wA.grownBy w5 none := (grown_join (by first | exact World.grownBy.refl _ _ | exact gr_drew (World.grownBy.refl _ _) | exact gr_alloc (World.grownBy.refl _ _) _ | exact gr_alloc (gr_drew (World.grownBy.refl _ _)) _ | exact gr_drew (gr_alloc (World.grownBy.refl _ _) _)) g5' (.inl rfl)); have HO5 := hidI ho5; clear ho5; try (have B5 : w5.heap[wA.heap.size]? = some (.cells #[.slice none 0 0, .slice none 0 0, .slice none 0 0] 30) := (by first | exact kept g5' (heap_alloc_new wA _) | exact kept g5' (heap_alloc_new wA.drew _)); obtain ⟨u0, u1, u2, v0, v1, v2⟩ := at3 B5; have HB5 := hidI B5; clear B5)))
    · have h5 := g5.size
      go_wp2_with fail
      go_meet
      exact ⟨w5.heap.size, a1, p1, a2, p2, a3, p3, rfl, rfl, hidI ⟨Ans.after HO5.out h5 rfl, gr_alloc g5 _⟩⟩
    · go_wp2_with fail
      go_meet
      exact ⟨wA.heap.size, a1, p1, a2, p2, a3, p3, rfl, rfl, hidI ⟨Ans.before (HO5.out.less (by show _ ≤ (World.alloc wA _).heap.size; simp)) (Nat.le_refl _) HB5.out, gr3n g5 (Nat.le_refl _)⟩⟩
  case rest =>
  obtain ⟨qb, b1, r1, b2, r2, b3, r3, rfl, rfl, HCB⟩ := hcut
  generalize wc = wB at *
  have hgAB := HCB.out.2
  have hg2B : w2.grownBy wB none := hg3.trans (hg34.trans (hg4A.trans hgAB))
  have hg3B : w3.grownBy wB none := hg34.trans (hg4A.trans hgAB)
  have HBOX : Hid (∀ W, wB.grownBy W none → W.cell? ⟨qa, 0, none⟩ = some (.slice a1 nF p1) ∧ W.cell? ⟨qa, 1, none⟩ = some (.slice a2 nL p2) ∧ W.cell? ⟨qa, 2, none⟩ = some (.slice a3 nH p3) ∧ W.cell? ⟨qb, 0, none⟩ = some (.slice b1 nF r1) ∧ W.cell? ⟨qb, 1, none⟩ = some (.slice b2 nL r2) ∧ W.cell? ⟨qb, 2, none⟩ = some (.slice b3 nH r3) ∧ W.cell? ⟨T, 0, none⟩ = some (.slice fa nF fc) ∧ W.cell? ⟨T, 1, none⟩ = some (.slice la nL lc) ∧ W.cell? ⟨T, 2, none⟩ = some (.slice ha nH hc) ∧ W.cell? ⟨Y, 0, none⟩ = some (.slice (some ⟨hb, 0, none⟩) 2 vc) ∧ W.cell? ⟨T + 1 + 1, 0, none⟩ = some (.slice (some ⟨T + 1, 0, none⟩) 2 2)) := hidI (fun W hW => by
    have ba := kept (hgAB.trans hW) HCA.out.1.1
    have bb := kept hW HCB.out.1.1
    have bt := kept (hg2B.trans hW) HB2.out.1
    have bc := kept (hg2B.trans hW) HB2.out.2.1
    have by' := kept (hg4A.trans (hgAB.trans hW)) HBY.out
    exact ⟨at_cell ba 0, at_cell ba 1, at_cell ba 2, at_cell bb 0, at_cell bb 1, at_cell bb 2, at_cell bt 0, at_cell bt 1, at_cell bt 2, at_cell by' 0, at_cell bc 0⟩)
  have HNV : Hid (.agg #[.slice a1 F.length p1, .slice a2 L.length p2, .slice a3 H.length p3] = (Value.agg #[.slice a1 nF p1, .slice a2 nL p2, .slice a3 nH p3]) ∧ .agg #[.slice b1 F.length r1, .slice b2 L.length r2, .slice b3 H.length r3] = (Value.agg #[.slice b1 nF r1, .slice b2 nL r2, .slice b3 nH r3]) ∧ .agg #[.slice fa F.length fc, .slice la L.length lc, .slice ha H.length hc] = (Value.agg #[.slice fa nF fc, .slice la nL lc, .slice ha nH hc])) := hidI (by
    rw [HNS.out.1, HNS.out.2.1, HNS.out.2.2]
    exact ⟨rfl, rfl, rfl⟩)
  have HWANT2 : Hid (∀ W, (∀ y, y < T → W.heap[y]? = w2.heap[y]?) → rdC W (.agg #[.slice fa nF fc, .slice la nL lc, .slice ha nH hc]) F L H) := hidI (fun W hW => by
    rw [← HNV.out.2.2]
    exact carP_rd (own_of_block HW2.out.1 (fun y hy => hW y (HLT.out y (.inl hy)))) (own_of_block HW2.out.2.1 (fun y hy => hW y (HLT.out y (.inr (.inl hy))))) (own_of_block HW2.out.2.2 (fun y hy => hW y (HLT.out y (.inr (.inr hy))))))
  have c7a : ∀ W, wB.grownBy W none → Calls Try.prog 7 #[.agg #[.slice a1 nF p1, .slice a2 nL p2, .slice a3 nH p3], .agg #[.slice fa nF fc, .slice la nL lc, .slice ha nH hc]] W fun e w' => e = .returned (.bool true) ∧ W.grownBy w' none := fun W hW => by
    refine sameCarried_yes _ _ F L H W ?_ (HWANT2.out W (fun y hy => (hg2B.trans hW).block y (by rw [HB2.out.2.2]; omega) (by simp))) HLEN.out.1 HLEN.out.2.1 HLEN.out.2.2
    rw [← HNV.out.1]
    exact (HCA.out.1.2.1.kept (hgAB.trans hW) (by simp)).rd
  have c7b : ∀ W, wB.grownBy W none → Calls Try.prog 7 #[.agg #[.slice b1 nF r1, .slice b2 nL r2, .slice b3 nH r3], .agg #[.slice fa nF fc, .slice la nL lc, .slice ha nH hc]] W fun e w' => e = .returned (.bool true) ∧ W.grownBy w' none := fun W hW => by
    refine sameCarried_yes _ _ F L H W ?_ (HWANT2.out W (fun y hy => (hg2B.trans hW).block y (by rw [HB2.out.2.2]; omega) (by simp))) HLEN.out.1 HLEN.out.2.1 HLEN.out.2.2
    rw [← HNV.out.2.1]
    exact (HCB.out.1.2.1.kept hW (by simp)).rd
  have c8 : ∀ W, wB.grownBy W none → Calls Try.prog 8 #[.agg #[.slice (some ⟨hb, 0, none⟩) 2 vc], .agg #[.slice (some ⟨T + 1, 0, none⟩) 2 2]] W fun e w' => e = .returned (.bool true) ∧ W.grownBy w' none := fun W hW => by
    have h := (CopyAt.kept HCP.out.1 (hg3B.trans hW) (fun y hy => by simp at hy)).cd
    rw [HCP.out.2] at h
    exact same_any _ _ _ W h (HCD.out.grown (hg2B.trans hW)) HBD.out
  have c9 : ∀ W, wB.grownBy W none → Calls Try.prog 9 #[.agg #[.slice (some ⟨hb, 0, none⟩) 2 vc]] W fun e w' => e = .returned (.bool true) ∧ W.grownBy w' none := fun W hW => spare_any _ _ us W (CopyAt.kept HCP.out.1 (hg3B.trans hW) (fun y hy => by simp at hy)) (by rw [HCP.out.2]; exact HBD.out)
  have c10 : ∀ W, wB.grownBy W none → Calls Try.prog 10 #[.slice da qr dc, .slice ra qr rc] W fun e w' => e = .returned (.bool true) ∧ W.grownBy w' none := fun W hW => by
    have h := sameInts_yes _ _ fr W (HOF.out.keptB (hg4A.trans (hgAB.trans hW)) (by simp)).rd (rd_grown HR.out (hgw4.trans (hg4A.trans (hgAB.trans hW)))) (by rw [HQ.out.1]; omega)
    rw [HQ.out.1] at h
    exact h
  obtain ⟨m0, m1, m2, m3, m4, m5, m6, m7, m8, m9, m10⟩ := HBOX.out wB (World.grownBy.refl _ _)
  clear cE
  go_wp2_with fail
  refine (c7a _ (World.grownBy.refl _ _)).mono ?_
  rintro e d1 ⟨rfl, hd1⟩
  have gd1 : wB.grownBy d1 none := hd1
  clear m0 m1 m2 m3 m4 m5 m6 m7 m8 m9 m10
  obtain ⟨m0, m1, m2, m3, m4, m5, m6, m7, m8, m9, m10⟩ := HBOX.out d1 gd1
  go_wp2_with fail
  refine (c7b _ gd1).mono ?_
  rintro e d2 ⟨rfl, hd2⟩
  have gd2 : wB.grownBy d2 none := gd1.trans hd2
  clear m0 m1 m2 m3 m4 m5 m6 m7 m8 m9 m10
  obtain ⟨m0, m1, m2, m3, m4, m5, m6, m7, m8, m9, m10⟩ := HBOX.out d2 gd2
  go_wp2_with fail
  refine (c8 _ gd2).mono ?_
  rintro e d3 ⟨rfl, hd3⟩
  have gd3 : wB.grownBy d3 none := gd2.trans hd3
  clear m0 m1 m2 m3 m4 m5 m6 m7 m8 m9 m10
  obtain ⟨m0, m1, m2, m3, m4, m5, m6, m7, m8, m9, m10⟩ := HBOX.out d3 gd3
  go_wp2_with fail
  refine (c9 _ gd3).mono ?_
  rintro e d4 ⟨rfl, hd4⟩
  have gd4 : wB.grownBy d4 none := gd3.trans hd4
  clear m0 m1 m2 m3 m4 m5 m6 m7 m8 m9 m10
  obtain ⟨m0, m1, m2, m3, m4, m5, m6, m7, m8, m9, m10⟩ := HBOX.out d4 gd4
  go_wp2_with fail
  refine (c10 _ gd4).mono ?_
  rintro e wG ⟨rfl, hwG⟩
  have gG : wB.grownBy wG none := gd4.trans hwG
  clear m0 m1 m2 m3 m4 m5 m6 m7 m8 m9 m10
  obtain ⟨m0, m1, m2, m3, m4, m5, m6, m7, m8, m9, m10⟩ := HBOX.out wG gG
  have HFIN := hidI gG
  have HAG := hidI ((HCA.out.1.grow (hgAB.trans gG)))
  have cF := over_any w4.heap.size (.slice a1 F.length p1) F (-77) wG (by have := HLEN.out.1; omega) HAG.out.2.1.frame
  rw [HNS.out.1] at cF
  clear c7a c7b c8 c9 c10 gd1 gd2 gd3 gd4 hd1 hd2 hd3 hd4 hwG
  go_wp2_with fail
  refine cF.mono ?_
  rintro e v1 ⟨rfl, k1⟩
  rw [← HNS.out.1] at k1
  have HK1 := hidI k1
  have HA : Hid (∀ y, ((Value.slice a1 F.length p1).ownBlock = some y ∨ (Value.slice a2 L.length p2).ownBlock = some y ∨ (Value.slice a3 H.length p3).ownBlock = some y) → w4.heap.size ≤ y ∧ y < wA.heap.size) := hidI (by
    intro y hy
    rcases hy with h | h | h
    · exact World.ownsRow.lt HCA.out.1.2.1.frame y h
    · exact World.ownsRow.lt HCA.out.1.2.1.lost y h
    · exact World.ownsRow.lt HCA.out.1.2.1.fresh y h)
  have HD : Hid (∀ y, (Value.slice da fr.length dc).ownBlock = some y → Y + 1 ≤ y ∧ y < w4.heap.size) := hidI (fun y hy => World.ownsRow.lt HOF.out y hy)
  have HY4 : Hid (Y < w4.heap.size ∧ w3.heap.size = Y ∧ w4.heap.size ≤ wA.heap.size ∧ wA.heap.size ≤ wG.heap.size ∧ T + 3 ≤ Y) := hidI ⟨at_lt HBY.out, hY, hg4A.size, Nat.le_trans hgAB.size gG.size, by rw [← HB2.out.2.2, ← hY]; exact hg3.size⟩
  have HM1 : Hid (Mid (T + 3) wA.heap.size wG v1) := hidI (Mid.of k1 (fun y hy => by have := HA.out y (.inl hy); have := HY4.out; omega))
  have bqa := (k1.block qa (at_lt HAG.out.1) (fun e => HAG.out.2.2.2.1 e.symm)).trans HAG.out.1
  have m1' := at_cell bqa 1
  simp at m1'
  have oL1 := HAG.out.2.1.lost.keptB k1 (fun y hy e => (HAG.out.2.1.fl y e).1 hy)
  have cL := overPaths_any w4.heap.size a2 p2 L v1 HLEN.out.2.1 (by have := HY4.out; have := k1.size; omega) oL1
  have HBQ := hidI bqa
  have oH1 := hidI (HAG.out.2.1.fresh.keptB k1 (fun y hy e => (HAG.out.2.1.fl y e).2 hy))
  rw [HNS.out.2.1] at cL
  clear cF bqa oL1 m0 m1 m2 m3 m4 m5 m6 m7 m8 m9 m10
  go_wp2_with fail
  refine cL.mono ?_
  rintro e v2 ⟨rfl, k2⟩
  rw [← HNS.out.2.1] at k2
  have HK2 := hidI k2
  have HM2 : Hid (Mid (T + 3) wA.heap.size wG v2) := hidI (HM1.out.trans (Mid.of k2 (fun y hy => by have := HA.out y (.inr (.inl hy)); have := HY4.out; omega)))
  have bqa := (k2.block qa (at_lt HBQ.out) (fun e => HAG.out.2.2.2.2.1 e.symm)).trans HBQ.out
  have m2' := at_cell bqa 2
  simp at m2'
  have oH2 := oH1.out.keptB k2 (fun y hy e => HAG.out.2.1.lf y e hy)
  have cH := overPaths_any w4.heap.size a3 p3 H v2 HLEN.out.2.2 (by have := HY4.out; have := HM2.out.1; omega) oH2
  rw [HNS.out.2.2] at cH
  clear cL bqa oH2 m1'
  go_wp2_with fail
  refine cH.mono ?_
  rintro e v3 ⟨rfl, k3⟩
  rw [← HNS.out.2.2] at k3
  have HK3 := hidI k3
  have HM3 : Hid (Mid (T + 3) wA.heap.size wG v3) := hidI (HM2.out.trans (Mid.of k3 (fun y hy => by have := HA.out y (.inr (.inr hy)); have := HY4.out; omega)))
  have HLOW : Hid (∀ y, y < w4.heap.size → v3.heap[y]? = w4.heap[y]?) := hidI (fun y hy => by
    have hh := HY4.out
    have e1 : wG.heap[y]? = w4.heap[y]? := (hg4A.trans (hgAB.trans gG)).block y hy (by simp)
    have e2 : v1.heap[y]? = wG.heap[y]? := HK1.out.block y (by omega) (fun e => by have := (HA.out y (.inl e.symm)).1; omega)
    have e3 : v2.heap[y]? = v1.heap[y]? := HK2.out.block y (by have := HK1.out.size; omega) (fun e => by have := (HA.out y (.inr (.inl e.symm))).1; omega)
    have e4 : v3.heap[y]? = v2.heap[y]? := HK3.out.block y (by have := HM2.out.1; omega) (fun e => by have := (HA.out y (.inr (.inr e.symm))).1; omega)
    rw [e4, e3, e2, e1])
  have oF3 : OwnV (Y + 1) v3 (.slice da fr.length dc) fr := own_of_block HOF.out (fun y hy => HLOW.out y (HD.out y hy).2)
  have cF := over_any (Y + 1) (.slice da fr.length dc) fr (-78) v3 (by rw [HQ.out.1]; exact hrb) oF3
  rw [HQ.out.1] at cF
  clear cH m2' oF3
  go_wp2_with fail
  refine cF.mono ?_
  rintro e v4 ⟨rfl, k4⟩
  rw [← HQ.out.1] at k4
  have HK4 := hidI k4
  have HM4 : Hid (Mid (T + 3) wA.heap.size wG v4) := hidI (HM3.out.trans (Mid.of k4 (fun y hy => by have := HD.out y hy; have := HY4.out; omega)))
  have HLOW4 : Hid (∀ y, y ≤ Y → v4.heap[y]? = w4.heap[y]?) := hidI (fun y hy => by
    have hh := HY4.out
    exact (HK4.out.block y (by have := HM3.out.1; omega) (fun e => by have := (HD.out y e.symm).1; omega)).trans (HLOW.out y (by omega)))
  have hord := HORD.out
  rw [HB2.out.2.2, HY4.out.2.1] at hord
  have n0 : v4.cell? ⟨Y, 0, none⟩ = some (.slice (some ⟨hb, 0, none⟩) 2 vc) := by
    have := HG4.out.1
    rw [← this]
    exact World.cell?_of_block (HLOW4.out Y (Nat.le_refl _))
  have n7 : v4.cell? ⟨hb, 7, none⟩ = some (.slice (some ⟨c1, 0, none⟩) qn (qn + 5)) := by
    have := HG4.out.2.2.2.2.2.2.2.2.1
    rw [← this]
    exact World.cell?_of_block (HLOW4.out hb (by omega))
  have hr4 : RoomAt v4 c1 fn := by
    obtain ⟨ar, r1, r2⟩ := HROOM.out.2.kept hg34
    exact ⟨ar, (HLOW4.out c1 (by omega)).trans r1, r2⟩
  have cG := over_any (T + 3) (.slice (some ⟨c1, 0, none⟩) fn.length (fn.length + 5)) fn (-79) v4 (by have := HBD.out.fs 1 (by simp); simpa using this) (hr4.own (by omega) (by have := HBD.out.fs 1 (by simp); simpa using this))
  rw [HQ.out.2.2.1] at cG
  clear cF hr4
  go_wp2_with fail
  refine cG.mono ?_
  rintro e v5 ⟨rfl, k5⟩
  have k5' : v4.grownBy v5 (some c1) := k5
  have HM5 : Hid (Mid (T + 3) wA.heap.size wG v5) := hidI (HM4.out.trans (Mid.of k5' (fun y hy => by simp at hy; have := HY4.out; omega)))
  have hhy := HY4.out
  have HT : ∀ y, y < T + 3 → v5.heap[y]? = w2.heap[y]? := fun y hy => (HM5.out.2 y (by omega) (.inl hy)).trans ((hg2B.trans gG).block y (by rw [HB2.out.2.2]; exact hy) (by simp))
  have HBB : ∀ y, wA.heap.size ≤ y → y < wG.heap.size → v5.heap[y]? = wG.heap[y]? := fun y h1 h2 => HM5.out.2 y h2 (.inr h1)
  have bG := HCB.out.1.grow gG
  have bq := (HBB qb bG.2.2.1 (at_lt bG.1)).trans bG.1
  have bt := (HT T (by omega)).trans HB2.out.1
  obtain ⟨j0, j1, j2, _, _, _⟩ := at3 bq
  obtain ⟨j3, j4, j5, _, _, _⟩ := at3 bt
  have c7 : Calls Try.prog 7 #[.agg #[.slice b1 nF r1, .slice b2 nL r2, .slice b3 nH r3], .agg #[.slice fa nF fc, .slice la nL lc, .slice ha nH hc]] v5 fun e w' => e = .returned (.bool true) ∧ v5.grownBy w' none := by
    refine sameCarried_yes _ _ F L H v5 ?_ (HWANT2.out v5 (fun y hy => HT y (by omega))) HLEN.out.1 HLEN.out.2.1 HLEN.out.2.2
    rw [← HNV.out.2.1]
    exact (bG.2.1.block HBB).rd
  have hpp : w.heap.size ≤ T := by rw [← hT]; exact hgw1.size
  have HEND : Hid (w.grownBy v5 none) := hidI (by
    have q0 : w.grownBy wG none := hgw2.trans (hg2B.trans gG)
    have q1 := grown_join q0 HK1.out (.inr fun y hy => by have := HA.out y (.inl hy); omega)
    have q2 := grown_join q1 HK2.out (.inr fun y hy => by have := HA.out y (.inr (.inl hy)); omega)
    have q3 := grown_join q2 HK3.out (.inr fun y hy => by have := HA.out y (.inr (.inr hy)); omega)
    have q4 := grown_join q3 HK4.out (.inr fun y hy => by have := HD.out y hy; omega)
    exact grown_join q4 k5' (.inr fun y hy => by simp at hy; omega))
  clear cG n0 n7 hord bG bq bt hhy hpp HT HBB
  go_wp2_with fail
  refine c7.mono ?_
  rintro e v6 ⟨rfl, k6⟩
  go_wp2_with fail
  go_ret
  exact ⟨rfl, HEND.out.trans k6⟩
end Go.Proofs.Ytmkgobmlpmjocaa
