/- The document's Carried. -/
import Derived.Test.YtmkgobmlpmjocaaS
namespace Go.Proofs.Ytmkgobmlpmjocaa
open Go.RowKit
attribute [local go_sem ↓] Go.wp_at_zero Go.wp_at_succ
set_option linter.unusedVariables false
set_option linter.unusedSimpArgs false

set_option maxRecDepth 10000 in
set_option maxHeartbeats 2000000 in
theorem Carried_any (k k' : Int) (nm nm' : ByteArray) (ra oa na : Option Addr) (rc oc nc : Nat) (sv tv sv' tv' : Value) (fr fo fn : List Int) (so sn : List Slt) (w : World)
    (hr : rd w (.slice ra fr.length rc) fr) (hcap : fr.length ≤ rc) (ho : rd w (.slice oa fo.length oc) fo) (hn : rd w (.slice na fn.length nc) fn) (hSo : SlAt w sv so) (hSn : SlAt w sv' sn) (hwo : ∀ s ∈ so, WfS s) (hwn : ∀ s ∈ sn, WfS s) :
    Calls Try.prog 4 #[pV k nm (.slice oa fo.length oc) sv tv, .slice ra fr.length rc, pV k' nm' (.slice na fn.length nc) sv' tv'] w fun e w' => CarP w w' e (carE fr fo so fn sn) (carR fr fo so fn sn) (carL fr fo so fn sn) (carH fr fo so fn sn) := by
  have cM : ∀ W, w.grownBy W none → Calls Try.prog 13 #[pV k nm (.slice oa fo.length oc) sv tv] W fun e w' => e = .returned (.bool (okB fo so)) ∧ W.grownBy w' none := fun W hW => carr_any k nm oa oc sv tv fo so W (hSo.grown hW)
  have cN : ∀ W, w.grownBy W none → Calls Try.prog 13 #[pV k' nm' (.slice na fn.length nc) sv' tv'] W fun e w' => e = .returned (.bool (okB fn sn)) ∧ W.grownBy w' none := fun W hW => carr_any k' nm' na nc sv' tv' fn sn W (hSn.grown hW)
  have HSO : Hid (SlAt w sv so) := hSo
  have HSN : Hid (SlAt w sv' sn) := hSn
  have HR : Hid (rd w (.slice ra fr.length rc) fr) := hr
  have HO : Hid (rd w (.slice oa fo.length oc) fo) := ho
  have HN : Hid (rd w (.slice na fn.length nc) fn) := hn
  have HWO : Hid (∀ s ∈ so, WfS s) := hwo
  have HWN : Hid (∀ s ∈ sn, WfS s) := hwn
  clear hr ho hn hwo hwn
  obtain ⟨sa, sc, rfl, hS1⟩ := hSo
  obtain ⟨ta, tc, rfl, hS2⟩ := hSn
  clear hS1 hS2
  obtain ⟨qr, hqr⟩ : ∃ q, fr.length = q := ⟨_, rfl⟩
  obtain ⟨qo, hqo⟩ : ∃ q, fo.length = q := ⟨_, rfl⟩
  obtain ⟨qn, hqn⟩ : ∃ q, fn.length = q := ⟨_, rfl⟩
  have HQR : Hid (fr.length = qr) := hqr
  have HQO : Hid (fo.length = qo) := hqo
  have HQN : Hid (fn.length = qn) := hqn
  obtain ⟨mo, hmo⟩ : ∃ q, so.length = q := ⟨_, rfl⟩
  obtain ⟨mn, hmn⟩ : ∃ q, sn.length = q := ⟨_, rfl⟩
  have HMO : Hid (so.length = mo) := hmo
  have HMN : Hid (sn.length = mn) := hmn
  rw [hqr, hqo, hqn, hmo, hmn]
  rw [hqo, hmo] at cM
  rw [hqn, hmn] at cN
  rw [hqr] at hcap
  clear hqr hqo hqn hmo hmn
  unfold pV at *
  obtain ⟨p, hp⟩ : ∃ p, w.heap.size = p := ⟨_, rfl⟩
  have HP : Hid (w.heap.size = p) := hp
  generalize hw0 : ((w.alloc (.cells #[.int .i64 k, .string nm, .slice oa qo oc, .slice sa mo sc, tv] 27)).alloc (.cells #[.int .i64 k', .string nm', .slice na qn nc, .slice ta mn tc, tv'] 27)).alloc (.cells #[.slice none 0 0, .slice none 0 0, .slice none 0 0] 30) = w0
  have hg0 : w.grownBy w0 none := by rw [← hw0]; exact gr_alloc (gr_alloc (gr1 _ _) _) _
  have b0 : w0.heap[p]? = some (.cells #[.int .i64 k, .string nm, .slice oa qo oc, .slice sa mo sc, tv] 27) := by rw [← hw0, hp_old (by simp; omega), hp_old (by simp; omega)]; exact hp_new hp.symm _
  have b1 : w0.heap[p + 1]? = some (.cells #[.int .i64 k', .string nm', .slice na qn nc, .slice ta mn tc, tv'] 27) := by rw [← hw0, hp_old (by simp; omega)]; exact hp_new (by simp; omega) _
  have b2 : w0.heap[p + 2]? = some (.cells #[.slice none 0 0, .slice none 0 0, .slice none 0 0] 30) := by rw [← hw0]; exact hp_new (by simp; omega) _
  have x0 := at_cell b0 0
  have x1 := at_cell b0 1
  have x2 := at_cell b0 2
  have x3 := at_cell b0 3
  have x4 := at_cell b0 4
  have y0 := at_cell b1 0
  have y1 := at_cell b1 1
  have y2 := at_cell b1 2
  have y3 := at_cell b1 3
  have y4 := at_cell b1 4
  simp at x0 x1 x2 x3 x4 y0 y1 y2 y3 y4
  have B0 : Hid (w0.heap[p]? = some (.cells #[.int .i64 k, .string nm, .slice oa qo oc, .slice sa mo sc, tv] 27)) := b0
  have B1 : Hid (w0.heap[p + 1]? = some (.cells #[.int .i64 k', .string nm', .slice na qn nc, .slice ta mn tc, tv'] 27)) := b1
  have B2 : Hid (w0.heap[p + 1 + 1]? = some (.cells #[.slice none 0 0, .slice none 0 0, .slice none 0 0] 30)) := b2
  clear b0 b1 b2
  by_cases h1 : okB fo so = false
  · rw [h1] at cM
    have e0 : carE fr fo so fn sn = 12 := by simp [carE, *]
    have e1 : carR fr fo so fn sn = [] := by simp [carR, e0]
    have e2 : carL fr fo so fn sn = [] := by simp [carL, e0]
    have e3 : carH fr fo so fn sn = [] := by simp [carH, e0]
    rw [e0, e1, e2, e3]
    clear e0 e1 e2 e3
    clear h1
    go_enter Try.func4, Try.ntmps4
    go_wp2_with fail
    refine (cM _ hg0).mono ?_
    rintro e w1 ⟨rfl, hg1⟩
    have hgw1 := hg0.trans hg1
    have b4 : w1.heap[p + 1 + 1]? = some (.cells #[.slice none 0 0, .slice none 0 0, .slice none 0 0] 30) := kept hg1 B2.out
    obtain ⟨z0, z1, z2, f0, f1, f2⟩ := at3 b4
    clear hw0
    go_wp2_with fail
    refine bodyPost_ret (results30 rfl _ _ (p + 1 + 1) _ _ _ rfl (box3 b4)) rfl ?_
    exact CarP.zero (gr3n hgw1 (by have := HP.out; omega))
  · have h1' : okB fo so = true := by simpa using h1
    rw [h1'] at cM
    have hlo1 : qo ≤ 20000 := by simp [okB] at h1'; have := HQO.out; omega
    have hlo2 : mo ≤ 20000 := by simp [okB] at h1'; have := HMO.out; omega
    have hall : so.all (slB fo.length) = true := by
      have := h1'
      unfold okB at this
      rw [Bool.and_eq_true] at this
      exact this.2
    by_cases h2 : qr = qo
    · have h2s := h2.symm
      clear h2
      subst h2s
      have h2 : fr.length = fo.length := HQR.out.trans HQO.out.symm
      by_cases h3 : okB fn sn = false
      · rw [h3] at cN
        have e0 : carE fr fo so fn sn = 12 := by simp [carE, *]
        have e1 : carR fr fo so fn sn = [] := by simp [carR, e0]
        have e2 : carL fr fo so fn sn = [] := by simp [carL, e0]
        have e3 : carH fr fo so fn sn = [] := by simp [carH, e0]
        rw [e0, e1, e2, e3]
        clear e0 e1 e2 e3
        clear h1 h1' hall h3 h2
        go_enter Try.func4, Try.ntmps4
        go_wp2_with fail
        refine (cM _ hg0).mono ?_
        rintro e w1 ⟨rfl, hg1⟩
        have hgw1 := hg0.trans hg1
        have b4 : w1.heap[p + 1 + 1]? = some (.cells #[.slice none 0 0, .slice none 0 0, .slice none 0 0] 30) := kept hg1 B2.out
        have B41 : Hid (w1.heap[p + 1]? = some (.cells #[.int .i64 k', .string nm', .slice na qn nc, .slice ta mn tc, tv'] 27)) := kept hg1 B1.out
        have B40 : Hid (w1.heap[p]? = some (.cells #[.int .i64 k, .string nm, .slice oa qo oc, .slice sa mo sc, tv] 27)) := kept hg1 B0.out
        obtain ⟨z0, z1, z2, f0, f1, f2⟩ := at3 b4
        have x2' := at_cell B40.out 2
        have y0' := at_cell B41.out 0
        have y1' := at_cell B41.out 1
        have y2' := at_cell B41.out 2
        have y3' := at_cell B41.out 3
        have y4' := at_cell B41.out 4
        simp at x2' y0' y1' y2' y3' y4'
        clear hw0 x0 x1 x2 x3 x4 y0 y1 y2 y3 y4
        go_wp2_with fail
        refine (cN _ hgw1).mono ?_
        rintro e w2 ⟨rfl, hg2⟩
        have b5 : w2.heap[p + 1 + 1]? = some (.cells #[.slice none 0 0, .slice none 0 0, .slice none 0 0] 30) := kept hg2 b4
        clear z0 z1 z2 f0 f1 f2
        obtain ⟨z0, z1, z2, f0, f1, f2⟩ := at3 b5
        go_wp2_with fail
        refine bodyPost_ret (results30 rfl _ _ (p + 1 + 1) _ _ _ rfl (box3 b5)) rfl ?_
        exact CarP.zero (gr3n (hgw1.trans hg2) (by have := HP.out; omega))
      · have h3' : okB fn sn = true := by simpa using h3
        rw [h3'] at cN
        have hln1 : qn ≤ 20000 := by simp [okB] at h3'; have := HQN.out; omega
        have hln2 : mn ≤ 20000 := by simp [okB] at h3'; have := HMN.out; omega
        have hall' : sn.all (slB fn.length) = true := by
          have := h3'
          unfold okB at this
          rw [Bool.and_eq_true] at this
          exact this.2
        have e0 : carE fr fo so fn sn = 0 := by simp [carE, *]
        have e1 : carR fr fo so fn sn = carF fr so fn sn := by simp [carR, e0]
        have e2 : carL fr fo so fn sn = unkF so sn := by simp [carL, e0]
        have e3 : carH fr fo so fn sn = unkF sn so := by simp [carH, e0]
        rw [e0, e1, e2, e3]
        clear e0 e1 e2 e3
        have HAO : Hid (so.all (slB fr.length) = true) := by rw [h2]; exact hall
        have HAN : Hid (sn.all (slB fn.length) = true) := hall'
        have HL1 : Hid (mo ≤ 20000 ∧ mn ≤ 20000 ∧ qn ≤ 20000 ∧ qo ≤ 20000) := ⟨hlo2, hln2, hln1, hlo1⟩
        clear h1 h1' hall h3 h3' hall' hlo1 hlo2 hln1 hln2 h2
        go_enter Try.func4, Try.ntmps4
        go_wp2_with fail
        refine (cM _ hg0).mono ?_
        rintro e w1 ⟨rfl, hg1⟩
        have hgw1 := hg0.trans hg1
        have b4 : w1.heap[p + 1 + 1]? = some (.cells #[.slice none 0 0, .slice none 0 0, .slice none 0 0] 30) := kept hg1 B2.out
        have B41 : Hid (w1.heap[p + 1]? = some (.cells #[.int .i64 k', .string nm', .slice na qn nc, .slice ta mn tc, tv'] 27)) := kept hg1 B1.out
        have B40 : Hid (w1.heap[p]? = some (.cells #[.int .i64 k, .string nm, .slice oa qo oc, .slice sa mo sc, tv] 27)) := kept hg1 B0.out
        obtain ⟨z0, z1, z2, f0, f1, f2⟩ := at3 b4
        have x2' := at_cell B40.out 2
        have y0' := at_cell B41.out 0
        have y1' := at_cell B41.out 1
        have y2' := at_cell B41.out 2
        have y3' := at_cell B41.out 3
        have y4' := at_cell B41.out 4
        simp at x2' y0' y1' y2' y3' y4'
        clear hw0 x0 x1 x2 x3 x4 y0 y1 y2 y3 y4
        go_wp2_with fail
        refine (cN _ hgw1).mono ?_
        rintro e w2 ⟨rfl, hg2⟩
        have hgw2 := hgw1.trans hg2
        have B5 : Hid (w2.heap[p + 1 + 1]? = some (.cells #[.slice none 0 0, .slice none 0 0, .slice none 0 0] 30)) := kept hg2 b4
        have HK : Hid (w2.cell? ⟨p, 3, none⟩ = some (.slice sa mo sc) ∧ w2.cell? ⟨p + 1, 0, none⟩ = some (.int .i64 k') ∧ w2.cell? ⟨p + 1, 1, none⟩ = some (.string nm') ∧ w2.cell? ⟨p + 1, 2, none⟩ = some (.slice na qn nc) ∧ w2.cell? ⟨p + 1, 3, none⟩ = some (.slice ta mn tc) ∧ w2.cell? ⟨p + 1, 4, none⟩ = some (tv')) := ⟨by have := at_cell (kept hg2 B40.out) 3; simpa using this, hg2.cell y0' (by simp), hg2.cell y1' (by simp), hg2.cell y2' (by simp), hg2.cell y3' (by simp), hg2.cell y4' (by simp)⟩
        obtain ⟨k0, k1, k2, k3, k4, k5⟩ := HK.out
        have HLO : Hid (SlAt w (.slice sa mo sc) so) := by have := HSO.out; rw [HMO.out] at this; exact this
        have HLN : Hid (SlAt w (.slice ta mn tc) sn) := by have := HSN.out; rw [HMN.out] at this; exact this
        have cO : ∀ (t : Slt) W, w2.grownBy W none → Calls Try.prog 14 #[.slice sa mo sc, sV t] W fun e w' => e = .returned (.int .i64 (if fnd so t < mo then ((fnd so t : Nat) : Int) else -1)) ∧ W.grownBy w' none := fun t W hW => by
          have := known_any _ so t W (HSO.out.grown (hgw2.trans hW)) (by rw [HMO.out]; exact HL1.out.1)
          rw [HMO.out] at this
          exact this
        have cN : ∀ (t : Slt) W, w2.grownBy W none → Calls Try.prog 14 #[.slice ta mn tc, sV t] W fun e w' => e = .returned (.int .i64 (if fnd sn t < mn then ((fnd sn t : Nat) : Int) else -1)) ∧ W.grownBy w' none := fun t W hW => by
          have := known_any _ sn t W (HSN.out.grown (hgw2.trans hW)) (by rw [HMN.out]; exact HL1.out.2.1)
          rw [HMN.out] at this
          exact this
        have HCO : Hid (∀ (t : Slt) W, w2.grownBy W none → Calls Try.prog 14 #[.slice sa mo sc, sV t] W fun e w' => e = .returned (.int .i64 (if fnd so t < mo then ((fnd so t : Nat) : Int) else -1)) ∧ W.grownBy w' none) := cO
        have HCN : Hid (∀ (t : Slt) W, w2.grownBy W none → Calls Try.prog 14 #[.slice ta mn tc, sV t] W fun e w' => e = .returned (.int .i64 (if fnd sn t < mn then ((fnd sn t : Nat) : Int) else -1)) ∧ W.grownBy w' none) := cN
        obtain ⟨i3, hi3, zz3, ss3, bb3⟩ := info_parts info3
        have HAP : Hid ((fn.map (Value.int .i64)).length = qn * 1 ∧ (qn = 0 ∨ ∃ b off, na = some ⟨b, off, none⟩ ∧ ∀ j u, (fn.map (Value.int .i64))[j]? = some u → w2.cell? ((⟨b, off, none⟩ : Addr).add j) = some u)) := by
          refine ⟨by simp [HQN.out], ?_⟩
          obtain ⟨a', c', e, h | ⟨b1, o1, h0, h1⟩⟩ := HN.out
          · left
            rw [← HQN.out, h]
            rfl
          · right
            simp at e
            obtain ⟨rfl, rfl⟩ := e
            refine ⟨b1, o1, h0, fun j u hj => ?_⟩
            have hjl : j < fn.length := by
              rcases Nat.lt_or_ge j fn.length with h | h
              · exact h
              · rw [List.getElem?_eq_none (by simpa using h)] at hj; simp at hj
            rw [addn, hgw2.cell (h1 j hjl) (by simp), ← hj]
            simp [hjl]
        have hqn := HL1.out.2.2.1
        clear z0 z1 z2 f0 f1 f2 x2' y0' y1' y2' y3' y4' cM cO cN
        go_wp2_with (first
          | (at_builtin
             refine wpList_append_all rfl _ _ 23 rfl 3 i3 _ 1 8 Try.underlying23 hi3 zz3 ss3 bb3 rfl (by omega) na qn nc (fn.map (Value.int .i64)) rfl rfl HAP.out.1 HAP.out.2 (by simp [Value.oneCell']) (by unfold maxLen; omega) (by omega) ?_
             intro fa fc w3 hown3 hg3))

        have hcb : w3.heap.size < w3.heap.size + 1 := by omega
        have HRF0 : Hid (Rf w2 (w3.alloc (.cells #[.slice fa qn fc, .slice none 0 0, .slice none 0 0] 30)) w3.heap.size (w3.heap.size + 1) (w3.alloc (.cells #[.slice fa qn fc, .slice none 0 0, .slice none 0 0] 30)).heap.size fa fc fn none 0 [] none 0 []) := by
          refine ⟨?_, ?_, ?_, OwnP.nil _ _, by simp [Value.ownBlock], OwnP.nil _ _, by omega, by simp, Nat.le_refl _, hg3.size, gr_alloc hg3 _⟩
          · rw [HQN.out]
            exact heap_alloc_new _ _
          · unfold OwnV
            rw [HQN.out]
            exact World.ownsRow.alloc hown3 _
          · intro y hy
            rw [HQN.out] at hy
            exact (World.ownsRow.lt hown3 y hy).2
        have hmo := HL1.out.1
        have hmn := HL1.out.2.1
        clear hown3 hg3 k1 k2 k3 k5 hi3 zz3 ss3 bb3 hcb cN
        go_loopg [9] mo (fun gk s9 wx => ∃ (j : Nat) (la : Option Addr) (lc : Nat) (L : List ByteArray), s9 = .int .i64 j ∧ j ≤ mo ∧ gk = mo - j ∧ L = unkF (so.take j) sn ∧ Rf w2 wx w3.heap.size (w3.heap.size + 1) wx.heap.size fa fc fn la lc L none 0 [])
        case atStart => exact ⟨0, none, 0, [], rfl, Nat.zero_le _, by omega, by simp [unkF], HRF0.out⟩
        case round =>
          obtain ⟨j, la, lc, L, rfl, hj, hgj, hL, hRf⟩ := hrel
          have HG : Hid (gk = mo - j) := hgj
          have HL : Hid (L = unkF (so.take j) sn) := hL
          have HRF : Hid (Rf w2 wr w3.heap.size (w3.heap.size + 1) wr.heap.size fa fc fn la lc L none 0 []) := hRf
          have HLL : Hid (L.length ≤ 20000) := (by rw [hL]; have := unkF_len (so.take j) sn; simp at this; omega : L.length ≤ 20000)
          have hgr := hRf.grown
          have x3 := hgr.cell k0 (by simp)
          have y3 := hgr.cell k4 (by simp)
          obtain ⟨nl, hnl⟩ : ∃ n, L.length = n := ⟨_, rfl⟩
          have HNL : Hid (L.length = nl) := hnl
          have hbx := hRf.box
          rw [hnl] at hbx
          have l1 := at_cell hbx 1
          have lf1 := at_frozen hbx 1
          simp at l1
          clear hgj hL hRf hnl hbx
          by_cases hlt : j < mo
          · obtain ⟨b', off, t, rfl, hsj, c0, c1, c2, c3, c4, c5⟩ := sl_one (l := so) (by have := HLO.out.grown (hgw2.trans hgr); rw [← HMO.out] at this; exact this) j (by rw [HMO.out]; exact hlt)
            have HTK : Hid (unkF (so.take (j + 1)) sn = L ++ if fnd sn t < sn.length then [] else [t.path]) := (by rw [List.take_add_one, hsj, HL.out]; exact unkF_more _ _ _ : unkF (so.take (j + 1)) sn = L ++ if fnd sn t < sn.length then [] else [t.path])
            have i1 : (0 : Int) ≤ (j : Int) := by omega
            have i2 : (j : Int) < (mo : Int) := by omega
            have cK := HCN.out t
            clear hsj
            obtain ⟨t0, t1, t2, t3, t4, t5⟩ := t
            unfold sV at cK
            dsimp only at c0 c1 c2 c3 c4 c5 cK
            have HK1 : Hid (wr.cell? ⟨p, 3, none⟩ = some (.slice (some ⟨b', off, none⟩) mo sc) ∧ wr.cell? ⟨p + 1, 3, none⟩ = some (.slice ta mn tc) ∧ wr.cell? ⟨b', off + j * 6, none⟩ = some (.string t0) ∧ wr.cell? ⟨b', off + j * 6 + 1, none⟩ = some (.int .i64 t1) ∧ wr.cell? ⟨b', off + j * 6 + 2, none⟩ = some (.int .i64 t2) ∧ wr.cell? ⟨b', off + j * 6 + 3, none⟩ = some (.int .i64 t3) ∧ wr.cell? ⟨b', off + j * 6 + 4, none⟩ = some (.bool t4) ∧ wr.cell? ⟨b', off + j * 6 + 5, none⟩ = some (.int .i64 t5)) := ⟨x3, y3, c0, c1, c2, c3, c4, c5⟩
            obtain ⟨r, hr⟩ : ∃ r : Int, (if fnd sn ⟨t0, t1, t2, t3, t4, t5⟩ < mn then ((fnd sn ⟨t0, t1, t2, t3, t4, t5⟩ : Nat) : Int) else -1) = r := ⟨_, rfl⟩
            rw [hr] at cK
            have HRR : Hid ((if fnd sn ⟨t0, t1, t2, t3, t4, t5⟩ < mn then ((fnd sn ⟨t0, t1, t2, t3, t4, t5⟩ : Nat) : Int) else -1) = r) := hr
            clear hr
            go_wp2_with fail
            go_region_held3 (fun w' => w'.cell? ⟨p, 3, none⟩ = some (.slice (some ⟨b', off, none⟩) mo sc) ∧ w'.cell? ⟨p + 1, 3, none⟩ = some (.slice ta mn tc) ∧ w'.cell? ⟨b', off + j * 6, none⟩ = some (.string t0) ∧ w'.cell? ⟨b', off + j * 6 + 1, none⟩ = some (.int .i64 t1) ∧ w'.cell? ⟨b', off + j * 6 + 2, none⟩ = some (.int .i64 t2) ∧ w'.cell? ⟨b', off + j * 6 + 3, none⟩ = some (.int .i64 t3) ∧ w'.cell? ⟨b', off + j * 6 + 4, none⟩ = some (.bool t4) ∧ w'.cell? ⟨b', off + j * 6 + 5, none⟩ = some (.int .i64 t5)) (first | (go_keep; done) | exact HK2.out) (first | (go_at_call 14; refine (cK _ (gr_drew hgr)).mono ?_; rintro e w4 ⟨rfl, hg4⟩; have hg4' : wr.grownBy w4 none := (gr_drew (World.grownBy.refl wr none)).trans hg4; have HK2 : Hid (w4.cell? ⟨p, 3, none⟩ = some (.slice (some ⟨b', off, none⟩) mo sc) ∧ w4.cell? ⟨p + 1, 3, none⟩ = some (.slice ta mn tc) ∧ w4.cell? ⟨b', off + j * 6, none⟩ = some (.string t0) ∧ w4.cell? ⟨b', off + j * 6 + 1, none⟩ = some (.int .i64 t1) ∧ w4.cell? ⟨b', off + j * 6 + 2, none⟩ = some (.int .i64 t2) ∧ w4.cell? ⟨b', off + j * 6 + 3, none⟩ = some (.int .i64 t3) ∧ w4.cell? ⟨b', off + j * 6 + 4, none⟩ = some (.bool t4) ∧ w4.cell? ⟨b', off + j * 6 + 5, none⟩ = some (.int .i64 t5)) := ⟨hg4'.cell HK1.out.1 (by simp), hg4'.cell HK1.out.2.1 (by simp), hg4'.cell HK1.out.2.2.1 (by simp), hg4'.cell HK1.out.2.2.2.1 (by simp), hg4'.cell HK1.out.2.2.2.2.1 (by simp), hg4'.cell HK1.out.2.2.2.2.2.1 (by simp), hg4'.cell HK1.out.2.2.2.2.2.2.1 (by simp), hg4'.cell HK1.out.2.2.2.2.2.2.2 (by simp)⟩))
            have HRF4 : Hid (Rf w2 w4 w3.heap.size (w3.heap.size + 1) w4.heap.size fa fc fn la lc L none 0 []) := (HRF.out.grow hg4').up hg4'.size (Nat.le_refl _)
            by_cases hin : fnd sn ⟨t0, t1, t2, t3, t4, t5⟩ < mn
            · have hr0 : ¬ r < 0 := by rw [← HRR.out, if_pos hin]; omega
              have hd0 : decide (r < 0) = false := by simp only [hr0, decide_false]
              have HT2 : Hid (L = unkF (so.take (j + 1)) sn) := (by rw [HTK.out, if_pos (by rw [HMN.out]; exact hin)]; simp : L = unkF (so.take (j + 1)) sn)
              clear hin
              go_wp2_with fail
              have hgl := HG.out
              go_roundg (mo - (j + 1))
              all_goals first | omega | exact ⟨j + 1, la, lc, L, by go_num, by omega, by omega, HT2.out, HRF4.out⟩
            · have hr0 : r < 0 := by rw [← HRR.out, if_neg hin]; omega
              have hd0 : decide (r < 0) = true := by simp only [hr0, decide_true]
              have HT2 : Hid (L ++ [t0] = unkF (so.take (j + 1)) sn) := (by rw [HTK.out, if_neg (by rw [HMN.out]; exact hin)] : L ++ [t0] = unkF (so.take (j + 1)) sn)

              have HRF5 : Hid (Rf w2 w4.drew w3.heap.size (w3.heap.size + 1) w4.drew.heap.size fa fc fn la lc L none 0 []) := HRF4.out.grow (gr_drew (World.grownBy.refl w4 none))
              obtain ⟨la', lc', w5, hrun, hO5, hg5⟩ := (HRF5.out.lost).more t0 (by have := HLL.out; omega) (by have := HRF5.out.c2; exact this)
              have HRF6 := HRF5.out.more t0 hg5 hO5
              rw [HNL.out] at hrun HRF6
              have HR6 : Hid (_) := HRF6
              have HRUN : Hid (_ = _) := hrun
              have hb5 : w5.heap[w3.heap.size]? = _ := (hg5.block w3.heap.size (at_lt HRF5.out.box) (fun e => by have := (World.ownsRow.lt HRF5.out.lost _ e.symm).1; omega)).trans HRF5.out.box
              have z1 := at_cell hb5 1
              have zf := at_frozen hb5 1
              simp at z1
              obtain ⟨a0, a1, a2, a3, a4, a5, a6, a7⟩ := HK2.out
              have l4 := hg4'.cell l1 (by simp)
              have q1 : ∀ o : Obj, (w4.alloc o).cell? ⟨w3.heap.size, 1, none⟩ = some (.slice la nl lc) := fun o => (gr1 w4 o).cell l4 (by simp)
              have q2 : ∀ o : Obj, (w4.drew.alloc o).cell? ⟨w3.heap.size, 1, none⟩ = some (.slice la nl lc) := fun o => (gr1 w4 o).cell l4 (by simp)
              clear hin hO5 hg5 hb5 HRF6 hrun l1 lf1 x3 y3 c0 c1 c2 c3 c4 c5
              go_wp2_with fail
              go_region_law (first | (refine step_append_run (by rfl) _ _ 28 (by rfl) _ _ _ w5 (by rfl) (by rfl) HRUN.out ?_))
              all_goals go_wp2_with fail
              all_goals have hgl := HG.out
              all_goals go_roundg (mo - (j + 1))
              all_goals first | omega | exact ⟨j + 1, la', lc', L ++ [t0], by go_num, by omega, by omega, HT2.out, HR6.out⟩
          · have hj0 : j = mo := by omega
            have hk' : ¬ ((j : Int) < (mo : Int)) := by omega
            have HLE : Hid (L = unkF so sn) := (by rw [HL.out, List.take_of_length_le (by rw [HMO.out]; omega)] : L = unkF so sn)
            obtain ⟨Bm, hBm⟩ : ∃ B, wr.heap.size = B := ⟨_, rfl⟩
            have HRB : Hid (Rf w2 wr w3.heap.size (w3.heap.size + 1) Bm fa fc fn la lc L none 0 []) := by have := HRF.out; rw [hBm] at this; exact this
            clear hBm HG HRF hgr y3 l1 lf1
            go_wp2_with fail
            clear x3 hk' hlt
            go_loopg [10] mn (fun gk s10 wx => ∃ (j : Nat) (ha : Option Addr) (hc : Nat) (H : List ByteArray) (F : List Int), s10 = .int .i64 j ∧ j ≤ mn ∧ gk = mn - j ∧ H = unkF (sn.take j) so ∧ F = carF fr so fn (sn.take j) ∧ F.length = qn ∧ Rf w2 wx w3.heap.size (w3.heap.size + 1) Bm fa fc F la lc L ha hc H)
            case atStart => exact ⟨0, none, 0, [], fn, rfl, Nat.zero_le _, by omega, by simp [unkF], by simp [carF], HQN.out, HRB.out⟩
            case round =>
              obtain ⟨j, ha, hc, H, F, rfl, hj, hgj, hH, hF, hFl, hRf⟩ := hrel
              have HG : Hid (_ = mn - j) := hgj
              have HHH : Hid (H = unkF (sn.take j) so) := hH
              have HFF : Hid (F = carF fr so fn (sn.take j)) := hF
              have HFL : Hid (F.length = qn) := hFl
              have HRF : Hid (Rf w2 wr w3.heap.size (w3.heap.size + 1) Bm fa fc F la lc L ha hc H) := hRf
              have HHL : Hid (H.length ≤ 20000) := (by rw [hH]; have := unkF_len (sn.take j) so; simp at this; omega : H.length ≤ 20000)
              have hgr := hRf.grown
              have x3 := hgr.cell k0 (by simp)
              have y3 := hgr.cell k4 (by simp)
              clear hgj hH hF hFl hRf
              by_cases hlt : j < mn
              · obtain ⟨b', off, t, hta, hsj, c0, c1, c2, c3, c4, c5⟩ := sl_one (l := sn) (by have := HLN.out.grown (hgw2.trans hgr); rw [← HMN.out] at this; exact this) j (by rw [HMN.out]; exact hlt)
                subst hta
                have HTK : Hid (unkF (sn.take (j + 1)) so = H ++ if fnd so t < so.length then [] else [t.path]) := (by rw [List.take_add_one, hsj, HHH.out]; exact unkF_more _ _ _ : unkF (sn.take (j + 1)) so = H ++ if fnd so t < so.length then [] else [t.path])
                have HTC : Hid (carF fr so fn (sn.take (j + 1)) = stepF fr so F t) := (by rw [List.take_add_one, hsj, HFF.out]; simp [carF] : carF fr so fn (sn.take (j + 1)) = stepF fr so F t)
                have HSB : Hid (slB qn t = true) := (by have := List.all_eq_true.1 HAN.out t (List.mem_of_getElem? hsj); rw [HQN.out] at this; exact this : slB qn t = true)
                have i1 : (0 : Int) ≤ (j : Int) := by omega
                have i2 : (j : Int) < (mn : Int) := by omega
                have cK := HCO.out t
                clear hsj
                obtain ⟨nw, hnw⟩ : ∃ nw : Nat, wds t = nw := ⟨(wds t).toNat, by unfold wds; split <;> omega⟩
                have HNW : Hid (wds t = nw) := hnw
                have hnw1 : 1 ≤ nw := by have : 1 ≤ wds t := by { unfold wds; split <;> omega }; omega
                clear hnw
                have hsb := HSB.out
                simp [slB, liesB, HNW.out] at hsb
                obtain ⟨a2, ha2⟩ : ∃ a2 : Nat, t.at' = a2 := ⟨t.at'.toNat, by omega⟩
                rw [ha2] at c2 hsb
                have hfit : a2 + nw ≤ qn := by omega
                clear hsb
                obtain ⟨t0, t1, t2, t3, t4, t5⟩ := t
                dsimp only at ha2
                subst ha2
                unfold sV at cK
                dsimp only at c0 c1 c2 c3 c4 c5 cK
                obtain ⟨r, hr⟩ : ∃ r : Int, (if fnd so ⟨t0, t1, (a2 : Int), t3, t4, t5⟩ < mo then ((fnd so ⟨t0, t1, (a2 : Int), t3, t4, t5⟩ : Nat) : Int) else -1) = r := ⟨_, rfl⟩
                rw [hr] at cK
                have HRR : Hid ((if fnd so ⟨t0, t1, (a2 : Int), t3, t4, t5⟩ < mo then ((fnd so ⟨t0, t1, (a2 : Int), t3, t4, t5⟩ : Nat) : Int) else -1) = r) := hr
                clear hr
                generalize hX : wr.heap.size = X
                have HX : Hid (wr.heap.size = X) := hX
                have HXX : Hid (w3.heap.size < X) := (by rw [← hX]; have := HRF.out.c1; have := HRF.out.c2; have := HRF.out.c3; omega : w3.heap.size < X)
                have x3a : ∀ o : Obj, (wr.alloc o).cell? ⟨p, 3, none⟩ = some (.slice sa mo sc) := fun o => (gr1 wr o).cell x3 (by simp)
                go_wp2_with fail
                refine (cK _ (hgr.trans (gr1 _ _))).mono ?_
                rintro e w4 ⟨rfl, hg4⟩
                have hg4' : wr.grownBy w4 none := (gr1 _ _).trans hg4
                have hb4 : w4.heap[X]? = some (.cells #[.string t0, .int .i64 t1, .int .i64 a2, .int .i64 t3, .bool t4, .int .i64 t5] 50) := kept hg4 (hp_new hX.symm _)
                have HB4 : Hid (w4.heap[X]? = some (.cells #[.string t0, .int .i64 t1, .int .i64 a2, .int .i64 t3, .bool t4, .int .i64 t5] 50)) := hb4
                have q0 := at_cell hb4 0
                have q3 := at_cell hb4 3
                simp at q0 q3
                have HRF4 : Hid (Rf w2 w4 w3.heap.size (w3.heap.size + 1) Bm fa fc F la lc L ha hc H) := HRF.out.grow hg4'
                clear hb4 hg4 c0 c1 c2 c3 c4 c5 x3 x3a y3 hX
                by_cases hin : fnd so ⟨t0, t1, (a2 : Int), t3, t4, t5⟩ < mo
                · have hr0 : ¬ r < 0 := by rw [← HRR.out, if_pos hin]; omega
                  have hd0 : decide (r < 0) = false := by simp only [hr0, decide_false]
                  have hin' : fnd so ⟨t0, t1, (a2 : Int), t3, t4, t5⟩ < so.length := by rw [HMO.out]; exact hin
                  have hat := at_fit HAO.out hin'
                  rw [HNW.out, HQR.out] at hat
                  obtain ⟨ca, hca⟩ : ∃ ca : Nat, atF so ⟨t0, t1, (a2 : Int), t3, t4, t5⟩ = ca := ⟨(atF so ⟨t0, t1, (a2 : Int), t3, t4, t5⟩).toNat, by omega⟩
                  have hcf : ca + nw ≤ qo := by omega
                  have HTH : Hid (H = unkF (sn.take (j + 1)) so) := (by rw [HTK.out, if_pos hin']; simp : H = unkF (sn.take (j + 1)) so)
                  have HTF : Hid (carF fr so fn (sn.take (j + 1)) = lay F a2 ((fr.drop ca).take nw)) := (by
                    rw [HTC.out]
                    unfold stepF
                    rw [if_pos hin', HNW.out, hca]
                    rfl : carF fr so fn (sn.take (j + 1)) = lay F a2 ((fr.drop ca).take nw))
                  obtain ⟨kk, hkk⟩ : ∃ kk, fnd so ⟨t0, t1, (a2 : Int), t3, t4, t5⟩ = kk := ⟨_, rfl⟩
                  have hkm : kk < mo := by omega
                  have hrk : r = (kk : Int) := by rw [← HRR.out, if_pos hin, hkk]
                  obtain ⟨ob, oo, so', hsa, hsk, _, _, ck, _, _, _⟩ := sl_one (l := so) (by have := HLO.out.grown hgw2; rw [← HMO.out] at this; exact this) kk (by rw [HMO.out]; exact hkm)
                  have hck : so'.at' = ca := by
                    rw [← hca]
                    unfold atF
                    rw [if_pos hin', hkk]
                    simp [List.getD, hsk]
                  rw [hck] at ck
                  have HCK : Hid (w2.cell? ⟨ob, oo + kk * 6 + 2, none⟩ = some (.int .i64 ca)) := ck
                  have HOB : Hid (ob < w2.heap.size) := cell_lt ck
                  obtain ⟨fb, fo', hfa, hfc⟩ : ∃ fb fo', ra = some ⟨fb, fo', none⟩ ∧ ∀ i, i < fr.length → w.cell? ⟨fb, fo' + i, none⟩ = some (.int .i64 (fr.getD i 0)) := by
                    obtain ⟨a', c', e, h | ⟨b1, o1, rfl, h1⟩⟩ := HR.out
                    · have := HQR.out; rw [h] at this; simp at this; omega
                    · simp at e
                      exact ⟨b1, o1, e.1, h1⟩
                  have HFC : Hid (∀ i, i < fr.length → w.cell? ⟨fb, fo' + i, none⟩ = some (.int .i64 (fr.getD i 0))) := hfc
                  have HFB : Hid (fb < w2.heap.size) := (Nat.lt_of_lt_of_le (cell_lt (hfc 0 (by have := HQR.out; omega))) hgw2.size : fb < w2.heap.size)
                  obtain ⟨g, hg⟩ : ∃ g, fa = some ⟨g, 0, none⟩ := by
                    obtain ⟨_, ⟨h1, h2⟩ | ⟨g, c, cur, h1, _⟩⟩ := HRF4.out.frame
                    · have := HFL.out; omega
                    · simp at h1
                      exact ⟨g, h1.1⟩
                  subst hsa hfa hg hrk
                  clear hin hin' hat hca hkk hsk hck ck hfc hr0 cK
                  by_cases hp3 : 0 < t3
                  · have hp3d : decide (0 < t3) = true := by simp only [hp3, decide_true]
                    have HT3 : Hid (t3 = (nw : Int)) := (by have := HNW.out; simp [wds] at this; omega : t3 = (nw : Int))
                    go_wp2_with fail
                    go_loopg [14] nw (fun gk s14 wx => ∃ (i : Nat), s14 = .int .i64 i ∧ i ≤ nw ∧ gk = nw - i ∧ wx.heap[X]? = some (.cells #[.string t0, .int .i64 t1, .int .i64 a2, .int .i64 t3, .bool t4, .int .i64 t5] 50) ∧ Rf w2 wx w3.heap.size (w3.heap.size + 1) Bm (some ⟨g, 0, none⟩) fc (lay F a2 (((fr.drop ca).take nw).take i)) la lc L ha hc H)
                    case atStart => exact ⟨0, rfl, Nat.zero_le _, by omega, HB4.out, by rw [List.take_zero, lay_none _ _ (by have := HFL.out; omega)]; exact HRF4.out⟩
                    case round =>
                      obtain ⟨i, rfl, hi, hgi, hXb, hRi⟩ := hrel
                      have HGI : Hid (_ = nw - i) := hgi
                      have HXB : Hid (wr.heap[X]? = some (.cells #[.string t0, .int .i64 t1, .int .i64 a2, .int .i64 t3, .bool t4, .int .i64 t5] 50)) := hXb
                      have HRI : Hid (Rf w2 wr w3.heap.size (w3.heap.size + 1) Bm (some ⟨g, 0, none⟩) fc (lay F a2 (((fr.drop ca).take nw).take i)) la lc L ha hc H) := hRi
                      have hgi2 := hRi.grown
                      have e2 := at_cell hXb 2
                      simp at e2
                      have hbx2 := hRi.box
                      rw [lay_len (by have := HFL.out; have := HQR.out; simp; omega), HFL.out] at hbx2
                      have e0 := at_cell hbx2 0
                      simp at e0
                      have e3 := hgi2.cell k0 (by simp)
                      have e4 := hgi2.cell HCK.out (by simp)
                      have hgltc := hRi.flt g rfl
                      have hglw : w2.heap.size ≤ g := (World.ownsRow.lt hRi.frame g rfl).1
                      have hqo := HL1.out.2.2.2
                      clear hgi hXb hRi hbx2
                      by_cases hil : i < nw
                      · have e5 : wr.cell? ⟨fb, fo' + (ca + i), none⟩ = some (.int .i64 (fr.getD (ca + i) 0)) := (hgw2.trans hgi2).cell (HFC.out (ca + i) (by have := HQR.out; omega)) (by simp)
                        obtain ⟨xv, hxv⟩ : ∃ x, fr.getD (ca + i) 0 = x := ⟨_, rfl⟩
                        rw [hxv] at e5
                        have HNX : Hid (Rf w2 (wr.setCell ⟨g, a2 + i, none⟩ (.int .i64 xv)) w3.heap.size (w3.heap.size + 1) Bm (some ⟨g, 0, none⟩) fc (lay F a2 (((fr.drop ca).take nw).take (i + 1))) la lc L ha hc H) := by
                          have h := HRI.out.word (a2 + i) xv
                          have e : (((fr.drop ca).take nw).getD i 0) = xv := by rw [← hxv]; simp [List.getD, hil]
                          rw [← e, lay_more (by have := HQR.out; simp; omega) (by have := HFL.out; have := HQR.out; simp; omega), e] at h
                          exact h
                        have g0 : wr.cell? ⟨g, a2 + i, none⟩ = some (.int .i64 ((lay F a2 (((fr.drop ca).take nw).take i)).getD (a2 + i) 0)) := HRI.out.frame.get (a2 + i) (by rw [lay_len (by have := HFL.out; have := HQR.out; simp; omega), HFL.out]; omega)
                        have g1 : wr.frozen? ⟨g, a2 + i, none⟩ = false := HRI.out.frame.frozen (a2 + i)
                        have hXg : X ≠ g := by have := HXX.out; omega
                        have hpg : p ≠ g := by have := at_lt B5.out; omega
                        have hob : ob ≠ g := by have := HOB.out; omega
                        have hfb : fb ≠ g := by have := HFB.out; omega
                        have hcg : w3.heap.size ≠ g := by omega
                        have gg := gr_set (World.grownBy.refl wr (some g)) (a2 + i) (.int .i64 xv)
                        have HS26 : Hid ((wr.setCell ⟨g, a2 + i, none⟩ (.int .i64 xv)).cell? ⟨w3.heap.size, 0, none⟩ = some (.slice (some ⟨g, 0, none⟩) qn fc) ∧ (wr.setCell ⟨g, a2 + i, none⟩ (.int .i64 xv)).cell? ⟨X, 2, none⟩ = some (.int .i64 a2) ∧ (wr.setCell ⟨g, a2 + i, none⟩ (.int .i64 xv)).cell? ⟨p, 3, none⟩ = some (.slice (some ⟨ob, oo, none⟩) mo sc) ∧ (wr.setCell ⟨g, a2 + i, none⟩ (.int .i64 xv)).cell? ⟨ob, oo + kk * 6 + 2, none⟩ = some (.int .i64 ca) ∧ (wr.setCell ⟨g, a2 + i, none⟩ (.int .i64 xv)).cell? ⟨fb, fo' + (ca + i), none⟩ = some (.int .i64 xv)) := ⟨gg.cell e0 (by simpa using hcg), gg.cell e2 (by simpa using hXg), gg.cell e3 (by simpa using hpg), gg.cell e4 (by simpa using hob), gg.cell e5 (by simpa using hfb)⟩
                        have HX2 : Hid ((wr.setCell ⟨g, a2 + i, none⟩ (.int .i64 xv)).heap[X]? = some (.cells #[.string t0, .int .i64 t1, .int .i64 a2, .int .i64 t3, .bool t4, .int .i64 t5] 50)) := (gg.block X (at_lt HXB.out) (by simpa using hXg)).trans HXB.out
                        have v1 : IntKind.i64.wrap ((a2 : Int) + (i : Int)) = (a2 : Int) + (i : Int) := IntWalk.i64_in _ (by omega)
                        have v2 : IntKind.i64.wrap ((ca : Int) + (i : Int)) = (ca : Int) + (i : Int) := by clear v1; exact IntWalk.i64_in _ (by omega)
                        obtain ⟨v3, v4, v5, v6⟩ : (a2 : Int) + (i : Int) < (qn : Int) ∧ (ca : Int) + (i : Int) < (qo : Int) ∧ (0 : Int) ≤ (a2 : Int) + (i : Int) ∧ (0 : Int) ≤ (ca : Int) + (i : Int) := by clear v1 v2; omega
                        have v10 : ((a2 : Int) + (i : Int)).toNat = a2 + i := by clear v1 v2; omega
                        have v11 : ((ca : Int) + (i : Int)).toNat = ca + i := by clear v1 v2; omega
                        have v7 : (i : Int) < t3 := by have := HT3.out; omega
                        have v8 : (kk : Int) < (mo : Int) := by omega
                        have v9 : (0 : Int) ≤ (kk : Int) := by omega
                        clear hxv gg hXg hpg hob hfb hcg hgltc hglw
                        go_wp2_with fail
                        go_region_held3 (fun w' => w'.cell? ⟨w3.heap.size, 0, none⟩ = some (.slice (some ⟨g, 0, none⟩) qn fc) ∧ w'.cell? ⟨X, 2, none⟩ = some (.int .i64 a2) ∧ w'.cell? ⟨p, 3, none⟩ = some (.slice (some ⟨ob, oo, none⟩) mo sc) ∧ w'.cell? ⟨ob, oo + kk * 6 + 2, none⟩ = some (.int .i64 ca) ∧ w'.cell? ⟨fb, fo' + (ca + i), none⟩ = some (.int .i64 xv)) (first | (go_keep; done) | exact HS26.out) (fail)
                        go_wp2_with fail
                        have hgl := HGI.out
                        go_roundg (nw - (i + 1))
                        all_goals first | omega | exact ⟨i + 1, by go_num, by omega, by omega, by first | exact HX2.out | (rw [hp_drew]; exact HX2.out), by first | exact HNX.out | exact HNX.out.grow (gr_drew (World.grownBy.refl _ none))⟩
                      · have hil' : ¬ ((i : Int) < t3) := by have := HT3.out; omega
                        have HRE : Hid (Rf w2 wr w3.heap.size (w3.heap.size + 1) Bm (some ⟨g, 0, none⟩) fc (lay F a2 ((fr.drop ca).take nw)) la lc L ha hc H) := by
                          have h := HRI.out
                          rw [List.take_of_length_le (l := (fr.drop ca).take nw) (by simp; omega)] at h
                          exact h
                        clear HGI e0 e2 e3 e4 hgltc hglw hgi2
                        go_wp2_with fail
                        have hgl := HG.out
                        go_roundg (mn - (j + 1))
                        all_goals first | omega | exact ⟨j + 1, ha, hc, H, _, by go_num, by omega, by omega, HTH.out, HTF.out.symm, by rw [lay_len (by have := HFL.out; have := HQR.out; simp; omega)]; exact HFL.out, HRE.out⟩

                  · have hp3d : decide (0 < t3) = false := by simp only [hp3, decide_false]
                    have hnt : nw = 1 := by have := HNW.out; simp [wds] at this; omega
                    subst hnt
                    go_wp2_with fail
                    go_loopg [14] 1 (fun gk s14 wx => ∃ (i : Nat), s14 = .int .i64 i ∧ i ≤ 1 ∧ gk = 1 - i ∧ wx.heap[X]? = some (.cells #[.string t0, .int .i64 t1, .int .i64 a2, .int .i64 t3, .bool t4, .int .i64 t5] 50) ∧ Rf w2 wx w3.heap.size (w3.heap.size + 1) Bm (some ⟨g, 0, none⟩) fc (lay F a2 (((fr.drop ca).take 1).take i)) la lc L ha hc H)
                    case atStart => exact ⟨0, rfl, Nat.zero_le _, by omega, HB4.out, by rw [List.take_zero, lay_none _ _ (by have := HFL.out; omega)]; exact HRF4.out⟩
                    case round =>
                      obtain ⟨i, rfl, hi, hgi, hXb, hRi⟩ := hrel
                      have HGI : Hid (_ = 1 - i) := hgi
                      have HXB : Hid (wr.heap[X]? = some (.cells #[.string t0, .int .i64 t1, .int .i64 a2, .int .i64 t3, .bool t4, .int .i64 t5] 50)) := hXb
                      have HRI : Hid (Rf w2 wr w3.heap.size (w3.heap.size + 1) Bm (some ⟨g, 0, none⟩) fc (lay F a2 (((fr.drop ca).take 1).take i)) la lc L ha hc H) := hRi
                      have hgi2 := hRi.grown
                      have e2 := at_cell hXb 2
                      simp at e2
                      have hbx2 := hRi.box
                      rw [lay_len (by have := HFL.out; have := HQR.out; simp; omega), HFL.out] at hbx2
                      have e0 := at_cell hbx2 0
                      simp at e0
                      have e3 := hgi2.cell k0 (by simp)
                      have e4 := hgi2.cell HCK.out (by simp)
                      have hgltc := hRi.flt g rfl
                      have hglw : w2.heap.size ≤ g := (World.ownsRow.lt hRi.frame g rfl).1
                      have hqo := HL1.out.2.2.2
                      clear hgi hXb hRi hbx2
                      by_cases hil : i < 1
                      · have e5 : wr.cell? ⟨fb, fo' + (ca + i), none⟩ = some (.int .i64 (fr.getD (ca + i) 0)) := (hgw2.trans hgi2).cell (HFC.out (ca + i) (by have := HQR.out; omega)) (by simp)
                        obtain ⟨xv, hxv⟩ : ∃ x, fr.getD (ca + i) 0 = x := ⟨_, rfl⟩
                        rw [hxv] at e5
                        have HNX : Hid (Rf w2 (wr.setCell ⟨g, a2 + i, none⟩ (.int .i64 xv)) w3.heap.size (w3.heap.size + 1) Bm (some ⟨g, 0, none⟩) fc (lay F a2 (((fr.drop ca).take 1).take (i + 1))) la lc L ha hc H) := by
                          have h := HRI.out.word (a2 + i) xv
                          have e : (((fr.drop ca).take 1).getD i 0) = xv := by rw [← hxv]; simp [List.getD, hil]
                          rw [← e, lay_more (by have := HQR.out; simp; omega) (by have := HFL.out; have := HQR.out; simp; omega), e] at h
                          exact h
                        have g0 : wr.cell? ⟨g, a2 + i, none⟩ = some (.int .i64 ((lay F a2 (((fr.drop ca).take 1).take i)).getD (a2 + i) 0)) := HRI.out.frame.get (a2 + i) (by rw [lay_len (by have := HFL.out; have := HQR.out; simp; omega), HFL.out]; omega)
                        have g1 : wr.frozen? ⟨g, a2 + i, none⟩ = false := HRI.out.frame.frozen (a2 + i)
                        have hXg : X ≠ g := by have := HXX.out; omega
                        have hpg : p ≠ g := by have := at_lt B5.out; omega
                        have hob : ob ≠ g := by have := HOB.out; omega
                        have hfb : fb ≠ g := by have := HFB.out; omega
                        have hcg : w3.heap.size ≠ g := by omega
                        have gg := gr_set (World.grownBy.refl wr (some g)) (a2 + i) (.int .i64 xv)
                        have HS26 : Hid ((wr.setCell ⟨g, a2 + i, none⟩ (.int .i64 xv)).cell? ⟨w3.heap.size, 0, none⟩ = some (.slice (some ⟨g, 0, none⟩) qn fc) ∧ (wr.setCell ⟨g, a2 + i, none⟩ (.int .i64 xv)).cell? ⟨X, 2, none⟩ = some (.int .i64 a2) ∧ (wr.setCell ⟨g, a2 + i, none⟩ (.int .i64 xv)).cell? ⟨p, 3, none⟩ = some (.slice (some ⟨ob, oo, none⟩) mo sc) ∧ (wr.setCell ⟨g, a2 + i, none⟩ (.int .i64 xv)).cell? ⟨ob, oo + kk * 6 + 2, none⟩ = some (.int .i64 ca) ∧ (wr.setCell ⟨g, a2 + i, none⟩ (.int .i64 xv)).cell? ⟨fb, fo' + (ca + i), none⟩ = some (.int .i64 xv)) := ⟨gg.cell e0 (by simpa using hcg), gg.cell e2 (by simpa using hXg), gg.cell e3 (by simpa using hpg), gg.cell e4 (by simpa using hob), gg.cell e5 (by simpa using hfb)⟩
                        have HX2 : Hid ((wr.setCell ⟨g, a2 + i, none⟩ (.int .i64 xv)).heap[X]? = some (.cells #[.string t0, .int .i64 t1, .int .i64 a2, .int .i64 t3, .bool t4, .int .i64 t5] 50)) := (gg.block X (at_lt HXB.out) (by simpa using hXg)).trans HXB.out
                        have v1 : IntKind.i64.wrap ((a2 : Int) + (i : Int)) = (a2 : Int) + (i : Int) := IntWalk.i64_in _ (by omega)
                        have v2 : IntKind.i64.wrap ((ca : Int) + (i : Int)) = (ca : Int) + (i : Int) := by clear v1; exact IntWalk.i64_in _ (by omega)
                        obtain ⟨v3, v4, v5, v6⟩ : (a2 : Int) + (i : Int) < (qn : Int) ∧ (ca : Int) + (i : Int) < (qo : Int) ∧ (0 : Int) ≤ (a2 : Int) + (i : Int) ∧ (0 : Int) ≤ (ca : Int) + (i : Int) := by clear v1 v2; omega
                        have v10 : ((a2 : Int) + (i : Int)).toNat = a2 + i := by clear v1 v2; omega
                        have v11 : ((ca : Int) + (i : Int)).toNat = ca + i := by clear v1 v2; omega
                        have v7 : (i : Int) < (1 : Int) := by omega
                        have v8 : (kk : Int) < (mo : Int) := by omega
                        have v9 : (0 : Int) ≤ (kk : Int) := by omega
                        clear hxv gg hXg hpg hob hfb hcg hgltc hglw
                        go_wp2_with fail
                        go_region_held3 (fun w' => w'.cell? ⟨w3.heap.size, 0, none⟩ = some (.slice (some ⟨g, 0, none⟩) qn fc) ∧ w'.cell? ⟨X, 2, none⟩ = some (.int .i64 a2) ∧ w'.cell? ⟨p, 3, none⟩ = some (.slice (some ⟨ob, oo, none⟩) mo sc) ∧ w'.cell? ⟨ob, oo + kk * 6 + 2, none⟩ = some (.int .i64 ca) ∧ w'.cell? ⟨fb, fo' + (ca + i), none⟩ = some (.int .i64 xv)) (first | (go_keep; done) | exact HS26.out) (fail)
                        go_wp2_with fail
                        have hgl := HGI.out
                        go_roundg (1 - (i + 1))
                        all_goals first | omega | exact ⟨i + 1, by go_num, by omega, by omega, by first | exact HX2.out | (rw [hp_drew]; exact HX2.out), by first | exact HNX.out | exact HNX.out.grow (gr_drew (World.grownBy.refl _ none))⟩
                      · have hil' : ¬ ((i : Int) < (1 : Int)) := by omega
                        have HRE : Hid (Rf w2 wr w3.heap.size (w3.heap.size + 1) Bm (some ⟨g, 0, none⟩) fc (lay F a2 ((fr.drop ca).take 1)) la lc L ha hc H) := by
                          have h := HRI.out
                          rw [List.take_of_length_le (l := (fr.drop ca).take 1) (by simp; omega)] at h
                          exact h
                        clear HGI e0 e2 e3 e4 hgltc hglw hgi2
                        go_wp2_with fail
                        have hgl := HG.out
                        go_roundg (mn - (j + 1))
                        all_goals first | omega | exact ⟨j + 1, ha, hc, H, _, by go_num, by omega, by omega, HTH.out, HTF.out.symm, by rw [lay_len (by have := HFL.out; have := HQR.out; simp; omega)]; exact HFL.out, HRE.out⟩

                · have hr0 : r < 0 := by rw [← HRR.out, if_neg hin]; omega
                  have hd0 : decide (r < 0) = true := by simp only [hr0, decide_true]
                  have hin' : ¬ fnd so ⟨t0, t1, (a2 : Int), t3, t4, t5⟩ < so.length := by rw [HMO.out]; exact hin
                  have HTH : Hid (H ++ [t0] = unkF (sn.take (j + 1)) so) := (by rw [HTK.out, if_neg hin'] : H ++ [t0] = unkF (sn.take (j + 1)) so)
                  have HTF : Hid (F = carF fr so fn (sn.take (j + 1))) := (by
                    rw [HTC.out]
                    unfold stepF
                    rw [if_neg hin'] : F = carF fr so fn (sn.take (j + 1)))
                  obtain ⟨la', lc', w5, hrun, hO5, hg5⟩ := (HRF4.out.fresh).more t0 (by have := HHL.out; omega) HRF4.out.c3
                  have HRF6 := HRF4.out.news t0 hg5 hO5
                  obtain ⟨nl, hnl⟩ : ∃ n, H.length = n := ⟨_, rfl⟩
                  rw [hnl] at hrun HRF6
                  have HR6 : Hid (_) := HRF6
                  have HRUN : Hid (_ = _) := hrun
                  have hb5 : w5.heap[w3.heap.size]? = _ := (hg5.block w3.heap.size (at_lt HRF4.out.box) (fun e => by have := (World.ownsRow.lt HRF4.out.fresh _ e.symm).1; have := HRF4.out.c1; have := HRF4.out.c2; omega)).trans HRF4.out.box
                  have hb4 := HRF4.out.box
                  rw [hnl] at hb4
                  have l4 := at_cell hb4 2
                  simp at l4
                  have z1 := at_cell hb5 2
                  have zf := at_frozen hb5 2
                  simp at z1
                  have l5 : ∀ o : Obj, (w4.alloc o).cell? ⟨w3.heap.size, 2, none⟩ = some (.slice ha nl hc) := fun o => (gr1 w4 o).cell l4 (by simp)
                  clear hin hin' hO5 hg5 hb5 hb4 HRF6 hrun hnl cK
                  go_wp2_with (first | (at_builtin; refine wpList_append_run rfl _ _ 28 rfl _ _ _ w5 rfl rfl HRUN.out ?_))
                  have hgl := HG.out
                  go_roundg (mn - (j + 1))
                  all_goals first | omega | exact ⟨j + 1, la', lc', H ++ [t0], F, by go_num, by omega, by omega, HTH.out, HTF.out, HFL.out, HR6.out⟩
              · have hk' : ¬ ((j : Int) < (mn : Int)) := by omega
                have HE1 : Hid (H = unkF sn so) := (by rw [HHH.out, List.take_of_length_le (by rw [HMN.out]; omega)] : H = unkF sn so)
                have HE2 : Hid (F = carF fr so fn sn) := (by rw [HFF.out, List.take_of_length_le (by rw [HMN.out]; omega)] : F = carF fr so fn sn)
                obtain ⟨nF, hnF⟩ : ∃ n, F.length = n := ⟨_, rfl⟩
                obtain ⟨nL, hnL⟩ : ∃ n, L.length = n := ⟨_, rfl⟩
                obtain ⟨nH, hnH⟩ : ∃ n, H.length = n := ⟨_, rfl⟩
                have hbx := HRF.out.box
                rw [hnF, hnL, hnH] at hbx
                obtain ⟨m0, m1, m2, _, _, _⟩ := at3 hbx
                have HBR : Hid (wr.heap[p + 1 + 1]? = some (.cells #[.slice none 0 0, .slice none 0 0, .slice none 0 0] 30)) := kept hgr B5.out
                obtain ⟨z0, z1, z2, f0, f1, f2⟩ := at3 HBR.out
                have HNS : Hid (F.length = nF ∧ L.length = nL ∧ H.length = nH) := ⟨hnF, hnL, hnH⟩
                have hpl := at_lt B5.out
                clear hbx hnF hnL hnH x3
                go_wp2_with fail
                refine bodyPost_ret (results30 rfl _ _ (p + 1 + 1) _ _ _ rfl (box3 HBR.out)) rfl ?_
                rw [← HE2.out, ← HLE.out, ← HE1.out]
                have hR := HRF.out
                have gs := gr3 (x0 := .slice fa nF fc) (x1 := .slice la nL lc) (x2 := .slice ha nH hc) (World.grownBy.refl wr (some (p + 1 + 1)))
                have s2 := hgw2.size
                have r4 := hR.c4
                have r1 := hR.c1
                have r2 := hR.c2
                refine ⟨fa, fc, la, lc, ha, hc, w3.heap.size + 1, Bm, by rw [HNS.out.1, HNS.out.2.1, HNS.out.2.2]; rfl, ?_, hR.lost.keptB gs ?_, hR.fresh.keptB gs ?_, by omega, r2, ?_, hR.llt, gr3n (hgw2.trans hgr) (by have := HP.out; omega)⟩
                · refine own_less (World.ownsRow.kept hR.frame gs ?_) hgw2.size
                  cases hv : (Value.slice fa F.length fc).ownBlock with
                  | none => exact .inl rfl
                  | some y =>
                    right
                    intro e
                    have := (World.ownsRow.lt hR.frame y hv).1
                    simp at e
                    omega
                · intro y hy e
                  have := (World.ownsRow.lt hR.lost y hy).1
                  simp at e
                  omega
                · intro y hy e
                  have := (World.ownsRow.lt hR.fresh y hy).1
                  simp at e
                  omega
                · intro y hy
                  have := hR.flt y hy
                  omega
    · have hne : ¬ ((qr : Int) = (qo : Int)) := by omega
      have h2' : ¬ fr.length = fo.length := by rw [HQR.out, HQO.out]; exact h2
      have e0 : carE fr fo so fn sn = 4 := by simp [carE, *]
      have e1 : carR fr fo so fn sn = [] := by simp [carR, e0]
      have e2 : carL fr fo so fn sn = [] := by simp [carL, e0]
      have e3 : carH fr fo so fn sn = [] := by simp [carH, e0]
      rw [e0, e1, e2, e3]
      clear e0 e1 e2 e3
      clear h1 h1' hall h2 h2'
      go_enter Try.func4, Try.ntmps4
      go_wp2_with fail
      refine (cM _ hg0).mono ?_
      rintro e w1 ⟨rfl, hg1⟩
      have hgw1 := hg0.trans hg1
      have b4 : w1.heap[p + 1 + 1]? = some (.cells #[.slice none 0 0, .slice none 0 0, .slice none 0 0] 30) := kept hg1 B2.out
      have B41 : Hid (w1.heap[p + 1]? = some (.cells #[.int .i64 k', .string nm', .slice na qn nc, .slice ta mn tc, tv'] 27)) := kept hg1 B1.out
      have B40 : Hid (w1.heap[p]? = some (.cells #[.int .i64 k, .string nm, .slice oa qo oc, .slice sa mo sc, tv] 27)) := kept hg1 B0.out
      obtain ⟨z0, z1, z2, f0, f1, f2⟩ := at3 b4
      have x2' := at_cell B40.out 2
      have y0' := at_cell B41.out 0
      have y1' := at_cell B41.out 1
      have y2' := at_cell B41.out 2
      have y3' := at_cell B41.out 3
      have y4' := at_cell B41.out 4
      simp at x2' y0' y1' y2' y3' y4'
      clear hw0 x0 x1 x2 x3 x4 y0 y1 y2 y3 y4
      go_wp2_with fail
      refine bodyPost_ret (results30 rfl _ _ (p + 1 + 1) _ _ _ rfl (box3 b4)) rfl ?_
      exact CarP.zero (gr3n hgw1 (by have := HP.out; omega))
end Go.Proofs.Ytmkgobmlpmjocaa
