/- The program's Verify. -/
import Derived.Test.YtbaijehecncclaaDoorS0
namespace Go.Proofs.YtbaijehecncclaaDoor
open Go.RowKit
attribute [local go_sem ↓] Go.wp_at_zero Go.wp_at_succ
set_option linter.unusedVariables false
set_option linter.unusedSimpArgs false

/-- What comes of Verify. -/
def VerPost (w : World) (R : List Int × Int × Int) (e : Ending) (w' : World) : Prop :=
  ∃ v, e = .returned (.tuple #[v, .agg #[.int .i64 R.2.1, .int .i64 R.2.2, .int .i64 0]]) ∧ OwnV w.heap.size w' v R.1 ∧ w.grownBy w' none

set_option maxRecDepth 10000 in
set_option maxHeartbeats 2000000 in
theorem verify_any (cv : Value) (ps : List Pr) (w : World) (hC : CdP w cv ps) (hS : Stds w) (hl : ps.length ≤ 1000000000000000) :
    Calls Tryd.prog 8 #[.agg #[cv]] w (VerPost w (verR (Classical.propDecidable, ()) ps)) := by
  obtain ⟨ca, cap, rfl, hcap, hc⟩ := hC
  have HC : Hid (ps = [] ∨ ∃ b off, ca = some ⟨b, off, none⟩ ∧ ∀ i, i < ps.length → ∃ fv sv tv, PrAt w b (off + i * 5) (ps.getD i pr0) fv sv tv) := hc
  have HS : Hid (Stds w) := hS
  clear hc hS
  obtain ⟨n, hn⟩ : ∃ n, ps.length = n := ⟨_, rfl⟩
  have HN : Hid (ps.length = n) := hn
  rw [hn] at hl hcap ⊢
  clear hn
  by_cases h16 : 16 < n
  · have HR : Hid (verR (Classical.propDecidable, ()) ps = ([], 12, 0)) := (by unfold verR; rw [if_pos (by rw [HN.out]; exact h16)] : verR (Classical.propDecidable, ()) ps = ([], 12, 0))
    have h16' : (16 : Int) < (n : Int) := by omega
    go_enter Tryd.func8, Tryd.ntmps8
    go_wp2
    refine bodyPost_ret (v := .tuple #[.slice none 0 0, .agg #[.int .i64 12, .int .i64 0, .int .i64 0]]) (by simp [results, Tryd.results8, go_sem]) rfl ?_
    rw [HR.out]
    exact ⟨_, rfl, OwnV.nil _ _, gr_alloc (gr1 _ _) _⟩
  · have h16' : ¬ ((16 : Int) < (n : Int)) := by omega
    obtain ⟨H, hH⟩ : ∃ H, w.heap.size = H := ⟨_, rfl⟩
    go_enter Tryd.func8, Tryd.ntmps8
    go_wp2
    have HR : Hid (verR (Classical.propDecidable, ()) ps = verS (Classical.propDecidable, ()) ps n 0 []) := (by unfold verR; rw [if_neg (by rw [HN.out]; exact h16), HN.out] : verR (Classical.propDecidable, ()) ps = verS (Classical.propDecidable, ()) ps n 0 [])
    go_loopg [4, 16] n (fun gk s4 s16 wx => ∃ (k : Nat) (b : List Int) (bv : Value), bv = s4 ∧ s16 = .int .i64 k ∧ k ≤ n ∧ gk = n - k ∧ verS (Classical.propDecidable, ()) ps (n - k) k b = verS (Classical.propDecidable, ()) ps n 0 [] ∧ b.length = k ∧ (∀ x, x ∈ b → 0 ≤ x ∧ x ≤ 1000000000) ∧ OwnV (H + 2) wx bv b ∧ wx.heap[H]? = some (.cells #[.slice ca n cap] 24) ∧ wx.heap[H + 1]? = some (.cells #[.int .i64 0, .int .i64 0, .int .i64 0] 31) ∧ w.grownBy wx none ∧ H + 2 ≤ wx.heap.size)
    case atStart =>
      refine ⟨0, [], _, rfl, rfl, Nat.zero_le _, by omega, rfl, rfl, by simp, OwnV.nil _ _, ?_, ?_, gr_alloc (gr1 _ _) _, by simp [hH]⟩
      · rw [hp_old (by simp [hH]), hp_new hH.symm]
      · rw [hp_new (by simp [hH])]
    case round =>
      obtain ⟨k, b, bv, hs4, rfl, hk, hgk, hver, hbl, hbd, hown, hb0, hb1, hgr, hsz⟩ := hrel
      subst hs4
      have HG : Hid (gk = n - k) := hgk
      have HV : Hid (verS (Classical.propDecidable, ()) ps (n - k) k b = verS (Classical.propDecidable, ()) ps n 0 []) := hver
      have HBL : Hid (b.length = k) := hbl
      have HBD : Hid (∀ x, x ∈ b → 0 ≤ x ∧ x ≤ 1000000000) := hbd
      have HO : Hid (OwnV (H + 2) wr bv b) := hown
      have HB0 : Hid (wr.heap[H]? = some (.cells #[.slice ca n cap] 24)) := hb0
      have HB1 : Hid (wr.heap[H + 1]? = some (.cells #[.int .i64 0, .int .i64 0, .int .i64 0] 31)) := hb1
      clear hgk hver hbl hbd hown hb0 hb1
      by_cases hlt : k < n
      · have hkl : k < ps.length := by rw [HN.out]; exact hlt
        rcases HC.out with h | ⟨b', off, rfl, hc⟩
        · subst h; simp at hkl
        obtain ⟨fv, sv, tv, hp⟩ := hc k hkl
        have z0 := at_cell HB0.out 0
        simp at z0
        have hg0 := hgr
        have cL : ∀ w', wr.grownBy w' none → Calls Tryd.prog 15 #[.slice (some ⟨b', off, none⟩) k cap, bv, .pointer (some ⟨b', off + k * 5, none⟩)] w' fun e w2 => e = .returned (.tuple #[.int .i64 (unitS (Classical.propDecidable, ()) ps k b).1, .int .i64 (unitS (Classical.propDecidable, ()) ps k b).2]) ∧ w'.grownBy w2 none := fun w' hw' => by
          have hgw := hgr.trans hw'
          have hpw := hp.grown hgw
          obtain ⟨fa, fc, hfv, _⟩ := hpw.first
          refine lookOver_any (ahd ps k) b (ps.getD k pr0).k (ps.getD k pr0).fs.length (ps.getD k pr0).tx _ bv b' (off + k * 5) tv w' ⟨ahead_of (cap := cap) (fun i hi => ?_) k (by omega), hpw.kind, ⟨fa, fc, by rw [← hfv]; exact hpw.fcell⟩, hpw.tcell, hpw.text, Nat.le_refl _⟩ (HS.out.grown hgw) (by rw [ahd_len ps k (by omega)]; omega) (HO.out.keptN hw').rd (by rw [ahd_len ps k (by omega)]; exact HBL.out) HBD.out
          obtain ⟨f1, s1, t1, h1⟩ := hc i hi
          exact ⟨f1, s1, t1, h1.grown hgw⟩
        clear hc hp
        obtain ⟨u, hu⟩ : ∃ u, unitS (Classical.propDecidable, ()) ps k b = u := ⟨_, rfl⟩
        have HU : Hid (unitS (Classical.propDecidable, ()) ps k b = u) := hu
        rw [hu] at cL
        obtain ⟨bd, cd⟩ := u
        dsimp only at cL
        have i1 : (0 : Int) ≤ (k : Int) := by omega
        have i2 : (k : Int) < (n : Int) := by omega
        have i3 : (k : Int) ≤ (cap : Int) := by omega
        have i4 : k ≤ cap := by omega
        have i5 : k < n := by omega
        clear hu
        go_wp2
        go_region_held3 (fun w' => w'.cell? ⟨H, 0, none⟩ = some (.slice (some ⟨b', off, none⟩) n cap)) (first | (go_keep; done) | exact hg1.cell (by first | assumption | (go_keep; done)) (by simp)) (first | (go_at_call 15; refine (cL _ (gr_drew (World.grownBy.refl _ _))).mono ?_; rintro e w1 ⟨rfl, hg1⟩))
        have hgw1 : wr.grownBy w1 none := (gr_drew (World.grownBy.refl _ _)).trans hg1
        have HO1 : Hid (OwnV (H + 2) w1 bv b) := HO.out.keptN hgw1
        have e1 := kept hgw1 HB1.out
        have HE1 : Hid (w1.heap[H + 1]? = some (.cells #[.int .i64 0, .int .i64 0, .int .i64 0] 31)) := e1
        have z1 := at_cell e1 0
        have z2 := at_cell e1 1
        have z3 := at_cell e1 2
        simp at z1 z2 z3
        have f1 := at_frozen e1 0
        have f2 := at_frozen e1 1
        have f3 := at_frozen e1 2
        have hsz1 := hgw1.size
        have HVN : Hid (verS (Classical.propDecidable, ()) ps (n - k) k b = if cd = 0 then verS (Classical.propDecidable, ()) ps (n - (k + 1)) (k + 1) (b ++ [bd]) else ([], cd, (k : Int))) := (by
          rw [show n - k = (n - (k + 1)) + 1 by omega]
          simp only [verS, HU.out] : verS (Classical.propDecidable, ()) ps (n - k) k b = if cd = 0 then verS (Classical.propDecidable, ()) ps (n - (k + 1)) (k + 1) (b ++ [bd]) else ([], cd, (k : Int)))
        clear e1 cL hg1
        by_cases hcd : cd = 0
        · subst hcd
          have hb2 := lookS_bd HBD.out (by rw [ahd_len ps k (by omega)]; exact HBL.out) (show (unitS (Classical.propDecidable, ()) ps k b).2 = 0 by rw [HU.out])
          have HB2 : Hid (0 ≤ bd ∧ bd ≤ 1000000000) := (by
            have h := hb2
            rw [show lookS (Classical.propDecidable, ()) (ahd ps k) b (ps.getD k pr0).k (ps.getD k pr0).fs.length (ps.getD k pr0).tx = (bd, 0) from HU.out] at h
            exact h : 0 ≤ bd ∧ bd ≤ 1000000000)
          obtain ⟨v', w2, hrun, hown2, hg2⟩ := (HO1.out.keptN (gr1 w1 (.cells #[.int .i64 bd] 3))).more bd w1.heap.size (heap_alloc_new _ _) (by rw [HBL.out]; omega) (by simp; omega)
          have HRUN : Hid (_ = _) := hrun
          have HO2 : Hid (OwnV (H + 2) w2 v' (b ++ [bd])) := hown2
          have hrow := HO1.out.row
          have HG2 : Hid (w.grownBy w2 none ∧ w2.heap[H]? = some (.cells #[.slice (some ⟨b', off, none⟩) n cap] 24) ∧ w2.heap[H + 1]? = some (.cells #[.int .i64 0, .int .i64 0, .int .i64 0] 31) ∧ H + 2 ≤ w2.heap.size) := by
            refine ⟨grown_join (gr_alloc (hgr.trans hgw1) _) hg2 (.inr fun x hx => by have := hrow x hx; omega), ?_, ?_, ?_⟩
            · rw [hg2.block H (by simp; omega) (fun e => by have := hrow H e.symm; omega), hp_old (by omega)]; exact kept hgw1 HB0.out
            · rw [hg2.block (H + 1) (by simp; omega) (fun e => by have := hrow (H + 1) e.symm; omega), hp_old (by omega)]; exact HE1.out
            · have := hg2.size; simp at this; omega
          clear hrun hown2 hg2 hb2 hrow z1 z2 z3 f1 f2 f3
          go_wp2_with (first | (at_builtin; refine wpList_append_run rfl _ _ 29 rfl _ _ _ w2 rfl rfl HRUN.out ?_))
          have hgl := HG.out
          go_roundg (n - (k + 1))
          all_goals first | omega | exact ⟨k + 1, b ++ [bd], v', rfl, by go_num, by omega, by omega, by rw [← HV.out, HVN.out]; simp, by simp [HBL.out], (fun x hx => by
            rcases List.mem_append.1 hx with h | h
            · exact HBD.out x h
            · simp at h; subst h; exact HB2.out), HO2.out, HG2.out.2.1, HG2.out.2.2.1, HG2.out.1, HG2.out.2.2.2⟩
        · have ec : (cd == 0) = false := by simpa using hcd
          have ec2 : (cd != 0) = true := by simpa using hcd
          have HRR : Hid (verR (Classical.propDecidable, ()) ps = ([], cd, (k : Int))) := (by rw [HR.out, ← HV.out, HVN.out, if_neg hcd] : verR (Classical.propDecidable, ()) ps = ([], cd, (k : Int)))
          go_wp2
          refine bodyPost_ret (v := .tuple #[.slice none 0 0, .agg #[.int .i64 cd, .int .i64 k, .int .i64 0]]) (by simp [results, Tryd.results8, go_sem, z1, z2, z3]) rfl ?_
          rw [HRR.out]
          exact ⟨_, rfl, OwnV.nil _ _, by first | exact gr_own (gr_own (gr_own (hgr.trans hgw1) (by omega) _ _) (by omega) _ _) (by omega) _ _⟩
      · have hkn : k = n := by omega
        subst hkn
        have hk' : ¬ ((k : Int) < (k : Int)) := by omega
        have HRR : Hid (verR (Classical.propDecidable, ()) ps = (b, 0, 0)) := (by rw [HR.out, ← HV.out]; simp [verS] : verR (Classical.propDecidable, ()) ps = (b, 0, 0))
        have z1 := at_cell HB1.out 0
        have z2 := at_cell HB1.out 1
        have z3 := at_cell HB1.out 2
        simp at z1 z2 z3
        have f1 := at_frozen HB1.out 0
        have f2 := at_frozen HB1.out 1
        have f3 := at_frozen HB1.out 2
        clear HG
        go_wp2
        refine bodyPost_ret (v := .tuple #[bv, .agg #[.int .i64 0, .int .i64 0, .int .i64 0]]) (by simp [results, Tryd.results8, go_sem, z1, z2, z3]) rfl ?_
        rw [HRR.out]
        have g1 : wr.grownBy (((wr.setCell ⟨H + 1, 0, none⟩ (.int .i64 0)).setCell ⟨H + 1, 1, none⟩ (.int .i64 0)).setCell ⟨H + 1, 2, none⟩ (.int .i64 0)) (some (H + 1)) := gr_set (gr_set (gr_set (World.grownBy.refl _ _) _ _) _ _) _ _
        refine ⟨_, rfl, ?_, gr_own (gr_own (gr_own hgr (by omega) _ _) (by omega) _ _) (by omega) _ _⟩
        have h1 := HO.out.kept g1 (.inr fun e => by have := HO.out.row _ e; omega)
        obtain ⟨a1, a2⟩ := h1
        refine ⟨a1, ?_⟩
        rcases a2 with a2 | ⟨g, c, cur, q1, q2, q3⟩
        · exact .inl a2
        · exact .inr ⟨g, c, cur, q1, by omega, q3⟩
end Go.Proofs.YtbaijehecncclaaDoor
