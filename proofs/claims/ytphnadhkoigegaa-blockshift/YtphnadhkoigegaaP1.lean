/- The walk of BlockShift, for whatever block. -/
import Derived.Test.YtphnadhkoigegaaN
import Derived.Deep.DeepCutAuto
import Derived.Deep.LoopGhost
import Derived.Deep.QuietTactic
import Derived.BigQuiet
import Derived.Deep.RegionHeld3
namespace Go.Proofs.Ytphnadhkoigegaa
open Go.RowKit
attribute [local go_sem ↓] Go.wp_at_zero Go.wp_at_succ
set_option linter.unusedSimpArgs false
set_option linter.unusedVariables false

set_option maxRecDepth 10000 in
set_option maxHeartbeats 4000000 in
theorem shift_gen (nm : ByteArray) (n m : Nat) (kS kI : List Int) (F : List Int → List Int → Int → List Int × List Int) (R : List Int → List Int → Prop) (by' : Int)
    (b off cap len : Nat) (V : Nat → Value) (Li : Nat → List Int) (T : Nat → Int) (w : World) (hm5 : m ≤ 5) (hn5 : n ≤ 5)
    (hsh : ∀ w, Calls Try.prog 9 #[.string nm] w fun e w' => ∃ b1 b2 b3 i, e = .returned (.tuple #[.agg #[.slice (some ⟨b1, 0, none⟩) i i, .slice (some ⟨b2, 0, none⟩) m m, .slice (some ⟨b3, 0, none⟩) n n], .bool true]) ∧ w.grownBy w' none)
    (hst : StepC nm n m kS kI F)
    (hmk : ∀ w, (Instr.makeSlice 31 (.int .i64 n) (.int .i64 n)).run Try.prog w = .ok (.slice (some ⟨w.heap.size, 0, none⟩) n n) (w.alloc (.cells (intsA (List.replicate n 0)) 3)))
    (hR0 : R (List.replicate n 0) (List.replicate n 0))
    (hR : ∀ l l' li now, R l l' → l.length = n ∧ l'.length = n ∧ ∃ a a' o, F (wrapL kS l) (wrapL kI li) (wrapK 5 now) = (a, o) ∧ F (wrapL kS l') (wrapL kI li) (wrapK 5 (IntKind.i64.wrap (now + by'))) = (a', o) ∧ o.length = m ∧ R a a')
    (hc0 : ∀ i, i < len → w.cell? ⟨b, off + i * 2, none⟩ = some (V i)) (hv : ∀ i, i < len → rd w (V i) (Li i)) (hc1 : ∀ i, i < len → w.cell? ⟨b, off + i * 2 + 1, none⟩ = some (.int .i64 (T i))) (hlen : len ≤ 9223372036854775807) :
    Calls Try.prog 5 #[.string nm, .slice (some ⟨b, off, none⟩) len cap, .int .i64 by'] w fun e w' => e = .returned (.bool true) ∧ w.grownBy w' none := by
  have HC0 : Hid (∀ i, i < len → w.cell? ⟨b, off + i * 2, none⟩ = some (V i)) := hc0
  have HC1 : Hid (∀ i, i < len → w.cell? ⟨b, off + i * 2 + 1, none⟩ = some (.int .i64 (T i))) := hc1
  have HV : Hid (∀ i, i < len → rd w (V i) (Li i)) := hv
  have HST : Hid (StepC nm n m kS kI F) := hst
  have HR : Hid (∀ l l' li now, R l l' → l.length = n ∧ l'.length = n ∧ ∃ a a' o, F (wrapL kS l) (wrapL kI li) (wrapK 5 now) = (a, o) ∧ F (wrapL kS l') (wrapL kI li) (wrapK 5 (IntKind.i64.wrap (now + by'))) = (a', o) ∧ o.length = m ∧ R a a') := hR
  have HR0 : Hid (R (List.replicate n 0) (List.replicate n 0)) := hR0
  clear hc0 hc1 hv hst hR hR0
  go_enter Try.func5, Try.ntmps5
  go_wp2_with fail
  refine (hsh _).mono ?_
  rintro e w1 ⟨b1, b2, b3, ni, rfl, hg1⟩
  go_wp2_with fail
  refine (shapeC_ton _).mono ?_
  rintro e w2 ⟨v, rfl, ⟨t1, t2, t3, rfl, _, _, _, _, _, _, _, _, _⟩, hg2⟩
  have hX := kept hg2 (heap_alloc_new w1 _)
  have d2 := at_cell hX 2
  simp at d2
  have hlt := at_lt hX
  go_upto_region 5 with fail
  go_cut [11, 12] (fun s11 s12 wx => ∃ c1 c2, s11 = .slice (some ⟨c1, 0, none⟩) n n ∧ s12 = .slice (some ⟨c2, 0, none⟩) n n ∧ Hid (wx.heap[c1]? = some (.cells (intsA (List.replicate n 0)) 3)) ∧ Hid (wx.heap[c2]? = some (.cells (intsA (List.replicate n 0)) 3)) ∧ Hid (wx.heap[w1.heap.size]? = some (.cells #[.slice (some ⟨b1, 0, none⟩) ni ni, .slice (some ⟨b2, 0, none⟩) m m, .slice (some ⟨b3, 0, none⟩) n n] 24)) ∧ w.grownBy wx none)
  case first =>
    go_region
    all_goals go_wp2_with fail
    all_goals go_meet
    all_goals
      refine ⟨_, _, rfl, rfl, ?_, ?_, ?_, ?_⟩
      · first | (refine (hp_drew _ _).trans (hp_new ?_ _); simp; done) | (refine (hp_drew _ _).trans ((hp_old (by simp) _).trans (hp_new ?_ _)); simp; done)
      · first | (refine (hp_drew _ _).trans (hp_new ?_ _); simp; done) | (refine (hp_drew _ _).trans ((hp_old (by simp) _).trans (hp_new ?_ _)); simp; done)
      · exact (hp_drew _ _).trans ((hp_old (by simp; omega) _).trans ((hp_old (by simp; omega) _).trans ((hp_old hlt _).trans hX)))
      · exact gr_drew (gr_alloc (gr_alloc (gr_alloc ((gr_alloc hg1 _).trans hg2) _) _) _)
  case rest =>
    obtain ⟨c1, c2, rfl, rfl, hz1, hz2, hz3, hgc⟩ := hcut
    clear hg1 hg2 hX d2 hlt hsh hmk
    generalize w1.heap.size = cx at hz3 ⊢
    go_wp2
    go_loopg [11, 12, 13] len (fun gk s11 s12 s13 wx => ∃ (k c1 c2 : Nat) (l l' : List Int), s13 = .int .i64 k ∧ k ≤ len ∧ gk = len - k ∧ s11 = .slice (some ⟨c1, 0, none⟩) n n ∧ s12 = .slice (some ⟨c2, 0, none⟩) n n ∧ R l l' ∧ wx.heap[c1]? = some (.cells (intsA l) 3) ∧ wx.heap[c2]? = some (.cells (intsA l') 3) ∧ wx.heap[cx]? = some (.cells #[.slice (some ⟨b1, 0, none⟩) ni ni, .slice (some ⟨b2, 0, none⟩) m m, .slice (some ⟨b3, 0, none⟩) n n] 24) ∧ w.grownBy wx none)
    case atStart => exact ⟨0, c1, c2, _, _, rfl, Nat.zero_le _, by omega, rfl, rfl, HR0.out, hz1.out, hz2.out, hz3.out, hgc⟩
    case round =>
      obtain ⟨k, c1, c2, l, l', rfl, hk, hgk, rfl, rfl, hRl, hw1, hw2, hx, hgr⟩ := hrel
      have HG : Hid (gk = len - k) := hgk
      have HRl : Hid (R l l') := hRl
      have HW1 : Hid (wr.heap[c1]? = some (.cells (intsA l) 3)) := hw1
      have HW2 : Hid (wr.heap[c2]? = some (.cells (intsA l') 3)) := hw2
      have HX : Hid (wr.heap[cx]? = some (.cells #[.slice (some ⟨b1, 0, none⟩) ni ni, .slice (some ⟨b2, 0, none⟩) m m, .slice (some ⟨b3, 0, none⟩) n n] 24)) := hx
      clear hgk hw1 hw2 hx hRl
      by_cases hlt : k < len
      · have i1 : (0 : Int) ≤ (k : Int) := by omega
        have i2 : (k : Int) < (len : Int) := by omega
        have q0 := hgr.cell (HC0.out k hlt) (by simp)
        have q1 := hgr.cell (HC1.out k hlt) (by simp)
        have hvk := HV.out k hlt
        obtain ⟨v, hvv⟩ : ∃ v, V k = v := ⟨_, rfl⟩
        obtain ⟨tk, htk⟩ : ∃ t, T k = t := ⟨_, rfl⟩
        obtain ⟨li, hli⟩ : ∃ t, Li k = t := ⟨_, rfl⟩
        rw [hvv, hli] at hvk
        rw [hvv] at q0
        rw [htk] at q1
        have HVK : Hid (rd w v li) := hvk
        clear hvk hvv htk hli
        obtain ⟨hl1, hl2, la, la', lo, he1, he2, ho, hRa⟩ := HR.out l l' li tk HRl.out
        have HE1 : Hid (F (wrapL kS l) (wrapL kI li) (wrapK 5 tk) = (la, lo)) := he1
        have HE2 : Hid (F (wrapL kS l') (wrapL kI li) (wrapK 5 (IntKind.i64.wrap (tk + by'))) = (la', lo)) := he2
        have HRa : Hid (R la la') := hRa
        have HL1 : Hid (l.length = n) := hl1
        have HL2 : Hid (l'.length = n) := hl2
        have HO : Hid (lo.length = m) := ho
        clear he1 he2 hRa hl1 hl2 ho
        go_wp2_with fail
        go_region_held3 (fun w' => w'.cell? ⟨b, off + k * 2, none⟩ = some v ∧ w'.cell? ⟨b, off + k * 2 + 1, none⟩ = some (.int .i64 tk)) (go_keep)
          (first
            | (go_at_call 15; go_must (refine (HST.out _ _ l li _ _ ?_ ?_).mono ?_); (have h := rd_of (kept (gr_drew (World.grownBy.refl _ none)) HW1.out); rw [HL1.out] at h; exact h); (exact rd_grown HVK.out (gr_drew hgr)); (rintro e w3 ⟨d1, d2, rfl, g1, g2, gne, hd1, hd2, hg3⟩); have q2 := hg3.cell ((ck_drew q0)) (by simp); have q3 := hg3.cell ((ck_drew q1)) (by simp)))
        rw [HE1.out] at hd1 hd2
        have HD1 : Hid (w3.heap[d1]? = some (.cells (intsA la) 3)) := hd1
        have HD2 : Hid (w3.heap[d2]? = some (.cells (intsA lo) 3)) := hd2
        have hgw3 : w.grownBy w3 none := (gr_drew hgr).trans hg3
        have HW23 : Hid (w3.heap[c2]? = some (.cells (intsA l') 3)) := kept hg3 ((hp_drew _ _).trans HW2.out)
        have HX3 : Hid (w3.heap[cx]? = some (.cells #[.slice (some ⟨b1, 0, none⟩) ni ni, .slice (some ⟨b2, 0, none⟩) m m, .slice (some ⟨b3, 0, none⟩) n n] 24)) := kept hg3 ((hp_drew _ _).trans HX.out)
        clear hd1 hd2 q0 q1
        go_wp2_with fail
        go_region_held3 (fun w' => w'.cell? ⟨b, off + k * 2, none⟩ = some v ∧ w'.cell? ⟨b, off + k * 2 + 1, none⟩ = some (.int .i64 tk)) (go_keep)
          (first
            | (go_at_call 15; go_must (refine (HST.out _ _ l' li _ _ ?_ ?_).mono ?_); (have h := rd_of (kept (gr_drew (World.grownBy.refl _ none)) HW23.out); rw [HL2.out] at h; exact h); (exact rd_grown HVK.out (gr_drew hgw3)); (rintro e w4 ⟨d3, d4, rfl, g3, g4, gne', hd3, hd4, hg4⟩); have q4 := hg4.cell ((ck_drew q2)) (by simp); have q5 := hg4.cell ((ck_drew q3)) (by simp)))
        rw [HE2.out] at hd3 hd4
        have hgw4 : w.grownBy w4 none := (gr_drew hgw3).trans hg4
        have HD1' : Hid (w4.heap[d1]? = some (.cells (intsA la) 3)) := kept hg4 ((hp_drew _ _).trans HD1.out)
        have HD3 : Hid (w4.heap[d3]? = some (.cells (intsA la') 3)) := hd3
        have hx4 : w4.heap[cx]? = some (.cells #[.slice (some ⟨b1, 0, none⟩) ni ni, .slice (some ⟨b2, 0, none⟩) m m, .slice (some ⟨b3, 0, none⟩) n n] 24) := kept hg4 ((hp_drew _ _).trans HX3.out)
        have x1 := at_cell hx4 1
        have x2 := at_cell hx4 2
        simp at x1 x2
        have HX4 : Hid (w4.heap[cx]? = some (.cells #[.slice (some ⟨b1, 0, none⟩) ni ni, .slice (some ⟨b2, 0, none⟩) m m, .slice (some ⟨b3, 0, none⟩) n n] 24)) := hx4
        have hca : ∀ j, j < m → w4.cell? ⟨d2, j, none⟩ = some (.int .i64 (lo.getD j 0)) := fun j hj => by
          have hj' : j < lo.length := by rw [HO.out]; exact hj
          rw [at_cell (kept hg4 ((hp_drew _ _).trans HD2.out)) j]
          simp [intsA, hj']
        have hcb : ∀ j, j < m → w4.cell? ⟨d4, j, none⟩ = some (.int .i64 (lo.getD j 0)) := fun j hj => by
          have hj' : j < lo.length := by rw [HO.out]; exact hj
          rw [at_cell hd4 j]
          simp [intsA, hj']
        have HCA : Hid (∀ j, j < m → w4.cell? ⟨d2, j, none⟩ = some (.int .i64 (lo.getD j 0))) := hca
        have HCB : Hid (∀ j, j < m → w4.cell? ⟨d4, j, none⟩ = some (.int .i64 (lo.getD j 0))) := hcb
        clear hd3 hd4 q2 q3 q4 q5 hx4 hca hcb
        go_wp2
        go_loopg [16] m (fun gj s16 wx => ∃ j : Nat, s16 = .int .i64 j ∧ j ≤ m ∧ gj = m - j ∧ w4.grownBy wx none)
        case atStart => exact ⟨0, rfl, Nat.zero_le _, by omega, World.grownBy.refl _ _⟩
        case round =>
          obtain ⟨j, rfl, hj, hgj, hg5⟩ := hrel
          have HGJ : Hid (_ = _) := hgj
          clear hgj
          by_cases hjm : j < m
          · obtain ⟨x, hx⟩ : ∃ x, lo.getD j 0 = x := ⟨_, rfl⟩
            have ca := hg5.cell (HCA.out j hjm) (by simp)
            have cb := hg5.cell (HCB.out j hjm) (by simp)
            rw [hx] at ca cb
            clear hx
            have j1 : (0 : Int) ≤ (j : Int) := by omega
            have j2 : (j : Int) < (m : Int) := by omega
            go_wp2
            go_region_held3 (fun w' => w'.cell? ⟨d2, j, none⟩ = some (.int .i64 x) ∧ w'.cell? ⟨d4, j, none⟩ = some (.int .i64 x)) (go_keep) (fail)
            go_wp2
            have hgl := HGJ.out
            go_roundg (m - (j + 1))
            all_goals first | omega | exact ⟨j + 1, by go_num, by omega, by omega, gr_drew hg5⟩
          · have hj' : ¬ ((j : Int) < (m : Int)) := by omega
            go_wp2
            have hgl := HG.out
            go_roundg (len - (k + 1))
            all_goals first | omega | exact ⟨k + 1, d1, d3, la, la', by go_num, by omega, by omega, rfl, rfl, HRa.out, kept hg5 HD1'.out, kept hg5 HD3.out, kept hg5 HX4.out, hgw4.trans hg5⟩
      · have hk' : ¬ ((k : Int) < (len : Int)) := by omega
        go_wp2
        go_ret
        exact ⟨by first | rfl | trivial, hgr⟩
end Go.Proofs.Ytphnadhkoigegaa
