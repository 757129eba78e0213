/- mayStack: the walk. -/
import Derived.Test.YtbaijehecncclaaDoorL6
namespace Go.Proofs.YtbaijehecncclaaDoor
open Go.RowKit
attribute [local go_sem ↓] Go.wp_at_zero Go.wp_at_succ
set_option linter.unusedVariables false
set_option linter.unusedSimpArgs false

def StackOk (t : List Ins) : Prop := ∃ hs, hgt t (tkN t) (gvN t) t.length = some hs ∧ hs.getD t.length 0 = 0

theorem hgt_none_up {t : List Ins} {tk gv : Nat → Int} {k : Nat} (m : Nat) (h : hgt t tk gv k = none) : hgt t tk gv (k + m) = none := by
  induction m with
  | zero => exact h
  | succ m ih => show hgt t tk gv (k + m + 1) = none; simp only [hgt, ih]; rfl

set_option maxRecDepth 10000 in
set_option maxHeartbeats 4000000 in
theorem mayStack_any (o : Nat) (t : List Ins) (w : World) (hO : OvT w o t) (hl : t.length ≤ 100000) (hW : WayOk t) :
    Calls Tryd.prog 31 #[.pointer (some ⟨o, 0, none⟩)] w (BoolOf (StackOk t) w) := by
  obtain ⟨pb, po, tv, h1, h2, ta, tcap, rfl, hT⟩ := hO
  have HT : Hid (t = [] ∨ ∃ b off, ta = some ⟨b, off, none⟩ ∧ ∀ i, i < t.length →
    w.cell? ⟨b, off + i * 4, none⟩ = some (.int .i64 (nth t i).d) ∧ w.cell? ⟨b, off + i * 4 + 1, none⟩ = some (.int .i64 (nth t i).a) ∧
    w.cell? ⟨b, off + i * 4 + 2, none⟩ = some (.int .i64 (nth t i).b) ∧ w.cell? ⟨b, off + i * 4 + 3, none⟩ = some (.int .i64 (nth t i).c)) := hT
  have HW : Hid (WayOk t) := hW
  clear hT hW
  obtain ⟨n, hn⟩ : ∃ n, t.length = n := ⟨_, rfl⟩
  have HN : Hid (t.length = n) := hn
  rw [hn] at hl h2
  have ew : wrap64 ((n : Int) + 1) = (n : Int) + 1 := by unfold wrap64; omega
  have hmk : ∀ w : World, (Instr.makeSlice 29 (.int .i64 ((n : Int) + 1)) (.int .i64 ((n : Int) + 1))).run Tryd.prog w = .ok (.slice (some ⟨w.heap.size, 0, none⟩) (n + 1) (n + 1)) (w.alloc (.cells (intsA (List.replicate (n + 1) 0)) 3)) := fun w => by
    have := make_ints (n + 1) (by omega) w
    simpa using this
  clear hn
  obtain ⟨H, hH⟩ : ∃ H, w.heap.size = H := ⟨_, rfl⟩
  go_enter Tryd.func31, Tryd.ntmps31
  go_wp2
  clear hmk
  go_loopg [25] (n + 1) (fun gk s25 wx => ∃ (j : Nat) (l : List Int), s25 = .int .i64 j ∧ j ≤ n + 1 ∧ gk = n + 1 - j ∧ wx.heap[H]? = some (.cells (intsA l) 3) ∧ minus (n + 1) j l ∧ wx.heap[H + 1]? = some (.cells #[.slice (some ⟨H, 0, none⟩) (n + 1) (n + 1)] 29) ∧ w.grownBy wx none)
  case atStart => 
    refine ⟨0, _, rfl, Nat.zero_le _, by omega, (hp_old (by simp [hH]) _).trans (hp_new hH.symm _), ⟨by simp, fun i hi => by omega, fun i _ hi => by simp [List.getD, hi]⟩, hp_new (by simp [hH]) _, gr_alloc (gr1 _ _) _⟩
  case round =>
    obtain ⟨j, l, rfl, hj, hgk, har, hmi, hcc, hgr⟩ := hrel
    have HG : Hid (gk = n + 1 - j) := hgk
    have HA : Hid (wr.heap[H]? = some (.cells (intsA l) 3)) := har
    have HC : Hid (wr.heap[H + 1]? = some (.cells #[.slice (some ⟨H, 0, none⟩) (n + 1) (n + 1)] 29)) := hcc
    have HM : Hid (minus (n + 1) j l) := hmi
    clear hgk har hmi hcc
    have c0 : wr.cell? ⟨H + 1, 0, none⟩ = some (.slice (some ⟨H, 0, none⟩) (n + 1) (n + 1)) := by rw [at_cell HC.out]; rfl
    by_cases hlt : j < n + 1
    · have z0 := ints_get HA.out j (by rw [HM.out.1]; exact hlt)
      have f0 := at_frozen HA.out j
      have i1 : (0 : Int) ≤ (j : Int) := by omega
      have i2 : (j : Int) < (n : Int) + 1 := by omega
      have i3 : (j : Int) < ((n + 1 : Nat) : Int) := by omega
      go_wp2
      have hgl := HG.out
      go_roundg (n + 1 - (j + 1))
      all_goals first | omega | exact ⟨j + 1, l.set j (-1), by go_num, by omega, by omega, by rw [at_set HA.out, intsA_set], minus_set HM.out hlt, (Below.heap_setCell _ _ _ _ (by simp)).trans HC.out, gr_own hgr (by omega) _ _⟩
    · have hj' : ¬ ((j : Int) < (n : Int) + 1) := by omega
      have hj'' : ¬ ((j : Int) < ((n + 1 : Nat) : Int)) := by omega
      have hjn : j = n + 1 := by omega
      subst hjn
      have z0 := ints_get HA.out 0 (by rw [HM.out.1]; omega)
      have f0 := at_frozen HA.out 0
      have i2 : (0 : Int) < (n : Int) + 1 := by omega
      have HA1 : Hid ((wr.setCell ⟨H, 0, none⟩ (.int .i64 0)).heap[H]? = some (.cells (intsA (0 :: List.replicate n (-1))) 3)) := (by rw [at_set HA.out, intsA_set, minus_all HM.out] : (wr.setCell ⟨H, 0, none⟩ (.int .i64 0)).heap[H]? = some (.cells (intsA (0 :: List.replicate n (-1))) 3))
      clear HG
      go_wp2
      go_loopg [37] n (fun gk s37 wx => ∃ (k : Nat) (hs : List Int), s37 = .int .i64 k ∧ k ≤ n ∧ gk = n - k ∧ wx.heap[H]? = some (.cells (intsA hs) 3) ∧ hgt t (tkN t) (gvN t) k = some hs ∧ wx.heap[H + 1]? = some (.cells #[.slice (some ⟨H, 0, none⟩) (n + 1) (n + 1)] 29) ∧ w.grownBy wx none)
      case atStart => exact ⟨0, _, rfl, Nat.zero_le _, by omega, HA1.out, by rw [← HN.out]; rfl, (Below.heap_setCell _ _ _ _ (by simp)).trans HC.out, gr_own hgr (by omega) _ _⟩
      case round =>
        obtain ⟨k, hs, rfl, hk, hgk, har, hhg, hcc, hgr2⟩ := hrel
        have HG : Hid (_ = n - k) := hgk
        have HA2 : Hid (wr.heap[H]? = some (.cells (intsA hs) 3)) := har
        have HC2 : Hid (wr.heap[H + 1]? = some (.cells #[.slice (some ⟨H, 0, none⟩) (n + 1) (n + 1)] 29)) := hcc
        have HH : Hid (hgt t (tkN t) (gvN t) k = some hs) := hhg
        have HLN : Hid (hs.length = n + 1) := (by rw [hgt_len hhg, HN.out] : hs.length = n + 1)
        clear hgk har hcc hhg z0 f0 c0 hgr
        have c0 : wr.cell? ⟨H + 1, 0, none⟩ = some (.slice (some ⟨H, 0, none⟩) (n + 1) (n + 1)) := by rw [at_cell HC2.out]; rfl
        by_cases hlt : k < n
        · have hkl : k < t.length := by rw [HN.out]; exact hlt
          rcases HT.out with h | ⟨b', off, rfl, hc⟩
          · subst h; simp at hkl
          obtain ⟨q0, q1, q2, q3⟩ := hc k hkl
          have q0 := hgr2.cell q0 (by simp)
          have q1 := hgr2.cell q1 (by simp)
          have q2 := hgr2.cell q2 (by simp)
          have q3 := hgr2.cell q3 (by simp)
          clear hc
          have i1 : (0 : Int) ≤ (k : Int) := by omega
          have i2 : (k : Int) < (n : Int) := by omega
          have i3 : (k : Int) < ((n + 1 : Nat) : Int) := by omega
          have i4 : (k : Int) < (n : Int) + 1 := by omega
          have z0 := ints_get HA2.out k (by rw [HLN.out]; omega)
          have hzl := hgt_le HH.out k
          have hzg := hgt_ge (fun i => (gvS_bd (nth t i)).1) HH.out k
          have hstep : hgt t (tkN t) (gvN t) (k + 1) = if hs.getD k 0 = -1 then some hs else if hs.getD k 0 < tkN t k ∨ 1000 < hs.getD k 0 - tkN t k + gvN t k then none else meet (hs.getD k 0 - tkN t k + gvN t k) (ways t k) hs := by
            show (hgt t (tkN t) (gvN t) k).bind _ = _
            rw [HH.out]
            rfl
          obtain ⟨wn1, wn2⟩ := way_nats t k hkl HW.out
          have htk := tkS_bd (nth t k)
          have hgv := gvS_bd (nth t k)
          have wl := ways_len t k
          rw [show tkN t k = tkS (nth t k) from rfl, show gvN t k = gvS (nth t k) from rfl] at hstep
          change (hs.getD k 0) ≤ 1000 at hzl
          change -1 ≤ (hs.getD k 0) at hzg
          obtain ⟨z, hz⟩ : ∃ z, hs.getD k 0 = z := ⟨_, rfl⟩
          rw [hz] at z0 hzl hzg hstep
          have cE : ∀ w, Calls Tryd.prog 39 #[insV (nth t k)] w fun e w' => e = .returned (.tuple #[.int .i64 (tkS (nth t k)), .int .i64 (gvS (nth t k))]) ∧ w.grownBy w' none := effect_any (nth t k)
          have cW : ∀ w, Calls Tryd.prog 40 #[.int .i64 k, insV (nth t k)] w (FreshInts w (wayS k (nth t k))) := fun w => ways_any k (nth t k) w (by omega) (by omega)
          rw [← wn1] at cW
          unfold insV at cE cW
          clear wn1
          generalize tkS (nth t k) = tk at *
          generalize gvS (nth t k) = gv at *
          generalize (nth t k).d = d at *
          generalize (nth t k).a = a at *
          generalize (nth t k).b = b at *
          generalize (nth t k).c = c at *
          have Z0 : ∀ ob, (wr.alloc ob).cell? ⟨H, k, none⟩ = some (.int .i64 z) := fun ob => (gr1 wr ob).cell z0 (by simp)
          have C0 : ∀ ob, (wr.alloc ob).cell? ⟨H + 1, 0, none⟩ = some (.slice (some ⟨H, 0, none⟩) (n + 1) (n + 1)) := fun ob => (gr1 wr ob).cell c0 (by simp)
          clear z0 c0 hz
          have HST : Hid (_ = _) := hstep
          have HWN : Hid (∀ p, p ∈ ways t k → p < t.length + 1) := wn2
          clear hstep wn2
          by_cases hm1 : z = -1
          · subst hm1
            have HS1 : Hid (hgt t (tkN t) (gvN t) (k + 1) = some hs) := (by rw [HST.out, if_pos rfl] : hgt t (tkN t) (gvN t) (k + 1) = some hs)
            clear HST
            go_wp2
            have hgl := HG.out
            go_roundg (n - (k + 1))
            all_goals first | omega | exact ⟨k + 1, hs, by go_num, by omega, by omega, (hp_old (at_lt HA2.out) _).trans HA2.out, HS1.out, (hp_old (at_lt HC2.out) _).trans HC2.out, gr_alloc hgr2 _⟩
          · have e1 : (z == -1) = false := by simpa using hm1
            go_wp2_with fail
            refine (cE _).mono ?_
            rintro e w1 ⟨rfl, hg1⟩
            have hX := kept hg1 (heap_alloc_new wr _)
            have x0 := at_cell hX 0
            have x1 := at_cell hX 1
            have x2 := at_cell hX 2
            have x3 := at_cell hX 3
            simp at x0 x1 x2 x3
            have HA3 : Hid (w1.heap[H]? = some (.cells (intsA hs) 3)) := kept hg1 ((hp_old (at_lt HA2.out) _).trans HA2.out)
            have HC3 : Hid (w1.heap[H + 1]? = some (.cells #[.slice (some ⟨H, 0, none⟩) (n + 1) (n + 1)] 29)) := kept hg1 ((hp_old (at_lt HC2.out) _).trans HC2.out)
            have z1 := hg1.cell (Z0 _) (by simp)
            have c1 := hg1.cell (C0 _) (by simp)
            have hgw : w.grownBy w1 none := (gr_alloc hgr2 _).trans hg1
            have a1 : wrap64 (z - tk) = z - tk := by unfold wrap64; omega
            have a2 : wrap64 (z - tk + gv) = z - tk + gv := by unfold wrap64; omega
            have HBad : Hid (hgt t (tkN t) (gvN t) (k + 1) = none → ¬ StackOk t) := fun hnone ⟨hs', hh, _⟩ => by
              have := hgt_none_up (t.length - (k + 1)) hnone
              rw [show k + 1 + (t.length - (k + 1)) = t.length by omega, hh] at this
              simp at this
            clear hX Z0 C0 cE hg1
            by_cases hlow : z < tk
            · have HX : Hid (¬ StackOk t) := HBad.out (by rw [HST.out, if_neg hm1, if_pos (.inl hlow)])
              go_wp2_with fail
              go_ret
              exact ⟨false, rfl, by simpa using HX.out, hgw⟩
            · by_cases hhigh : 1000 < z - tk + gv
              · have HX : Hid (¬ StackOk t) := HBad.out (by rw [HST.out, if_neg hm1, if_pos (.inr hhigh)])
                go_wp2_with fail
                go_ret
                exact ⟨false, rfl, by simpa using HX.out, hgw⟩
              · have HME : Hid (hgt t (tkN t) (gvN t) (k + 1) = meet (z - tk + gv) (ways t k) hs) := (by rw [HST.out, if_neg hm1, if_neg (by omega)] : hgt t (tkN t) (gvN t) (k + 1) = meet (z - tk + gv) (ways t k) hs)
                go_wp2_with fail
                refine (cW _).mono ?_
                rintro e w2 ⟨pl, rfl, hp1, hp2, hg2⟩
                have hnl : (natsI (ways t k)).length = (ways t k).length := by simp [natsI]
                rw [hnl]
                have hlt1 := at_lt HA3.out
                have hlt2 := at_lt HC3.out
                have cM := meet_any (H + 1) H pl (n + 1) (z - tk + gv) (ways t k) hs w2 (kept hg2 HC3.out) (kept hg2 HA3.out) hp2 HLN.out (fun p hp => by have := HWN.out p hp; rw [HN.out] at this; exact this) wl (by omega) (by omega) (by omega) (by omega)
                clear hnl hp2 cW
                go_wp2_with fail
                refine cM.mono ?_
                rintro e w3 ⟨hg3, hm3⟩
                have HG3 : Hid (w.grownBy w3 none) := grown_join (hgw.trans hg2) hg3 (.inr fun x hx => by simp at hx; omega)
                have HC4 : Hid (w3.heap[H + 1]? = some (.cells #[.slice (some ⟨H, 0, none⟩) (n + 1) (n + 1)] 29)) := keptBut hg3 (kept hg2 HC3.out) (by omega)
                clear cM
                cases hmm : meet (z - tk + gv) (ways t k) hs with
                | none =>
                  rw [hmm] at hm3
                  have hm4 : e = .returned (.bool false) := hm3
                  subst hm4
                  have HX : Hid (¬ StackOk t) := HBad.out (by rw [HME.out, hmm])
                  go_wp2_with fail
                  go_ret
                  exact ⟨false, rfl, by simpa using HX.out, HG3.out⟩
                | some hs' =>
                  rw [hmm] at hm3
                  obtain ⟨hm4, hm5⟩ := hm3
                  subst hm4
                  have HA5 : Hid (w3.heap[H]? = some (.cells (intsA hs') 3)) := hm5
                  have HH5 : Hid (hgt t (tkN t) (gvN t) (k + 1) = some hs') := (by rw [HME.out, hmm] : hgt t (tkN t) (gvN t) (k + 1) = some hs')
                  clear hm5 hmm
                  go_wp2_with fail
                  have hgl := HG.out
                  go_roundg (n - (k + 1))
                  all_goals first | omega | exact ⟨k + 1, hs', by go_num, by omega, by omega, HA5.out, HH5.out, HC4.out, HG3.out⟩
        · have hk' : ¬ ((k : Int) < (n : Int)) := by omega
          have hkn : k = n := by omega
          subst hkn
          have z0 := ints_get HA2.out k (by rw [HLN.out]; omega)
          have i3 : (k : Int) < ((k + 1 : Nat) : Int) := by omega
          have i4 : (k : Int) < (k : Int) + 1 := by omega
          have i1 : (0 : Int) ≤ (k : Int) := by omega
          have HX : Hid (StackOk t ↔ hs.getD k 0 = 0) := ⟨fun ⟨hs', hh, h0⟩ => by
              rw [HN.out, HH.out] at hh
              rw [Option.some.inj hh, ← HN.out]; exact h0, fun h0 => ⟨hs, by rw [HN.out]; exact HH.out, by rw [HN.out]; exact h0⟩⟩
          generalize hs.getD k 0 = z at *
          go_wp2
          go_ret
          exact ⟨_, rfl, by rw [HX.out]; simp, hgr2⟩
end Go.Proofs.YtbaijehecncclaaDoor
