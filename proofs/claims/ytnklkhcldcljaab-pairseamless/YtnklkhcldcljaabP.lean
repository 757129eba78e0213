/- Who takes over goes on where the other one stopped. -/
import Derived.Test.YtnklkhcldcljaabN
import Derived.Deep.CutBlock
import Derived.Deep.DeepCutAuto
namespace Go.Proofs.Ytnklkhcldcljaab
open Go.RowKit
attribute [local go_sem ↓] Go.wp_at_zero Go.wp_at_succ
set_option linter.unusedVariables false
set_option linter.unusedSimpArgs false

def LA (pt k : Nat) : Sd := ⟨0, true, 0, (k : Int), im2 k, 0, (pt : Int)⟩
def LB (pt k : Nat) : Sd := ⟨1, false, 0, (k : Int), im2 k, 0, (pt : Int)⟩
def LC (pt k : Nat) : Sd := ⟨1, true, 1, (k : Int), im2 k, 0, (pt : Int)⟩
theorem im2_len (k : Nat) : (im2 k).length = 2 := rfl
theorem WB_zero {n pt : Nat} (h : 1 ≤ pt) : WB n pt 0 = LB pt n := by
  unfold WB
  rw [if_pos (by omega)]
  rfl
theorem WB_last {n pt : Nat} : WB n pt pt = LC pt n := by
  unfold WB
  rw [if_neg (by omega)]
  rfl
theorem WB_im (n pt i : Nat) : (WB n pt i).im = im2 n := by
  unfold WB
  split <;> rfl
theorem WB_ac {n pt i : Nat} (h : i < pt) : (WB n pt i).ac = false := by
  unfold WB
  rw [if_pos h]
set_option maxRecDepth 10000 in
set_option maxHeartbeats 2000000 in
theorem seamless_any (pn fn rn : Int) (w : World) (h1 : in64 pn) (h2 : in64 fn) (h3 : in64 rn) : Calls Try.prog 3 #[.int .i64 pn, .int .i64 fn, .int .i64 rn] w fun e w' => e = .returned (.bool true) ∧ w.grownBy w' none := by
  have cp := picked_any pn 20 w h1 (by omega) (by omega)
  have pl := pk_lt pn (m := 20) (by omega)
  generalize pk pn 20 = ps at *
  obtain ⟨pt, hpt⟩ : ∃ pt, pt = 1 + ps := ⟨_, rfl⟩
  have hp1 : 1 ≤ pt ∧ pt ≤ 20 := by omega
  have HPI := hidI (show (1 : Int) + (ps : Int) = (pt : Int) by omega)
  clear hpt
  have cs : ∀ X, Calls Try.prog 6 #[.int .i64 0] X fun e w' => TwP X w' e 0 := fun X => summed_any 0 X (by omega)
  have cA : ∀ X v, rd X v (im2 0) → Calls Try.prog 5 #[.int .i64 0, .int .i64 (pt : Int), v] X fun e w' => StE X w' e (LA pt 0) 0 := fun X v k => by
    have := start_any 0 (pt : Int) (im2 0) v X k (by simp [im2])
    rw [(start_is (i := 0) (by omega) hp1).1, (start_is (i := 0) (by omega) hp1).2] at this
    exact this
  have cB : ∀ X v, rd X v (im2 0) → Calls Try.prog 5 #[.int .i64 1, .int .i64 (pt : Int), v] X fun e w' => StE X w' e (LB pt 0) 0 := fun X v k => by
    have := start_any 1 (pt : Int) (im2 0) v X k (by simp [im2])
    rw [(start_is (i := 1) (by omega) hp1).1, (start_is (i := 1) (by omega) hp1).2] at this
    exact this
  have HA0 : Hid (∃ S, S = LA pt 0) := hidI ⟨_, rfl⟩
  obtain ⟨SA, hSA⟩ := HA0.out
  obtain ⟨SB, hSB⟩ : ∃ S, S = LB pt 0 := ⟨_, rfl⟩
  have HAC := hidI (show SA.ac = true by rw [hSA]; rfl)
  have HBC := hidI (show SB.ac = false by rw [hSB]; rfl)
  rw [← hSA] at cA
  rw [← hSB] at cB
  have HSA := hidI hSA
  have HSB := hidI hSB
  clear hSA hSB HA0
  go_enter Try.func3, Try.ntmps3
  go_wp2_with fail
  refine cp.mono ?_
  rintro e w0 ⟨rfl, rfl⟩
  clear cp
  go_upto_region 2 with fail
  rw [HPI.out]
  clear HPI pl
  go_wp2_with fail
  refine (cs _).mono ?_
  rintro e w1 ⟨ua, uc, rfl, ou, g1⟩
  go_wp2_with fail
  refine (cA _ _ (OwnL.rd ou)).mono ?_
  rintro e w2 ⟨a, c, rfl, o2, g2⟩
  dsimp only [sdV, sdA] at *
  obtain ⟨pa, hpa⟩ : ∃ q, w2.heap.size = q := ⟨_, rfl⟩
  go_upto_region 3 with fail
  have gA := gr_alloc (World.grownBy.refl w2 none) (.cells #[.int .i64 SA.me, .bool SA.ac, .int .i64 SA.te, .int .i64 SA.cy, .slice a SA.im.length c, .int .i64 SA.si, .int .i64 SA.pa] 25)
  have K1 := hp_new hpa.symm (.cells #[.int .i64 SA.me, .bool SA.ac, .int .i64 SA.te, .int .i64 SA.cy, .slice a SA.im.length c, .int .i64 SA.si, .int .i64 SA.pa] 25)
  obtain ⟨W2, hW2⟩ : ∃ X, w2.alloc (.cells #[.int .i64 SA.me, .bool SA.ac, .int .i64 SA.te, .int .i64 SA.cy, .slice a SA.im.length c, .int .i64 SA.si, .int .i64 SA.pa] 25) = X := ⟨_, rfl⟩
  rw [hW2] at gA K1 ⊢
  have o2 := OwnL.kept o2 gA
  have gw := grown_join (grown_join g1 g2 (.inl rfl)) gA (.inl rfl)
  have HPA := hidI (show w.heap.size ≤ pa by rw [← hpa]; exact (grown_join g1 g2 (.inl rfl)).size)
  clear ou g1 g2 gA hW2 hpa
  go_wp2_with fail
  refine (cs _).mono ?_
  rintro e w3 ⟨ua', uc', rfl, ou, g3⟩
  go_wp2_with fail
  refine (cB _ _ (OwnL.rd ou)).mono ?_
  rintro e w4 ⟨b, d, rfl, o4, g4⟩
  dsimp only [sdV, sdA] at *
  obtain ⟨pb, hpb⟩ : ∃ q, w4.heap.size = q := ⟨_, rfl⟩
  go_upto_region 4 with fail
  have gA := gr_alloc (World.grownBy.refl w4 none) (.cells #[.int .i64 SB.me, .bool SB.ac, .int .i64 SB.te, .int .i64 SB.cy, .slice b SB.im.length d, .int .i64 SB.si, .int .i64 SB.pa] 25)
  have K2 := hp_new hpb.symm (.cells #[.int .i64 SB.me, .bool SB.ac, .int .i64 SB.te, .int .i64 SB.cy, .slice b SB.im.length d, .int .i64 SB.si, .int .i64 SB.pa] 25)
  obtain ⟨W4, hW4⟩ : ∃ X, w4.alloc (.cells #[.int .i64 SB.me, .bool SB.ac, .int .i64 SB.te, .int .i64 SB.cy, .slice b SB.im.length d, .int .i64 SB.si, .int .i64 SB.pa] 25) = X := ⟨_, rfl⟩
  rw [hW4] at gA K2 ⊢
  have g34 := grown_join (grown_join g3 g4 (.inl rfl)) gA (.inl rfl)
  have hT : Two w W4 pa pb SA SB a b c d := ⟨kept g34 K1, K2, own_low (OwnL.kept o2 g34) (Nat.zero_le _), own_low (OwnL.kept o4 gA) (Nat.zero_le _), by have := at_lt K1; have := (grown_join g3 g4 (.inl rfl)).size; omega, HPA.out, by rw [← hpb]; exact Nat.le_trans gw.size (grown_join g3 g4 (.inl rfl)).size, grown_join gw g34 (.inl rfl)⟩
  have HT := hidI hT
  clear K1 K2 o2 o4 ou g3 g4 gA g34 hW4 hpb gw cA cB HPA
  obtain ⟨i0, i1, i2, i3, i4, i5, i6⟩ := at7 hT.ba
  obtain ⟨j0, j1, j2, j3, j4, j5, j6⟩ := at7 hT.bb
  rw [HAC.out] at i1
  rw [HBC.out] at j1
  clear hT
  go_upto_region 6 with fail
  clear i0 i1 i2 i3 i4 i5 i6 j0 j1 j2 j3 j4 j5 j6
  have cf := fun X => picked_any fn 60 X h2 (by omega) (by omega)
  have fl := pk_lt fn (m := 60) (by omega)
  have cr := fun X => picked_any rn 60 X h3 (by omega) (by omega)
  have rl := pk_lt rn (m := 60) (by omega)
  generalize pk fn 60 = n at *
  generalize pk rn 60 = m at *
  go_wp2_with fail
  refine (cf _).mono ?_
  rintro e w5 ⟨rfl, rfl⟩
  go_wp2_with fail
  refine (cr _).mono ?_
  rintro e w6 ⟨rfl, rfl⟩
  clear cf cr
  have hT := HT.out
  rw [HSA.out, HSB.out] at hT
  clear HT HAC HBC HSA HSB
  have HT := hidI hT
  clear hT
  go_upto_block 0 with fail
  go_wp2_with fail
  go_loopg [52] n (fun gk s52 wx => ∃ (k : Nat) (a b : Option Addr) (c d : Nat), s52 = .int .i64 (k : Int) ∧ k ≤ n ∧ gk = n - k ∧ Two w wx pa pb (LA pt k) (LB pt k) a b c d)
  case atStart => exact ⟨0, a, b, c, d, rfl, Nat.zero_le _, by omega, HT.out⟩
  case round =>
    obtain ⟨k, a, b, c, d, rfl, hk, hgk, hT⟩ := hrel
    have HG := hidI hgk
    have HT := hidI hT
    clear hgk hT
    by_cases hlt : k < n
    · obtain ⟨SA, hSA⟩ : ∃ S, S = LA pt k := ⟨_, rfl⟩
      obtain ⟨SB, hSB⟩ : ∃ S, S = LB pt k := ⟨_, rfl⟩
      obtain ⟨SA', hSA'⟩ : ∃ S, S = LA pt (k + 1) := ⟨_, rfl⟩
      obtain ⟨SB', hSB'⟩ : ∃ S, S = LB pt (k + 1) := ⟨_, rfl⟩
      obtain ⟨BB, hBB⟩ : ∃ S : Bt, S = ⟨0, 0, ((k + 1 : Nat) : Int), im2 (k + 1)⟩ := ⟨_, rfl⟩
      have cAf : ∀ X v, rd X v SA.im → Calls Try.prog 8 #[v] X fun e w' => TwP X w' e (k + 1) := by
        rw [hSA]
        exact fun X v h => after_any (k) v X h (by omega)
      have cDn : ∀ X v u, rd X v SA.im → rd X u (im2 (k + 1)) → Calls Try.prog 7 #[sdV SA v, u] X fun e w' => StE X w' e SA' 0 := by
        rw [hSA, hSA']
        intro X v u k1 k2
        have := done_any (LA pt (k)) (im2 (k + 1)) v u X k1 (by simp [LA, im2]) k2 (by simp [im2])
        have e := done_is (me := 0) (te := 0) (k := k) (pt := pt) (by omega) (by omega) (by omega) hp1
        dsimp only at e
        unfold LA at this ⊢
        rw [e.1, e.2] at this
        exact this
      have cSn : ∀ X v, rd X v SA'.im → Calls Try.prog 9 #[sdV SA' v] X fun e w' => BtE X w' e BB 0 := by
        rw [hSA', hBB]
        intro X v k1
        have := send_any (LA pt (k + 1)) v X k1 (by simp [LA, im2])
        have e := send_is (me := 0) (te := 0) (k := k + 1) (pt := pt) (by omega) (by omega) (by omega) hp1
        dsimp only at e
        unfold LA at this ⊢
        rw [e.1, e.2] at this
        exact this
      have cHr : ∀ X v u, rd X v SB.im → rd X u BB.im → Calls Try.prog 10 #[sdV SB v, btV BB u] X fun e w' => StE X w' e SB' 0 := by
        rw [hSB, hSB', hBB]
        intro X v u k1 k2
        have := hear_any (LB pt k) ⟨0, 0, ((k + 1 : Nat) : Int), im2 (k + 1)⟩ v u X k1 (by simp [LB, im2]) k2 (by simp [im2])
        have e := hear_is (k := k) (pt := pt) (by omega) hp1
        dsimp only at e
        unfold LB at this ⊢
        rw [e.1, e.2] at this
        exact this
      have hT := HT.out
      rw [← hSA, ← hSB] at hT
      have HN := hidI (And.intro hSA' hSB')
      clear hSA hSB hSA' hSB' hBB HT
      have HT := hidI hT
      have i1 : (k : Int) < (n : Int) := by omega
      go_upto_region 9 with fail
      clear i1
      have hT := HT.out
      obtain ⟨i0, i1, i2, i3, i4, i5, i6⟩ := at7 hT.ba
      obtain ⟨f0, f1, f2, f3, f4, f5, f6⟩ := fz7 hT.ba
      have gR := World.grownBy.refl wr none
      have gD := gr_drew gR
      clear hT
      dsimp only [sdV, sdA] at cDn
      go_cut [9] (fun s9 wx => s9 = .int .i64 0 ∧ ∃ a' c', Two w wx pa pb SA' SB a' b c' d)
      case first =>
        go_region_with (first | (go_at_call 8; refine (cAf _ _ (by first | exact OwnL.rd (HT.out.grow gR).oa | exact OwnL.rd (HT.out.grow gD).oa)).mono ?_; rintro e w1 ⟨ua, uc, rfl, ou, g1⟩; have K1 := kept g1 HT.out.ba; obtain ⟨y0, y1, y2, y3, y4, y5, y6⟩ := at7 K1) | (go_at_call 7; refine (cDn _ _ _ (by first | exact OwnL.rd ((HT.out.grow gR).grow g1).oa | exact OwnL.rd ((HT.out.grow gD).grow g1).oa) (by exact OwnL.rd ou)).mono ?_; rintro e w2 ⟨a2, c2, rfl, o2, g2⟩; try dsimp only [sdV, sdA]; have K2 := kept g2 K1; obtain ⟨z0, z1, z2, z3, z4, z5, z6⟩ := at7 K2; obtain ⟨t0, t1, t2, t3, t4, t5, t6⟩ := fz7 K2))
        all_goals go_wp2_with fail
        all_goals go_meet
        all_goals exact ⟨rfl, a2, c2, (((HT.out.grow gD).grow g1).grow g2).putA o2⟩
      case rest =>
       obtain ⟨rfl, a', c', hT⟩ := hcut
       clear i0 i1 i2 i3 i4 i5 i6 f0 f1 f2 f3 f4 f5 f6 gR gD cAf cDn HT
       have HT := hidI hT
       obtain ⟨i0, i1, i2, i3, i4, i5, i6⟩ := at7 hT.ba
       clear hT
       go_upto_region 12 with fail
       go_wp2_with fail
       refine (cSn _ _ (OwnL.rd HT.out.oa)).mono ?_
       rintro e w3 ⟨sa, sc, rfl, o3, g3⟩
       try dsimp only [btV, btA] at *
       clear i0 i1 i2 i3 i4 i5 i6 cSn
       obtain ⟨q, hq⟩ : ∃ q, w3.heap.size = q := ⟨_, rfl⟩
       go_upto_region 15 with fail
       have gA := gr_alloc (World.grownBy.refl w3 none) (.cells #[.int .i64 BB.fr, .int .i64 BB.te, .int .i64 BB.cy, .slice sa BB.im.length sc] 33)
       have KQ := hp_new hq.symm (.cells #[.int .i64 BB.fr, .int .i64 BB.te, .int .i64 BB.cy, .slice sa BB.im.length sc] 33)
       have o3 := OwnL.kept o3 gA
       have hT := (HT.out.grow g3).grow gA
       clear HT g3 gA hq
       generalize w3.alloc (.cells #[.int .i64 BB.fr, .int .i64 BB.te, .int .i64 BB.cy, .slice sa BB.im.length sc] 33) = X at *
       have HT := hidI hT
       obtain ⟨i0, i1, i2, i3, i4, i5, i6⟩ := at7 hT.bb
       obtain ⟨j0, j1, j2, j3⟩ := at4 KQ
       clear hT KQ
       go_wp2_with fail
       refine (cHr _ _ _ (OwnL.rd HT.out.ob) (OwnL.rd o3)).mono ?_
       rintro e w4 ⟨a4, c4, rfl, o4, g4⟩
       try dsimp only [sdV, sdA] at *
       clear i0 i1 i2 i3 i4 i5 i6 j0 j1 j2 j3 cHr
       have hT := HT.out.grow g4
       clear HT
       obtain ⟨i0, i1, i2, i3, i4, i5, i6⟩ := at7 hT.bb
       obtain ⟨f0, f1, f2, f3, f4, f5, f6⟩ := fz7 hT.bb
       have HT := hidI (hT.putB o4)
       clear hT o4 o3 g4
       go_wp2
       have hgl := HG.out
       go_roundg (n - (k + 1))
       all_goals first | omega | exact ⟨k + 1, a', a4, c', c4, by go_num, by omega, by omega, by obtain ⟨e1, e2⟩ := HN.out; subst e1 e2; exact HT.out⟩
    · have hkn : k = n := by omega
      subst hkn
      have hk' : ¬ ((k : Int) < (k : Int)) := by omega
      have hT := HT.out
      rw [show LB pt k = WB k pt 0 from (WB_zero hp1.1).symm] at hT
      clear HG HT
      have HT := hidI hT
      clear hT
      go_upto_block 2 with fail
      go_wp2_with fail
      go_loopg [16] pt (fun gk s16 wx => ∃ (i : Nat) (b : Option Addr) (d : Nat), s16 = .int .i64 (i : Int) ∧ i ≤ pt ∧ gk = pt - i ∧ Two w wx pa pb (LA pt k) (WB k pt i) a b c d)
      case atStart => exact ⟨0, b, d, rfl, Nat.zero_le _, by omega, HT.out⟩
      case round =>
        obtain ⟨i, b, d, rfl, hi, hgi, hT⟩ := hrel
        have HG := hidI hgi
        clear hgi HT
        by_cases hlt : i < pt
        · obtain ⟨SB, hSB⟩ : ∃ S, S = WB k pt i := ⟨_, rfl⟩
          obtain ⟨SB', hSB'⟩ : ∃ S, S = WB k pt (i + 1) := ⟨_, rfl⟩
          have cW : ∀ X v, rd X v SB.im → Calls Try.prog 11 #[sdV SB v] X fun e w' => StE X w' e SB' 0 := by
            rw [hSB, hSB']
            intro X v k1
            have := wait_any (WB k pt i) v X k1 (by rw [WB_im]; simp [im2])
            rw [(wait_is (n := k) (by omega) hp1 hlt).1, (wait_is (n := k) (by omega) hp1 hlt).2] at this
            exact this
          have hac : SB.ac = false := by rw [hSB]; exact WB_ac hlt
          rw [← hSB] at hT
          have HN := hidI hSB'
          clear hSB hSB'
          have HT := hidI hT
          obtain ⟨i0, i1, i2, i3, i4, i5, i6⟩ := at7 hT.bb
          have y1 := i1
          rw [hac] at y1
          clear i1
          clear hT hac
          have i2' : (i : Int) < (pt : Int) := by omega
          go_upto_region 24 with fail
          clear y1
          have hT := HT.out
          obtain ⟨i0, i1, i2, i3, i4, i5, i6⟩ := at7 hT.bb
          clear hT
          go_wp2_with fail
          refine (cW _ _ (OwnL.rd HT.out.ob)).mono ?_
          rintro e w4 ⟨a4, c4, rfl, o4, g4⟩
          try dsimp only [sdV, sdA] at *
          clear i0 i1 i2 i3 i4 i5 i6 cW
          have hT := HT.out.grow g4
          clear HT
          obtain ⟨i0, i1, i2, i3, i4, i5, i6⟩ := at7 hT.bb
          obtain ⟨f0, f1, f2, f3, f4, f5, f6⟩ := fz7 hT.bb
          have HT := hidI (hT.putB o4)
          clear hT o4 g4
          go_wp2
          have hgl := HG.out
          go_roundg (pt - (i + 1))
          all_goals first | omega | exact ⟨i + 1, a4, c4, by go_num, by omega, by omega, by have e1 := HN.out; subst e1; exact HT.out⟩
        · have hip : pt = i := by omega
          subst hip
          rw [WB_last] at hT
          have HT := hidI hT
          clear hT HG
          have hk' : ¬ ((pt : Int) < (pt : Int)) := by omega
          go_upto_block 4 with fail
          go_wp2_with fail
          go_loopg [95] m (fun gk s95 wx => ∃ (j : Nat) (b : Option Addr) (d : Nat), s95 = .int .i64 (j : Int) ∧ j ≤ m ∧ gk = m - j ∧ Two w wx pa pb (LA pt k) (LC pt (k + j)) a b c d)
          case atStart => exact ⟨0, b, d, rfl, Nat.zero_le _, by omega, HT.out⟩
          case round =>
            obtain ⟨j, b, d, rfl, hj, hgj, hT⟩ := hrel
            have HG := hidI hgj
            clear hgj HT
            obtain ⟨kj, hkj⟩ : ∃ x, x = k + j := ⟨_, rfl⟩
            rw [← hkj] at hT
            have hkl : kj ≤ 1000 := by omega
            have HKJ := hidI hkj
            clear hkj
            by_cases hlt : j < m
            · obtain ⟨SA, hSA⟩ : ∃ S, S = LA pt k := ⟨_, rfl⟩
              obtain ⟨SB, hSB⟩ : ∃ S, S = LC pt kj := ⟨_, rfl⟩
              obtain ⟨SB', hSB'⟩ : ∃ S, S = LC pt (kj + 1) := ⟨_, rfl⟩
              have cAf : ∀ X v, rd X v SB.im → Calls Try.prog 8 #[v] X fun e w' => TwP X w' e (kj + 1) := by
                rw [hSB]
                exact fun X v h => after_any (kj) v X h (by omega)
              have cDn : ∀ X v u, rd X v SB.im → rd X u (im2 (kj + 1)) → Calls Try.prog 7 #[sdV SB v, u] X fun e w' => StE X w' e SB' 0 := by
                rw [hSB, hSB']
                intro X v u k1 k2
                have := done_any (LC pt (kj)) (im2 (kj + 1)) v u X k1 (by simp [LC, im2]) k2 (by simp [im2])
                have e := done_is (me := 1) (te := 1) (k := kj) (pt := pt) (by omega) (by omega) (by omega) hp1
                dsimp only at e
                unfold LC at this ⊢
                rw [e.1, e.2] at this
                exact this
              rw [← hSA, ← hSB] at hT
              have HN := hidI (And.intro hSA hSB')
              clear hSA hSB hSB'
              have HT := hidI hT
              clear hT
              have i1 : (j : Int) < (m : Int) := by omega
              go_upto_region 29 with fail
              clear i1
              have hT := HT.out
              obtain ⟨i0, i1, i2, i3, i4, i5, i6⟩ := at7 hT.bb
              obtain ⟨f0, f1, f2, f3, f4, f5, f6⟩ := fz7 hT.bb
              have gR := World.grownBy.refl wr none
              have gD := gr_drew gR
              clear hT
              dsimp only [sdV, sdA] at cDn
              go_cut [11] (fun s9 wx => s9 = .int .i64 0 ∧ ∃ a' c', Two w wx pa pb SA SB' a a' c c')
              case first =>
                go_region_with (first | (go_at_call 8; refine (cAf _ _ (by first | exact OwnL.rd (HT.out.grow gR).ob | exact OwnL.rd (HT.out.grow gD).ob)).mono ?_; rintro e w1 ⟨ua, uc, rfl, ou, g1⟩; have K1 := kept g1 HT.out.bb; obtain ⟨y0, y1, y2, y3, y4, y5, y6⟩ := at7 K1) | (go_at_call 7; refine (cDn _ _ _ (by first | exact OwnL.rd ((HT.out.grow gR).grow g1).ob | exact OwnL.rd ((HT.out.grow gD).grow g1).ob) (by exact OwnL.rd ou)).mono ?_; rintro e w2 ⟨a2, c2, rfl, o2, g2⟩; try dsimp only [sdV, sdA]; have K2 := kept g2 K1; obtain ⟨z0, z1, z2, z3, z4, z5, z6⟩ := at7 K2; obtain ⟨t0, t1, t2, t3, t4, t5, t6⟩ := fz7 K2))
                all_goals go_wp2_with fail
                all_goals go_meet
                all_goals exact ⟨rfl, a2, c2, (((HT.out.grow gD).grow g1).grow g2).putB o2⟩
              case rest =>
               obtain ⟨rfl, a', c', hT⟩ := hcut
               clear i0 i1 i2 i3 i4 i5 i6 f0 f1 f2 f3 f4 f5 f6 gR gD cAf cDn HT
               have HT := hidI hT
               clear hT
               go_wp2
               have hgl := HG.out
               go_roundg (m - (j + 1))
               all_goals first | omega | exact ⟨j + 1, a', c', by go_num, by omega, by omega, by obtain ⟨e1, e2⟩ := HN.out; have e3 := HKJ.out; subst e1 e2 e3; exact HT.out⟩
            · have hjm : j = m := by omega
              subst hjm
              have hk' : ¬ ((j : Int) < (j : Int)) := by omega
              obtain ⟨SB, hSB⟩ : ∃ S, S = LC pt kj := ⟨_, rfl⟩
              rw [← hSB] at hT
              have y1 : SB.ac = true := by rw [hSB]; rfl
              have y3 : SB.cy = (kj : Int) := by rw [hSB]; rfl
              have y4 : SB.im = im2 kj := by rw [hSB]; rfl
              have hT2 := HKJ.out
              have HKI := hidI (show (k : Int) + (j : Int) = (kj : Int) by omega)
              have cSm := fun X => summed_any kj X (by omega)
              have cEq : ∀ X u v, rd X u SB.im → rd X v (im2 kj) → Calls Try.prog 12 #[u, v] X fun e w' => e = .returned (.bool true) ∧ X.grownBy w' none := fun X u v k1 k2 => by
                rw [y4] at k1
                exact keepEq_yes (im2 kj) u v X k1 k2 (by simp [im2])
              clear hSB hT2 y4
              have HT := hidI hT
              obtain ⟨i0, i1, i2, i3, i4, i5, i6⟩ := at7 hT.bb
              rw [y1] at i1
              rw [y3] at i3
              clear hT y1 y3
              have HKP : Hid (∀ X, wr.grownBy X none → (wr.grownBy X none ∧ X.cell? ⟨pb, 1, none⟩ = some (.bool true) ∧ X.cell? ⟨pb, 3, none⟩ = some (.int .i64 (kj : Int)) ∧ X.cell? ⟨pb, 4, none⟩ = some (.slice b SB.im.length d))) := hidI (fun X g => ⟨g, g.cell i1 (by simp), g.cell i3 (by simp), g.cell i4 (by simp)⟩)
              have hw := i64_id (n := (k : Int) + (j : Int)) (by omega) (by omega)
              rw [HKI.out] at hw
              have cS2 : ∀ X, Calls Try.prog 6 #[.int .i64 (IntKind.i64.wrap ((k : Int) + (j : Int)))] X fun e w' => TwP X w' e kj := fun X => by rw [HKI.out, hw]; exact cSm X
              have e1 : ((kj : Int) == IntKind.i64.wrap ((k : Int) + (j : Int))) = true := by rw [HKI.out, hw]; simp
              have gR := World.grownBy.refl wr none
              have gD := gr_drew gR
              clear i0 i1 i2 i3 i4 i5 i6 hw cSm HKI
              go_upto_region 33 with fail
              go_region_held3 (fun X => wr.grownBy X none ∧ X.cell? ⟨pb, 1, none⟩ = some (.bool true) ∧ X.cell? ⟨pb, 3, none⟩ = some (.int .i64 (kj : Int)) ∧ X.cell? ⟨pb, 4, none⟩ = some (.slice b SB.im.length d)) (first | exact HKP.out _ gR | exact HKP.out _ gD | exact HKP.out _ (grown_join gD g1 (.inl rfl)) | exact HKP.out _ (grown_join (grown_join gD g1 (.inl rfl)) g2 (.inl rfl))) (first | (go_at_call 6; refine (cS2 _).mono ?_; rintro e w1 ⟨ua2, uc2, rfl, ou2, g1⟩) | (go_at_call 12; refine (cEq _ _ _ (OwnL.rd ((HT.out.grow gD).grow g1).ob) (OwnL.rd ou2)).mono ?_; rintro e w2 ⟨rfl, g2⟩))
              go_wp2
              go_ret
              exact ⟨rfl, grown_join (((HT.out.grow gD).grow g1).grow g2).gr (World.grownBy.refl _ _) (.inl rfl)⟩
end Go.Proofs.Ytnklkhcldcljaab
