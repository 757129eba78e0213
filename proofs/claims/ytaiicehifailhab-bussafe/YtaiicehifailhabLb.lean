/- The law: what is spoilt is not heard, and silence makes safe. -/
import Derived.Test.YtaiicehifailhabW
import Derived.Deep.CutRange
import Derived.Deep.CutBlock
namespace Go.Proofs.Ytaiicehifailhab
open Go.RowKit
attribute [local go_sem ↓] Go.wp_at_zero Go.wp_at_succ
set_option linter.unusedVariables false
set_option linter.unusedSimpArgs false

/-- Two lists of one's own, apart. -/
def Two (B : Nat) (w wx : World) (a : Option Addr) (c : Nat) (l : List Int) (a' : Option Addr) (c' : Nat) (m : List Int) : Prop :=
  OwnL B wx a c l ∧ OwnL B wx a' c' m ∧ (∀ x, (Value.slice a l.length c).ownBlock = some x → (Value.slice a' m.length c').ownBlock ≠ some x) ∧ w.grownBy wx none
theorem Two.more {B : Nat} {w wx : World} {a a' : Option Addr} {c c' : Nat} {l m : List Int} (h : Two B w wx a c l a' c' m) (hB : w.heap.size ≤ B) (hB2 : B ≤ wx.heap.size) (x : Int) (hl : l.length ≤ 1000) :
    ∃ a2 c2 wz, (Builtin.append_ #[22, 22] 22 #[.slice a l.length c, .slice (some ⟨wx.heap.size, 0, none⟩) 1 1]).run Try.prog (wx.alloc (.cells #[.int .i64 x] 3)) = .ok (.slice a2 (l.length + 1) c2) wz ∧ Two B w wz a2 c2 (l ++ [x]) a' c' m ∧ B ≤ wz.heap.size := by
  obtain ⟨h1, h2, h3, h4⟩ := h
  have gA : wx.grownBy (wx.alloc (.cells #[.int .i64 x] 3)) none := gr_alloc (World.grownBy.refl _ _) _
  obtain ⟨a2, c2, wz, r1, n1, n2, n3⟩ := ownL_one (OwnL.kept h1 gA) wx.heap.size x (heap_alloc_new wx _) (by omega) (by have := gA.size; omega)
  have o2 := OwnL.kept h2 gA
  have hlt := World.ownsRow.lt h2
  refine ⟨a2, c2, wz, r1, ⟨n1, own_ne o2 n2 (fun y hy e => h3 y e hy), fun y hy hy2 => ?_, ?_⟩, by have := gA.size; have := n2.size; omega⟩
  · rcases n3 with n3 | n3
    · rw [n3] at hy; exact h3 y hy hy2
    · have h5 := n3 y hy
      have h6 := (hlt y hy2).2
      have := gA.size
      omega
  · have hl1 := World.ownsRow.lt h1
    exact grown_join (grown_join h4 gA (.inl rfl)) n2 (.inr fun y hy => by have := (hl1 y hy).1; omega)
theorem Two.swap {B : Nat} {w wx : World} {a a' : Option Addr} {c c' : Nat} {l m : List Int} (h : Two B w wx a c l a' c' m) : Two B w wx a' c' m a c l := ⟨h.2.1, h.1, fun x hx hy => h.2.2.1 x hy hx, h.2.2.2⟩
set_option maxRecDepth 10000 in
set_option maxHeartbeats 3000000 in
theorem safeLaw_any (raw : List Int) (sq0 wt0 at_ bt : Int) (u : Value) (w : World) (hu : rd w u raw) (hz : ∀ x ∈ raw, in64 x) (hl : raw.length ≤ 17592186043904) (hs : in64 sq0) (hwt : in64 wt0) (hat : in64 at_) (hbt : in64 bt) :
    Calls Try.prog 3 #[u, .int .i64 sq0, .int .i64 wt0, .int .i64 at_, .int .i64 bt] w fun e w' => e = .returned (.bool true) ∧ w.grownBy w' none := by
  obtain ⟨ua, uc, rfl, hua⟩ := id hu
  have cO := onward_any w
  obtain ⟨N, hN⟩ : ∃ N, raw.length = N := ⟨_, rfl⟩
  have HU : Hid ((raw = [] ∨ ∃ b off, ua = some ⟨b, off, none⟩ ∧ ∀ i, i < raw.length → w.cell? ⟨b, off + i, none⟩ = some (.int .i64 (raw.getD i 0))) ∧ (∀ x ∈ raw, in64 x) ∧ raw.length = N) := hidI ⟨hua, hz, hN⟩
  rw [hN] at hl ⊢
  clear hua hz hN hu
  go_enter Try.func3, Try.ntmps3
  go_wp2_with fail
  refine cO.mono ?_
  rintro e w1 ⟨rfl, g1⟩
  clear cO
  have HG1 := hidI g1
  clear g1
  obtain ⟨nn, hnn1, hnn2, hnn3⟩ : ∃ nn, nn ≤ N ∧ nn ≤ 60 ∧ (nn = N ∨ nn = 60) := ⟨min N 60, by omega, by omega, by omega⟩
  go_upto_block 0 with fail
  go_cut [11, 12, 13] from 32 to 53 (fun s11 s12 s13 wx => ∃ (k : Nat) (a : Option Addr) (c : Nat) (a' : Option Addr) (c' : Nat), s13 = .int .i64 k ∧ s11 = .slice a k c ∧ s12 = .slice a' k c' ∧ k = nn ∧ Hid (Two w1.heap.size w1 wx a c (lwS raw k) a' c' (swS k) ∧ w1.heap.size ≤ wx.heap.size))
  case first =>
   go_wp2_with fail
   go_loopg [11, 12, 13] nn (fun gk s11 s12 s13 wx => ∃ (k : Nat) (a : Option Addr) (c : Nat) (a' : Option Addr) (c' : Nat), s13 = .int .i64 k ∧ s11 = .slice a k c ∧ s12 = .slice a' k c' ∧ k ≤ nn ∧ gk = nn - k ∧ Hid (Two w1.heap.size w1 wx a c (lwS raw k) a' c' (swS k) ∧ w1.heap.size ≤ wx.heap.size))
   case atStart => exact ⟨0, none, 0, none, 0, rfl, rfl, rfl, Nat.zero_le _, by omega, hidI ⟨⟨OwnL.nil _ _, OwnL.nil _ _, fun x hx => by simp [Value.ownBlock] at hx, World.grownBy.refl _ _⟩, Nat.le_refl _⟩⟩
   case round =>
     obtain ⟨k, a, c, a', c', rfl, rfl, rfl, hk, hgk, HT⟩ := hrel
     have HG : Hid (gk = nn - k) := hgk
     clear hgk
     by_cases hlt : k < nn
     · have hkN : k < N := by omega
       have i1 : (k : Int) < (N : Int) := by omega
       have i2 : (k : Int) < 60 := by omega
       have i0 : (0 : Int) ≤ (k : Int) := by omega
       obtain ⟨hua, hz, hN⟩ := HU.out
       have hkl : k < raw.length := by omega
       rcases hua with h | ⟨b, off, rfl, hc⟩
       · subst h; simp at hkl
       have q0 := (grown_join HG1.out HT.out.1.2.2.2 (.inl rfl)).cell (hc k hkl) (by simp)
       have hzk := hz (raw.getD k 0) (by
         have : raw.getD k 0 = raw[k] := by simp [List.getD, hkl]
         rw [this]; exact List.getElem_mem _)
       have hl1 := lwS_succ hkl
       have hlk := lwS_len (raw := raw) (k := k) (by omega)
       have cP := picked_any (raw.getD k 0) 65536 wr hzk (by omega) (by omega)
       generalize pk (raw.getD k 0) 65536 = px at *
       generalize raw.getD k 0 = x at *
       obtain ⟨hT, hs1⟩ := HT.out
       obtain ⟨a2, c2, w2, hrun1, hT1, hs2⟩ := hT.more (Nat.le_refl _) hs1 (px : Int) (by rw [hlk]; omega)
       rw [← hl1] at hT1
       rw [hlk] at hrun1
       have hsk := swS_len k
       obtain ⟨a3, c3, w3, hrun2, hT2, hs3⟩ := hT1.swap.more (Nat.le_refl _) hs2 (k : Int) (by rw [hsk]; omega)
       rw [← swS_succ] at hT2
       rw [hsk] at hrun2
       have HR1 := hidI hrun1
       have HR2 := hidI hrun2
       have HT2 := hidI (And.intro hT2.swap hs3)
       clear hrun1 hrun2 hT hT1 hT2 hs1 hs2 hs3 hl1 hlk hsk hc hz hN hkl hzk HT
       go_wp2_with fail
       refine cP.mono ?_
       rintro e w' ⟨rfl, rfl⟩
       clear cP
       go_wp2_with (first | (at_builtin; refine hidG ?_))
       refine hidI ?_
       refine wpList_append_run rfl _ _ 22 rfl _ _ _ w2 rfl rfl HR1.out ?_
       go_wp2_with (first | (at_builtin; refine hidG ?_))
       refine hidI ?_
       refine wpList_append_run rfl _ _ 22 rfl _ _ _ w3 rfl rfl HR2.out ?_
       go_wp2
       have hgl := HG.out
       go_roundg (nn - (k + 1))
       all_goals first | omega | exact ⟨k + 1, a2, c2, a3, c3, by go_num, rfl, rfl, by omega, by omega, HT2⟩
     have hkn : k = nn := by omega
     have hstop : ((k : Int) < (N : Int) ∧ ¬ (k : Int) < 60) ∨ ¬ (k : Int) < (N : Int) := by omega
     have HKN := hidI hkn
     clear hkn
     rcases hstop with ⟨i1, i2⟩ | i1
     · go_wp2_with fail
       go_meet
       exact ⟨k, a, c, a', c', rfl, rfl, rfl, HKN.out, HT⟩
     · go_wp2_with fail
       go_meet
       exact ⟨k, a, c, a', c', rfl, rfl, rfl, HKN.out, HT⟩
  case rest =>
    obtain ⟨k, a, c, a', c', rfl, rfl, rfl, hkn, HT⟩ := hcut
    have h60 : k ≤ 60 := by omega
    have hkN : k ≤ N := by omega
    clear hkn hnn1 hnn2 hnn3
    obtain ⟨hua, hz, hN⟩ := HU.out
    have hlw : (lwS raw k).length = k := lwS_len (by omega)
    have hlok := lwS_ok raw k
    have hsl := swS_len k
    have hsok := swS_ok h60
    obtain ⟨hT, hs1⟩ := HT.out
    generalize lwS raw k = lw at *
    generalize swS k = sw at *
    have HK := hidI (And.intro (show lw.length ≤ 60 by omega) (And.intro (show sw.length ≤ 60 by omega) (And.intro hlok (And.intro hsok (show lw.length = sw.length by omega)))))
    have HLL := hidI (And.intro hlw hsl)
    have HTT := hidI (And.intro hT hs1)
    clear hua hz hN hlw hlok hsl hsok hT hs1 HT
    have cS0 := fun W => picked_any sq0 256 W hs (by omega) (by omega)
    have cW0 := fun W => picked_any wt0 30 W hwt (by omega) (by omega)
    have hsq := pk_lt sq0 (show 0 < 256 by omega)
    have hpw := pk_lt wt0 (show 0 < 30 by omega)
    generalize pk sq0 256 = sq at *
    generalize pk wt0 30 = pw at *
    obtain ⟨wt, hwt2⟩ : ∃ wt : Nat, wt = 1 + pw := ⟨_, rfl⟩
    have hwt30 : 1 ≤ wt ∧ wt ≤ 30 := by omega
    have mwt : wrap64 (1 + (pw : Int)) = (wt : Int) := by unfold wrap64; omega
    have mwt2 : 1 + (pw : Int) = (wt : Int) := by omega
    clear hwt2 hpw
    obtain ⟨hlw, hsl⟩ := HLL.out
    obtain ⟨⟨to1, to2, tdis, tg⟩, ts⟩ := HTT.out
    have gwc : w.grownBy wc none := grown_join HG1.out tg (.inl rfl)
    have r1 := OwnL.rd to1
    have r2 := OwnL.rd to2
    rw [hlw] at r1
    rw [hsl] at r2
    have cS := start_any 9 (wt : Int) sw _ wc r2 (by have := HK.out.2.1; omega)
    rw [(start_9 hwt30 HK.out.2.1 HK.out.2.2.2.1).1, (start_9 hwt30 HK.out.2.1 HK.out.2.2.2.1).2] at cS
    have HR := hidI (And.intro r1 (And.intro r2 gwc))
    clear to1 to2 tdis tg ts gwc r1 r2 HTT hlw hsl
    go_wp2_with fail
    refine (cS0 _).mono ?_
    rintro e w' ⟨rfl, rfl⟩
    go_wp2_with fail
    refine (cW0 _).mono ?_
    rintro e w' ⟨rfl, rfl⟩
    clear cS0 cW0
    go_wp2_with fail
    refine cS.mono ?_
    rintro e w2 ⟨V, rfl, a1, c1, a2, c2, rfl, o1, o2, d12, g2⟩
    clear cS mwt mwt2
    dsimp only [lkV, lkA] at *
    obtain ⟨r1, r2, gwc⟩ := HR.out
    obtain ⟨q, hq⟩ : ∃ q, w2.heap.size = q := ⟨_, rfl⟩
    have gA : w2.grownBy (w2.alloc (.cells #[.int .i64 9, .int .i64 (wt : Int), .slice a1 sw.length c1, .slice a2 sw.length c2, .int .i64 0, .int .i64 0, .bool false] 26)) none := gr_alloc (World.grownBy.refl _ _) _
    have hbx : (w2.alloc (.cells #[.int .i64 9, .int .i64 (wt : Int), .slice a1 sw.length c1, .slice a2 sw.length c2, .int .i64 0, .int .i64 0, .bool false] 26)).heap[q]? = some (.cells #[.int .i64 9, .int .i64 (wt : Int), .slice a1 sw.length c1, .slice a2 sw.length c2, .int .i64 0, .int .i64 0, .bool false] 26) := hp_new hq.symm _
    have gw2 := grown_join gwc g2 (.inl rfl)
    have hB0 : Bs w (w2.alloc (.cells #[.int .i64 9, .int .i64 (wt : Int), .slice a1 sw.length c1, .slice a2 sw.length c2, .int .i64 0, .int .i64 0, .bool false] 26)) q (.slice a k c) (.slice a' k c') lw sw ⟨9, (wt : Int), sw, sw, 0, 0, false⟩ (.slice a1 sw.length c1) (.slice a2 sw.length c2) :=
      ⟨grown_join gw2 gA (.inl rfl), hbx, OwnL.rd (OwnL.kept o1 gA), OwnL.rd (OwnL.kept o2 gA), rd_grown (rd_grown r1 g2) gA, rd_grown (rd_grown r2 g2) gA, off_lt (OwnL.rd o1) (by omega), off_lt (OwnL.rd o2) (by omega), off_lt (rd_grown r1 g2) (by omega), off_lt (rd_grown r2 g2) (by omega), by have := gw2.size; omega⟩
    have hX1 : (w2.alloc (.cells #[.int .i64 9, .int .i64 (wt : Int), .slice a1 sw.length c1, .slice a2 sw.length c2, .int .i64 0, .int .i64 0, .bool false] 26)).heap.size = q + 1 := by simp [hq]
    have cF := frame_any 9 (sq : Int) lw _ _ hB0.r1 (by have := HK.out.1; have := HK.out.2.1; omega)
    rw [frame_9 ⟨by omega, by omega⟩ HK.out.1 HK.out.2.2.1] at cF
    have HB0 := hidI (And.intro hB0 hX1)
    clear hB0 hbx gA gw2 o1 o2 d12 g2 r1 r2 gwc HR hX1
    go_wp2_with fail
    refine cF.mono ?_
    rintro e w3 ⟨fa, fc, rfl, of, g3⟩
    obtain ⟨hB0, hX1⟩ := HB0.out
    clear HB0 cF
    rw [hX1] at of
    clear hX1
    obtain ⟨X1, hX⟩ : ∃ X1, w2.alloc (.cells #[.int .i64 9, .int .i64 (wt : Int), .slice a1 sw.length c1, .slice a2 sw.length c2, .int .i64 0, .int .i64 0, .bool false] 26) = X1 := ⟨_, rfl⟩
    rw [hX] at hB0 g3
    clear hX hq
    have hB3 := hB0.grow g3
    obtain ⟨sq2, hsq2⟩ : ∃ s : Nat, s = (sq + 1) % 256 := ⟨_, rfl⟩
    have ms1 : wrap64 ((sq : Int) + 1) = (sq : Int) + 1 := by unfold wrap64; omega
    have ms2 : ((sq : Int) + 1).tmod 256 = (sq2 : Int) := by rw [Int.tmod_eq_emod_of_nonneg (by omega)]; omega
    have ms3 : ((sq : Int) + 1) % 256 = (sq2 : Int) := by omega
    have cG := frame_any 9 (sq2 : Int) sw _ _ hB3.r2 (by have := HK.out.1; have := HK.out.2.1; omega)
    have hf2 := frame_9 (sq := (sq2 : Int)) ⟨by omega, by omega⟩ HK.out.2.1 HK.out.2.2.2.1
    rw [hf2] at cG
    have HO1 := hidI (open_frame hf2).1
    have HF1 := hidI (frameS_B 9 (sq : Int) lw)
    have HF2 := hidI (frameS_B 9 (sq2 : Int) sw)
    have hFl1 := frameS_len 9 (sq : Int) lw
    have hFl2 := frameS_len 9 (sq2 : Int) sw
    have HT1 := hidI (take_one hwt30 HK.out.2.1 HK.out.2.2.2.1 HK.out.2.2.2.2 HK.out.2.2.1 hsq)
    generalize frameS 9 (sq : Int) lw = one at *
    have hlen2 : 5 ≤ (frameS 9 (sq2 : Int) sw).length := by
      have := HO1.out
      unfold openE at this
      split at this
      · omega
      · omega
    generalize frameS 9 (sq2 : Int) sw = two at *
    have HB3 := hidI (And.intro hB3 of)
    clear hB0 hB3 of hsq2 hf2 g3
    go_wp2_with fail
    refine cG.mono ?_
    rintro e w4 ⟨ga, gc, rfl, og, g4⟩
    obtain ⟨hB3, of⟩ := HB3.out
    clear HB3 cG ms1 ms2 ms3
    have hB4 := hB3.grow g4
    have of4 := OwnB.kept of g4
    have hqw3 := at_lt hB3.box
    have cT := take_any ⟨9, (wt : Int), sw, sw, 0, 0, false⟩ one _ _ _ w4 ⟨hB4.rs, hB4.rt⟩ (by simp; have := HK.out.1; have := HK.out.2.1; omega) (by simp; have := HK.out.1; have := HK.out.2.1; omega) HF1.out of4.rd (by unfold maxLen; have := HK.out.1; have := HK.out.2.1; omega)
    rw [HT1.out.1, HT1.out.2] at cT
    have hlen1 : (lkF wt sw lw sq 0).sa = sw ∧ (lkF wt sw lw sq 0).wo = lw ∧ (lkF wt sw lw sq 0).sq = (sq : Int) ∧ (lkF wt sw lw sq 0).fr = true := ⟨rfl, rfl, rfl, rfl⟩
    have HCB := hidI (lkF_could (ag := 0) hwt30 HK.out.2.1 HK.out.2.2.2.1 HK.out.2.2.2.2 HK.out.2.2.1 hsq (by omega))
    obtain ⟨R, hR⟩ : ∃ R, lkF wt sw lw sq 0 = R := ⟨_, rfl⟩
    rw [hR] at cT hlen1 HCB
    have HLEN := hidI hlen1
    clear hlen1
    have HRR := hidI hR
    clear hR
    dsimp only [lkV, lkA] at cT
    have hBx : w4.heap[q]? = some (.cells #[.int .i64 9, .int .i64 (wt : Int), .slice a1 sw.length c1, .slice a2 sw.length c2, .int .i64 0, .int .i64 0, .bool false] 26) := hB4.box
    obtain ⟨i0, i1, i2, i3, i4, i5, i6⟩ := at7 (hBx)
    obtain ⟨f0, f1, f2, f3, f4, f5, f6⟩ := fz7 (hBx)
    have HB4 := hidI (And.intro hB4 (And.intro og hqw3))
    clear hB3 hB4 of of4 og hqw3 hBx g4 HT1 HF1
    go_wp2_with fail
    refine cT.mono ?_
    rintro e w5 ⟨V, rfl, a1', c1', a2', c2', rfl, o1, o2, _, g5⟩
    dsimp only [lkV, lkA] at *
    obtain ⟨hB4, og, hqw3⟩ := HB4.out
    clear HB4 cT i0 i1 i2 i3 i4 i5 i6
    have hB5 := hB4.put g5 o1 o2
    have hqc := kept g5 hB4.box
    obtain ⟨m0, m1, m2, m3, m4, m5, m6⟩ := at7 (hqc)
    obtain ⟨f0, f1, f2, f3, f4, f5, f6⟩ := fz7 (hqc)
    have og5 : OwnB w3.heap.size ((((((((w5).setCell ⟨q, 0, none⟩ (.int .i64 R.st)).setCell ⟨q, 1, none⟩ (.int .i64 R.wa)).setCell ⟨q, 2, none⟩ (.slice a1' R.sa.length c1')).setCell ⟨q, 3, none⟩ (.slice a2' R.wo.length c2')).setCell ⟨q, 4, none⟩ (.int .i64 R.sq)).setCell ⟨q, 5, none⟩ (.int .i64 R.ag)).setCell ⟨q, 6, none⟩ (.bool R.fr)) ga gc two := own_but (OwnB.kept og g5) (gr7 (World.grownBy.refl _ _)) hqw3
    have HB5 := hidI (And.intro hB5 (And.intro og5 hqw3))
    clear hB4 hB5 og og5 o1 o2 hqw3 hqc g5
    dsimp only [lkA] at m0 m1 m2 m3 m4 m5 m6
    go_upto_region 16 with fail
    obtain ⟨hB5, og5, hqw3⟩ := HB5.out
    clear HB5 m0 m1 m2 m3 m4 m5 m6 f0 f1 f2 f3 f4 f5 f6
    generalize (((((((w5).setCell ⟨q, 0, none⟩ (.int .i64 R.st)).setCell ⟨q, 1, none⟩ (.int .i64 R.wa)).setCell ⟨q, 2, none⟩ (.slice a1' R.sa.length c1')).setCell ⟨q, 3, none⟩ (.slice a2' R.wo.length c2')).setCell ⟨q, 4, none⟩ (.int .i64 R.sq)).setCell ⟨q, 5, none⟩ (.int .i64 R.ag)).setCell ⟨q, 6, none⟩ (.bool R.fr) = Z at *
    have hBx : Z.heap[q]? = some (.cells #[.int .i64 R.st, .int .i64 R.wa, .slice a1' R.sa.length c1', .slice a2' R.wo.length c2', .int .i64 R.sq, .int .i64 R.ag, .bool R.fr] 26) := hB5.box
    obtain ⟨i0, i1, i2, i3, i4, i5, i6⟩ := at7 (hBx)
    have hrt := hB5.rt
    rw [HLEN.out.2.1] at hrt
    have hrt' : rd Z (.slice a2' R.wo.length c2') lw := by rw [HLEN.out.2.1]; exact hrt
    generalize htv : Value.slice a2' R.wo.length c2' = tv at i3 hrt'
    clear hrt
    have cE := keepEq_yes lw _ _ Z hrt' hB5.r1 (by have := HK.out.1; have := HK.out.2.1; omega)
    have HB5 := hidI (And.intro hB5 (And.intro og5 hqw3))
    clear hB5 og5 hqw3 hBx hrt' htv
    go_wp2_with fail
    refine cE.mono ?_
    rintro e w6 ⟨rfl, g6⟩
    obtain ⟨hB5, og5, hqw3⟩ := HB5.out
    clear HB5 cE i0 i1 i2 i3 i4 i5 i6
    have hB6 := hB5.grow g6
    have og6 := OwnB.kept og5 g6
    obtain ⟨oa, oc, w7, hrun, hown, g7⟩ := copyB og6.rd (by omega)
    obtain ⟨N2, hN2⟩ : ∃ N, two.length = N := ⟨_, rfl⟩
    have HN2 := hidI hN2
    obtain ⟨g, rfl⟩ : ∃ g, oa = some ⟨g, 0, none⟩ := by
      obtain ⟨_, ⟨_, h0⟩ | ⟨g, cc, cur, e, _⟩⟩ := id hown
      · omega
      · injection e with e1 _ _
        exact ⟨g, e1⟩
    have hgl6 : w6.heap.size ≤ g := (World.ownsRow.lt hown g rfl).1
    rw [hN2] at hrun hlen2 hFl2
    rw [hN2]
    have HRUN := hidI hrun
    have cA := fun W => picked_any at_ (8 * N2) W hat (by omega) (by omega)
    have cB := fun W => picked_any bt 65535 W hbt (by omega) (by omega)
    have hk8 := pk_lt at_ (m := 8 * N2) (by omega)
    have hm8 := pk_lt bt (m := 65535) (by omega)
    generalize pk at_ (8 * N2) = kb at *
    generalize pk bt 65535 = mb at *
    have cA' : ∀ W, Calls Try.prog 5 #[.int .i64 at_, .int .i64 (8 * (N2 : Int))] W fun e w' => e = .returned (.int .i64 (kb : Int)) ∧ W = w' := fun W => by
      have := cA W
      simpa using this
    have HB6 := hidI (And.intro hB6 (And.intro hown (And.intro g7 hgl6)))
    clear hB5 hB6 og5 og6 hqw3 hrun hown g6 g7 cA hgl6 hN2
    go_wp2_with (first | (at_builtin; refine hidG ?_))
    refine hidI ?_
    refine wpList_append_run rfl _ _ 30 rfl _ _ _ w7 rfl rfl HRUN.out ?_
    go_wp2_with fail
    refine (cA' _).mono ?_
    rintro e w' ⟨rfl, rfl⟩
    go_wp2_with fail
    refine (cB _).mono ?_
    rintro e w' ⟨rfl, rfl⟩
    clear cA' cB HRUN
    go_upto_block 2 with fail
    go_cut [25, 26] from 114 to 145 (fun s25 s26 wx => ∃ (tn : Bool) (i : Nat) (T : List Nat), s25 = .bool tn ∧ s26 = .int .i64 i ∧ Hid (OwnB w6.heap.size wx (some ⟨g, 0, none⟩) oc T ∧ isB T ∧ T.length = N2 ∧ (∀ j, j < kb ∨ kb + 16 ≤ j → bitAt T j = bitAt two j) ∧ (tn = true → T ≠ two) ∧ w7.grownBy wx (some g)))
    case first =>
     go_wp2_with fail
     go_loopg [25, 26] 16 (fun gk s25 s26 wx => ∃ (i : Nat) (T : List Nat) (tn : Bool), s26 = .int .i64 i ∧ s25 = .bool tn ∧ i ≤ 16 ∧ gk = 16 - i ∧ Hid (OwnB w6.heap.size wx (some ⟨g, 0, none⟩) oc T ∧ isB T ∧ T.length = N2 ∧ (∀ j, j < kb ∨ kb + i ≤ j → bitAt T j = bitAt two j) ∧ (tn = true → ∃ j0, j0 < kb + i ∧ bitAt T j0 ≠ bitAt two j0)) ∧ Hid (w7.grownBy wx (some g)))
     case atStart => exact ⟨0, two, false, rfl, rfl, by omega, by omega, hidI ⟨HB6.out.2.1, HF2.out, HN2.out, fun _ _ => rfl, fun h => by cases h⟩, hidI (World.grownBy.refl _ _)⟩
     case round =>
       obtain ⟨i, T, tn, rfl, rfl, hi, hgk, HT, HGR⟩ := hrel
       have HG : Hid (gk = 16 - i) := hgk
       clear hgk
       by_cases hin : i < 16 ∧ kb + i < 8 * N2
       · obtain ⟨hi1, hi2⟩ := hin
         obtain ⟨qb, hqb⟩ : ∃ q, kb + i = q := ⟨_, rfl⟩
         obtain ⟨oT, bT, lT, wT, eT⟩ := HT.out
         have hcell : wr.cell? ⟨g, qb / 8, none⟩ = some (.int .u8 ((T.getD (qb / 8) 0 : Nat) : Int)) := by
           rw [World.ownsRow.cellAt oT (qb / 8) (by rw [lT]; omega)]
           simp [bV, List.getD, show qb / 8 < T.length by omega]
         have hfz : wr.frozen? ⟨g, qb / 8, none⟩ = false := by
           obtain ⟨_, ⟨e, _⟩ | ⟨g', cc, cur, e, _, hc, _⟩⟩ := id oT
           · cases e
           · injection e with e1 _ _
             injection e1 with e1
             injection e1 with e1
             subst e1
             exact at_frozen hc _
         have hxb := at_byte bT (qb / 8)
         have j1 : (i : Int) < 16 := by omega
         have j2 : (kb : Int) + (i : Int) < 8 * (N2 : Int) := by omega
         have j3 : (i : Int) ≤ 64 := by omega
         have j0 : (0 : Int) ≤ (i : Int) := by omega
         by_cases hbit : bits BinOp.and IntKind.i64 ((1 + (mb : Int)) / 2 ^ i) 1 = 1
         · have d1 : ((kb : Int) + (i : Int)) / 8 = ((qb / 8 : Nat) : Int) := by omega
           have d2 : ((kb : Int) + (i : Int)) % 8 = ((qb % 8 : Nat) : Int) := by omega
           obtain ⟨p, hp⟩ : ∃ p, qb / 8 = p := ⟨_, rfl⟩
           obtain ⟨tt, htt⟩ : ∃ t, qb % 8 = t := ⟨_, rfl⟩
           rw [hp] at d1 hcell hfz hxb
           rw [htt] at d2
           have p0 : (0 : Int) ≤ (p : Int) := by omega
           have p1 : (p : Int) < (N2 : Int) := by omega
           have t0 : (0 : Int) ≤ (tt : Int) := by omega
           have t1 : (tt : Int) ≤ 8 := by omega
           have ex := xor8 (T.getD p 0) tt hxb (by omega)
           have hyb : T.getD p 0 ^^^ 2 ^ tt < 2 ^ 8 := Nat.xor_lt_two_pow (by omega) (Nat.pow_lt_pow_right (by omega) (by omega))
           have HNEW : Hid (OwnB w6.heap.size ((wr.setCell ⟨g, p, none⟩ (.int .u8 ((T.getD p 0 ^^^ 2 ^ tt : Nat) : Int))).drew) (some ⟨g, 0, none⟩) oc (T.set p (T.getD p 0 ^^^ 2 ^ tt)) ∧ isB (T.set p (T.getD p 0 ^^^ 2 ^ tt)) ∧ (T.set p (T.getD p 0 ^^^ 2 ^ tt)).length = N2 ∧ (∀ j, j < kb ∨ kb + (i + 1) ≤ j → bitAt (T.set p (T.getD p 0 ^^^ 2 ^ tt)) j = bitAt two j) ∧ (∃ j0, j0 < kb + (i + 1) ∧ bitAt (T.set p (T.getD p 0 ^^^ 2 ^ tt)) j0 ≠ bitAt two j0)) := hidI ⟨own_keep (oT.put p _) (gr_drew (World.grownBy.refl _ _)), fun y hy => by
               rcases List.mem_or_eq_of_mem_set hy with hy | rfl
               · exact bT y hy
               · omega, by rw [List.length_set]; exact lT, fun j hj => by
               rw [bit_put T p tt j (by omega)]
               exact wT j (by omega), ⟨qb, by omega, by
               have hfl := bit_flip T p tt (by omega) (by omega)
               rw [show 8 * p + tt = qb by omega] at hfl
               rw [← wT qb (by omega)]
               exact hfl⟩⟩
           have HGR2 : Hid (w7.grownBy ((wr.setCell ⟨g, p, none⟩ (.int .u8 ((T.getD p 0 ^^^ 2 ^ tt : Nat) : Int))).drew) (some g)) := hidI (gr_drew (gr_set HGR.out _ _))
           generalize T.set p (T.getD p 0 ^^^ 2 ^ tt) = T' at *
           generalize T.getD p 0 ^^^ 2 ^ tt = y at *
           generalize T.getD p 0 = x at *
           clear oT bT lT wT eT HT HGR
           go_wp2_with fail
           go_region
           go_wp2
           have hgl := HG.out
           go_roundg (16 - (i + 1))
           all_goals first | omega | exact ⟨i + 1, T', true, by go_num, rfl, by omega, by omega, hidI ⟨HNEW.out.1, HNEW.out.2.1, HNEW.out.2.2.1, HNEW.out.2.2.2.1, fun _ => HNEW.out.2.2.2.2⟩, HGR2⟩
         · have HNEW : Hid (OwnB w6.heap.size wr (some ⟨g, 0, none⟩) oc T ∧ isB T ∧ T.length = N2 ∧ (∀ j, j < kb ∨ kb + (i + 1) ≤ j → bitAt T j = bitAt two j) ∧ (tn = true → ∃ j0, j0 < kb + (i + 1) ∧ bitAt T j0 ≠ bitAt two j0)) := hidI ⟨oT, bT, lT, fun j hj => wT j (by omega), fun h => by obtain ⟨j0, h1, h2⟩ := eT h; exact ⟨j0, by omega, h2⟩⟩
           clear oT bT lT wT eT HT
           go_wp2
           have hgl := HG.out
           go_roundg (16 - (i + 1))
           all_goals first | omega | exact ⟨i + 1, T, tn, by go_num, rfl, by omega, by omega, HNEW, HGR⟩
       · have hin2 : ((i : Int) < 16 ∧ ¬ (kb : Int) + (i : Int) < 8 * (N2 : Int)) ∨ ¬ (i : Int) < 16 := by omega
         have HEND : Hid (OwnB w6.heap.size wr (some ⟨g, 0, none⟩) oc T ∧ isB T ∧ T.length = N2 ∧ (∀ j, j < kb ∨ kb + 16 ≤ j → bitAt T j = bitAt two j) ∧ (tn = true → T ≠ two) ∧ w7.grownBy wr (some g)) := by
           obtain ⟨oT, bT, lT, wT, eT⟩ := HT.out
           exact hidI ⟨oT, bT, lT, fun j hj => wT j (by omega), fun h he => by obtain ⟨j0, _, h2⟩ := eT h; rw [he] at h2; exact h2 rfl, HGR.out⟩
         clear HT hin
         rcases hin2 with ⟨h1, h2⟩ | h1
         · go_wp2_with fail
           go_meet
           exact ⟨tn, i, T, rfl, rfl, HEND⟩
         · go_wp2_with fail
           go_meet
           exact ⟨tn, i, T, rfl, rfl, HEND⟩
    case rest =>
    obtain ⟨tn, ib, T, rfl, rfl, HT2⟩ := hcut
    have HBc : Hid (Bs w wc q (.slice a k c) (.slice a' k c') lw sw R (.slice a1' R.sa.length c1') (.slice a2' R.wo.length c2')) := hidI (HB6.out.1.other (grown_join (gr_none HB6.out.2.2.1) HT2.out.2.2.2.2.2 (.inl rfl)) HB6.out.2.2.2)
    clear HB6
    go_upto_if 146 with fail
    go_cut [27, 28] from 147 to 168 (fun _ _ wx => ∃ (s_ t_ : Value), Hid (Bs w wx q (.slice a k c) (.slice a' k c') lw sw R s_ t_))
    case first =>
      cases tn with
      | false =>
        go_wp2_with fail
        go_meet
        exact ⟨_, _, HBc⟩
      | true =>
        obtain ⟨oT, bT, lT, wT, nT, gT⟩ := HT2.out
        have hoT : openE T ≠ 0 := fun h => nT rfl (told bT HF2.out (by rw [lT, HN2.out]) HO1.out kb wT h)
        obtain ⟨hTE, hTL⟩ := take_bad HCB.out hoT
        have cT := take_any R T _ _ _ wc ⟨HBc.out.rs, HBc.out.rt⟩ (by rw [HLEN.out.1]; have := HK.out.1; have := HK.out.2.1; omega) (by rw [HLEN.out.2.1]; have := HK.out.1; have := HK.out.2.1; omega) bT oT.rd (by rw [lT]; unfold maxLen; have := HK.out.1; have := HK.out.2.1; omega)
        rw [hTL, lT] at cT
        generalize takeE R T = TE at *
        have e1 : ((TE : Int) == 0) = false := by simpa using hTE
        dsimp only [lkV, lkA] at cT
        have hBx : wc.heap[q]? = some (.cells #[.int .i64 R.st, .int .i64 R.wa, .slice a1' R.sa.length c1', .slice a2' R.wo.length c2', .int .i64 R.sq, .int .i64 R.ag, .bool R.fr] 26) := HBc.out.box
        obtain ⟨i0, i1, i2, i3, i4, i5, i6⟩ := at7 (hBx)
        clear oT bT lT wT nT gT hoT hTL hBx HT2
        go_wp2_with fail
        refine cT.mono ?_
        rintro e w8 ⟨V, rfl, b1, d1, b2, d2, rfl, o1, o2, _, g8⟩
        dsimp only [lkV, lkA] at *
        clear cT i0 i1 i2 i3 i4 i5 i6
        obtain ⟨r, hr⟩ : ∃ r, w8.heap.size = r := ⟨_, rfl⟩
        have hrq : r ≠ q := by rw [← hr]; have h1 := at_lt HBc.out.box; have h2 := g8.size; omega
        have gA : w8.grownBy (w8.alloc (.cells #[.int .i64 R.st, .int .i64 R.wa, .slice b1 R.sa.length d1, .slice b2 R.wo.length d2, .int .i64 R.sq, .int .i64 R.ag, .bool R.fr] 26)) none := gr_alloc (World.grownBy.refl _ _) _
        have hr1 : (w8.alloc (.cells #[.int .i64 R.st, .int .i64 R.wa, .slice b1 R.sa.length d1, .slice b2 R.wo.length d2, .int .i64 R.sq, .int .i64 R.ag, .bool R.fr] 26)).heap[r]? = some (.cells #[.int .i64 R.st, .int .i64 R.wa, .slice b1 R.sa.length d1, .slice b2 R.wo.length d2, .int .i64 R.sq, .int .i64 R.ag, .bool R.fr] 26) := hp_new hr.symm _
        have g8A := grown_join g8 gA (.inl rfl)
        have hB8 := HBc.out.grow g8A
        have o2A := OwnL.kept o2 gA
        have o1A := OwnL.kept o1 gA
        have hrt : rd (w8.alloc (.cells #[.int .i64 R.st, .int .i64 R.wa, .slice b1 R.sa.length d1, .slice b2 R.wo.length d2, .int .i64 R.sq, .int .i64 R.ag, .bool R.fr] 26)) (.slice b2 R.wo.length d2) lw := by
          have := OwnL.rd o2A
          rw [HLEN.out.2.1] at this ⊢
          exact this
        have cE := keepEq_yes lw _ _ _ hrt hB8.r1 (by have := HK.out.1; have := HK.out.2.1; omega)
        obtain ⟨u0, u1, u2, u3, u4, u5, u6⟩ := at7 (hr1)
        rw [HLEN.out.2.2.1] at u4
        have HY := hidI (And.intro hr1 (And.intro g8A (And.intro o1A o2A)))
        clear hr1 gA g8A hB8 o1A o2A o1 o2 g8 hrt
        go_wp2_with fail
        refine cE.mono ?_
        rintro e w9 ⟨rfl, g9⟩
        obtain ⟨hr1, g8A, o1A, o2A⟩ := HY.out
        clear HY cE u0 u1 u2 u3 u4 u5 u6 hr
        have hr9 := kept g9 hr1
        have hB9 := HBc.out.put (grown_join g8A g9 (.inl rfl)) (OwnL.kept o1A g9) (OwnL.kept o2A g9)
        have hqc := kept (grown_join g8A g9 (.inl rfl)) HBc.out.box
        dsimp only [lkA] at hqc
        obtain ⟨u0, u1, u2, u3, u4, u5, u6⟩ := at7 (hr9)
        obtain ⟨m0, m1, m2, m3, m4, m5, m6⟩ := at7 (hqc)
        obtain ⟨f0, f1, f2, f3, f4, f5, f6⟩ := fz7 (hqc)
        have u4' := u4
        rw [HLEN.out.2.2.1] at u4'
        have hqr : q ≠ r := fun e => hrq e.symm
        have HB9 := hidI hB9
        clear hr1 g8A o1A o2A hr9 hB9 hqc g9
        have hsqe : (R.sq != (sq : Int)) = false := by rw [HLEN.out.2.2.1]; simp
        go_wp2_with fail
        go_meet
        exact ⟨_, _, HB9⟩
    case rest =>
    obtain ⟨s_, t_, HBd⟩ := hcut
    clear HBc HT2
    go_wp2_with fail
    go_loopg [17, 29] wt (fun gk s17 s29 wx => ∃ (i : Nat) (L : Lk) (s_ t_ : Value), s29 = .int .i64 i ∧ i ≤ wt ∧ gk = wt - i ∧ Hid (Bs w wx q (.slice a k c) (.slice a' k c') lw sw L s_ t_ ∧ (i < wt → L = lkF wt sw lw sq i) ∧ (i = wt → L = ⟨9, (wt : Int), sw, sw, (sq : Int), 0, false⟩)))
    case atStart => exact ⟨0, R, s_, t_, rfl, Nat.zero_le _, by omega, hidI ⟨HBd.out, fun _ => HRR.out.symm, fun h => by omega⟩⟩
    case round =>
      obtain ⟨i, L, s_, t_, rfl, hi, hgk, HL⟩ := hrel
      have HG : Hid (gk = wt - i) := hgk
      clear hgk HBd
      have hBx : wr.heap[q]? = some (.cells #[.int .i64 L.st, .int .i64 L.wa, s_, t_, .int .i64 L.sq, .int .i64 L.ag, .bool L.fr] 26) := HL.out.1.box
      obtain ⟨i0, i1, i2, i3, i4, i5, i6⟩ := at7 (hBx)
      by_cases hlt : i < wt
      · have j1 : (i : Int) < (wt : Int) := by omega
        have hLe := HL.out.2.1 hlt
        have hcb : couldB L = true := by rw [hLe]; exact lkF_could hwt30 HK.out.2.1 HK.out.2.2.2.1 HK.out.2.2.2.2 HK.out.2.2.1 hsq hlt
        obtain ⟨hTE, hTL⟩ : tickE L = 0 ∧ tickL L = if i + 1 = wt then ⟨9, (wt : Int), sw, sw, (sq : Int), 0, false⟩ else lkF wt sw lw sq (i + 1) := by
          rw [hLe] at hcb ⊢
          exact tick_F hcb
        obtain ⟨l1, l2, l3⟩ : L.sa = sw ∧ L.wo = lw ∧ L.fr = true := by rw [hLe]; exact ⟨rfl, rfl, rfl⟩
        have hrt := HL.out.1.rt
        rw [l2] at hrt
        have cE := keepEq_yes lw _ _ wr hrt HL.out.1.r1 (by have := HK.out.1; have := HK.out.2.1; omega)
        rw [l3] at i6
        clear hBx hrt hcb
        go_wp2_with fail
        refine cE.mono ?_
        rintro e w2 ⟨rfl, g2⟩
        clear cE i0 i1 i2 i3 i4 i5 i6
        have hB2 := HL.out.1.grow g2
        have cT := tick_any L s_ t_ w2 ⟨hB2.rs, hB2.rt⟩ (by rw [l1]; have := HK.out.1; have := HK.out.2.1; omega) (by rw [l2]; have := HK.out.1; have := HK.out.2.1; omega)
        rw [hTE] at cT
        generalize tickL L = R2 at *
        dsimp only [lkV, lkA] at cT
        have hBx : w2.heap[q]? = some (.cells #[.int .i64 L.st, .int .i64 L.wa, s_, t_, .int .i64 L.sq, .int .i64 L.ag, .bool L.fr] 26) := hB2.box
        obtain ⟨i0, i1, i2, i3, i4, i5, i6⟩ := at7 (hBx)
        obtain ⟨f0, f1, f2, f3, f4, f5, f6⟩ := fz7 (hBx)
        have HB2 := hidI hB2
        have HN : Hid (R2 = if i + 1 = wt then ⟨9, (wt : Int), sw, sw, (sq : Int), 0, false⟩ else lkF wt sw lw sq (i + 1)) := hidI hTL
        clear hB2 hBx hTL hTE l1 l2 l3 hLe g2
        go_wp2_with fail
        refine cT.mono ?_
        rintro e w3 ⟨V, rfl, b1, d1, b2, d2, rfl, o1, o2, _, g3⟩
        dsimp only [lkV, lkA] at *
        clear cT i0 i1 i2 i3 i4 i5 i6 f0 f1 f2 f3 f4 f5 f6
        have hB3 := HB2.out.put g3 o1 o2
        have hqc := kept g3 HB2.out.box
        dsimp only [lkA] at hqc
        obtain ⟨m0, m1, m2, m3, m4, m5, m6⟩ := at7 (hqc)
        obtain ⟨f0, f1, f2, f3, f4, f5, f6⟩ := fz7 (hqc)
        have HB3 := hidI (And.intro hB3 (And.intro (fun h : i + 1 < wt => by rw [HN.out, if_neg (by omega)] : i + 1 < wt → R2 = lkF wt sw lw sq (i + 1)) (fun h : i + 1 = wt => by rw [HN.out, if_pos h] : i + 1 = wt → R2 = ⟨9, (wt : Int), sw, sw, (sq : Int), 0, false⟩)))
        clear hB3 hqc o1 o2 g3 HB2 HN HL
        go_wp2
        have hgl := HG.out
        go_roundg (wt - (i + 1))
        all_goals first | omega | exact ⟨i + 1, R2, _, _, by go_num, by omega, by omega, HB3⟩
      · have j1 : ¬ (i : Int) < (wt : Int) := by omega
        have hLe := HL.out.2.2 (by omega)
        obtain ⟨l2, l3⟩ : L.wo = sw ∧ L.fr = false := by rw [hLe]; exact ⟨rfl, rfl⟩
        have hrt := HL.out.1.rt
        rw [l2] at hrt
        have cE := keepEq_yes sw _ _ wr hrt HL.out.1.r2 (by have := HK.out.1; have := HK.out.2.1; omega)
        rw [l3] at i6
        clear hBx hrt hLe l2 l3
        go_wp2_with fail
        refine cE.mono ?_
        rintro e w2 ⟨rfl, g2⟩
        go_wp2
        go_ret
        exact ⟨rfl, grown_join HL.out.1.grown g2 (.inl rfl)⟩
end Go.Proofs.Ytaiicehifailhab
