/- What is said and heard: the law's closures. -/
import Derived.Test.YtnklkhcldcljaaaQ
import Derived.Deep.CutBlock
import Derived.Deep.DeepCutAuto
namespace Go.Proofs.Ytnklkhcldcljaaa
open Go.RowKit
attribute [local go_sem ↓] Go.wp_at_zero Go.wp_at_succ
set_option linter.unusedVariables false
set_option linter.unusedSimpArgs false

def SayP (w W w' : World) (P T : Nat) (S : Nat → Sd) (a : Nat → Option Addr) (c : Nat → Nat) (bs : List Bt) (sa : Option Addr) (sc : Nat) (BB : Bt) (E : Nat) : Prop :=
  Fr P W w' ∧ (E = 0 → ∃ sa' sc', Iv w w' P T S a c (bs ++ [BB]) sa' sc') ∧ (E ≠ 0 → Iv w w' P T S a c bs sa sc)
set_option maxRecDepth 10000 in
set_option maxHeartbeats 2000000 in
theorem say_any {w W : World} {P T k : Nat} {S : Nat → Sd} {a : Nat → Option Addr} {c : Nat → Nat} {bs : List Bt} {sa : Option Addr} {sc : Nat} (hk : k < 2) (BB : Bt) (E : Nat)
    (cS : ∀ X v, rd X v (S k).im → Calls Try.prog 14 #[sdV (S k) v] X fun e w' => BtE X w' e BB E) (hac : (S k).ac = decide (E = 0)) (h : Iv w W P T S a c bs sa sc) (hn : bs.length ≤ 1000) :
    Calls Try.prog 28 #[.int .i64 (k : Int), .pointer (some ⟨P, 0, none⟩), .pointer (some ⟨T, 0, none⟩)] W fun e w' => e = .returned (.bool true) ∧ SayP w W w' P T S a c bs sa sc BB E := by
  obtain ⟨i0, i1, i2, i3, i4, i5, i6⟩ := h.cells hk
  have HR := hidI (OwnL.rd (h.ow k hk))
  have HI := hidI h
  obtain ⟨L, hL⟩ : ∃ L, S k = L := ⟨_, rfl⟩
  rw [hL] at i0 i1 i2 i3 i4 i5 i6 cS hac HR
  have HLS := hidI hL
  clear hL h
  have HAC := hidI hac
  clear hac
  have x1 : (0 : Int) ≤ (k : Int) := by omega
  have x2 : (k : Int) < 2 := by omega
  generalize (c k) = ck at *
  generalize (a k) = ak at *
  dsimp only [sdV, sdA] at cS
  go_enter Try.func28, Try.ntmps28
  go_wp2_with fail
  refine (cS _ _ HR.out).mono ?_
  rintro e w1 ⟨ba, bc, rfl, o1, g1⟩
  dsimp only [btV, btA] at *
  obtain ⟨q, hq⟩ : ∃ q, w1.heap.size = q := ⟨_, rfl⟩
  go_upto_region 2 with fail
  have gA := gr_alloc (World.grownBy.refl w1 none) (.cells #[.int .i64 BB.fr, .int .i64 BB.te, .int .i64 BB.cy, .slice ba BB.im.length bc] 32)
  have KQ := hp_new hq.symm (.cells #[.int .i64 BB.fr, .int .i64 BB.te, .int .i64 BB.cy, .slice ba BB.im.length bc] 32)
  have g1A := grown_join g1 gA (.inl rfl)
  have hI := HI.out.grow g1A
  have OB := own_low (OwnL.kept o1 gA) (Nat.zero_le _)
  have HG := hidI g1A
  clear i0 i1 i2 i3 i4 i5 i6 HR HI g1 gA o1 hq cS g1A
  generalize w1.alloc (.cells #[.int .i64 BB.fr, .int .i64 BB.te, .int .i64 BB.cy, .slice ba BB.im.length bc] 32) = X at *
  obtain ⟨-, i1, -, -, -, -, -⟩ := hI.cells hk
  have HL : Hid ((S k).ac = decide (E = 0)) := hidI (by rw [HLS.out]; exact HAC.out)
  rw [HL.out] at i1
  clear HAC HLS HL
  obtain ⟨j0, j1, j2, j3⟩ := at4 KQ
  have t0 := at_cell hI.bt 0
  have tf := at_frozen hI.bt 0
  simp at t0
  have HI := hidI hI
  clear KQ
  by_cases hE : E = 0
  · subst hE
    simp at i1
    obtain ⟨sa', sc', wy, hrun, hfr, hT, hI2⟩ := hI.more BB OB hn
    have HRUN := hidI hrun
    have HF := hidI (And.intro hfr hI2)
    have t1 := at_cell hT 0
    have tf1 := at_frozen hT 0
    simp at t1
    clear hrun hfr hI2 hT hI
    go_wp2_with (first | (at_builtin; refine hidG ?_))
    refine hidI ?_
    refine wpList_append_run rfl _ _ 47 rfl _ _ _ wy rfl rfl HRUN.out ?_
    clear t0 tf
    go_wp2
    go_ret
    exact ⟨rfl, (Fr.of HG.out).trans HF.out.1, fun _ => ⟨_, _, HF.out.2⟩, fun h => absurd rfl h⟩
  · have e1 : ((E : Int) == 0) = false := by simpa using hE
    rw [decide_eq_false hE] at i1
    clear hI
    go_wp2
    go_ret
    exact ⟨rfl, Fr.of HG.out, fun h => absurd h hE, fun _ => HI.out⟩
/-- What is heard is in the array. -/
def HrdP (w W w' : World) (P T k : Nat) (S : Nat → Sd) (a : Nat → Option Addr) (c : Nat → Nat) (bs : List Bt) (sa : Option Addr) (sc : Nat) (R : Sd) : Prop :=
  Fr P W w' ∧ ∃ a' c', Iv w w' P T (upN S k R) (upN a k a') (upN c k c') bs sa sc
set_option maxRecDepth 10000 in
set_option maxHeartbeats 2000000 in
theorem heard_any {w W : World} {P T k : Nat} {S : Nat → Sd} {a : Nat → Option Addr} {c : Nat → Nat} {bs : List Bt} {sa : Option Addr} {sc : Nat} (hk : k < 2) (B : Bt) (R : Sd) (E : Nat) (u : Value) (hu : rd W u B.im) (hul : B.im.length ≤ 100)
    (cH : ∀ X v u, rd X v (S k).im → rd X u B.im → Calls Try.prog 20 #[sdV (S k) v, btV B u] X fun e w' => StE X w' e R E) (hR : E = 0 → R.ac = false ∧ R.te = B.te ∧ R.cy = B.cy ∧ R.im = B.im) (h : Iv w W P T S a c bs sa sc) :
    Calls Try.prog 29 #[.int .i64 (k : Int), btV B u, .pointer (some ⟨P, 0, none⟩)] W fun e w' => e = .returned (.bool true) ∧ HrdP w W w' P T k S a c bs sa sc R := by
  obtain ⟨ua, uc, rfl, _⟩ := id hu
  obtain ⟨b, hb⟩ : ∃ b, W.heap.size = b := ⟨_, rfl⟩
  have gB := gr_alloc (World.grownBy.refl W none) (.cells #[.int .i64 B.fr, .int .i64 B.te, .int .i64 B.cy, .slice ua B.im.length uc] 32)
  have KB := hp_new hb.symm (.cells #[.int .i64 B.fr, .int .i64 B.te, .int .i64 B.cy, .slice ua B.im.length uc] 32)
  dsimp only [sdV, sdA, btV, btA] at *
  have x1 : (0 : Int) ≤ (k : Int) := by omega
  have x2 : (k : Int) < 2 := by omega
  go_enter Try.func29, Try.ntmps29
  go_upto_region 1 with fail
  have hI := h.grow gB
  have hu := rd_grown hu gB
  have HGB := hidI gB
  clear h gB hb
  generalize W.alloc (.cells #[.int .i64 B.fr, .int .i64 B.te, .int .i64 B.cy, .slice ua B.im.length uc] 32) = X at *
  obtain ⟨i0, i1, i2, i3, i4, i5, i6⟩ := hI.cells hk
  obtain ⟨j0, j1, j2, j3⟩ := at4 KB
  have HI := hidI hI
  have HKB := hidI KB
  have HRD := hidI (OwnL.rd (hI.ow k hk))
  have gR := World.grownBy.refl X none
  have gD := gr_drew gR
  clear KB hI
  obtain ⟨L, hL⟩ : ∃ L, S k = L := ⟨_, rfl⟩
  rw [hL] at i0 i1 i2 i3 i4 i5 i6 cH HRD
  clear hL
  generalize (c k) = ck at *
  generalize (a k) = ak at *
  have cH2 : ∀ Y, X.grownBy Y none → Calls Try.prog 20 #[.agg #[.int .i64 L.me, .bool L.ac, .int .i64 L.te, .int .i64 L.cy, .slice ak L.im.length ck, .int .i64 L.si, .int .i64 L.pa], .agg #[.int .i64 B.fr, .int .i64 B.te, .int .i64 B.cy, .slice ua B.im.length uc]] Y fun e w' => StE Y w' e R E := fun Y g => cH Y _ _ (rd_grown HRD.out g) (rd_grown hu g)
  clear cH HRD
  clear gR gD
  go_cut [6, 7] (fun s6 s7 wx => ∃ q aa ac w1, s6 = .pointer (some ⟨q, 0, none⟩) ∧ s7 = .int .i64 (E : Int) ∧ Hid (X.grownBy wx none ∧ wx.heap[q]? = some (.cells #[.int .i64 R.me, .bool R.ac, .int .i64 R.te, .int .i64 R.cy, .slice aa R.im.length ac, .int .i64 R.si, .int .i64 R.pa] 24) ∧ OwnL w1 wx aa ac R.im))
  case first =>
    have n1 : ¬ b = X.heap.size := by have := at_lt HKB.out; omega
    have n2 : ¬ X.heap.size = b := fun e => n1 e.symm
    have n3 : ¬ P = X.heap.size := by have := at_lt HI.out.bp; omega
    have n4 : ¬ X.heap.size = P := fun e => n3 e.symm
    have gR := World.grownBy.refl X none
    have gD := gr_drew gR
    have gZ := gr_drew (gr_alloc gR (.cells #[.int .i64 0, .bool false, .int .i64 0, .int .i64 0, .slice none 0 0, .int .i64 0, .int .i64 0] 24))
    have HQX := hidI (heap_alloc_new X (.cells #[.int .i64 0, .bool false, .int .i64 0, .int .i64 0, .slice none 0 0, .int .i64 0, .int .i64 0] 24))
    have gY := gr_alloc gR (.cells #[.int .i64 0, .bool false, .int .i64 0, .int .i64 0, .slice none 0 0, .int .i64 0, .int .i64 0] 24)
    have p0 := gY.cell i0 (by simp)
    have p1 := gY.cell i1 (by simp)
    have p2 := gY.cell i2 (by simp)
    have p3 := gY.cell i3 (by simp)
    have p4 := gY.cell i4 (by simp)
    have p5 := gY.cell i5 (by simp)
    have p6 := gY.cell i6 (by simp)
    have b0 := gY.cell j0 (by simp)
    have b1 := gY.cell j1 (by simp)
    have b2 := gY.cell j2 (by simp)
    have b3 := gY.cell j3 (by simp)
    go_region_with (first | (go_at_call 20; refine (cH2 _ (by first | exact gR | exact gD | exact gZ)).mono ?_; rintro e w1 ⟨aa, ac, rfl, o1, g1⟩; (try dsimp only [sdV, sdA]); (try (have KY := kept (w := (X.alloc (.cells #[.int .i64 0, .bool false, .int .i64 0, .int .i64 0, .slice none 0 0, .int .i64 0, .int .i64 0] 24)).drew) g1 HQX.out; obtain ⟨z0, z1, z2, z3, z4, z5, z6⟩ := at7 KY; obtain ⟨t0, t1, t2, t3, t4, t5, t6⟩ := fz7 KY))))
    all_goals go_wp2_with fail
    all_goals go_meet
    all_goals first | (have KY2 := KY; exact ⟨_, aa, ac, _, rfl, rfl, hidI ⟨gr7n (grown_join gZ g1 (.inl rfl)) (Nat.le_refl _), box7 KY2, own_but o1 (gr7 (World.grownBy.refl _ _)) (by simp)⟩⟩) | exact ⟨_, aa, ac, _, rfl, rfl, hidI ⟨gr_alloc (grown_join gD g1 (.inl rfl)) _, heap_alloc_new _ _, OwnL.kept o1 (gr_alloc (World.grownBy.refl _ _) _)⟩⟩
  case rest =>
  obtain ⟨q, aa, ac, B1, rfl, rfl, HC⟩ := hcut
  obtain ⟨g1, KQ, o1⟩ := HC.out
  have KB2 := kept g1 HKB.out
  have hI := HI.out.grow g1
  clear i0 i1 i2 i3 i4 i5 i6 j0 j1 j2 j3 cH2 HC
  obtain ⟨i0, i1, i2, i3, i4, i5, i6⟩ := at7 KQ
  obtain ⟨j0, j1, j2, j3⟩ := at4 KB2
  have cE := fun (k1 : R.im = B.im) => keepEq_yes B.im (.slice aa R.im.length ac) (.slice ua B.im.length uc) wc (by rw [← k1]; exact OwnL.rd o1) (rd_grown hu g1) (by omega)
  have HO := hidI (And.intro o1 KQ)
  have HI2 := hidI hI
  have HG := hidI g1
  clear o1 KQ KB2 hI g1 HI HKB hu
  by_cases hE : E = 0
  · obtain ⟨r1, r2, r3, r4⟩ := hR hE
    subst hE
    have cE := cE r4
    rw [r1] at i1
    rw [r2] at i2
    rw [r3] at i3
    have HRE := hidI (And.intro r1 (And.intro r2 r3))
    clear r1 r2 r3 r4 hR
    go_wp2_with fail
    refine cE.mono ?_
    rintro e w3 ⟨rfl, g3⟩
    go_upto_region 4 with fail
    clear i0 i1 i2 i3 i4 i5 i6 j0 j1 j2 j3 cE
    obtain ⟨o1, KQ⟩ := HO.out
    have o1 := OwnL.kept o1 g3
    have KQ := kept g3 KQ
    have hI := HI2.out.grow g3
    have gW := grown_join (grown_join HGB.out HG.out (.inl rfl)) g3 (.inl rfl)
    clear HO HI2 HG HGB g3
    obtain ⟨i0, i1, i2, i3, i4, i5, i6⟩ := at7 KQ
    obtain ⟨p0, p1, p2, p3, p4, p5, p6⟩ := hI.cells hk
    obtain ⟨f0, f1, f2, f3, f4, f5, f6⟩ := hI.frozen k
    have HF := hidI (And.intro (hI.put hk o1) (Fr.trans (Fr.of gW) (Fr.ofP (P := P) (putK_gr w3 P k R (.slice aa R.im.length ac)))))
    clear hI KQ o1
    go_wp2
    go_ret
    exact ⟨rfl, HF.out.2, aa, ac, HF.out.1⟩
  · have e1 : ((E : Int) == 0) = false := by simpa using hE
    clear cE hR
    go_upto_region 4 with fail
    clear i0 i1 i2 i3 i4 i5 i6 j0 j1 j2 j3
    obtain ⟨o1, KQ⟩ := HO.out
    have hI := HI2.out
    have gW := grown_join HGB.out HG.out (.inl rfl)
    clear HO HI2 HG HGB
    obtain ⟨i0, i1, i2, i3, i4, i5, i6⟩ := at7 KQ
    obtain ⟨p0, p1, p2, p3, p4, p5, p6⟩ := hI.cells hk
    obtain ⟨f0, f1, f2, f3, f4, f5, f6⟩ := hI.frozen k
    have HF := hidI (And.intro (hI.put hk o1) (Fr.trans (Fr.of gW) (Fr.ofP (P := P) (putK_gr wc P k R (.slice aa R.im.length ac)))))
    clear hI KQ o1
    go_wp2
    go_ret
    exact ⟨rfl, HF.out.2, aa, ac, HF.out.1⟩
end Go.Proofs.Ytnklkhcldcljaaa
