/- The laws of Start, Hear, Wait, Done. -/
import Derived.Test.YtnklkhcldcljaaaJ
import Derived.Shelf.Abstract
namespace Go.Proofs.Ytnklkhcldcljaaa
open Go.RowKit Go.Shelf
attribute [local go_sem ↓] Go.wp_at_zero Go.wp_at_succ
set_option linter.unusedVariables false
set_option linter.unusedSimpArgs false

theorem rd_nil (w : World) : rd w (.slice none 0 0) [] := ⟨none, 0, rfl, .inl rfl⟩
theorem rd_refW {w : World} {L R : Sd} {E : Nat} {v u : Value} (hv : rd w v L.im) (hu : rd w u R.im) : rd w (refW L E v u) (stS L E R).im := by
  unfold refW stS
  split
  · split
    · exact hu
    · exact hv
  · exact rd_nil w
theorem len_stS {L R : Sd} {E N : Nat} (hv : L.im.length ≤ N) (hu : R.im.length ≤ N) : (stS L E R).im.length ≤ N := by
  unfold stS
  split
  · split
    · exact hu
    · exact hv
  · exact Nat.zero_le _
theorem rd_refV {w : World} {me pa : Int} {l : List Int} {v : Value} (hv : rd w v l) : rd w (refV (startE me pa l.length) v) (startS me pa l).im := by
  unfold refV startS
  split
  · exact hv
  · exact rd_nil w
theorem len_startS {me pa : Int} {l : List Int} {N : Nat} (hv : l.length ≤ N) : (startS me pa l).im.length ≤ N := by
  unfold startS
  split
  · exact hv
  · exact Nat.zero_le _
set_option maxRecDepth 10000 in
set_option maxHeartbeats 2000000 in
theorem waitL_any (L : Sd) (v u : Value) (w : World) (hv : rd w v L.im) (hl : L.im.length ≤ 17592186043904) : Calls Try.prog 22 #[sdV L v, u] w fun e w' => StE w w' e (stS L (waitE L) (waitS L)) (stE L (waitE L)) := by
  obtain ⟨va, vc, rfl, _⟩ := id hv
  obtain ⟨p, hp⟩ : ∃ p, w.heap.size = p := ⟨_, rfl⟩
  have B1 : ((w.alloc (.cells #[.int .i64 L.me, .bool L.ac, .int .i64 L.te, .int .i64 L.cy, .slice va L.im.length vc, .int .i64 L.si, .int .i64 L.pa] 24)).alloc (.cells #[.int .i64 0, .bool false, .int .i64 0, .int .i64 0, .slice none 0 0, .int .i64 0, .int .i64 0] 24)).heap[p]? = some (.cells #[.int .i64 L.me, .bool L.ac, .int .i64 L.te, .int .i64 L.cy, .slice va L.im.length vc, .int .i64 L.si, .int .i64 L.pa] 24) := by
    rw [hp_old (by simp; omega)]; exact hp_new hp.symm _
  have B2 : ((w.alloc (.cells #[.int .i64 L.me, .bool L.ac, .int .i64 L.te, .int .i64 L.cy, .slice va L.im.length vc, .int .i64 L.si, .int .i64 L.pa] 24)).alloc (.cells #[.int .i64 0, .bool false, .int .i64 0, .int .i64 0, .slice none 0 0, .int .i64 0, .int .i64 0] 24)).heap[p + 1]? = some (.cells #[.int .i64 0, .bool false, .int .i64 0, .int .i64 0, .slice none 0 0, .int .i64 0, .int .i64 0] 24) := hp_new (by simp; omega) _
  have hgW : w.grownBy ((w.alloc (.cells #[.int .i64 L.me, .bool L.ac, .int .i64 L.te, .int .i64 L.cy, .slice va L.im.length vc, .int .i64 L.si, .int .i64 L.pa] 24)).alloc (.cells #[.int .i64 0, .bool false, .int .i64 0, .int .i64 0, .slice none 0 0, .int .i64 0, .int .i64 0] 24)) none := gr_alloc (gr_alloc (World.grownBy.refl _ _) _) _
  have cS := wait_any L (.slice va L.im.length vc) _ (rd_grown hv hgW) hl
  generalize (stS L (waitE L) (waitS L)) = RR at *
  generalize (stE L (waitE L)) = EE at *
  dsimp only [sdV, sdA, btV, btA] at *
  go_enter Try.func22, Try.ntmps22
  go_upto_region 1 with fail
  have HP := hidI hp
  clear hp
  generalize (w.alloc (.cells #[.int .i64 L.me, .bool L.ac, .int .i64 L.te, .int .i64 L.cy, .slice va L.im.length vc, .int .i64 L.si, .int .i64 L.pa] 24)).alloc (.cells #[.int .i64 0, .bool false, .int .i64 0, .int .i64 0, .slice none 0 0, .int .i64 0, .int .i64 0] 24) = W at *
  obtain ⟨i0, i1, i2, i3, i4, i5, i6⟩ := at7 B1
  have HW := hidI (And.intro B2 hgW)
  have hlt := hidI (at_lt B2)
  clear B1 B2
  go_wp2_with fail
  refine cS.mono ?_
  rintro e w1 ⟨a, c, rfl, o1, g1⟩
  obtain ⟨hR, hgW⟩ := HW.out
  have hR := kept g1 hR
  obtain ⟨j0, j1, j2, j3, j4, j5, j6⟩ := at7 hR
  obtain ⟨f0, f1, f2, f3, f4, f5, f6⟩ := fz7 hR
  have HX := hidI (And.intro hR (And.intro o1 (And.intro (grown_join hgW g1 (.inl rfl)) hgW.size)))
  clear hR o1 g1 hgW cS
  dsimp only [sdV, sdA] at *
  go_wp2
  obtain ⟨hR, o1, g1, hs⟩ := HX.out
  refine bodyPost_ret (results2 rfl _ _ (p + 1) RR (.slice a RR.im.length c) rfl (box7 hR)) rfl ?_
  have hp := HP.out
  have hlt := hlt.out
  exact ⟨a, c, rfl, own_low (own_but o1 (gr7 (World.grownBy.refl _ _)) (by omega)) hs, gr7n g1 (by omega)⟩
set_option maxRecDepth 10000 in
set_option maxHeartbeats 2000000 in
theorem startL_any (L : Sd) (l : List Int) (v u : Value) (me pa : Int) (xb yb : Nat) (w : World) (hv : rd w v L.im) (hl : L.im.length ≤ 17592186043904) (hu : rd w u l) (hm : l.length ≤ 17592186043904) (x1 : w.cell? ⟨xb, 0, none⟩ = some (.int .i64 me)) (x2 : w.cell? ⟨yb, 0, none⟩ = some (.int .i64 pa)) : Calls Try.prog 10 #[sdV L v, u, .pointer (some ⟨xb, 0, none⟩), .pointer (some ⟨yb, 0, none⟩)] w fun e w' => StE w w' e (startS me pa l) (startE me pa l.length) := by
  obtain ⟨va, vc, rfl, _⟩ := id hv
  obtain ⟨ua, uc, rfl, _⟩ := id hu
  obtain ⟨p, hp⟩ : ∃ p, w.heap.size = p := ⟨_, rfl⟩
  have B1 : ((w.alloc (.cells #[.int .i64 L.me, .bool L.ac, .int .i64 L.te, .int .i64 L.cy, .slice va L.im.length vc, .int .i64 L.si, .int .i64 L.pa] 24)).alloc (.cells #[.int .i64 0, .bool false, .int .i64 0, .int .i64 0, .slice none 0 0, .int .i64 0, .int .i64 0] 24)).heap[p]? = some (.cells #[.int .i64 L.me, .bool L.ac, .int .i64 L.te, .int .i64 L.cy, .slice va L.im.length vc, .int .i64 L.si, .int .i64 L.pa] 24) := by
    rw [hp_old (by simp; omega)]; exact hp_new hp.symm _
  have B2 : ((w.alloc (.cells #[.int .i64 L.me, .bool L.ac, .int .i64 L.te, .int .i64 L.cy, .slice va L.im.length vc, .int .i64 L.si, .int .i64 L.pa] 24)).alloc (.cells #[.int .i64 0, .bool false, .int .i64 0, .int .i64 0, .slice none 0 0, .int .i64 0, .int .i64 0] 24)).heap[p + 1]? = some (.cells #[.int .i64 0, .bool false, .int .i64 0, .int .i64 0, .slice none 0 0, .int .i64 0, .int .i64 0] 24) := hp_new (by simp; omega) _
  have hgW : w.grownBy ((w.alloc (.cells #[.int .i64 L.me, .bool L.ac, .int .i64 L.te, .int .i64 L.cy, .slice va L.im.length vc, .int .i64 L.si, .int .i64 L.pa] 24)).alloc (.cells #[.int .i64 0, .bool false, .int .i64 0, .int .i64 0, .slice none 0 0, .int .i64 0, .int .i64 0] 24)) none := gr_alloc (gr_alloc (World.grownBy.refl _ _) _) _
  have cS := start_any me pa l _ _ (rd_grown hu hgW) hm
  have x1 := hgW.cell x1 (by simp)
  have x2 := hgW.cell x2 (by simp)
  generalize (startS me pa l) = RR at *
  generalize (startE me pa l.length) = EE at *
  dsimp only [sdV, sdA, btV, btA] at *
  go_enter Try.func10, Try.ntmps10
  go_upto_region 1 with fail
  have HP := hidI hp
  clear hp
  generalize (w.alloc (.cells #[.int .i64 L.me, .bool L.ac, .int .i64 L.te, .int .i64 L.cy, .slice va L.im.length vc, .int .i64 L.si, .int .i64 L.pa] 24)).alloc (.cells #[.int .i64 0, .bool false, .int .i64 0, .int .i64 0, .slice none 0 0, .int .i64 0, .int .i64 0] 24) = W at *
  have HW := hidI (And.intro B2 hgW)
  have hlt := hidI (at_lt B2)
  clear B1 B2
  go_wp2_with fail
  refine cS.mono ?_
  rintro e w1 ⟨a, c, rfl, o1, g1⟩
  obtain ⟨hR, hgW⟩ := HW.out
  have hR := kept g1 hR
  obtain ⟨j0, j1, j2, j3, j4, j5, j6⟩ := at7 hR
  obtain ⟨f0, f1, f2, f3, f4, f5, f6⟩ := fz7 hR
  have HX := hidI (And.intro hR (And.intro o1 (And.intro (grown_join hgW g1 (.inl rfl)) hgW.size)))
  clear hR o1 g1 hgW cS
  dsimp only [sdV, sdA] at *
  go_wp2
  obtain ⟨hR, o1, g1, hs⟩ := HX.out
  refine bodyPost_ret (results2 rfl _ _ (p + 1) RR (.slice a RR.im.length c) rfl (box7 hR)) rfl ?_
  have hp := HP.out
  have hlt := hlt.out
  exact ⟨a, c, rfl, own_low (own_but o1 (gr7 (World.grownBy.refl _ _)) (by omega)) hs, gr7n g1 (by omega)⟩
set_option maxRecDepth 10000 in
set_option maxHeartbeats 2000000 in
theorem hearL_any (L : Sd) (B : Bt) (v u : Value) (bb : Nat) (ya : Option Addr) (yc : Nat) (w : World) (hv : rd w v L.im) (hl : L.im.length ≤ 17592186043904) (hu : rd w u B.im) (hm : B.im.length ≤ 17592186043904) (hb : w.heap[bb]? = some (.cells #[.int .i64 B.fr, .int .i64 B.te, .int .i64 B.cy, .slice ya B.im.length yc] 32)) : Calls Try.prog 19 #[sdV L v, u, .pointer (some ⟨bb, 0, none⟩)] w fun e w' => StE w w' e (stS L (beatE L B) (hearS L B)) (stE L (beatE L B)) := by
  have cS := fun (X : World) (k : w.grownBy X none) => hear_any L B v u X (rd_grown hv k) hl (rd_grown hu k) hm
  generalize stS L (beatE L B) (hearS L B) = RR at *
  generalize stE L (beatE L B) = EE at *
  obtain ⟨va, vc, rfl, _⟩ := id hv
  obtain ⟨ua, uc, rfl, _⟩ := id hu
  obtain ⟨p, hp⟩ : ∃ p, w.heap.size = p := ⟨_, rfl⟩
  have B1 : ((w.alloc (.cells #[.int .i64 L.me, .bool L.ac, .int .i64 L.te, .int .i64 L.cy, .slice va L.im.length vc, .int .i64 L.si, .int .i64 L.pa] 24)).alloc (.cells #[.int .i64 0, .bool false, .int .i64 0, .int .i64 0, .slice none 0 0, .int .i64 0, .int .i64 0] 24)).heap[p]? = some (.cells #[.int .i64 L.me, .bool L.ac, .int .i64 L.te, .int .i64 L.cy, .slice va L.im.length vc, .int .i64 L.si, .int .i64 L.pa] 24) := by
    rw [hp_old (by simp; omega)]; exact hp_new hp.symm _
  have B2 : ((w.alloc (.cells #[.int .i64 L.me, .bool L.ac, .int .i64 L.te, .int .i64 L.cy, .slice va L.im.length vc, .int .i64 L.si, .int .i64 L.pa] 24)).alloc (.cells #[.int .i64 0, .bool false, .int .i64 0, .int .i64 0, .slice none 0 0, .int .i64 0, .int .i64 0] 24)).heap[p + 1]? = some (.cells #[.int .i64 0, .bool false, .int .i64 0, .int .i64 0, .slice none 0 0, .int .i64 0, .int .i64 0] 24) := hp_new (by simp; omega) _
  have hgW : w.grownBy ((w.alloc (.cells #[.int .i64 L.me, .bool L.ac, .int .i64 L.te, .int .i64 L.cy, .slice va L.im.length vc, .int .i64 L.si, .int .i64 L.pa] 24)).alloc (.cells #[.int .i64 0, .bool false, .int .i64 0, .int .i64 0, .slice none 0 0, .int .i64 0, .int .i64 0] 24)) none := gr_alloc (gr_alloc (World.grownBy.refl _ _) _) _
  have hbW := kept hgW hb
  dsimp only [sdV, sdA, btV, btA] at *
  go_enter Try.func19, Try.ntmps19
  go_upto_region 1 with fail
  have HP := hidI hp
  clear hp
  generalize (w.alloc (.cells #[.int .i64 L.me, .bool L.ac, .int .i64 L.te, .int .i64 L.cy, .slice va L.im.length vc, .int .i64 L.si, .int .i64 L.pa] 24)).alloc (.cells #[.int .i64 0, .bool false, .int .i64 0, .int .i64 0, .slice none 0 0, .int .i64 0, .int .i64 0] 24) = W at *
  obtain ⟨j0, j1, j2, j3⟩ := at4 hbW
  obtain ⟨q, hq⟩ : ∃ q, W.heap.size = q := ⟨_, rfl⟩
  go_upto_region 3 with fail
  have C1 := (hp_old (at_lt B1) (.cells #[.int .i64 B.fr, .int .i64 B.te, .int .i64 B.cy, .slice ua B.im.length uc] 32)).trans B1
  have C2 := (hp_old (at_lt B2) (.cells #[.int .i64 B.fr, .int .i64 B.te, .int .i64 B.cy, .slice ua B.im.length uc] 32)).trans B2
  have C3 := hp_new hq.symm (.cells #[.int .i64 B.fr, .int .i64 B.te, .int .i64 B.cy, .slice ua B.im.length uc] 32)
  have gC := gr_alloc hgW (.cells #[.int .i64 B.fr, .int .i64 B.te, .int .i64 B.cy, .slice ua B.im.length uc] 32)
  have hlt := hidI (And.intro (at_lt B2) (And.intro hgW.size hq))
  clear B1 B2 hgW hbW hb j0 j1 j2 j3 hq
  generalize W.alloc (.cells #[.int .i64 B.fr, .int .i64 B.te, .int .i64 B.cy, .slice ua B.im.length uc] 32) = X at *
  have cS := cS X gC
  obtain ⟨i0, i1, i2, i3, i4, i5, i6⟩ := at7 C1
  obtain ⟨j0, j1, j2, j3⟩ := at4 C3
  have HW := hidI (And.intro C2 gC)
  clear C1 C3
  go_wp2_with fail
  refine cS.mono ?_
  rintro e w1 ⟨a, c, rfl, o1, g1⟩
  obtain ⟨hR, hgW⟩ := HW.out
  have hR2 := kept g1 hR
  obtain ⟨j0, j1, j2, j3, j4, j5, j6⟩ := at7 hR2
  obtain ⟨f0, f1, f2, f3, f4, f5, f6⟩ := fz7 hR2
  have HX := hidI (And.intro hR2 (And.intro o1 (And.intro (grown_join hgW g1 (.inl rfl)) (And.intro hgW.size (at_lt hR)))))
  clear hR hR2 o1 g1 hgW cS HW gC C2
  dsimp only [sdV, sdA] at *
  go_wp2
  obtain ⟨hR, o1, g1, hs, hl2⟩ := HX.out
  refine bodyPost_ret (results2 rfl _ _ (p + 1) RR (.slice a RR.im.length c) rfl (box7 hR)) rfl ?_
  have hp := HP.out
  have hlt := hlt.out
  exact ⟨a, c, rfl, own_low (own_but o1 (gr7 (World.grownBy.refl _ _)) (by omega)) hs, gr7n g1 (by omega)⟩
set_option maxRecDepth 10000 in
set_option maxHeartbeats 2000000 in
theorem waitLaw_any (L : Sd) (v : Value) (w : World) (hv : rd w v L.im) (hl : L.im.length ≤ 17592186043904) : Calls Try.prog 6 #[sdV L v] w fun e w' => e = .returned (.bool true) ∧ w.grownBy w' none := by
  obtain ⟨va, vc, rfl, _⟩ := id hv
  obtain ⟨p, hp⟩ : ∃ p, w.heap.size = p := ⟨_, rfl⟩
  have B1 : (w.alloc (.cells #[.int .i64 L.me, .bool L.ac, .int .i64 L.te, .int .i64 L.cy, .slice va L.im.length vc, .int .i64 L.si, .int .i64 L.pa] 24)).heap[p]? = some (.cells #[.int .i64 L.me, .bool L.ac, .int .i64 L.te, .int .i64 L.cy, .slice va L.im.length vc, .int .i64 L.si, .int .i64 L.pa] 24) := hp_new hp.symm _
  have hgW : w.grownBy (w.alloc (.cells #[.int .i64 L.me, .bool L.ac, .int .i64 L.te, .int .i64 L.cy, .slice va L.im.length vc, .int .i64 L.si, .int .i64 L.pa] 24)) none := gr_alloc (World.grownBy.refl _ _) _
  have cR := waited_any L (.slice va L.im.length vc) _ (rd_grown hv hgW)
  have hxr := rd_refW (E := waitE L) (R := waitS L) hv (by rw [waitS_im]; exact hv)
  have hxl := len_stS (E := waitE L) (R := waitS L) hl (by rw [waitS_im]; exact hl)
  have HN : Hid (∃ X, X = (stS L (waitE L) (waitS L))) := hidI ⟨_, rfl⟩
  have cL := fun (X : World) (x : Value) (g : w.grownBy X none) (k : rd X x (stS L (waitE L) (waitS L)).im) => sideAs_gen 22 #[] L (stS L (waitE L) (waitS L)) [] (stE L (waitE L)) (.slice va L.im.length vc) (.slice none 0 0) x X (rd_grown hv g) (rd_nil _) k hl (by simp) hxl (enters_of Try.func22 (by kernel_rfl) rfl) (fun W v' u' g1 k1 k2 => waitL_any L v' u' W k1 hl)
  obtain ⟨xa, xc, hxe, _⟩ := id hxr
  rw [hxe] at cR hxr
  generalize (stS L (waitE L) (waitS L)) = RR at *
  generalize (stE L (waitE L)) = EE at *
  clear hxe
  dsimp only [sdV, sdA, btV, btA] at *
  go_enter Try.func6, Try.ntmps6
  go_upto_region 1 with fail
  clear hp
  generalize w.alloc (.cells #[.int .i64 L.me, .bool L.ac, .int .i64 L.te, .int .i64 L.cy, .slice va L.im.length vc, .int .i64 L.si, .int .i64 L.pa] 24) = W at *
  obtain ⟨i0, i1, i2, i3, i4, i5, i6⟩ := at7 B1
  go_wp2_with fail
  refine cR.mono ?_
  rintro e w1 ⟨rfl, g1⟩
  dsimp only [sdV, sdA] at *
  obtain ⟨q, hq⟩ : ∃ q, w1.heap.size = q := ⟨_, rfl⟩
  have gA : w1.grownBy (w1.alloc (.cells #[.int .i64 RR.me, .bool RR.ac, .int .i64 RR.te, .int .i64 RR.cy, .slice xa RR.im.length xc, .int .i64 RR.si, .int .i64 RR.pa] 24)) none := gr_alloc (World.grownBy.refl _ _) _
  have C := hp_new hq.symm (.cells #[.int .i64 RR.me, .bool RR.ac, .int .i64 RR.te, .int .i64 RR.cy, .slice xa RR.im.length xc, .int .i64 RR.si, .int .i64 RR.pa] 24)
  have g2 := grown_join g1 gA (.inl rfl)
  have B1 := kept g2 B1
  have gW := grown_join hgW g2 (.inl rfl)
  have cL := cL (w1.alloc (.cells #[.int .i64 RR.me, .bool RR.ac, .int .i64 RR.te, .int .i64 RR.cy, .slice xa RR.im.length xc, .int .i64 RR.si, .int .i64 RR.pa] 24)) _ gW (rd_grown hxr gW)
  clear g1 gA g2 cR
  try dsimp only [sdV, sdA] at *
  clear i0 i1 i2 i3 i4 i5 i6
  obtain ⟨i0, i1, i2, i3, i4, i5, i6⟩ := at7 B1
  obtain ⟨m0, m1, m2, m3, m4, m5, m6⟩ := at7 C
  have HG := hidI gW
  clear C hgW gW HN B1
  go_wp2_with fail
  refine cL.mono ?_
  rintro e w2 ⟨rfl, g3⟩
  go_wp2
  go_ret
  exact ⟨rfl, grown_join HG.out g3 (.inl rfl)⟩
set_option maxRecDepth 10000 in
set_option maxHeartbeats 2000000 in
theorem doneLaw_any (L : Sd) (l : List Int) (v u : Value) (w : World) (hv : rd w v L.im) (hl : L.im.length ≤ 17592186043904) (hu : rd w u l) (hm : l.length ≤ 17592186043904) : Calls Try.prog 7 #[sdV L v, u] w fun e w' => e = .returned (.bool true) ∧ w.grownBy w' none := by
  obtain ⟨va, vc, rfl, _⟩ := id hv
  obtain ⟨ua, uc, rfl, _⟩ := id hu
  obtain ⟨p, hp⟩ : ∃ p, w.heap.size = p := ⟨_, rfl⟩
  have B1 : (w.alloc (.cells #[.int .i64 L.me, .bool L.ac, .int .i64 L.te, .int .i64 L.cy, .slice va L.im.length vc, .int .i64 L.si, .int .i64 L.pa] 24)).heap[p]? = some (.cells #[.int .i64 L.me, .bool L.ac, .int .i64 L.te, .int .i64 L.cy, .slice va L.im.length vc, .int .i64 L.si, .int .i64 L.pa] 24) := hp_new hp.symm _
  have hgW : w.grownBy (w.alloc (.cells #[.int .i64 L.me, .bool L.ac, .int .i64 L.te, .int .i64 L.cy, .slice va L.im.length vc, .int .i64 L.si, .int .i64 L.pa] 24)) none := gr_alloc (World.grownBy.refl _ _) _
  have cR := cycled_any L l (.slice va L.im.length vc) _ _ (rd_grown hv hgW) (rd_grown hu hgW)
  have hxr := rd_refW (E := doneE L l.length) (R := doneS L l) hv hu
  have hxl := len_stS (E := doneE L l.length) (R := doneS L l) hl hm
  have HN : Hid (∃ X, X = (stS L (doneE L l.length) (doneS L l))) := hidI ⟨_, rfl⟩
  have cL := fun (X : World) (x : Value) (g : w.grownBy X none) (k : rd X x (stS L (doneE L l.length) (doneS L l)).im) => sideAs_gen 25 #[] L (stS L (doneE L l.length) (doneS L l)) l (stE L (doneE L l.length)) (.slice va L.im.length vc) (.slice ua l.length uc) x X (rd_grown hv g) (rd_grown hu g) k hl hm hxl (enters_of Try.func25 (by kernel_rfl) rfl) (fun W v' u' g1 k1 k2 => done_any L l v' u' W k1 hl k2 hm)
  obtain ⟨xa, xc, hxe, _⟩ := id hxr
  rw [hxe] at cR hxr
  generalize (stS L (doneE L l.length) (doneS L l)) = RR at *
  generalize (stE L (doneE L l.length)) = EE at *
  clear hxe
  dsimp only [sdV, sdA, btV, btA] at *
  go_enter Try.func7, Try.ntmps7
  go_upto_region 1 with fail
  clear hp
  generalize w.alloc (.cells #[.int .i64 L.me, .bool L.ac, .int .i64 L.te, .int .i64 L.cy, .slice va L.im.length vc, .int .i64 L.si, .int .i64 L.pa] 24) = W at *
  obtain ⟨i0, i1, i2, i3, i4, i5, i6⟩ := at7 B1
  go_wp2_with fail
  refine cR.mono ?_
  rintro e w1 ⟨rfl, g1⟩
  dsimp only [sdV, sdA] at *
  obtain ⟨q, hq⟩ : ∃ q, w1.heap.size = q := ⟨_, rfl⟩
  have gA : w1.grownBy (w1.alloc (.cells #[.int .i64 RR.me, .bool RR.ac, .int .i64 RR.te, .int .i64 RR.cy, .slice xa RR.im.length xc, .int .i64 RR.si, .int .i64 RR.pa] 24)) none := gr_alloc (World.grownBy.refl _ _) _
  have C := hp_new hq.symm (.cells #[.int .i64 RR.me, .bool RR.ac, .int .i64 RR.te, .int .i64 RR.cy, .slice xa RR.im.length xc, .int .i64 RR.si, .int .i64 RR.pa] 24)
  have g2 := grown_join g1 gA (.inl rfl)
  have B1 := kept g2 B1
  have gW := grown_join hgW g2 (.inl rfl)
  have cL := cL (w1.alloc (.cells #[.int .i64 RR.me, .bool RR.ac, .int .i64 RR.te, .int .i64 RR.cy, .slice xa RR.im.length xc, .int .i64 RR.si, .int .i64 RR.pa] 24)) _ gW (rd_grown hxr gW)
  clear g1 gA g2 cR
  try dsimp only [sdV, sdA] at *
  clear i0 i1 i2 i3 i4 i5 i6
  obtain ⟨i0, i1, i2, i3, i4, i5, i6⟩ := at7 B1
  obtain ⟨m0, m1, m2, m3, m4, m5, m6⟩ := at7 C
  have HG := hidI gW
  clear C hgW gW HN B1
  go_wp2_with fail
  refine cL.mono ?_
  rintro e w2 ⟨rfl, g3⟩
  go_wp2
  go_ret
  exact ⟨rfl, grown_join HG.out g3 (.inl rfl)⟩
set_option maxRecDepth 10000 in
set_option maxHeartbeats 2000000 in
theorem hearLaw_any (L : Sd) (B : Bt) (v u : Value) (w : World) (hv : rd w v L.im) (hl : L.im.length ≤ 17592186043904) (hu : rd w u B.im) (hm : B.im.length ≤ 17592186043904) : Calls Try.prog 5 #[sdV L v, btV B u] w fun e w' => e = .returned (.bool true) ∧ w.grownBy w' none := by
  obtain ⟨va, vc, rfl, _⟩ := id hv
  obtain ⟨ua, uc, rfl, _⟩ := id hu
  obtain ⟨p, hp⟩ : ∃ p, w.heap.size = p := ⟨_, rfl⟩
  have B1 : ((w.alloc (.cells #[.int .i64 L.me, .bool L.ac, .int .i64 L.te, .int .i64 L.cy, .slice va L.im.length vc, .int .i64 L.si, .int .i64 L.pa] 24)).alloc (.cells #[.int .i64 B.fr, .int .i64 B.te, .int .i64 B.cy, .slice ua B.im.length uc] 32)).heap[p]? = some (.cells #[.int .i64 L.me, .bool L.ac, .int .i64 L.te, .int .i64 L.cy, .slice va L.im.length vc, .int .i64 L.si, .int .i64 L.pa] 24) := by
    rw [hp_old (by simp; omega)]; exact hp_new hp.symm _
  have B2 : ((w.alloc (.cells #[.int .i64 L.me, .bool L.ac, .int .i64 L.te, .int .i64 L.cy, .slice va L.im.length vc, .int .i64 L.si, .int .i64 L.pa] 24)).alloc (.cells #[.int .i64 B.fr, .int .i64 B.te, .int .i64 B.cy, .slice ua B.im.length uc] 32)).heap[p + 1]? = some (.cells #[.int .i64 B.fr, .int .i64 B.te, .int .i64 B.cy, .slice ua B.im.length uc] 32) := hp_new (by simp; omega) _
  have hgW : w.grownBy ((w.alloc (.cells #[.int .i64 L.me, .bool L.ac, .int .i64 L.te, .int .i64 L.cy, .slice va L.im.length vc, .int .i64 L.si, .int .i64 L.pa] 24)).alloc (.cells #[.int .i64 B.fr, .int .i64 B.te, .int .i64 B.cy, .slice ua B.im.length uc] 32)) none := gr_alloc (gr_alloc (World.grownBy.refl _ _) _) _
  have cR := heeded_any L B (.slice va L.im.length vc) _ _ (rd_grown hv hgW) (rd_grown hu hgW)
  have hxr := rd_refW (E := beatE L B) (R := hearS L B) hv hu
  have hxl := len_stS (E := beatE L B) (R := hearS L B) hl hm
  have HN : Hid (∃ X, X = (stS L (beatE L B) (hearS L B))) := hidI ⟨_, rfl⟩
  have cL := fun (X : World) (x : Value) (g : w.grownBy X none) (hb : X.heap[p + 1]? = some (.cells #[.int .i64 B.fr, .int .i64 B.te, .int .i64 B.cy, .slice ua B.im.length uc] 32)) (k : rd X x (stS L (beatE L B) (hearS L B)).im) => sideAs_gen 19 #[.pointer (some ⟨p + 1, 0, none⟩)] L (stS L (beatE L B) (hearS L B)) B.im (stE L (beatE L B)) (.slice va L.im.length vc) (.slice ua B.im.length uc) x X (rd_grown hv g) (rd_grown hu g) k hl hm hxl (enters_of Try.func19 (by kernel_rfl) rfl) (fun W v' u' g1 k1 k2 => hearL_any L B v' u' (p + 1) ua uc W k1 hl k2 hm (kept g1 hb))
  obtain ⟨xa, xc, hxe, _⟩ := id hxr
  rw [hxe] at cR hxr
  generalize (stS L (beatE L B) (hearS L B)) = RR at *
  generalize (stE L (beatE L B)) = EE at *
  clear hxe
  dsimp only [sdV, sdA, btV, btA] at *
  go_enter Try.func5, Try.ntmps5
  go_upto_region 1 with fail
  clear hp
  generalize (w.alloc (.cells #[.int .i64 L.me, .bool L.ac, .int .i64 L.te, .int .i64 L.cy, .slice va L.im.length vc, .int .i64 L.si, .int .i64 L.pa] 24)).alloc (.cells #[.int .i64 B.fr, .int .i64 B.te, .int .i64 B.cy, .slice ua B.im.length uc] 32) = W at *
  obtain ⟨i0, i1, i2, i3, i4, i5, i6⟩ := at7 B1
  obtain ⟨j0, j1, j2, j3⟩ := at4 B2
  go_wp2_with fail
  refine cR.mono ?_
  rintro e w1 ⟨rfl, g1⟩
  dsimp only [sdV, sdA] at *
  obtain ⟨q, hq⟩ : ∃ q, w1.heap.size = q := ⟨_, rfl⟩
  have gA : w1.grownBy (w1.alloc (.cells #[.int .i64 RR.me, .bool RR.ac, .int .i64 RR.te, .int .i64 RR.cy, .slice xa RR.im.length xc, .int .i64 RR.si, .int .i64 RR.pa] 24)) none := gr_alloc (World.grownBy.refl _ _) _
  have C := hp_new hq.symm (.cells #[.int .i64 RR.me, .bool RR.ac, .int .i64 RR.te, .int .i64 RR.cy, .slice xa RR.im.length xc, .int .i64 RR.si, .int .i64 RR.pa] 24)
  have g2 := grown_join g1 gA (.inl rfl)
  have B1 := kept g2 B1
  have B2 := kept g2 B2
  have gW := grown_join hgW g2 (.inl rfl)
  have cL := cL (w1.alloc (.cells #[.int .i64 RR.me, .bool RR.ac, .int .i64 RR.te, .int .i64 RR.cy, .slice xa RR.im.length xc, .int .i64 RR.si, .int .i64 RR.pa] 24)) _ gW B2 (rd_grown hxr gW)
  clear g1 gA g2 cR
  try dsimp only [sdV, sdA] at *
  clear i0 i1 i2 i3 i4 i5 i6 j0 j1 j2 j3
  obtain ⟨i0, i1, i2, i3, i4, i5, i6⟩ := at7 B1
  obtain ⟨j0, j1, j2, j3⟩ := at4 B2
  obtain ⟨m0, m1, m2, m3, m4, m5, m6⟩ := at7 C
  have HG := hidI gW
  clear C hgW gW HN B1 B2
  go_wp2_with fail
  refine cL.mono ?_
  rintro e w2 ⟨rfl, g3⟩
  go_wp2
  go_ret
  exact ⟨rfl, grown_join HG.out g3 (.inl rfl)⟩
set_option maxRecDepth 10000 in
set_option maxHeartbeats 2000000 in
theorem startLaw_any (me pa : Int) (l : List Int) (u : Value) (w : World) (hu : rd w u l) (hm : l.length ≤ 17592186043904) : Calls Try.prog 3 #[.int .i64 me, .int .i64 pa, u] w fun e w' => e = .returned (.bool true) ∧ w.grownBy w' none := by
  obtain ⟨ua, uc, rfl, _⟩ := id hu
  obtain ⟨p, hp⟩ : ∃ p, w.heap.size = p := ⟨_, rfl⟩
  have B1 : ((w.alloc (.cells #[.int .i64 me] 3)).alloc (.cells #[.int .i64 pa] 3)).heap[p]? = some (.cells #[.int .i64 me] 3) := by
    rw [hp_old (by simp; omega)]; exact hp_new hp.symm _
  have B2 : ((w.alloc (.cells #[.int .i64 me] 3)).alloc (.cells #[.int .i64 pa] 3)).heap[p + 1]? = some (.cells #[.int .i64 pa] 3) := hp_new (by simp; omega) _
  have hgW : w.grownBy ((w.alloc (.cells #[.int .i64 me] 3)).alloc (.cells #[.int .i64 pa] 3)) none := gr_alloc (gr_alloc (World.grownBy.refl _ _) _) _
  have cR := sided_any me pa l _ _ (rd_grown hu hgW)
  have hxr := rd_refV (me := me) (pa := pa) hu
  have hxl := len_startS (me := me) (pa := pa) hm
  have HN : Hid (∃ X, X = (startS me pa l)) := hidI ⟨_, rfl⟩
  have cL := fun (X : World) (x : Value) (g : w.grownBy X none) (y1 : X.cell? ⟨p, 0, none⟩ = some (.int .i64 me)) (y2 : X.cell? ⟨p + 1, 0, none⟩ = some (.int .i64 pa)) (k : rd X x (startS me pa l).im) => sideAs_gen 10 #[.pointer (some ⟨p, 0, none⟩), .pointer (some ⟨p + 1, 0, none⟩)] zeroS (startS me pa l) l (startE me pa l.length) (.slice none 0 0) (.slice ua l.length uc) x X (rd_nil _) (rd_grown hu g) k (by simp [zeroS]) hm hxl (enters_of Try.func10 (by kernel_rfl) rfl) (fun W v' u' g1 k1 k2 => startL_any zeroS l v' u' me pa p (p + 1) W k1 (by simp [zeroS]) k2 hm (g1.cell y1 (by simp)) (g1.cell y2 (by simp)))
  obtain ⟨xa, xc, hxe, _⟩ := id hxr
  rw [hxe] at cR hxr
  generalize (startS me pa l) = RR at *
  generalize (startE me pa l.length) = EE at *
  clear hxe
  dsimp only [sdV, sdA, btV, btA] at *
  go_enter Try.func3, Try.ntmps3
  go_upto_region 1 with fail
  clear hp
  generalize (w.alloc (.cells #[.int .i64 me] 3)).alloc (.cells #[.int .i64 pa] 3) = W at *
  have x1 := at_cell B1 0
  have x2 := at_cell B2 0
  simp at x1 x2
  go_wp2_with fail
  refine cR.mono ?_
  rintro e w1 ⟨rfl, g1⟩
  dsimp only [sdV, sdA] at *
  obtain ⟨q, hq⟩ : ∃ q, w1.heap.size = q := ⟨_, rfl⟩
  have gA : w1.grownBy (w1.alloc (.cells #[.int .i64 RR.me, .bool RR.ac, .int .i64 RR.te, .int .i64 RR.cy, .slice xa RR.im.length xc, .int .i64 RR.si, .int .i64 RR.pa] 24)) none := gr_alloc (World.grownBy.refl _ _) _
  have C := hp_new hq.symm (.cells #[.int .i64 RR.me, .bool RR.ac, .int .i64 RR.te, .int .i64 RR.cy, .slice xa RR.im.length xc, .int .i64 RR.si, .int .i64 RR.pa] 24)
  have g2 := grown_join g1 gA (.inl rfl)
  have B1 := kept g2 B1
  have B2 := kept g2 B2
  have gW := grown_join hgW g2 (.inl rfl)
  have cL := cL (w1.alloc (.cells #[.int .i64 RR.me, .bool RR.ac, .int .i64 RR.te, .int .i64 RR.cy, .slice xa RR.im.length xc, .int .i64 RR.si, .int .i64 RR.pa] 24)) _ gW (at_cell B1 0) (at_cell B2 0) (rd_grown hxr gW)
  clear g1 gA g2 cR
  try dsimp only [sdV, sdA] at *
  obtain ⟨m0, m1, m2, m3, m4, m5, m6⟩ := at7 C
  have HG := hidI gW
  clear C hgW gW HN B1 B2
  go_wp2_with fail
  refine cL.mono ?_
  rintro e w2 ⟨rfl, g3⟩
  go_wp2
  go_ret
  exact ⟨rfl, grown_join HG.out g3 (.inl rfl)⟩
end Go.Proofs.Ytnklkhcldcljaaa
