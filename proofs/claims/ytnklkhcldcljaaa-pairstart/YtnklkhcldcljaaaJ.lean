/- The law's walk over a side, whatever is called. -/
import Derived.Test.YtnklkhcldcljaaaI
namespace Go.Proofs.Ytnklkhcldcljaaa
open Go.RowKit
attribute [local go_sem ↓] Go.wp_at_zero Go.wp_at_succ
set_option linter.unusedVariables false
set_option linter.unusedSimpArgs false

set_option maxRecDepth 10000 in
set_option maxHeartbeats 2000000 in
theorem sideAs_gen (f : FuncId) (caps : Array Value) (L R : Sd) (l : List Int) (E : Nat) (v u x : Value) (w : World) (hv : rd w v L.im) (hu : rd w u l) (hx : rd w x R.im) (hl : L.im.length ≤ 17592186043904) (hm : l.length ≤ 17592186043904) (hr : R.im.length ≤ 17592186043904) (hf : ∀ (args : Array Value) (W : World), (callFunc f args).run Try.prog W = .ok (.enter f args) W)
    (hcall : ∀ (W : World) (v' u' : Value), w.grownBy W none → rd W v' L.im → rd W u' l → Calls Try.prog f (#[sdV L v', u'] ++ caps) W fun e w' => StE W w' e R E) :
    Calls Try.prog 12 #[.func (.func f) #[] caps, sdV L v, u, sdV R x, .int .i64 (E : Int)] w fun e w' => e = .returned (.bool true) ∧ w.grownBy w' none := by
  have cR : ∀ (W : World) (a b : Value), rd W a R.im → rd W b R.im → Calls Try.prog 16 #[sdV R a, sdV R b] W fun e w' => e = .returned (.bool true) ∧ W.grownBy w' none := fun W a b h1 h2 => sameSide_yes R a b W h1 h2 hr
  have cL : ∀ (W : World) (a b : Value), rd W a L.im → rd W b L.im → Calls Try.prog 16 #[sdV L a, sdV L b] W fun e w' => e = .returned (.bool true) ∧ W.grownBy w' none := fun W a b h1 h2 => sameSide_yes L a b W h1 h2 hl
  obtain ⟨va, vc, rfl, _⟩ := id hv
  obtain ⟨ua, uc, rfl, _⟩ := id hu
  obtain ⟨xa, xc, rfl, _⟩ := id hx
  obtain ⟨p, hp⟩ : ∃ p, w.heap.size = p := ⟨_, rfl⟩
  have B1 : ((w.alloc (.cells #[.int .i64 L.me, .bool L.ac, .int .i64 L.te, .int .i64 L.cy, .slice va L.im.length vc, .int .i64 L.si, .int .i64 L.pa] 24)).alloc (.cells #[.int .i64 R.me, .bool R.ac, .int .i64 R.te, .int .i64 R.cy, .slice xa R.im.length xc, .int .i64 R.si, .int .i64 R.pa] 24)).heap[p]? = some (.cells #[.int .i64 L.me, .bool L.ac, .int .i64 L.te, .int .i64 L.cy, .slice va L.im.length vc, .int .i64 L.si, .int .i64 L.pa] 24) := by
    rw [hp_old (by simp; omega)]; exact hp_new hp.symm _
  have B2 : ((w.alloc (.cells #[.int .i64 L.me, .bool L.ac, .int .i64 L.te, .int .i64 L.cy, .slice va L.im.length vc, .int .i64 L.si, .int .i64 L.pa] 24)).alloc (.cells #[.int .i64 R.me, .bool R.ac, .int .i64 R.te, .int .i64 R.cy, .slice xa R.im.length xc, .int .i64 R.si, .int .i64 R.pa] 24)).heap[p + 1]? = some (.cells #[.int .i64 R.me, .bool R.ac, .int .i64 R.te, .int .i64 R.cy, .slice xa R.im.length xc, .int .i64 R.si, .int .i64 R.pa] 24) := hp_new (by simp; omega) _
  have hgW : w.grownBy ((w.alloc (.cells #[.int .i64 L.me, .bool L.ac, .int .i64 L.te, .int .i64 L.cy, .slice va L.im.length vc, .int .i64 L.si, .int .i64 L.pa] 24)).alloc (.cells #[.int .i64 R.me, .bool R.ac, .int .i64 R.te, .int .i64 R.cy, .slice xa R.im.length xc, .int .i64 R.si, .int .i64 R.pa] 24)) none := gr_alloc (gr_alloc (World.grownBy.refl _ _) _) _
  dsimp only [sdV, sdA] at *
  go_enter Try.func12, Try.ntmps12
  go_upto_region 1 with fail
  have HP := hidI hp
  clear hp
  generalize (w.alloc (.cells #[.int .i64 L.me, .bool L.ac, .int .i64 L.te, .int .i64 L.cy, .slice va L.im.length vc, .int .i64 L.si, .int .i64 L.pa] 24)).alloc (.cells #[.int .i64 R.me, .bool R.ac, .int .i64 R.te, .int .i64 R.cy, .slice xa R.im.length xc, .int .i64 R.si, .int .i64 R.pa] 24) = W at *
  obtain ⟨i0, i1, i2, i3, i4, i5, i6⟩ := at7 B1
  obtain ⟨q0, hq0⟩ : ∃ q, W.heap.size = q := ⟨_, rfl⟩
  go_upto_region 2 with fail
  have C1 := (hp_old (at_lt B1) (.cells #[.int .i64 L.me, .bool L.ac, .int .i64 L.te, .int .i64 L.cy, .slice va L.im.length vc, .int .i64 L.si, .int .i64 L.pa] 24)).trans B1
  have C2 := (hp_old (at_lt B2) (.cells #[.int .i64 L.me, .bool L.ac, .int .i64 L.te, .int .i64 L.cy, .slice va L.im.length vc, .int .i64 L.si, .int .i64 L.pa] 24)).trans B2
  have C3 := hp_new hq0.symm (.cells #[.int .i64 L.me, .bool L.ac, .int .i64 L.te, .int .i64 L.cy, .slice va L.im.length vc, .int .i64 L.si, .int .i64 L.pa] 24)
  have gC := gr_alloc hgW (.cells #[.int .i64 L.me, .bool L.ac, .int .i64 L.te, .int .i64 L.cy, .slice va L.im.length vc, .int .i64 L.si, .int .i64 L.pa] 24)
  have HQ0 := hidI (And.intro hq0 (And.intro (at_lt B2) hgW.size))
  clear hq0 B1 B2 hgW i0 i1 i2 i3 i4 i5 i6
  obtain ⟨W1, hW1⟩ : ∃ W1, W.alloc (.cells #[.int .i64 L.me, .bool L.ac, .int .i64 L.te, .int .i64 L.cy, .slice va L.im.length vc, .int .i64 L.si, .int .i64 L.pa] 24) = W1 := ⟨_, rfl⟩
  have HS1 := hidI (show W1.heap.size = q0 + 1 by rw [← hW1, ← HQ0.out.1]; simp)
  rw [hW1] at C1 C2 C3 gC ⊢
  clear hW1
  obtain ⟨ha, hc, w2, hrun, oh, g2⟩ := copyL (rd_grown hv gC) hl
  have HRUN := hidI hrun
  clear hrun
  obtain ⟨i0, i1, i2, i3, i4, i5, i6⟩ := at7 C1
  obtain ⟨j0, j1, j2, j3, j4, j5, j6⟩ := at7 C3
  obtain ⟨f0, f1, f2, f3, f4, f5, f6⟩ := fz7 C3
  go_wp2_with (first | (at_builtin; refine hidG ?_))
  refine hidI ?_
  refine wpList_append_run rfl _ _ 22 rfl _ _ _ w2 rfl rfl HRUN.out ?_
  clear i0 i1 i2 i3 i4 i5 i6 j0 j1 j2 j3 j4 j5 j6 f0 f1 f2 f3 f4 f5 f6 HRUN
  have D3 := kept g2 C3
  obtain ⟨j0, j1, j2, j3, j4, j5, j6⟩ := at7 D3
  obtain ⟨f0, f1, f2, f3, f4, f5, f6⟩ := fz7 D3
  go_upto_region 3 with fail
  have E3 : (w2.setCell ⟨q0, 4, none⟩ (.slice ha L.im.length hc)).heap[q0]? = some (.cells #[.int .i64 L.me, .bool L.ac, .int .i64 L.te, .int .i64 L.cy, .slice ha L.im.length hc, .int .i64 L.si, .int .i64 L.pa] 24) := by
    have := at_set D3 4 (.slice ha L.im.length hc)
    simpa using this
  have gs := gr_set (World.grownBy.refl w2 (some q0)) 4 (.slice ha L.im.length hc)
  have E1 := keptBut gs (kept g2 C1) (by have := HQ0.out; omega)
  have E2 := keptBut gs (kept g2 C2) (by have := HQ0.out; omega)
  have gX : w.grownBy (w2.setCell ⟨q0, 4, none⟩ (.slice ha L.im.length hc)) none := gr_own (grown_join gC g2 (.inl rfl)) (by have := HQ0.out; omega) _ _
  have OH : OwnL W1.heap.size (w2.setCell ⟨q0, 4, none⟩ (.slice ha L.im.length hc)) ha hc L.im := own_but oh gs (by have := HS1.out; omega)
  have HZ2 : Hid (W1.heap.size ≤ (w2.setCell ⟨q0, 4, none⟩ (.slice ha L.im.length hc)).heap.size) := hidI (by simpa using g2.size)
  clear gs D3 C1 C2 C3 gC g2 oh j0 j1 j2 j3 j4 j5 j6 f0 f1 f2 f3 f4 f5 f6
  generalize w2.setCell ⟨q0, 4, none⟩ (.slice ha L.im.length hc) = X2 at *
  have HRh := hidI (fun y (hy : (Value.slice ha L.im.length hc).ownBlock = some y) => World.ownsRow.lt OH y hy)
  obtain ⟨la, lc, w3, hrun, OL, g3⟩ := copyL (rd_grown hu gX) hm
  have HRUN := hidI hrun
  clear hrun
  go_wp2_with (first | (at_builtin; refine hidG ?_))
  refine hidI ?_
  refine wpList_append_run rfl _ _ 22 rfl _ _ _ w3 rfl rfl HRUN.out ?_
  clear HRUN
  have HRl := hidI (fun y (hy : (Value.slice la l.length lc).ownBlock = some y) => World.ownsRow.lt OL y hy)
  have F1 := kept g3 E1
  have F2 := kept g3 E2
  have F3 := kept g3 E3
  have OH := OwnL.kept OH g3
  have gw3 := grown_join gX g3 (.inl rfl)
  have HZ3 := hidI g3.size
  clear E1 E2 E3 g3 gX
  have c4 := hcall w3 (.slice ha L.im.length hc) (.slice la l.length lc) gw3 OH.rd OL.rd
  go_upto_region 4 with fail
  obtain ⟨j0, j1, j2, j3, j4, j5, j6⟩ := at7 F3
  go_wp2_with fail
  refine c4.mono ?_
  rintro e w4 ⟨aa, ac, rfl, OA, g4⟩
  try dsimp only [sdV, sdA] at *
  clear c4 j0 j1 j2 j3 j4 j5 j6
  obtain ⟨q1, hq1⟩ : ∃ q, w4.heap.size = q := ⟨_, rfl⟩
  go_upto_region 5 with fail
  have HRa := hidI (fun y (hy : (Value.slice aa R.im.length ac).ownBlock = some y) => World.ownsRow.lt OA y hy)
  have gA : w4.grownBy (w4.alloc (.cells #[.int .i64 R.me, .bool R.ac, .int .i64 R.te, .int .i64 R.cy, .slice aa R.im.length ac, .int .i64 R.si, .int .i64 R.pa] 24)) none := gr_alloc (World.grownBy.refl _ _) _
  have G4 := hp_new hq1.symm (.cells #[.int .i64 R.me, .bool R.ac, .int .i64 R.te, .int .i64 R.cy, .slice aa R.im.length ac, .int .i64 R.si, .int .i64 R.pa] 24)
  obtain ⟨W4, hW4⟩ : ∃ X, w4.alloc (.cells #[.int .i64 R.me, .bool R.ac, .int .i64 R.te, .int .i64 R.cy, .slice aa R.im.length ac, .int .i64 R.si, .int .i64 R.pa] 24) = X := ⟨_, rfl⟩
  have HS4 := hidI (show W4.heap.size = q1 + 1 by rw [← hW4, ← hq1]; simp)
  rw [hW4] at gA G4 ⊢
  have g4A := grown_join g4 gA (.inl rfl)
  have G1 := kept g4A F1
  have G2 := kept g4A F2
  have G3 := kept g4A F3
  have OH := OwnL.kept OH g4A
  have OL := OwnL.kept OL g4A
  have OA := OwnL.kept OA gA
  have gw4 := grown_join gw3 g4A (.inl rfl)
  have HZ4 := hidI (And.intro g4.size hq1)
  clear F1 F2 F3 g4 gA g4A hW4 hq1
  have c5 := hcall W4 (.slice ha L.im.length hc) (.slice la l.length lc) gw4 OH.rd OL.rd
  obtain ⟨j0, j1, j2, j3, j4, j5, j6⟩ := at7 G3
  go_wp2_with fail
  refine c5.mono ?_
  rintro e w5 ⟨ba, bc, rfl, OB, g5⟩
  try dsimp only [sdV, sdA] at *
  clear c5 j0 j1 j2 j3 j4 j5 j6
  obtain ⟨q2, hq2⟩ : ∃ q, w5.heap.size = q := ⟨_, rfl⟩
  go_upto_region 6 with fail
  have HRb := hidI (fun y (hy : (Value.slice ba R.im.length bc).ownBlock = some y) => World.ownsRow.lt OB y hy)
  have gA : w5.grownBy (w5.alloc (.cells #[.int .i64 R.me, .bool R.ac, .int .i64 R.te, .int .i64 R.cy, .slice ba R.im.length bc, .int .i64 R.si, .int .i64 R.pa] 24)) none := gr_alloc (World.grownBy.refl _ _) _
  have K5 := hp_new hq2.symm (.cells #[.int .i64 R.me, .bool R.ac, .int .i64 R.te, .int .i64 R.cy, .slice ba R.im.length bc, .int .i64 R.si, .int .i64 R.pa] 24)
  obtain ⟨W5, hW5⟩ : ∃ X, w5.alloc (.cells #[.int .i64 R.me, .bool R.ac, .int .i64 R.te, .int .i64 R.cy, .slice ba R.im.length bc, .int .i64 R.si, .int .i64 R.pa] 24) = X := ⟨_, rfl⟩
  have HS5 := hidI (show W5.heap.size = q2 + 1 by rw [← hW5, ← hq2]; simp)
  rw [hW5] at gA K5 ⊢
  have g5A := grown_join g5 gA (.inl rfl)
  have K1 := kept g5A G1
  have K2 := kept g5A G2
  have K3 := kept g5A G3
  have K4 := kept g5A G4
  have OH := OwnL.kept OH g5A
  have OL := OwnL.kept OL g5A
  have OA := OwnL.kept OA g5A
  have OB := OwnL.kept OB gA
  have gw := grown_join gw4 g5A (.inl rfl)
  have HZ5 := hidI (And.intro g5.size hq2)
  clear G1 G2 G3 G4 g5 gA g5A hW5 hq2 gw3 gw4 hcall hf
  obtain ⟨i0, i1, i2, i3, i4, i5, i6⟩ := at7 K4
  obtain ⟨j0, j1, j2, j3, j4, j5, j6⟩ := at7 K2
  go_wp2_with fail
  refine (cR _ _ _ OA.rd (rd_grown hx gw)).mono ?_
  rintro e w6 ⟨rfl, g6⟩
  clear i0 i1 i2 i3 i4 i5 i6 j0 j1 j2 j3 j4 j5 j6
  have K1 := kept g6 K1
  have K2 := kept g6 K2
  have K3 := kept g6 K3
  have K4 := kept g6 K4
  have K5 := kept g6 K5
  have OH := OwnL.kept OH g6
  have OL := OwnL.kept OL g6
  have OA := OwnL.kept OA g6
  have OB := OwnL.kept OB g6
  have gw := grown_join gw g6 (.inl rfl)
  have HZ6 := hidI g6.size
  clear g6
  obtain ⟨i0, i1, i2, i3, i4, i5, i6⟩ := at7 K5
  obtain ⟨j0, j1, j2, j3, j4, j5, j6⟩ := at7 K2
  go_wp2_with fail
  refine (cR _ _ _ OB.rd (rd_grown hx gw)).mono ?_
  rintro e w7 ⟨rfl, g7⟩
  clear i0 i1 i2 i3 i4 i5 i6 j0 j1 j2 j3 j4 j5 j6
  have K1 := kept g7 K1
  have K2 := kept g7 K2
  have K3 := kept g7 K3
  have K4 := kept g7 K4
  have K5 := kept g7 K5
  have OH := OwnL.kept OH g7
  have OL := OwnL.kept OL g7
  have OA := OwnL.kept OA g7
  have OB := OwnL.kept OB g7
  have gw := grown_join gw g7 (.inl rfl)
  have HZ7 := hidI g7.size
  clear g7
  obtain ⟨i0, i1, i2, i3, i4, i5, i6⟩ := at7 K3
  obtain ⟨j0, j1, j2, j3, j4, j5, j6⟩ := at7 K1
  go_wp2_with fail
  refine (cL _ _ _ OH.rd (rd_grown hv gw)).mono ?_
  rintro e w8 ⟨rfl, g8⟩
  clear i0 i1 i2 i3 i4 i5 i6 j0 j1 j2 j3 j4 j5 j6
  have K1 := kept g8 K1
  have K2 := kept g8 K2
  have K3 := kept g8 K3
  have K4 := kept g8 K4
  have K5 := kept g8 K5
  have OH := OwnL.kept OH g8
  have OL := OwnL.kept OL g8
  have OA := OwnL.kept OA g8
  have OB := OwnL.kept OB g8
  have gw := grown_join gw g8 (.inl rfl)
  have HZ8 := hidI g8.size
  clear g8
  go_wp2_with fail
  refine (sameInts_yes _ _ _ _ OL.rd (rd_grown hu gw) (by omega)).mono ?_
  rintro e w9 ⟨rfl, g9⟩
  have K1 := kept g9 K1
  have K2 := kept g9 K2
  have K3 := kept g9 K3
  have K4 := kept g9 K4
  have K5 := kept g9 K5
  have OH := OwnL.kept OH g9
  have OL := OwnL.kept OL g9
  have OA := OwnL.kept OA g9
  have OB := OwnL.kept OB g9
  have gw := grown_join gw g9 (.inl rfl)
  have HZ9 := hidI g9.size
  clear g9
  obtain ⟨ka, kc, w10, hrun, OK, g10⟩ := copyL (rd_grown hx gw) hr
  have HRUN := hidI hrun
  clear hrun
  obtain ⟨i0, i1, i2, i3, i4, i5, i6⟩ := at7 K2
  go_wp2_with (first | (at_builtin; refine hidG ?_))
  refine hidI ?_
  refine wpList_append_run rfl _ _ 22 rfl _ _ _ w10 rfl rfl HRUN.out ?_
  clear HRUN i0 i1 i2 i3 i4 i5 i6
  have HRk := hidI (fun y (hy : (Value.slice ka R.im.length kc).ownBlock = some y) => World.ownsRow.lt OK y hy)
  have K3 := kept g10 K3
  have K4 := kept g10 K4
  have K5 := kept g10 K5
  have OH := OwnL.kept OH g10
  have OL := OwnL.kept OL g10
  have OA := OwnL.kept OA g10
  have OB := OwnL.kept OB g10
  have gw := grown_join gw g10 (.inl rfl)
  have HZ10 := hidI g10.size
  clear g10 K1 K2 hx hv hu
  have HSZ := hidI (And.intro HP.out (And.intro HQ0.out (And.intro HS1.out (And.intro HZ2.out (And.intro HZ3.out (And.intro HZ4.out (And.intro HS4.out (And.intro HZ5.out (And.intro HS5.out (And.intro HZ6.out (And.intro HZ7.out (And.intro HZ8.out (And.intro HZ9.out HZ10.out)))))))))))))
  clear HP HQ0 HS1 HZ2 HZ3 HZ4 HS4 HZ5 HS5 HZ6 HZ7 HZ8 HZ9 HZ10
  go_upto_region 9 with fail
  obtain ⟨i0, i1, i2, i3, i4, i5, i6⟩ := at7 K4
  go_wp2_with fail
  refine (over_any _ _ _ _ _ (by omega) OA).mono ?_
  rintro e w11 ⟨rfl, g11⟩
  have sz := HSZ.out
  have rr := HRa.out
  clear i0 i1 i2 i3 i4 i5 i6
  have K3 : w11.heap[q0]? = _ := (g11.block _ (at_lt K3) (fun e => by have := rr _ e.symm; omega)).trans K3
  have K5 : w11.heap[q2]? = _ := (g11.block _ (at_lt K5) (fun e => by have := rr _ e.symm; omega)).trans K5
  have OH : OwnL _ w11 _ _ _ := own_ne OH g11 (fun y hy e => by have := rr y e; have := HRh.out y hy; omega)
  have OL : OwnL _ w11 _ _ _ := own_ne OL g11 (fun y hy e => by have := rr y e; have := HRl.out y hy; omega)
  have OB : OwnL _ w11 _ _ _ := own_ne OB g11 (fun y hy e => by have := rr y e; have := HRb.out y hy; omega)
  have OK : OwnL _ w11 _ _ _ := own_ne OK g11 (fun y hy e => by have := rr y e; have := HRk.out y hy; omega)
  have gw := grown_join gw g11 (.inr fun y hy => by have := rr y hy; omega)
  clear g11 sz rr
  obtain ⟨i0, i1, i2, i3, i4, i5, i6⟩ := at7 K3
  go_wp2_with fail
  refine (over_any _ _ _ _ _ (by omega) OH).mono ?_
  rintro e w12 ⟨rfl, g12⟩
  have sz := HSZ.out
  have rr := HRh.out
  clear i0 i1 i2 i3 i4 i5 i6
  have K5 : w12.heap[q2]? = _ := (g12.block _ (at_lt K5) (fun e => by have := rr _ e.symm; omega)).trans K5
  have OL : OwnL _ w12 _ _ _ := own_ne OL g12 (fun y hy e => by have := rr y e; have := HRl.out y hy; omega)
  have OB : OwnL _ w12 _ _ _ := own_ne OB g12 (fun y hy e => by have := rr y e; have := HRb.out y hy; omega)
  have OK : OwnL _ w12 _ _ _ := own_ne OK g12 (fun y hy e => by have := rr y e; have := HRk.out y hy; omega)
  have gw := grown_join gw g12 (.inr fun y hy => by have := rr y hy; omega)
  clear g12 sz rr
  go_wp2_with fail
  refine (over_any _ _ _ _ _ (by omega) OL).mono ?_
  rintro e w13 ⟨rfl, g13⟩
  have sz := HSZ.out
  have rr := HRl.out
  have K5 : w13.heap[q2]? = _ := (g13.block _ (at_lt K5) (fun e => by have := rr _ e.symm; omega)).trans K5
  have OB : OwnL _ w13 _ _ _ := own_ne OB g13 (fun y hy e => by have := rr y e; have := HRb.out y hy; omega)
  have OK : OwnL _ w13 _ _ _ := own_ne OK g13 (fun y hy e => by have := rr y e; have := HRk.out y hy; omega)
  have gw := grown_join gw g13 (.inr fun y hy => by have := rr y hy; omega)
  clear g13 sz rr
  obtain ⟨i0, i1, i2, i3, i4, i5, i6⟩ := at7 K5
  go_wp2_with fail
  refine (sameInts_yes _ _ _ _ OB.rd OK.rd (by omega)).mono ?_
  rintro e w14 ⟨rfl, g14⟩
  go_wp2
  go_ret
  exact ⟨rfl, grown_join gw g14 (.inl rfl)⟩
end Go.Proofs.Ytnklkhcldcljaaa
