/- The law of Send. -/
import Derived.Test.YtnklkhcldcljaaaK
namespace Go.Proofs.Ytnklkhcldcljaaa
open Go.RowKit
attribute [local go_sem ↓] Go.wp_at_zero Go.wp_at_succ
set_option linter.unusedVariables false
set_option linter.unusedSimpArgs false

theorem rd_send {w : World} {L : Sd} {v : Value} (hv : rd w v L.im) : rd w (refV (stE L (sendE L)) v) (sendB L).im := by
  unfold refV sendB
  split
  · exact hv
  · exact rd_nil w
theorem len_send {L : Sd} {N : Nat} (hv : L.im.length ≤ N) : (sendB L).im.length ≤ N := by
  unfold sendB
  split
  · exact hv
  · exact Nat.zero_le _
set_option maxRecDepth 10000 in
set_option maxHeartbeats 2000000 in
theorem sendLaw_any (L : Sd) (v : Value) (w : World) (hv : rd w v L.im) (hl : L.im.length ≤ 17592186043904) : Calls Try.prog 4 #[sdV L v] w fun e w' => e = .returned (.bool true) ∧ w.grownBy w' none := by
  have cSd := fun (X : World) (v' : Value) (k : rd X v' L.im) => send_any L v' X k hl
  have hxr := rd_send hv
  have hr := len_send (L := L) hl
  have cRf := fun (X : World) (k : rd X v L.im) => sent_any L v X k
  have cL : ∀ (W : World) (a b : Value), rd W a L.im → rd W b L.im → Calls Try.prog 16 #[sdV L a, sdV L b] W fun e w' => e = .returned (.bool true) ∧ W.grownBy w' none := fun W a b h1 h2 => sameSide_yes L a b W h1 h2 hl
  obtain ⟨xa, xc, hxe, _⟩ := id hxr
  rw [hxe] at cRf hxr
  generalize sendB L = R at *
  generalize stE L (sendE L) = EE at *
  clear hxe
  have cR : ∀ (W : World) (a b : Value), rd W a R.im → rd W b R.im → Calls Try.prog 15 #[btV R a, btV R b] W fun e w' => e = .returned (.bool true) ∧ W.grownBy w' none := fun W a b h1 h2 => sameBeat_yes R a b W h1 h2 hr
  obtain ⟨va, vc, rfl, _⟩ := id hv
  obtain ⟨p, hp⟩ : ∃ p, w.heap.size = p := ⟨_, rfl⟩
  have B1 : (w.alloc (.cells #[.int .i64 L.me, .bool L.ac, .int .i64 L.te, .int .i64 L.cy, .slice va L.im.length vc, .int .i64 L.si, .int .i64 L.pa] 24)).heap[p]? = some (.cells #[.int .i64 L.me, .bool L.ac, .int .i64 L.te, .int .i64 L.cy, .slice va L.im.length vc, .int .i64 L.si, .int .i64 L.pa] 24) := hp_new hp.symm _
  have hgW : w.grownBy (w.alloc (.cells #[.int .i64 L.me, .bool L.ac, .int .i64 L.te, .int .i64 L.cy, .slice va L.im.length vc, .int .i64 L.si, .int .i64 L.pa] 24)) none := gr_alloc (World.grownBy.refl _ _) _
  have cRf := cRf _ (rd_grown hv hgW)
  dsimp only [sdV, sdA, btV, btA] at *
  go_enter Try.func4, Try.ntmps4
  go_upto_region 1 with fail
  have HP := hidI hp
  clear hp
  generalize w.alloc (.cells #[.int .i64 L.me, .bool L.ac, .int .i64 L.te, .int .i64 L.cy, .slice va L.im.length vc, .int .i64 L.si, .int .i64 L.pa] 24) = W at *
  obtain ⟨i0, i1, i2, i3, i4, i5, i6⟩ := at7 B1
  go_wp2_with fail
  refine cRf.mono ?_
  rintro e w1 ⟨rfl, g1⟩
  dsimp only [btV, btA] at *
  clear i0 i1 i2 i3 i4 i5 i6 cRf
  obtain ⟨q0, hq0⟩ : ∃ q, w1.heap.size = q := ⟨_, rfl⟩
  go_upto_region 2 with fail
  have gA : w1.grownBy (w1.alloc (.cells #[.int .i64 R.fr, .int .i64 R.te, .int .i64 R.cy, .slice xa R.im.length xc] 32)) none := gr_alloc (World.grownBy.refl _ _) _
  have C2 := hp_new hq0.symm (.cells #[.int .i64 R.fr, .int .i64 R.te, .int .i64 R.cy, .slice xa R.im.length xc] 32)
  obtain ⟨W1, hW1⟩ : ∃ X, w1.alloc (.cells #[.int .i64 R.fr, .int .i64 R.te, .int .i64 R.cy, .slice xa R.im.length xc] 32) = X := ⟨_, rfl⟩
  have HS1 := hidI (show W1.heap.size = q0 + 1 by rw [← hW1, ← hq0]; simp)
  rw [hW1] at gA C2 ⊢
  have g1A := grown_join g1 gA (.inl rfl)
  have C1 := kept g1A B1
  have gw := grown_join hgW g1A (.inl rfl)
  have HZ1 := hidI (And.intro hq0 (And.intro g1.size (And.intro hgW.size (at_lt B1))))
  clear B1 hgW g1 gA g1A hW1 hq0
  obtain ⟨i0, i1, i2, i3, i4, i5, i6⟩ := at7 C1
  obtain ⟨q1, hq1⟩ : ∃ q, W1.heap.size = q := ⟨_, rfl⟩
  go_upto_region 3 with fail
  have gA : W1.grownBy (W1.alloc (.cells #[.int .i64 L.me, .bool L.ac, .int .i64 L.te, .int .i64 L.cy, .slice va L.im.length vc, .int .i64 L.si, .int .i64 L.pa] 24)) none := gr_alloc (World.grownBy.refl _ _) _
  have C3 := hp_new hq1.symm (.cells #[.int .i64 L.me, .bool L.ac, .int .i64 L.te, .int .i64 L.cy, .slice va L.im.length vc, .int .i64 L.si, .int .i64 L.pa] 24)
  obtain ⟨W2, hW2⟩ : ∃ X, W1.alloc (.cells #[.int .i64 L.me, .bool L.ac, .int .i64 L.te, .int .i64 L.cy, .slice va L.im.length vc, .int .i64 L.si, .int .i64 L.pa] 24) = X := ⟨_, rfl⟩
  have HS2 := hidI (show W2.heap.size = q1 + 1 by rw [← hW2, ← hq1]; simp)
  rw [hW2] at gA C3 ⊢
  have C1 := kept gA C1
  have C2 := kept gA C2
  have gw := grown_join gw gA (.inl rfl)
  have HZ2 := hidI hq1
  clear gA hW2 hq1 i0 i1 i2 i3 i4 i5 i6
  obtain ⟨ha, hc, w2, hrun, oh, g2⟩ := copyL (rd_grown hv gw) hl
  have HRUN := hidI hrun
  clear hrun
  obtain ⟨i0, i1, i2, i3, i4, i5, i6⟩ := at7 C1
  obtain ⟨j0, j1, j2, j3, j4, j5, j6⟩ := at7 C3
  obtain ⟨f0, f1, f2, f3, f4, f5, f6⟩ := fz7 C3
  go_wp2_with (first | (at_builtin; refine hidG ?_))
  refine hidI ?_
  refine wpList_append_run rfl _ _ 22 rfl _ _ _ w2 rfl rfl HRUN.out ?_
  clear i0 i1 i2 i3 i4 i5 i6 j0 j1 j2 j3 j4 j5 j6 f0 f1 f2 f3 f4 f5 f6 HRUN
  have D3 := kept g2 C3
  obtain ⟨j0, j1, j2, j3, j4, j5, j6⟩ := at7 D3
  obtain ⟨f0, f1, f2, f3, f4, f5, f6⟩ := fz7 D3
  go_upto_region 4 with fail
  have E3 : (w2.setCell ⟨q1, 4, none⟩ (.slice ha L.im.length hc)).heap[q1]? = some (.cells #[.int .i64 L.me, .bool L.ac, .int .i64 L.te, .int .i64 L.cy, .slice ha L.im.length hc, .int .i64 L.si, .int .i64 L.pa] 24) := by
    have := at_set D3 4 (.slice ha L.im.length hc)
    simpa using this
  have gs := gr_set (World.grownBy.refl w2 (some q1)) 4 (.slice ha L.im.length hc)
  have E1 := keptBut gs (kept g2 C1) (by have := HZ1.out; have := HZ2.out; have := HS1.out; omega)
  have E2 := keptBut gs (kept g2 C2) (by have := HZ1.out; have := HZ2.out; have := HS1.out; omega)
  have gw := gr_own (p := q1) (grown_join gw g2 (.inl rfl)) (by have := HZ1.out; have := HZ2.out; have := HS1.out; omega) 4 (.slice ha L.im.length hc)
  have OH : OwnL W2.heap.size (w2.setCell ⟨q1, 4, none⟩ (.slice ha L.im.length hc)) ha hc L.im := own_but oh gs (by have := HS2.out; omega)
  have HZ3 : Hid (W2.heap.size ≤ (w2.setCell ⟨q1, 4, none⟩ (.slice ha L.im.length hc)).heap.size) := hidI (by simpa using g2.size)
  clear gs D3 C1 C2 C3 g2 oh j0 j1 j2 j3 j4 j5 j6 f0 f1 f2 f3 f4 f5 f6
  generalize w2.setCell ⟨q1, 4, none⟩ (.slice ha L.im.length hc) = X2 at *
  have HRh := hidI (fun y (hy : (Value.slice ha L.im.length hc).ownBlock = some y) => World.ownsRow.lt OH y hy)
  obtain ⟨j0, j1, j2, j3, j4, j5, j6⟩ := at7 E3
  go_wp2_with fail
  refine (cSd _ _ OH.rd).mono ?_
  rintro e w3 ⟨aa, ac, rfl, OA, g3⟩
  try dsimp only [btV, btA] at *
  clear j0 j1 j2 j3 j4 j5 j6
  obtain ⟨q2, hq⟩ : ∃ q, w3.heap.size = q := ⟨_, rfl⟩
  go_upto_region 5 with fail
  have HRa := hidI (fun y (hy : (Value.slice aa R.im.length ac).ownBlock = some y) => World.ownsRow.lt OA y hy)
  have gA : w3.grownBy (w3.alloc (.cells #[.int .i64 R.fr, .int .i64 R.te, .int .i64 R.cy, .slice aa R.im.length ac] 32)) none := gr_alloc (World.grownBy.refl _ _) _
  have E4 := hp_new hq.symm (.cells #[.int .i64 R.fr, .int .i64 R.te, .int .i64 R.cy, .slice aa R.im.length ac] 32)
  obtain ⟨W3, hW⟩ : ∃ X, w3.alloc (.cells #[.int .i64 R.fr, .int .i64 R.te, .int .i64 R.cy, .slice aa R.im.length ac] 32) = X := ⟨_, rfl⟩
  have HT3 := hidI (show W3.heap.size = q2 + 1 by rw [← hW, ← hq]; simp)
  rw [hW] at gA E4 ⊢
  have gB := grown_join g3 gA (.inl rfl)
  have E1 := kept gB E1
  have E2 := kept gB E2
  have E3 := kept gB E3
  have OH := OwnL.kept OH gB
  have OA := OwnL.kept OA gA
  have gw := grown_join gw gB (.inl rfl)
  have HU3 := hidI (And.intro g3.size hq)
  clear g3 gA gB hW hq
  obtain ⟨j0, j1, j2, j3, j4, j5, j6⟩ := at7 E3
  go_wp2_with fail
  refine (cSd _ _ OH.rd).mono ?_
  rintro e w4 ⟨ba, bc, rfl, OB, g4⟩
  try dsimp only [btV, btA] at *
  clear j0 j1 j2 j3 j4 j5 j6
  obtain ⟨q3, hq⟩ : ∃ q, w4.heap.size = q := ⟨_, rfl⟩
  go_upto_region 6 with fail
  have HRb := hidI (fun y (hy : (Value.slice ba R.im.length bc).ownBlock = some y) => World.ownsRow.lt OB y hy)
  have gA : w4.grownBy (w4.alloc (.cells #[.int .i64 R.fr, .int .i64 R.te, .int .i64 R.cy, .slice ba R.im.length bc] 32)) none := gr_alloc (World.grownBy.refl _ _) _
  have E5 := hp_new hq.symm (.cells #[.int .i64 R.fr, .int .i64 R.te, .int .i64 R.cy, .slice ba R.im.length bc] 32)
  obtain ⟨W4, hW⟩ : ∃ X, w4.alloc (.cells #[.int .i64 R.fr, .int .i64 R.te, .int .i64 R.cy, .slice ba R.im.length bc] 32) = X := ⟨_, rfl⟩
  have HT4 := hidI (show W4.heap.size = q3 + 1 by rw [← hW, ← hq]; simp)
  rw [hW] at gA E5 ⊢
  have gB := grown_join g4 gA (.inl rfl)
  have E1 := kept gB E1
  have E2 := kept gB E2
  have E3 := kept gB E3
  have E4 := kept gB E4
  have OH := OwnL.kept OH gB
  have OA := OwnL.kept OA gB
  have OB := OwnL.kept OB gA
  have gw := grown_join gw gB (.inl rfl)
  have HU4 := hidI (And.intro g4.size hq)
  clear g4 gA gB hW hq
  obtain ⟨i0, i1, i2, i3⟩ := at4 E4
  obtain ⟨j0, j1, j2, j3⟩ := at4 E2
  go_wp2_with fail
  refine (cR _ _ _ OA.rd (rd_grown hxr gw)).mono ?_
  rintro e w6 ⟨rfl, g6⟩
  clear i0 i1 i2 i3 j0 j1 j2 j3
  have E1 := kept g6 E1
  have E2 := kept g6 E2
  have E3 := kept g6 E3
  have E4 := kept g6 E4
  have E5 := kept g6 E5
  have OH := OwnL.kept OH g6
  have OA := OwnL.kept OA g6
  have OB := OwnL.kept OB g6
  have gw := grown_join gw g6 (.inl rfl)
  have HY6 := hidI g6.size
  clear g6
  obtain ⟨i0, i1, i2, i3⟩ := at4 E5
  obtain ⟨j0, j1, j2, j3⟩ := at4 E2
  go_wp2_with fail
  refine (cR _ _ _ OB.rd (rd_grown hxr gw)).mono ?_
  rintro e w7 ⟨rfl, g7⟩
  clear i0 i1 i2 i3 j0 j1 j2 j3
  have E1 := kept g7 E1
  have E2 := kept g7 E2
  have E3 := kept g7 E3
  have E4 := kept g7 E4
  have E5 := kept g7 E5
  have OH := OwnL.kept OH g7
  have OA := OwnL.kept OA g7
  have OB := OwnL.kept OB g7
  have gw := grown_join gw g7 (.inl rfl)
  have HY7 := hidI g7.size
  clear g7
  obtain ⟨i0, i1, i2, i3, i4, i5, i6⟩ := at7 E3
  obtain ⟨j0, j1, j2, j3, j4, j5, j6⟩ := at7 E1
  go_wp2_with fail
  refine (cL _ _ _ OH.rd (rd_grown hv gw)).mono ?_
  rintro e w8 ⟨rfl, g8⟩
  clear i0 i1 i2 i3 i4 i5 i6 j0 j1 j2 j3 j4 j5 j6
  have E1 := kept g8 E1
  have E2 := kept g8 E2
  have E3 := kept g8 E3
  have E4 := kept g8 E4
  have E5 := kept g8 E5
  have OH := OwnL.kept OH g8
  have OA := OwnL.kept OA g8
  have OB := OwnL.kept OB g8
  have gw := grown_join gw g8 (.inl rfl)
  have HY8 := hidI g8.size
  clear g8
  have HSZ := hidI (And.intro HP.out (And.intro HZ1.out (And.intro HS1.out (And.intro HZ2.out (And.intro HS2.out (And.intro HZ3.out (And.intro HU3.out (And.intro HT3.out (And.intro HU4.out (And.intro HT4.out (And.intro HY6.out (And.intro HY7.out HY8.out))))))))))))
  clear HP HZ1 HS1 HZ2 HS2 HZ3 HU3 HT3 HU4 HT4 HY6 HY7 HY8 E1
  go_upto_region 8 with fail
  obtain ⟨i0, i1, i2, i3⟩ := at4 E4
  go_wp2_with fail
  refine (over_any _ _ _ _ _ (by omega) OA).mono ?_
  rintro e w11 ⟨rfl, g11⟩
  have sz := HSZ.out
  have rr := HRa.out
  clear i0 i1 i2 i3
  have E2 : w11.heap[q0]? = _ := (g11.block _ (at_lt E2) (fun e => by have := rr _ e.symm; omega)).trans E2
  have E3 : w11.heap[q1]? = _ := (g11.block _ (at_lt E3) (fun e => by have := rr _ e.symm; omega)).trans E3
  have E5 : w11.heap[q3]? = _ := (g11.block _ (at_lt E5) (fun e => by have := rr _ e.symm; omega)).trans E5
  have OH : OwnL _ w11 _ _ _ := own_ne OH g11 (fun y hy e => by have := rr y e; have := HRh.out y hy; omega)
  have OB : OwnL _ w11 _ _ _ := own_ne OB g11 (fun y hy e => by have := rr y e; have := HRb.out y hy; omega)
  have gw := grown_join gw g11 (.inr fun y hy => by have := rr y hy; omega)
  clear g11 sz rr
  obtain ⟨i0, i1, i2, i3, i4, i5, i6⟩ := at7 E3
  go_wp2_with fail
  refine (over_any _ _ _ _ _ (by omega) OH).mono ?_
  rintro e w12 ⟨rfl, g12⟩
  have sz := HSZ.out
  have rr := HRh.out
  clear i0 i1 i2 i3 i4 i5 i6
  have E2 : w12.heap[q0]? = _ := (g12.block _ (at_lt E2) (fun e => by have := rr _ e.symm; omega)).trans E2
  have E5 : w12.heap[q3]? = _ := (g12.block _ (at_lt E5) (fun e => by have := rr _ e.symm; omega)).trans E5
  have OB : OwnL _ w12 _ _ _ := own_ne OB g12 (fun y hy e => by have := rr y e; have := HRb.out y hy; omega)
  have gw := grown_join gw g12 (.inr fun y hy => by have := rr y hy; omega)
  clear g12 sz rr
  obtain ⟨i0, i1, i2, i3⟩ := at4 E5
  obtain ⟨j0, j1, j2, j3⟩ := at4 E2
  go_wp2_with fail
  refine (cR _ _ _ OB.rd (rd_grown hxr gw)).mono ?_
  rintro e w14 ⟨rfl, g14⟩
  go_wp2
  go_ret
  exact ⟨rfl, grown_join gw g14 (.inl rfl)⟩
end Go.Proofs.Ytnklkhcldcljaaa
