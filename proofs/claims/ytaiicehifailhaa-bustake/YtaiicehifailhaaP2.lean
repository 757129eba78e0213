/- The law's walk over a link, whatever is called. -/
import Derived.Test.YtaiicehifailhaaN
namespace Go.Proofs.Ytaiicehifailhaa
open Go.RowKit
attribute [local go_sem ↓] Go.wp_at_zero Go.wp_at_succ
set_option linter.unusedVariables false
set_option linter.unusedSimpArgs false

set_option maxRecDepth 10000 in
set_option maxHeartbeats 2000000 in
theorem linkAs_22 (L R : Lk) (E : Nat) (s t s' t' : Value) (xb : Nat) (w : World) (h : LkR w L s t) (h' : LkR w R s' t') (hl1 : L.sa.length ≤ 17592186043904) (hl2 : L.wo.length ≤ 17592186043904) (hr1 : R.sa.length ≤ 17592186043904) (hr2 : R.wo.length ≤ 17592186043904)
    (Env : World → Prop) (hEnv : Env w) (hEg : ∀ W W', Env W → W.grownBy W' none → Env W')
    (hcall : ∀ (W : World) (x y : Value), Env W → LkR W L x y → Calls Try.prog 22 #[lkV L x y, .pointer (some ⟨xb, 0, none⟩)] W fun e w' => LkE W w' e R E) :
    Calls Try.prog 20 #[.func (.func 22) #[] #[.pointer (some ⟨xb, 0, none⟩)], lkV L s t, lkV R s' t', .int .i64 (E : Int)] w fun e w' => e = .returned (.bool true) ∧ w.grownBy w' none := by
  have cO := fun (W : World) (hg : w.grownBy W none) => linkOf_any L s t W (h.grown hg) hl1 hl2
  have cS : ∀ (W : World) (x y x' y' : Value), LkR W R x y → LkR W R x' y' → Calls Try.prog 43 #[lkV R x y, lkV R x' y'] W fun e w' => e = .returned (.bool true) ∧ W.grownBy w' none := fun W x y x' y' k k' => sameLink_yes R x y x' y' W k k' hr1 hr2
  have cT : ∀ (W : World) (x y x' y' : Value), LkR W L x y → LkR W L x' y' → Calls Try.prog 43 #[lkV L x y, lkV L x' y'] W fun e w' => e = .returned (.bool true) ∧ W.grownBy w' none := fun W x y x' y' k k' => sameLink_yes L x y x' y' W k k' hl1 hl2
  dsimp only [lkV, lkA] at *
  obtain ⟨p, hp⟩ : ∃ p, w.heap.size = p := ⟨_, rfl⟩
  have B1 : ((w.alloc (.cells #[.int .i64 L.st, .int .i64 L.wa, s, t, .int .i64 L.sq, .int .i64 L.ag, .bool L.fr] 40)).alloc (.cells #[.int .i64 R.st, .int .i64 R.wa, s', t', .int .i64 R.sq, .int .i64 R.ag, .bool R.fr] 40)).heap[p]? = some (.cells #[.int .i64 L.st, .int .i64 L.wa, s, t, .int .i64 L.sq, .int .i64 L.ag, .bool L.fr] 40) := by
    rw [hp_old (by simp; omega)]; exact hp_new hp.symm _
  have B2 : ((w.alloc (.cells #[.int .i64 L.st, .int .i64 L.wa, s, t, .int .i64 L.sq, .int .i64 L.ag, .bool L.fr] 40)).alloc (.cells #[.int .i64 R.st, .int .i64 R.wa, s', t', .int .i64 R.sq, .int .i64 R.ag, .bool R.fr] 40)).heap[p + 1]? = some (.cells #[.int .i64 R.st, .int .i64 R.wa, s', t', .int .i64 R.sq, .int .i64 R.ag, .bool R.fr] 40) := hp_new (by simp; omega) _
  have hgW : w.grownBy ((w.alloc (.cells #[.int .i64 L.st, .int .i64 L.wa, s, t, .int .i64 L.sq, .int .i64 L.ag, .bool L.fr] 40)).alloc (.cells #[.int .i64 R.st, .int .i64 R.wa, s', t', .int .i64 R.sq, .int .i64 R.ag, .bool R.fr] 40)) none := gr_alloc (gr_alloc (World.grownBy.refl _ _) _) _
  go_enter Try.func20, Try.ntmps20
  go_upto_region 1 with fail
  have HP := hidI hp
  clear hp
  generalize (w.alloc (.cells #[.int .i64 L.st, .int .i64 L.wa, s, t, .int .i64 L.sq, .int .i64 L.ag, .bool L.fr] 40)).alloc (.cells #[.int .i64 R.st, .int .i64 R.wa, s', t', .int .i64 R.sq, .int .i64 R.ag, .bool R.fr] 40) = W at *
  obtain ⟨i0, i1, i2, i3, i4, i5, i6⟩ := at7 (B1)
  go_wp2_with fail
  refine (cO W hgW).mono ?_
  rintro e w1 ⟨V, rfl, a1, c1, a2, c2, rfl, o1, o2, d12, g1⟩
  dsimp only [lkV, lkA] at *
  clear i0 i1 i2 i3 i4 i5 i6
  obtain ⟨q1, hq1⟩ : ∃ q, w1.heap.size = q := ⟨_, rfl⟩
  have hgA : w1.grownBy (w1.alloc (.cells #[.int .i64 L.st, .int .i64 L.wa, (.slice a1 L.sa.length c1), (.slice a2 L.wo.length c2), .int .i64 L.sq, .int .i64 L.ag, .bool L.fr] 40)) none := gr_alloc (World.grownBy.refl _ _) _
  have B3 : (w1.alloc (.cells #[.int .i64 L.st, .int .i64 L.wa, (.slice a1 L.sa.length c1), (.slice a2 L.wo.length c2), .int .i64 L.sq, .int .i64 L.ag, .bool L.fr] 40)).heap[q1]? = some (.cells #[.int .i64 L.st, .int .i64 L.wa, (.slice a1 L.sa.length c1), (.slice a2 L.wo.length c2), .int .i64 L.sq, .int .i64 L.ag, .bool L.fr] 40) := hp_new hq1.symm _
  have g1A := grown_join g1 hgA (.inl rfl)
  have gwA := grown_join hgW g1A (.inl rfl)
  have hc1 := hcall (w1.alloc (.cells #[.int .i64 L.st, .int .i64 L.wa, (.slice a1 L.sa.length c1), (.slice a2 L.wo.length c2), .int .i64 L.sq, .int .i64 L.ag, .bool L.fr] 40)) (.slice a1 L.sa.length c1) (.slice a2 L.wo.length c2) (hEg _ _ hEnv gwA) ⟨(OwnL.kept o1 hgA).rd, (OwnL.kept o2 hgA).rd⟩
  go_wp2_with fail
  refine hc1.mono ?_
  rintro e w2 ⟨V, rfl, b1, d1, b2, d2, rfl, o3, o4, d34, g2⟩
  dsimp only [lkV, lkA] at *
  have HQ1 := hidI hq1
  clear hq1 hc1
  have sz1 := hgA.size
  obtain ⟨W1, hW1⟩ : ∃ W1, w1.alloc (.cells #[.int .i64 L.st, .int .i64 L.wa, (.slice a1 L.sa.length c1), (.slice a2 L.wo.length c2), .int .i64 L.sq, .int .i64 L.ag, .bool L.fr] 40) = W1 := ⟨_, rfl⟩
  have HS1 : Hid (W1.heap.size = q1 + 1) := hidI (by rw [← hW1, ← HQ1.out]; simp)
  rw [hW1] at hgA B3 g1A gwA g2 o3 o4
  clear hW1 sz1
  obtain ⟨q2, hq2⟩ : ∃ q, w2.heap.size = q := ⟨_, rfl⟩
  have hgB : w2.grownBy (w2.alloc (.cells #[.int .i64 R.st, .int .i64 R.wa, (.slice b1 R.sa.length d1), (.slice b2 R.wo.length d2), .int .i64 R.sq, .int .i64 R.ag, .bool R.fr] 40)) none := gr_alloc (World.grownBy.refl _ _) _
  have B4 : (w2.alloc (.cells #[.int .i64 R.st, .int .i64 R.wa, (.slice b1 R.sa.length d1), (.slice b2 R.wo.length d2), .int .i64 R.sq, .int .i64 R.ag, .bool R.fr] 40)).heap[q2]? = some (.cells #[.int .i64 R.st, .int .i64 R.wa, (.slice b1 R.sa.length d1), (.slice b2 R.wo.length d2), .int .i64 R.sq, .int .i64 R.ag, .bool R.fr] 40) := hp_new hq2.symm _
  have g2B := grown_join g2 hgB (.inl rfl)
  have gwB := grown_join gwA g2B (.inl rfl)
  have hA1B := grown_join hgA g2B (.inl rfl)
  have hc2 := hcall (w2.alloc (.cells #[.int .i64 R.st, .int .i64 R.wa, (.slice b1 R.sa.length d1), (.slice b2 R.wo.length d2), .int .i64 R.sq, .int .i64 R.ag, .bool R.fr] 40)) (.slice a1 L.sa.length c1) (.slice a2 L.wo.length c2) (hEg _ _ hEnv gwB) ⟨(OwnL.kept o1 hA1B).rd, (OwnL.kept o2 hA1B).rd⟩
  have B3' := kept g2B B3
  obtain ⟨i0, i1, i2, i3, i4, i5, i6⟩ := at7 (B3')
  go_wp2_with fail
  refine hc2.mono ?_
  rintro e w3 ⟨V, rfl, u1, v1, u2, v2, rfl, o5, o6, d56, g3⟩
  dsimp only [lkV, lkA] at *
  clear i0 i1 i2 i3 i4 i5 i6
  have HQ2 := hidI hq2
  clear hq2 hc2 B3'
  obtain ⟨W2, hW2⟩ : ∃ W2, w2.alloc (.cells #[.int .i64 R.st, .int .i64 R.wa, (.slice b1 R.sa.length d1), (.slice b2 R.wo.length d2), .int .i64 R.sq, .int .i64 R.ag, .bool R.fr] 40) = W2 := ⟨_, rfl⟩
  have HS2 : Hid (W2.heap.size = q2 + 1) := hidI (by rw [← hW2, ← HQ2.out]; simp)
  rw [hW2] at hgB B4 g2B gwB g3 hA1B o5 o6
  clear hW2
  obtain ⟨q3, hq3⟩ : ∃ q, w3.heap.size = q := ⟨_, rfl⟩
  have hgC : w3.grownBy (w3.alloc (.cells #[.int .i64 R.st, .int .i64 R.wa, (.slice u1 R.sa.length v1), (.slice u2 R.wo.length v2), .int .i64 R.sq, .int .i64 R.ag, .bool R.fr] 40)) none := gr_alloc (World.grownBy.refl _ _) _
  have B5 : (w3.alloc (.cells #[.int .i64 R.st, .int .i64 R.wa, (.slice u1 R.sa.length v1), (.slice u2 R.wo.length v2), .int .i64 R.sq, .int .i64 R.ag, .bool R.fr] 40)).heap[q3]? = some (.cells #[.int .i64 R.st, .int .i64 R.wa, (.slice u1 R.sa.length v1), (.slice u2 R.wo.length v2), .int .i64 R.sq, .int .i64 R.ag, .bool R.fr] 40) := hp_new hq3.symm _
  have g3C := grown_join g3 hgC (.inl rfl)
  have gxb := grown_join hgB g3C (.inl rfl)
  have gxa := grown_join g2 gxb (.inl rfl)
  have g1C := grown_join hgA gxa (.inl rfl)
  have g0C := grown_join g1 g1C (.inl rfl)
  have gwC := grown_join hgW g0C (.inl rfl)
  have K1 := kept g0C B1
  have K2 := kept g0C B2
  have K3 := kept gxa B3
  have K4 := kept g3C B4
  have O1 := OwnL.kept o1 g1C
  have O2 := OwnL.kept o2 g1C
  have O3 := OwnL.kept o3 gxb
  have O4 := OwnL.kept o4 gxb
  have O5 := OwnL.kept o5 hgC
  have O6 := OwnL.kept o6 hgC
  have L1 := h.grown gwC
  have L2 := h'.grown gwC
  have HO1 := hidI (fun x (hx : (Value.slice a1 L.sa.length c1).ownBlock = some x) => World.ownsRow.lt o1 x hx)
  have HO2 := hidI (fun x (hx : (Value.slice a2 L.wo.length c2).ownBlock = some x) => World.ownsRow.lt o2 x hx)
  have HO3 := hidI (fun x (hx : (Value.slice b1 R.sa.length d1).ownBlock = some x) => World.ownsRow.lt o3 x hx)
  have HO4 := hidI (fun x (hx : (Value.slice b2 R.wo.length d2).ownBlock = some x) => World.ownsRow.lt o4 x hx)
  have HO5 := hidI (fun x (hx : (Value.slice u1 R.sa.length v1).ownBlock = some x) => World.ownsRow.lt o5 x hx)
  have HO6 := hidI (fun x (hx : (Value.slice u2 R.wo.length v2).ownBlock = some x) => World.ownsRow.lt o6 x hx)
  have HSZ := hidI (And.intro hgW.size (And.intro g1.size (And.intro hgA.size (And.intro g2.size (And.intro hgB.size (And.intro g3.size (And.intro (at_lt B1) (at_lt B2))))))))
  clear o1 o2 o3 o4 o5 o6 B1 B2 B3 B4 g1 g1A gwA g2 g2B gwB hA1B hgA hgB g3 g3C gxb gxa g1C g0C hEg hcall hEnv cO hgC
  obtain ⟨i0, i1, i2, i3, i4, i5, i6⟩ := at7 (K4)
  obtain ⟨j0, j1, j2, j3, j4, j5, j6⟩ := at7 (K2)
  go_wp2_with fail
  refine (cS _ _ _ _ _ ⟨O3.rd, O4.rd⟩ L2).mono ?_
  rintro e w4 ⟨rfl, g4⟩
  have HQ3 := hidI hq3
  clear hq3
  clear i0 i1 i2 i3 i4 i5 i6 j0 j1 j2 j3 j4 j5 j6
  have K1 := kept g4 K1
  have K2 := kept g4 K2
  have K3 := kept g4 K3
  have K4 := kept g4 K4
  have K5 := kept g4 B5
  have O1 := OwnL.kept O1 g4
  have O2 := OwnL.kept O2 g4
  have O3 := OwnL.kept O3 g4
  have O4 := OwnL.kept O4 g4
  have O5 := OwnL.kept O5 g4
  have O6 := OwnL.kept O6 g4
  have L1 := L1.grown g4
  have L2 := L2.grown g4
  have gw4 := grown_join gwC g4 (.inl rfl)
  clear g4 gwC B5
  obtain ⟨i0, i1, i2, i3, i4, i5, i6⟩ := at7 (K5)
  obtain ⟨j0, j1, j2, j3, j4, j5, j6⟩ := at7 (K2)
  go_wp2_with fail
  refine (cS _ _ _ _ _ ⟨O5.rd, O6.rd⟩ L2).mono ?_
  rintro e w5 ⟨rfl, g5⟩
  clear i0 i1 i2 i3 i4 i5 i6 j0 j1 j2 j3 j4 j5 j6
  have K1 := kept g5 K1
  have K2 := kept g5 K2
  have K3 := kept g5 K3
  have K4 := kept g5 K4
  have K5 := kept g5 K5
  have O1 := OwnL.kept O1 g5
  have O2 := OwnL.kept O2 g5
  have O3 := OwnL.kept O3 g5
  have O4 := OwnL.kept O4 g5
  have O5 := OwnL.kept O5 g5
  have O6 := OwnL.kept O6 g5
  have L1 := L1.grown g5
  have gw5 := grown_join gw4 g5 (.inl rfl)
  clear g5 gw4 L2
  obtain ⟨i0, i1, i2, i3, i4, i5, i6⟩ := at7 (K3)
  obtain ⟨j0, j1, j2, j3, j4, j5, j6⟩ := at7 (K1)
  go_wp2_with fail
  refine (cT _ _ _ _ _ ⟨O1.rd, O2.rd⟩ L1).mono ?_
  rintro e w6 ⟨rfl, g6⟩
  clear i0 i1 i2 i3 i4 i5 i6 j0 j1 j2 j3 j4 j5 j6
  have K2 := kept g6 K2
  have K3 := kept g6 K3
  have K4 := kept g6 K4
  have K5 := kept g6 K5
  have O1 := OwnL.kept O1 g6
  have O2 := OwnL.kept O2 g6
  have O3 := OwnL.kept O3 g6
  have O4 := OwnL.kept O4 g6
  have O5 := OwnL.kept O5 g6
  have O6 := OwnL.kept O6 g6
  have gw6 := grown_join gw5 g6 (.inl rfl)
  clear g6 gw5 L1 K1 cT
  obtain ⟨z1, z2, z3, z4, z5, z6, z7, z8⟩ := HSZ.out
  have y1 := HQ1.out
  have y2 := HQ2.out
  have y3 := HQ3.out
  have x1 := HS1.out
  have x2 := HS2.out
  have r1 := HO1.out
  have r2 := HO2.out
  have r3 := HO3.out
  have r4 := HO4.out
  have r5 := HO5.out
  have r6 := HO6.out
  have HYP := hidI (And.intro (And.intro z1 (And.intro z2 (And.intro z3 (And.intro z4 (And.intro z5 (And.intro z6 (And.intro z7 z8))))))) (And.intro y1 (And.intro y2 (And.intro y3 (And.intro x1 x2)))))
  clear z1 z2 z3 z4 z5 z6 z7 z8 y1 y2 y3 x1 x2 HSZ HQ1 HQ2 HQ3 HS1 HS2
  have HR := hidI (And.intro r1 (And.intro r2 (And.intro r3 (And.intro r4 (And.intro r5 r6)))))
  clear r1 r2 r3 r4 r5 r6 HO1 HO2 HO3 HO4 HO5 HO6
  obtain ⟨i0, i1, i2, i3, i4, i5, i6⟩ := at7 (K4)
  go_wp2_with fail
  refine (over_any _ _ _ _ _ (by omega) O3).mono ?_
  rintro e w7 ⟨rfl, g7⟩
  clear i0 i1 i2 i3 i4 i5 i6
  obtain ⟨⟨z1, z2, z3, z4, z5, z6, z7, z8⟩, y1, y2, y3, x1, x2⟩ := HYP.out
  obtain ⟨r1, r2, r3, r4, r5, r6⟩ := HR.out
  have K2 : w7.heap[p + 1]? = _ := (g7.block _ (at_lt K2) (fun e => by have := r3 _ e.symm; omega)).trans K2
  have K3 : w7.heap[q1]? = _ := (g7.block _ (at_lt K3) (fun e => by have := r3 _ e.symm; omega)).trans K3
  have K4 : w7.heap[q2]? = _ := (g7.block _ (at_lt K4) (fun e => by have := r3 _ e.symm; omega)).trans K4
  have K5 : w7.heap[q3]? = _ := (g7.block _ (at_lt K5) (fun e => by have := r3 _ e.symm; omega)).trans K5
  have O1 : OwnL _ w7 _ _ _ := own_ne O1 g7 (fun x hx e => by have := r3 x e; have := r1 x hx; omega)
  have O2 : OwnL _ w7 _ _ _ := own_ne O2 g7 (fun x hx e => by have := r3 x e; have := r2 x hx; omega)
  have O4 : OwnL _ w7 _ _ _ := own_ne O4 g7 (fun x hx e => d34 x e hx)
  have O5 : OwnL _ w7 _ _ _ := own_ne O5 g7 (fun x hx e => by have := r3 x e; have := r5 x hx; omega)
  have O6 : OwnL _ w7 _ _ _ := own_ne O6 g7 (fun x hx e => by have := r3 x e; have := r6 x hx; omega)
  have gw7 := grown_join gw6 g7 (.inr fun x hx => by have := r3 x hx; omega)
  clear z1 z2 z3 z4 z5 z6 z7 z8 y1 y2 y3 x1 x2 r1 r2 r3 r4 r5 r6 g7 gw6
  obtain ⟨i0, i1, i2, i3, i4, i5, i6⟩ := at7 (K4)
  go_wp2_with fail
  refine (over_any _ _ _ _ _ (by omega) O4).mono ?_
  rintro e w8 ⟨rfl, g8⟩
  clear i0 i1 i2 i3 i4 i5 i6
  obtain ⟨⟨z1, z2, z3, z4, z5, z6, z7, z8⟩, y1, y2, y3, x1, x2⟩ := HYP.out
  obtain ⟨r1, r2, r3, r4, r5, r6⟩ := HR.out
  have K2 : w8.heap[p + 1]? = _ := (g8.block _ (at_lt K2) (fun e => by have := r4 _ e.symm; omega)).trans K2
  have K3 : w8.heap[q1]? = _ := (g8.block _ (at_lt K3) (fun e => by have := r4 _ e.symm; omega)).trans K3
  have K5 : w8.heap[q3]? = _ := (g8.block _ (at_lt K5) (fun e => by have := r4 _ e.symm; omega)).trans K5
  have O1 : OwnL _ w8 _ _ _ := own_ne O1 g8 (fun x hx e => by have := r4 x e; have := r1 x hx; omega)
  have O2 : OwnL _ w8 _ _ _ := own_ne O2 g8 (fun x hx e => by have := r4 x e; have := r2 x hx; omega)
  have O5 : OwnL _ w8 _ _ _ := own_ne O5 g8 (fun x hx e => by have := r4 x e; have := r5 x hx; omega)
  have O6 : OwnL _ w8 _ _ _ := own_ne O6 g8 (fun x hx e => by have := r4 x e; have := r6 x hx; omega)
  have gw8 := grown_join gw7 g8 (.inr fun x hx => by have := r4 x hx; omega)
  clear z1 z2 z3 z4 z5 z6 z7 z8 y1 y2 y3 x1 x2 r1 r2 r3 r4 r5 r6 g8 gw7
  obtain ⟨i0, i1, i2, i3, i4, i5, i6⟩ := at7 (K3)
  go_wp2_with fail
  refine (over_any _ _ _ _ _ (by omega) O1).mono ?_
  rintro e w9 ⟨rfl, g9⟩
  clear i0 i1 i2 i3 i4 i5 i6
  obtain ⟨⟨z1, z2, z3, z4, z5, z6, z7, z8⟩, y1, y2, y3, x1, x2⟩ := HYP.out
  obtain ⟨r1, r2, r3, r4, r5, r6⟩ := HR.out
  have K2 : w9.heap[p + 1]? = _ := (g9.block _ (at_lt K2) (fun e => by have := r1 _ e.symm; omega)).trans K2
  have K3 : w9.heap[q1]? = _ := (g9.block _ (at_lt K3) (fun e => by have := r1 _ e.symm; omega)).trans K3
  have K5 : w9.heap[q3]? = _ := (g9.block _ (at_lt K5) (fun e => by have := r1 _ e.symm; omega)).trans K5
  have O2 : OwnL _ w9 _ _ _ := own_ne O2 g9 (fun x hx e => d12 x e hx)
  have O5 : OwnL _ w9 _ _ _ := own_ne O5 g9 (fun x hx e => by have := r1 x e; have := r5 x hx; omega)
  have O6 : OwnL _ w9 _ _ _ := own_ne O6 g9 (fun x hx e => by have := r1 x e; have := r6 x hx; omega)
  have gw9 := grown_join gw8 g9 (.inr fun x hx => by have := r1 x hx; omega)
  clear z1 z2 z3 z4 z5 z6 z7 z8 y1 y2 y3 x1 x2 r1 r2 r3 r4 r5 r6 g9 gw8
  obtain ⟨i0, i1, i2, i3, i4, i5, i6⟩ := at7 (K3)
  go_wp2_with fail
  refine (over_any _ _ _ _ _ (by omega) O2).mono ?_
  rintro e w10 ⟨rfl, g10⟩
  clear i0 i1 i2 i3 i4 i5 i6
  obtain ⟨⟨z1, z2, z3, z4, z5, z6, z7, z8⟩, y1, y2, y3, x1, x2⟩ := HYP.out
  obtain ⟨r1, r2, r3, r4, r5, r6⟩ := HR.out
  have K2 : w10.heap[p + 1]? = _ := (g10.block _ (at_lt K2) (fun e => by have := r2 _ e.symm; omega)).trans K2
  have K5 : w10.heap[q3]? = _ := (g10.block _ (at_lt K5) (fun e => by have := r2 _ e.symm; omega)).trans K5
  have O5 : OwnL _ w10 _ _ _ := own_ne O5 g10 (fun x hx e => by have := r2 x e; have := r5 x hx; omega)
  have O6 : OwnL _ w10 _ _ _ := own_ne O6 g10 (fun x hx e => by have := r2 x e; have := r6 x hx; omega)
  have gw10 := grown_join gw9 g10 (.inr fun x hx => by have := r2 x hx; omega)
  clear z1 z2 z3 z4 z5 z6 z7 z8 y1 y2 y3 x1 x2 r1 r2 r3 r4 r5 r6 g10 gw9
  obtain ⟨i0, i1, i2, i3, i4, i5, i6⟩ := at7 (K5)
  obtain ⟨j0, j1, j2, j3, j4, j5, j6⟩ := at7 (K2)
  go_wp2_with fail
  refine (cS _ _ _ _ _ ⟨O5.rd, O6.rd⟩ (h'.grown gw10)).mono ?_
  rintro e w11 ⟨rfl, g11⟩
  go_wp2
  go_ret
  exact ⟨rfl, grown_join gw10 g11 (.inl rfl)⟩
end Go.Proofs.Ytaiicehifailhaa
