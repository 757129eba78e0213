/- The law of Step. -/
import Derived.Test.YtefekafpmnaeoaaY
import Derived.Test.YtefekafpmnaeoaaLc
namespace Go.Proofs.Ytefekafpmnaeoaa
open Go.RowKit
attribute [local go_sem ↓] Go.wp_at_zero Go.wp_at_succ
set_option linter.unusedVariables false
set_option linter.unusedSimpArgs false

theorem stepT_len (se de : Int) (l : List (Int × List Int)) (T : Tr) (told : List Int) (key : Bool) : (stepT se de l T told key).h.length ≤ 17592186043904 := by
  unfold stepT
  split
  · next h =>
    obtain ⟨o1, o2, _⟩ := stepE_ok h
    have hL : (heldL de told l T.h).length = l.length := by simp [heldL]
    unfold nextT
    split
    · split <;> (dsimp only; omega)
    · dsimp only; omega
  · simp [zeroT]
set_option maxRecDepth 10000 in
set_option maxHeartbeats 8000000 in
theorem stepLaw_any (se de : Int) (l : List (Int × List Int)) (T : Tr) (told : List Int) (key : Bool) (v s t : Value) (w : World) (hv : rdVs w v l) (hs : rd w s T.h) (ht : rd w t told) (hl : OkL l) (hn4 : l.length ≤ 4398046510976) (hlT : T.h.length ≤ 17592186043904) (hlt : told.length ≤ 17592186043904) :
    Calls Try.prog 4 #[.agg #[.int .i64 se, .int .i64 de, v], trV T s, t, .bool key] w fun e w' => e = .returned (.bool true) ∧ w.grownBy w' none := by
  obtain ⟨va, vc, rfl, _⟩ := id hv
  obtain ⟨sa, sc, rfl, _⟩ := id hs
  obtain ⟨ta, tc, rfl, _⟩ := id ht
  have cG := fun (X : World) (hX : w.grownBy X none) => guardOf_any se de l _ X (rdVs_grown hv hX) hl hn4
  have cR := fun (X : World) (hX : w.grownBy X none) => stepped_any se de l T told key _ _ _ X (rdVs_grown hv hX) (rd_grown hs hX) (rd_grown ht hX) hl hlT hlt
  have cS := fun (g' s' t' : Value) (X : World) (h1 : rdVs X g' l) (h2 : rd X s' T.h) (h3 : rd X t' told) => step_any se de l T told key g' s' t' X h1 h2 h3 hl hlT hlt
  have c13 := fun (hs' : Value) (X : World) (hX : w.grownBy X none) (hY : rdVs X hs' l) => sameGuard_yes se de l _ hs' X (rdVs_grown hv hX) hY hl
  have hRl := stepT_len se de l T told key
  obtain ⟨R, hR⟩ : ∃ R, stepT se de l T told key = R := ⟨_, rfl⟩
  obtain ⟨E, hE⟩ : ∃ E, stepE se de l T told = E := ⟨_, rfl⟩
  rw [hR, hE] at cR
  rw [hR, hE] at cS
  rw [hR] at hRl
  clear hR hE
  obtain ⟨d, f, hh, kk⟩ := T
  obtain ⟨rd', rf, rh, rk⟩ := R
  dsimp only [trV, trA] at *
  have HIN := hidI (And.intro hv (And.intro hs ht))
  have hg0 : w.grownBy ((w.alloc (.cells #[.int .i64 se, .int .i64 de, .slice va l.length vc] 24)).alloc (.cells #[.bool d, .int .i64 f, .slice sa hh.length sc, .bool kk] 28)) none := gr_alloc (gr_alloc (World.grownBy.refl _ _) _) _
  obtain ⟨p, hp⟩ : ∃ p, w.heap.size = p := ⟨_, rfl⟩
  have hW1 : ((w.alloc (.cells #[.int .i64 se, .int .i64 de, .slice va l.length vc] 24)).alloc (.cells #[.bool d, .int .i64 f, .slice sa hh.length sc, .bool kk] 28)).heap[p]? = some (.cells #[.int .i64 se, .int .i64 de, .slice va l.length vc] 24) := by
    rw [hp_old (by simp; omega)]; exact hp_new hp.symm _
  have hW2 : ((w.alloc (.cells #[.int .i64 se, .int .i64 de, .slice va l.length vc] 24)).alloc (.cells #[.bool d, .int .i64 f, .slice sa hh.length sc, .bool kk] 28)).heap[p + 1]? = some (.cells #[.bool d, .int .i64 f, .slice sa hh.length sc, .bool kk] 28) := hp_new (by simp; omega) _
  go_enter Try.func4, Try.ntmps4
  go_upto_region 1 with fail
  have HP := hidI hp
  clear hp hv hs ht
  generalize (w.alloc (.cells #[.int .i64 se, .int .i64 de, .slice va l.length vc] 24)).alloc (.cells #[.bool d, .int .i64 f, .slice sa hh.length sc, .bool kk] 28) = W0 at *
  obtain ⟨i0, i1, i2⟩ := at3 hW1
  have c0 := cG W0 hg0
  have HW0 := hidI (And.intro hW1 (And.intro hW2 hg0))
  clear hW1 hW2 hg0 cG
  go_wp2_with fail
  refine c0.mono ?_
  rintro e w1 ⟨ha, hc, rfl, hrh, g1⟩
  clear c0 i0 i1 i2
  -- the copied guard lies in a box
  have gA1 : W0.grownBy (w1.alloc (.cells #[.int .i64 se, .int .i64 de, .slice ha l.length hc] 24)) none := gr_alloc g1 _
  have kq1 : (w1.alloc (.cells #[.int .i64 se, .int .i64 de, .slice ha l.length hc] 24)).heap[w1.heap.size]? = _ := heap_alloc_new w1 _
  have hrh1 := rdVs_grown hrh (gr_alloc (World.grownBy.refl w1 none) (.cells #[.int .i64 se, .int .i64 de, .slice ha l.length hc] 24))
  go_upto_region 2 with fail
  clear hrh g1
  generalize w1.alloc (.cells #[.int .i64 se, .int .i64 de, .slice ha l.length hc] 24) = A1 at *
  generalize w1.heap.size = q1 at *
  have kb := kept gA1 HW0.out.2.1
  obtain ⟨j0, j1, j2, j3⟩ := at4 kb
  -- the copied trip
  have gA2 : A1.grownBy (A1.alloc (.cells #[.bool d, .int .i64 f, .slice sa hh.length sc, .bool kk] 28)) none := gr_alloc (World.grownBy.refl _ _) _
  have kq2 : (A1.alloc (.cells #[.bool d, .int .i64 f, .slice sa hh.length sc, .bool kk] 28)).heap[A1.heap.size]? = _ := heap_alloc_new A1 _
  go_upto_region 3 with fail
  clear j0 j1 j2 j3
  generalize A1.alloc (.cells #[.bool d, .int .i64 f, .slice sa hh.length sc, .bool kk] 28) = A2 at *
  obtain ⟨q2, hq2⟩ : ∃ x, A1.heap.size = x := ⟨_, rfl⟩
  rw [hq2] at kq2 ⊢
  have gB2 := grown_join gA1 gA2 (.inl rfl)
  have hs2 := rd_grown HIN.out.2.1 (grown_join HW0.out.2.2 gB2 (.inl rfl))
  obtain ⟨oa, oc, w3, hrun1, ho3, g3⟩ := copyL hs2 hlT
  have HR1 : Hid (_ = _) := hrun1
  have kb2 := kept gB2 HW0.out.2.1
  obtain ⟨j0, j1, j2, j3⟩ := at4 kb2
  have kq3 := kept g3 kq2
  obtain ⟨m0, m1, m2, m3⟩ := at4 kq3
  obtain ⟨n0, n1, n2, n3⟩ := fz4 kq3
  have hqA : q2 < A2.heap.size := at_lt kq2
  -- behind the store
  have hqs : q2 < w3.heap.size := at_lt kq3
  have gS : w3.grownBy (w3.setCell ⟨q2, 2, none⟩ (.slice oa hh.length oc)) (some q2) := gr_set (World.grownBy.refl _ _) _ _
  have gA1S : A1.grownBy (w3.setCell ⟨q2, 2, none⟩ (.slice oa hh.length oc)) none := gr_own (grown_join gA2 g3 (.inl rfl)) (by omega) _ _
  have kqS : (w3.setCell ⟨q2, 2, none⟩ (.slice oa hh.length oc)).heap[q2]? = some (.cells #[.bool d, .int .i64 f, .slice oa hh.length oc, .bool kk] 28) := by have := at_set kq3 2 (.slice oa hh.length oc); simpa using this
  have hoS : OwnL A2.heap.size (w3.setCell ⟨q2, 2, none⟩ (.slice oa hh.length oc)) oa oc hh := own_but (p := q2) ho3 gS hqA
  have hszS : A2.heap.size ≤ (w3.setCell ⟨q2, 2, none⟩ (.slice oa hh.length oc)).heap.size := by simpa using g3.size
  have HQ := hidI (And.intro hq2 (And.intro hqA hszS))
  have HA1S := hidI gA1.size
  clear gS kq3 ho3 hs2 hrun1 g3 hq2 kb kb2 gB2 hqs
  go_upto_region 4 with (first | (at_builtin; refine wpList_append_run rfl _ _ 26 rfl _ _ _ w3 rfl rfl HR1.out ?_))
  clear j0 j1 j2 j3 m0 m1 m2 m3 n0 n1 n2 n3
  generalize w3.setCell ⟨q2, 2, none⟩ (.slice oa hh.length oc) = A3 at *
  have gB3 := grown_join gA1 gA1S (.inl rfl)
  have ht3 := rd_grown HIN.out.2.2 (grown_join HW0.out.2.2 gB3 (.inl rfl))
  obtain ⟨la, lc, w4, hrun2, ho4, g4⟩ := copyL ht3 hlt
  have HR2 : Hid (_ = _) := hrun2
  go_upto_region 5 with (first | (at_builtin; refine wpList_append_run rfl _ _ 26 rfl _ _ _ w4 rfl rfl HR2.out ?_))
  have gA14 := grown_join gA1S g4 (.inl rfl)
  have gB4 := grown_join gB3 g4 (.inl rfl)
  have gW4 := grown_join HW0.out.2.2 gB4 (.inl rfl)
  have z4 := g4.size
  -- what is known: boxes p, p+1, q1, q2; lists of h, s, l
  have HK := hidI (And.intro (kept gB4 HW0.out.1) (And.intro (kept gB4 HW0.out.2.1) (And.intro (kept gA14 kq1) (And.intro (kept g4 kqS) (And.intro (rdVs_grown hrh1 gA14) (And.intro (OwnL.kept hoS g4) (And.intro ho4 (And.intro gW4 z4))))))))
  have hob := OwnL.lt hoS
  have HOB := hidI hob
  clear hob kq1 kqS hrh1 hoS ho4 gA14 gB4 gW4 g4 ht3 gB3 hrun2 HR2 HR1 gA1 gA1S gA2 z4
  obtain ⟨kp, kp1, kk1, kk2, rhh, os, ol, gW4, z4⟩ := HK.out
  obtain ⟨i0, i1, i2⟩ := at3 kp
  obtain ⟨j0, j1, j2, j3⟩ := at4 kp1
  have cR4 := cR w4 gW4
  clear kp kp1 kk1 kk2 rhh os ol gW4 z4 cR
  go_wp2_with fail
  refine cR4.mono ?_
  rintro e w5 ⟨V5, rfl, a5, s5, rfl, o5, g5⟩
  dsimp only [trV, trA] at *
  clear cR4 i0 i1 i2 j0 j1 j2 j3
  have gB5 : w4.grownBy (w5.alloc (.cells #[.bool rd', .int .i64 rf, .slice a5 rh.length s5, .bool rk] 28)) none := gr_alloc g5 _
  have kB5 : (w5.alloc (.cells #[.bool rd', .int .i64 rf, .slice a5 rh.length s5, .bool rk] 28)).heap[w5.heap.size]? = _ := heap_alloc_new w5 _
  have oB5 := OwnL.kept o5 (gr_alloc (World.grownBy.refl w5 none) (.cells #[.bool rd', .int .i64 rf, .slice a5 rh.length s5, .bool rk] 28))
  have zB5 : (w5.alloc (.cells #[.bool rd', .int .i64 rf, .slice a5 rh.length s5, .bool rk] 28)).heap.size = w5.heap.size + 1 := by simp
  have yB5 := OwnL.lt o5
  have sB5 := g5.size
  go_upto_region 6 with fail
  clear o5 g5
  generalize w5.alloc (.cells #[.bool rd', .int .i64 rf, .slice a5 rh.length s5, .bool rk] 28) = A5 at *
  generalize w5.heap.size = Q5 at *
  obtain ⟨kp, kp1, kk1, kk2, rhh, os, ol, gW4, z4⟩ := HK.out
  have H5 := hidI (And.intro (kept gB5 kp) (And.intro (kept gB5 kp1) (And.intro (kept gB5 kk1) (And.intro (kept gB5 kk2) (And.intro kB5 (And.intro (rdVs_grown rhh gB5) (And.intro (os.kept gB5) (And.intro (ol.kept gB5) (And.intro oB5 (grown_join gW4 gB5 (.inl rfl)))))))))))
  have HS5 := hidI (And.intro zB5 (And.intro yB5 (And.intro sB5 z4)))
  clear kp kp1 kk1 kk2 rhh os ol gW4 z4 gB5 kB5 oB5 zB5 yB5 sB5 HK
  obtain ⟨kp, kp1, kk1, kk2, k5, rhh, os, ol, o5, gW5⟩ := H5.out
  obtain ⟨i0, i1, i2⟩ := at3 kk1
  obtain ⟨j0, j1, j2, j3⟩ := at4 kk2
  have cS5 := cS _ _ _ A5 rhh os.rd ol.rd
  clear kp kp1 kk1 kk2 k5 rhh os ol o5 gW5
  go_wp2_with fail
  refine cS5.mono ?_
  rintro e w6 ⟨V6, rfl, a6, s6, rfl, o6, g6⟩
  dsimp only [trV, trA] at *
  clear cS5 i0 i1 i2 j0 j1 j2 j3

  have gB6 : A5.grownBy (w6.alloc (.cells #[.bool rd', .int .i64 rf, .slice a6 rh.length s6, .bool rk] 28)) none := gr_alloc g6 _
  have kB6 : (w6.alloc (.cells #[.bool rd', .int .i64 rf, .slice a6 rh.length s6, .bool rk] 28)).heap[w6.heap.size]? = _ := heap_alloc_new w6 _
  have oB6 := OwnL.kept o6 (gr_alloc (World.grownBy.refl w6 none) (.cells #[.bool rd', .int .i64 rf, .slice a6 rh.length s6, .bool rk] 28))
  have zB6 : (w6.alloc (.cells #[.bool rd', .int .i64 rf, .slice a6 rh.length s6, .bool rk] 28)).heap.size = w6.heap.size + 1 := by simp
  have yB6 := OwnL.lt o6
  have sB6 := g6.size
  go_upto_region 7 with fail
  clear o6 g6
  generalize w6.alloc (.cells #[.bool rd', .int .i64 rf, .slice a6 rh.length s6, .bool rk] 28) = A6 at *
  generalize w6.heap.size = Q6 at *
  obtain ⟨kp, kp1, kk1, kk2, k5, rhh, os, ol, o5, gW5⟩ := H5.out
  have H6 := hidI (And.intro (kept gB6 kp) (And.intro (kept gB6 kp1) (And.intro (kept gB6 kk1) (And.intro (kept gB6 kk2) (And.intro (kept gB6 k5) (And.intro kB6 (And.intro (rdVs_grown rhh gB6) (And.intro (os.kept gB6) (And.intro (ol.kept gB6) (And.intro (o5.kept gB6) (And.intro oB6 (grown_join gW5 gB6 (.inl rfl)))))))))))))
  have HS6 := hidI (And.intro zB6 (And.intro yB6 sB6))
  clear kp kp1 kk1 kk2 k5 rhh os ol o5 gW5 gB6 kB6 oB6 zB6 yB6 sB6 H5
  obtain ⟨kp, kp1, kk1, kk2, k5, k6, rhh, os, ol, o5, o6, gW6⟩ := H6.out
  obtain ⟨i0, i1, i2⟩ := at3 kk1
  obtain ⟨j0, j1, j2, j3⟩ := at4 kk2
  have cS6 := cS _ _ _ A6 rhh os.rd ol.rd
  clear kp kp1 kk1 kk2 k5 k6 rhh os ol o5 o6 gW6 cS
  go_wp2_with fail
  refine cS6.mono ?_
  rintro e w7 ⟨V7, rfl, a7, s7, rfl, o7, g7⟩
  dsimp only [trV, trA] at *
  clear cS6 i0 i1 i2 j0 j1 j2 j3

  have gB7 : A6.grownBy (w7.alloc (.cells #[.bool rd', .int .i64 rf, .slice a7 rh.length s7, .bool rk] 28)) none := gr_alloc g7 _
  have kB7 : (w7.alloc (.cells #[.bool rd', .int .i64 rf, .slice a7 rh.length s7, .bool rk] 28)).heap[w7.heap.size]? = _ := heap_alloc_new w7 _
  have oB7 := OwnL.kept o7 (gr_alloc (World.grownBy.refl w7 none) (.cells #[.bool rd', .int .i64 rf, .slice a7 rh.length s7, .bool rk] 28))
  have zB7 : (w7.alloc (.cells #[.bool rd', .int .i64 rf, .slice a7 rh.length s7, .bool rk] 28)).heap.size = w7.heap.size + 1 := by simp
  have yB7 := OwnL.lt o7
  have sB7 := g7.size
  go_upto_region 8 with fail
  clear o7 g7
  generalize w7.alloc (.cells #[.bool rd', .int .i64 rf, .slice a7 rh.length s7, .bool rk] 28) = A7 at *
  generalize w7.heap.size = Q7 at *
  obtain ⟨kp, kp1, kk1, kk2, k5, k6, rhh, os, ol, o5, o6, gW6⟩ := H6.out
  have kp := kept gB7 kp
  have kp1 := kept gB7 kp1
  have kk1 := kept gB7 kk1
  have kk2 := kept gB7 kk2
  have k5 := kept gB7 k5
  have k6 := kept gB7 k6
  have rhh := rdVs_grown rhh gB7
  have os := os.kept gB7
  have ol := ol.kept gB7
  have o5 := o5.kept gB7
  have o6 := o6.kept gB7
  have gW7 := grown_join gW6 gB7 (.inl rfl)
  have t1 := fun (X : World) (hX : A7.grownBy X none) => sameTrip_yes ⟨rd', rf, rh, rk⟩ _ _ X (o6.kept hX).rd (o5.kept hX).rd (by show rh.length ≤ _; omega)
  have t2 := fun (X : World) (hX : A7.grownBy X none) => sameTrip_yes ⟨rd', rf, rh, rk⟩ _ _ X (oB7.kept hX).rd (o5.kept hX).rd (by show rh.length ≤ _; omega)
  have t3 := fun (X : World) (hX : A7.grownBy X none) => c13 _ X (grown_join gW7 hX (.inl rfl)) (rdVs_grown rhh hX)
  have t4 := fun (X : World) (hX : A7.grownBy X none) => sameTrip_yes ⟨d, f, hh, kk⟩ _ _ X (os.kept hX).rd (rd_grown HIN.out.2.1 (grown_join gW7 hX (.inl rfl))) (by show hh.length ≤ _; omega)
  have t5 := fun (X : World) (hX : A7.grownBy X none) => sameInts_yes _ _ told X (ol.kept hX).rd (rd_grown HIN.out.2.2 (grown_join gW7 hX (.inl rfl))) (by omega)
  dsimp only [trV, trA] at t1 t2 t4
  have HKB := hidI (And.intro kp (And.intro kp1 (And.intro kk1 (And.intro kk2 (And.intro k5 (And.intro k6 kB7))))))
  have HEND := hidI (And.intro os (And.intro o5 (And.intro o6 (And.intro oB7 (And.intro gW7 (And.intro zB7 (And.intro yB7 sB7)))))))
  obtain ⟨x0, x1, x2, x3⟩ := at4 k6
  obtain ⟨u0, u1, u2, u3⟩ := at4 k5
  clear kp kp1 kk1 kk2 k5 k6 rhh os ol o5 o6 gW6 gW7 kB7 oB7 zB7 yB7 sB7 gB7 H6 c13
  go_wp2_with fail
  refine (t1 _ (World.grownBy.refl _ _)).mono ?_
  rintro e y1 ⟨rfl, e1⟩
  clear x0 x1 x2 x3 u0 u1 u2 u3 t1
  obtain ⟨x0, x1, x2, x3⟩ := at4 (kept e1 HKB.out.2.2.2.2.2.2)
  obtain ⟨u0, u1, u2, u3⟩ := at4 (kept e1 HKB.out.2.2.2.2.1)
  go_wp2_with fail
  refine (t2 _ e1).mono ?_
  rintro e y2 ⟨rfl, e2'⟩
  have e2 := grown_join e1 e2' (.inl rfl)
  clear x0 x1 x2 x3 u0 u1 u2 u3 t2 e1 e2'
  obtain ⟨x0, x1, x2⟩ := at3 (kept e2 HKB.out.1)
  obtain ⟨u0, u1, u2⟩ := at3 (kept e2 HKB.out.2.2.1)
  go_wp2_with fail
  refine (t3 _ e2).mono ?_
  rintro e y3 ⟨rfl, e3'⟩
  have e3 := grown_join e2 e3' (.inl rfl)
  clear x0 x1 x2 u0 u1 u2 t3 e2 e3'
  obtain ⟨x0, x1, x2, x3⟩ := at4 (kept e3 HKB.out.2.2.2.1)
  obtain ⟨u0, u1, u2, u3⟩ := at4 (kept e3 HKB.out.2.1)
  go_wp2_with fail
  refine (t4 _ e3).mono ?_
  rintro e y4 ⟨rfl, e4'⟩
  have e4 := grown_join e3 e4' (.inl rfl)
  clear x0 x1 x2 x3 u0 u1 u2 u3 t4 e3 e4'
  go_wp2_with fail
  refine (t5 _ e4).mono ?_
  rintro e y5 ⟨rfl, e5'⟩
  have e5 := grown_join e4 e5' (.inl rfl)
  clear t5 e4 e5'
  -- the lists written over
  obtain ⟨os, o5, o6, o7, gW7, z7, b7, s7'⟩ := HEND.out
  obtain ⟨x0, x1, x2, x3⟩ := at4 (kept e5 HKB.out.2.2.2.2.2.1)
  have cO := over_any A5.heap.size _ rh (-77) y5 (by omega) (o6.kept e5)
  have HE5 := hidI e5
  clear os o5 o6 o7 gW7 z7 b7 s7' e5 x0 x1 x3
  go_wp2_with fail
  refine cO.mono ?_
  rintro e y6 ⟨rfl, g6'⟩
  clear cO x2
  obtain ⟨os, o5, o6, o7, gW7, z7, b7, s7'⟩ := HEND.out
  obtain ⟨z5, b5, s5', z4⟩ := HS5.out
  obtain ⟨z6, b6, s6'⟩ := HS6.out
  obtain ⟨hq2, hqA, hsA⟩ := HQ.out
  have e5 := HE5.out
  have K2 : y6.heap[q2]? = _ := (g6'.block q2 (at_lt (kept e5 HKB.out.2.2.2.1)) (fun e => by have := b6 _ e.symm; omega)).trans (kept e5 HKB.out.2.2.2.1)
  have K5 : y6.heap[Q5]? = _ := (g6'.block Q5 (at_lt (kept e5 HKB.out.2.2.2.2.1)) (fun e => by have := b6 _ e.symm; omega)).trans (kept e5 HKB.out.2.2.2.2.1)
  have K7 : y6.heap[Q7]? = _ := (g6'.block Q7 (at_lt (kept e5 HKB.out.2.2.2.2.2.2)) (fun e => by have := b6 _ e.symm; omega)).trans (kept e5 HKB.out.2.2.2.2.2.2)
  have P5 := own_ne (o5.kept e5) g6' (fun x h1 h2 => by have := b5 x h1; have := b6 x h2; omega)
  have P7 := own_ne (o7.kept e5) g6' (fun x h1 h2 => by have := b7 x h1; have := b6 x h2; omega)
  have PS := own_ne (os.kept e5) g6' (fun x h1 h2 => by have := HOB.out x h1; have := b6 x h2; omega)
  have hw5 := grown_join gW7 e5 (.inl rfl)
  have hwA : w.heap.size ≤ A2.heap.size := by have := HP.out; have := at_lt HW0.out.1; have h3 := HW0.out.2.2.size; have h4 := HA1S.out; omega
  have G6 := grown_join hw5 g6' (.inr (fun x hx => by have := b6 x hx; omega))
  obtain ⟨x0, x1, x2, x3⟩ := at4 K2
  have cO2 := over_any A2.heap.size _ hh (-78) y6 (by omega) PS
  have HF := hidI (And.intro K5 (And.intro K7 (And.intro P5 (And.intro P7 (And.intro G6 hwA)))))
  clear os o5 o6 o7 gW7 z7 b7 s7' z5 b5 s5' z4 z6 b6 s6' hq2 hqA hsA e5 K2 K5 K7 P5 P7 PS hw5 hwA G6 g6' x0 x1 x3
  go_wp2_with fail
  refine cO2.mono ?_
  rintro e y7 ⟨rfl, g7'⟩
  clear cO2 x2
  obtain ⟨K5, K7, P5, P7, G6, hwA⟩ := HF.out
  obtain ⟨os, o5, o6, o7, gW7, z7, b7, s7'⟩ := HEND.out
  obtain ⟨z5, b5, s5', z4⟩ := HS5.out
  obtain ⟨z6, b6, s6'⟩ := HS6.out
  have K5' : y7.heap[Q5]? = _ := (g7'.block Q5 (at_lt K5) (fun e => by have := HOB.out _ e.symm; omega)).trans K5
  have K7' : y7.heap[Q7]? = _ := (g7'.block Q7 (at_lt K7) (fun e => by have := HOB.out _ e.symm; omega)).trans K7
  have r5 : rd y7 _ rh := own_rd_ne P5 g7' (fun x h1 h2 => by have := b5 x h1; have := HOB.out x h2; omega)
  have r7 : rd y7 _ rh := own_rd_ne P7 g7' (fun x h1 h2 => by have := b7 x h1; have := HOB.out x h2; omega)
  have G7 := grown_join G6 g7' (.inr (fun x hx => by have := HOB.out x hx; omega))
  obtain ⟨u0, u1, u2, u3⟩ := at4 K5'
  obtain ⟨x0, x1, x2, x3⟩ := at4 K7'
  have cE := sameTrip_yes ⟨rd', rf, rh, rk⟩ _ _ y7 r7 r5 (by show rh.length ≤ _; omega)
  dsimp only [trV, trA] at cE
  have HG7 := hidI G7
  clear K5 K7 P5 P7 G6 hwA os o5 o6 o7 gW7 z7 b7 s7' z5 b5 s5' z4 z6 b6 s6' K5' K7' r5 r7 G7 g7'
  go_wp2_with fail
  refine cE.mono ?_
  rintro e y8 ⟨rfl, g8⟩
  go_wp2
  go_ret
  exact ⟨rfl, grown_join HG7.out g8 (.inl rfl)⟩
end Go.Proofs.Ytefekafpmnaeoaa
