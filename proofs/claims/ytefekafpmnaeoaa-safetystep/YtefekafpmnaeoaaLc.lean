/- The law of Check and Start. -/
import Derived.Test.YtefekafpmnaeoaaM
import Derived.Test.YtefekafpmnaeoaaU
import Derived.Test.YtefekafpmnaeoaaU2
namespace Go.Proofs.Ytefekafpmnaeoaa
open Go.RowKit
attribute [local go_sem ↓] Go.wp_at_zero Go.wp_at_succ
set_option linter.unusedVariables false
set_option linter.unusedSimpArgs false

theorem own_rd_ne {B : Nat} {w w' : World} {r : Option Nat} {a : Option Addr} {c : Nat} {l : List Int} (h : OwnL B w a c l) (hg : w.grownBy w' r) (hne : ∀ x, (Value.slice a l.length c).ownBlock = some x → r ≠ some x) : rd w' (.slice a l.length c) l :=
  OwnL.rd (B := B) (own_ne h hg hne)
theorem OwnL.lt {B : Nat} {w : World} {a : Option Addr} {c : Nat} {l : List Int} (h : OwnL B w a c l) : ∀ x, (Value.slice a l.length c).ownBlock = some x → B ≤ x ∧ x < w.heap.size := World.ownsRow.lt h
set_option maxRecDepth 10000 in
set_option maxHeartbeats 4000000 in
theorem checkLaw_any (se de : Int) (l : List (Int × List Int)) (v : Value) (w : World) (hv : rdVs w v l) (hl : OkL l) (hn4 : l.length ≤ 4398046510976) :
    Calls Try.prog 3 #[.agg #[.int .i64 se, .int .i64 de, v]] w fun e w' => e = .returned (.bool true) ∧ w.grownBy w' none := by
  obtain ⟨va, vc, rfl, _⟩ := id hv
  have hW0 : (w.alloc (.cells #[.int .i64 se, .int .i64 de, .slice va l.length vc] 24)).heap[w.heap.size]? = some (.cells #[.int .i64 se, .int .i64 de, .slice va l.length vc] 24) := heap_alloc_new _ _
  have hg0 : w.grownBy (w.alloc (.cells #[.int .i64 se, .int .i64 de, .slice va l.length vc] 24)) none := gr_alloc (World.grownBy.refl _ _) _
  go_enter Try.func3, Try.ntmps3
  go_upto_region 1 with fail
  generalize w.alloc (.cells #[.int .i64 se, .int .i64 de, .slice va l.length vc] 24) = W0 at *
  generalize w.heap.size = p at *
  have cG := guardOf_any se de l _ W0 (rdVs_grown hv hg0) hl hn4
  have c8 := fun (X : World) (hX : W0.grownBy X none) => begun_any se de l _ X (rdVs_grown (rdVs_grown hv hg0) hX) hl
  have c11 := fun (X : World) (hX : W0.grownBy X none) => guarded_any se de l _ X (rdVs_grown (rdVs_grown hv hg0) hX) hl
  have hv0 := rdVs_grown hv hg0
  have c9 := fun (hs : Value) (X : World) (hX : rdVs X hs l) => start_any se de l hs X hX hl
  have c10 := fun (hs : Value) (X : World) (hX : rdVs X hs l) => check_any se de l hs X hX hl
  have c13 := fun (hs : Value) (X : World) (hX : W0.grownBy X none) (hY : rdVs X hs l) => sameGuard_yes se de l _ hs X (rdVs_grown hv0 hX) hY hl
  obtain ⟨T, hT⟩ : ∃ T, startT se de l = T := ⟨_, rfl⟩
  obtain ⟨E, hE⟩ : ∃ E, (checkF se de l).1 = E := ⟨_, rfl⟩
  obtain ⟨U, hU⟩ : ∃ U, (checkF se de l).2 = U := ⟨_, rfl⟩
  have hTl : T.h.length ≤ 17592186043904 := by
    rw [← hT]; unfold startT; split
    · simp; exact hl.1
    · simp [zeroT]
  rw [hT, hE] at c8
  rw [hT, hE] at c9
  rw [hE, hU] at c10 c11
  clear hT hE hU hv hl hv0
  obtain ⟨d, f, hh, kk⟩ := T
  dsimp only at hTl
  obtain ⟨n, hn⟩ : ∃ n, l.length = n := ⟨_, rfl⟩
  have HN := hidI hn
  rw [hn] at hW0 cG c8 c11 c13 hn4 ⊢
  obtain ⟨i0, i1, i2⟩ := at3 hW0
  have HW0 := hidI (And.intro hW0 hg0)
  clear hn hW0 hg0
  go_wp2_with fail
  refine cG.mono ?_
  rintro e w1 ⟨ha, hc, rfl, hrh, g1⟩
  rw [HN.out] at hrh ⊢
  clear cG i0 i1 i2
  have gA1 : W0.grownBy (w1.alloc (.cells #[.int .i64 se, .int .i64 de, .slice ha n hc] 24)) none := gr_alloc g1 _
  have k1 : (w1.alloc (.cells #[.int .i64 se, .int .i64 de, .slice ha n hc] 24)).heap[w1.heap.size]? = _ := heap_alloc_new w1 _
  have k0 := kept gA1 HW0.out.1
  have hrh1 := rdVs_grown hrh (gr_alloc (World.grownBy.refl w1 none) (.cells #[.int .i64 se, .int .i64 de, .slice ha n hc] 24))
  go_upto_region 2 with fail
  clear hrh
  generalize w1.alloc (.cells #[.int .i64 se, .int .i64 de, .slice ha n hc] 24) = A1 at *
  generalize w1.heap.size = q1 at *
  obtain ⟨i0, i1, i2⟩ := at3 k0
  have HK1 := hidI (And.intro k0 (And.intro k1 hrh1))
  clear k0 k1 hrh1 g1
  go_wp2_with fail
  refine (c8 _ gA1).mono ?_
  rintro e w2 ⟨V2, rfl, a2, s2, rfl, o2, g2⟩
  dsimp only [trV, trA] at *
  clear c8 i0 i1 i2
  have gA2' : A1.grownBy (w2.alloc (.cells #[.bool d, .int .i64 f, .slice a2 hh.length s2, .bool kk] 28)) none := gr_alloc g2 _
  have k2 : (w2.alloc (.cells #[.bool d, .int .i64 f, .slice a2 hh.length s2, .bool kk] 28)).heap[w2.heap.size]? = _ := heap_alloc_new w2 _
  have o2' := OwnL.kept o2 (gr_alloc (World.grownBy.refl w2 none) (.cells #[.bool d, .int .i64 f, .slice a2 hh.length s2, .bool kk] 28))
  have z2 : (w2.alloc (.cells #[.bool d, .int .i64 f, .slice a2 hh.length s2, .bool kk] 28)).heap.size = w2.heap.size + 1 := by simp
  have y2 := OwnL.lt o2
  go_upto_region 3 with fail
  clear o2 g2
  generalize w2.alloc (.cells #[.bool d, .int .i64 f, .slice a2 hh.length s2, .bool kk] 28) = A2 at *
  generalize w2.heap.size = q2 at *
  have gA2 := grown_join gA1 gA2' (.inl rfl)
  obtain ⟨k0, k1, hrh1⟩ := HK1.out
  have k0 := kept gA2' k0
  have k1 := kept gA2' k1
  have hrh2 := rdVs_grown hrh1 gA2'
  obtain ⟨j0, j1, j2⟩ := at3 k1
  have HK2 := hidI (And.intro k0 (And.intro k1 (And.intro hrh2 (And.intro k2 (And.intro o2' (And.intro y2 z2))))))
  clear k0 k1 hrh1 k2 o2' gA2' HK1 gA1 y2 z2
  go_wp2_with fail
  refine (c9 _ _ hrh2).mono ?_
  rintro e w3 ⟨V3, rfl, a3, s3, rfl, o3, g3⟩
  dsimp only [trV, trA] at *
  clear hrh2 j0 j1 j2
  have gA3' : A2.grownBy (w3.alloc (.cells #[.bool d, .int .i64 f, .slice a3 hh.length s3, .bool kk] 28)) none := gr_alloc g3 _
  have k3 : (w3.alloc (.cells #[.bool d, .int .i64 f, .slice a3 hh.length s3, .bool kk] 28)).heap[w3.heap.size]? = _ := heap_alloc_new w3 _
  have o3' := OwnL.kept o3 (gr_alloc (World.grownBy.refl w3 none) (.cells #[.bool d, .int .i64 f, .slice a3 hh.length s3, .bool kk] 28))
  have z3 : (w3.alloc (.cells #[.bool d, .int .i64 f, .slice a3 hh.length s3, .bool kk] 28)).heap.size = w3.heap.size + 1 := by simp
  have y3 := OwnL.lt o3
  go_upto_region 4 with fail
  clear o3 g3
  generalize w3.alloc (.cells #[.bool d, .int .i64 f, .slice a3 hh.length s3, .bool kk] 28) = A3 at *
  generalize w3.heap.size = q3 at *
  have gA3 := grown_join gA2 gA3' (.inl rfl)
  have ZA := hidI gA2.size
  obtain ⟨k0, k1, hrh1, k2, o2, y2, z2⟩ := HK2.out
  have k0 := kept gA3' k0
  have k1 := kept gA3' k1
  have k2 := kept gA3' k2
  have o2 := o2.kept gA3'
  have hrh2 := rdVs_grown hrh1 gA3'
  obtain ⟨j0, j1, j2⟩ := at3 k1
  have HK3 := hidI (And.intro k0 (And.intro k1 (And.intro hrh2 (And.intro k2 (And.intro o2 (And.intro y2 (And.intro z2 (And.intro k3 (And.intro o3' (And.intro y3 z3))))))))))
  clear k0 k1 hrh1 k2 o2 o3' gA3' HK2 gA2 k3 y2 z2 y3 z3
  go_wp2_with fail
  refine (c9 _ _ hrh2).mono ?_
  rintro e w4 ⟨V4, rfl, a4, s4, rfl, o4, g4⟩
  dsimp only [trV, trA] at *
  clear hrh2 j0 j1 j2 c9
  have gA4' : A3.grownBy (w4.alloc (.cells #[.bool d, .int .i64 f, .slice a4 hh.length s4, .bool kk] 28)) none := gr_alloc g4 _
  have k4 : (w4.alloc (.cells #[.bool d, .int .i64 f, .slice a4 hh.length s4, .bool kk] 28)).heap[w4.heap.size]? = _ := heap_alloc_new w4 _
  have o4' := OwnL.kept o4 (gr_alloc (World.grownBy.refl w4 none) (.cells #[.bool d, .int .i64 f, .slice a4 hh.length s4, .bool kk] 28))
  have z4 : (w4.alloc (.cells #[.bool d, .int .i64 f, .slice a4 hh.length s4, .bool kk] 28)).heap.size = w4.heap.size + 1 := by simp
  have y4 := OwnL.lt o4
  go_upto_region 5 with fail
  have z5 := g4.size
  clear o4 g4
  generalize w4.alloc (.cells #[.bool d, .int .i64 f, .slice a4 hh.length s4, .bool kk] 28) = A4 at *
  generalize w4.heap.size = q4 at *
  have gA4 := grown_join gA3 gA4' (.inl rfl)
  obtain ⟨k0, k1, hrh1, k2, o2, y2, z2, k3, o3, y3, z3⟩ := HK3.out
  have k0 := kept gA4' k0
  have k1 := kept gA4' k1
  have k2 := kept gA4' k2
  have k3 := kept gA4' k3
  have o2 := o2.kept gA4'
  have o3 := o3.kept gA4'
  have hrh2 := rdVs_grown hrh1 gA4'
  have t1 := fun (X : World) (hX : A4.grownBy X none) => c10 _ X (rdVs_grown hrh2 hX)
  have t2 := fun (X : World) (hX : A4.grownBy X none) => c11 X (grown_join gA4 hX (.inl rfl))
  have t3 := fun (X : World) (hX : A4.grownBy X none) => sameTrip_yes ⟨d, f, hh, kk⟩ _ _ X (o3.kept hX).rd (o2.kept hX).rd (by show hh.length ≤ _; omega)
  have t4 := fun (X : World) (hX : A4.grownBy X none) => sameTrip_yes ⟨d, f, hh, kk⟩ _ _ X (o4'.kept hX).rd (o2.kept hX).rd (by show hh.length ≤ _; omega)
  have t5 := fun (X : World) (hX : A4.grownBy X none) => c13 _ X (grown_join gA4 hX (.inl rfl)) (rdVs_grown hrh2 hX)
  dsimp only [trV, trA] at t3 t4
  obtain ⟨m0, m1, m2⟩ := at3 k0
  obtain ⟨n0, n1, n2⟩ := at3 k1
  obtain ⟨u0, u1, u2, u3⟩ := at4 k2
  obtain ⟨v0, v1, v2, v3⟩ := at4 k3
  obtain ⟨x0, x1, x2, x3⟩ := at4 k4
  have HKEEP : Hid (∀ X : World, A4.grownBy X none → X.cell? ⟨p, 0, none⟩ = some (.int .i64 se) ∧ X.cell? ⟨p, 1, none⟩ = some (.int .i64 de) ∧ X.cell? ⟨p, 2, none⟩ = some (.slice va n vc) ∧ X.cell? ⟨q1, 0, none⟩ = some (.int .i64 se) ∧ X.cell? ⟨q1, 1, none⟩ = some (.int .i64 de) ∧ X.cell? ⟨q1, 2, none⟩ = some (.slice ha n hc) ∧ X.cell? ⟨q2, 0, none⟩ = some (.bool d) ∧ X.cell? ⟨q2, 1, none⟩ = some (.int .i64 f) ∧ X.cell? ⟨q2, 2, none⟩ = some (.slice a2 hh.length s2) ∧ X.cell? ⟨q2, 3, none⟩ = some (.bool kk) ∧ X.cell? ⟨q3, 0, none⟩ = some (.bool d) ∧ X.cell? ⟨q3, 1, none⟩ = some (.int .i64 f) ∧ X.cell? ⟨q3, 2, none⟩ = some (.slice a3 hh.length s3) ∧ X.cell? ⟨q3, 3, none⟩ = some (.bool kk) ∧ X.cell? ⟨q4, 0, none⟩ = some (.bool d) ∧ X.cell? ⟨q4, 1, none⟩ = some (.int .i64 f) ∧ X.cell? ⟨q4, 2, none⟩ = some (.slice a4 hh.length s4) ∧ X.cell? ⟨q4, 3, none⟩ = some (.bool kk)) := hidI (fun X hX => ⟨hX.cell m0 (by simp), hX.cell m1 (by simp), hX.cell m2 (by simp), hX.cell n0 (by simp), hX.cell n1 (by simp), hX.cell n2 (by simp), hX.cell u0 (by simp), hX.cell u1 (by simp), hX.cell u2 (by simp), hX.cell u3 (by simp), hX.cell v0 (by simp), hX.cell v1 (by simp), hX.cell v2 (by simp), hX.cell v3 (by simp), hX.cell x0 (by simp), hX.cell x1 (by simp), hX.cell x2 (by simp), hX.cell x3 (by simp)⟩)
  have HEND := hidI (And.intro k2 (And.intro k3 (And.intro k4 (And.intro o2 (And.intro o3 (And.intro o4' (And.intro gA4 (And.intro y2 (And.intro z2 (And.intro y3 (And.intro z3 (And.intro y4 (And.intro z4 z5)))))))))))))
  clear k0 k1 k2 k3 k4 o2 o3 o4' hrh1 hrh2 gA4' gA4 gA3 HK3 c10 c11 c13 y2 z2 y3 z3 y4 z4 z5
  go_region_held3 (fun X => X.cell? ⟨p, 0, none⟩ = some (.int .i64 se) ∧ X.cell? ⟨p, 1, none⟩ = some (.int .i64 de) ∧ X.cell? ⟨p, 2, none⟩ = some (.slice va n vc) ∧ X.cell? ⟨q1, 0, none⟩ = some (.int .i64 se) ∧ X.cell? ⟨q1, 1, none⟩ = some (.int .i64 de) ∧ X.cell? ⟨q1, 2, none⟩ = some (.slice ha n hc) ∧ X.cell? ⟨q2, 0, none⟩ = some (.bool d) ∧ X.cell? ⟨q2, 1, none⟩ = some (.int .i64 f) ∧ X.cell? ⟨q2, 2, none⟩ = some (.slice a2 hh.length s2) ∧ X.cell? ⟨q2, 3, none⟩ = some (.bool kk) ∧ X.cell? ⟨q3, 0, none⟩ = some (.bool d) ∧ X.cell? ⟨q3, 1, none⟩ = some (.int .i64 f) ∧ X.cell? ⟨q3, 2, none⟩ = some (.slice a3 hh.length s3) ∧ X.cell? ⟨q3, 3, none⟩ = some (.bool kk) ∧ X.cell? ⟨q4, 0, none⟩ = some (.bool d) ∧ X.cell? ⟨q4, 1, none⟩ = some (.int .i64 f) ∧ X.cell? ⟨q4, 2, none⟩ = some (.slice a4 hh.length s4) ∧ X.cell? ⟨q4, 3, none⟩ = some (.bool kk)) (first | (go_keep; done) | exact HKEEP.out _ (by assumption) | exact HKEEP.out _ (gr_drew (by assumption)))
    (first | (go_at_call 10; refine (t1 _ (by first | assumption | exact World.grownBy.refl _ _ | exact gr_drew (World.grownBy.refl _ _) | exact gr_drew (by assumption))).mono ?_; rintro e y1 ⟨rfl, e1'⟩; have e1 : A4.grownBy y1 none := (grown_join (by first | assumption | exact World.grownBy.refl _ _ | exact gr_drew (World.grownBy.refl _ _) | exact gr_drew (by assumption)) e1' (.inl rfl)); clear e1') | (go_at_call 11; refine (t2 _ (by first | assumption | exact World.grownBy.refl _ _ | exact gr_drew (World.grownBy.refl _ _) | exact gr_drew (by assumption))).mono ?_; rintro e y2 ⟨rfl, e2'⟩; have e2 : A4.grownBy y2 none := (grown_join (by first | assumption | exact World.grownBy.refl _ _ | exact gr_drew (World.grownBy.refl _ _) | exact gr_drew (by assumption)) e2' (.inl rfl)); clear e2') | (go_at_call 12; first | (with_reducible refine (t3 _ (by first | assumption | exact World.grownBy.refl _ _ | exact gr_drew (World.grownBy.refl _ _) | exact gr_drew (by assumption))).mono ?_; rintro e y3 ⟨rfl, e3'⟩; have e3 : A4.grownBy y3 none := (grown_join (by first | assumption | exact World.grownBy.refl _ _ | exact gr_drew (World.grownBy.refl _ _) | exact gr_drew (by assumption)) e3' (.inl rfl)); clear e3') | (with_reducible refine (t4 _ (by first | assumption | exact World.grownBy.refl _ _ | exact gr_drew (World.grownBy.refl _ _) | exact gr_drew (by assumption))).mono ?_; rintro e y4 ⟨rfl, e4'⟩; have e4 : A4.grownBy y4 none := (grown_join (by first | assumption | exact World.grownBy.refl _ _ | exact gr_drew (World.grownBy.refl _ _) | exact gr_drew (by assumption)) e4' (.inl rfl)); clear e4')) | (go_at_call 13; refine (t5 _ (by first | assumption | exact World.grownBy.refl _ _ | exact gr_drew (World.grownBy.refl _ _) | exact gr_drew (by assumption))).mono ?_; rintro e y5 ⟨rfl, e5'⟩; have e5 : A4.grownBy y5 none := (grown_join (by first | assumption | exact World.grownBy.refl _ _ | exact gr_drew (World.grownBy.refl _ _) | exact gr_drew (by assumption)) e5' (.inl rfl)); clear e5'))
  obtain ⟨k2, k3, k4, o2, o3, o4, gA4, b2, z2, b3, z3, b4, z4, z5⟩ := HEND.out
  have v2' := e5.cell v2 (by simp)
  have cO := over_any A2.heap.size _ hh (-77) y5 (by omega) (o3.kept e5)
  have HG5 := hidI (And.intro e5 (grown_join (grown_join HW0.out.2 gA4 (.inl rfl)) e5 (.inl rfl)))
  have HWS := hidI (HW0.out.2.size)
  clear u0 u1 u2 u3 v0 v1 v2 v3 x0 x1 x2 x3 m0 m1 m2 n0 n1 n2 k2 k3 k4 o2 o3 o4 gA4 b2 z2 b3 z3 b4 z4 z5 HKEEP
  go_wp2_with fail
  refine cO.mono ?_
  rintro e y6 ⟨rfl, g6⟩
  obtain ⟨k2, k3, k4, o2, o3, o4, gA4, b2, z2, b3, z3, b4, z4, z5⟩ := HEND.out
  obtain ⟨e5, g5⟩ := HG5.out
  have r2 : rd y6 _ hh := own_rd_ne (o2.kept e5) g6 (fun x h1 h2 => by have := b2 x h1; have := b3 x h2; omega)
  have r4 : rd y6 _ hh := own_rd_ne (o4.kept e5) g6 (fun x h1 h2 => by have := b4 x h1; have := b3 x h2; omega)
  have K2 : y6.heap[q2]? = _ := (g6.block q2 (at_lt (kept e5 k2)) (fun e => by have := b3 _ e.symm; omega)).trans (kept e5 k2)
  have K4 : y6.heap[q4]? = _ := (g6.block q4 (at_lt (kept e5 k4)) (fun e => by have := b3 _ e.symm; omega)).trans (kept e5 k4)
  obtain ⟨u0, u1, u2, u3⟩ := at4 K2
  obtain ⟨x0, x1, x2, x3⟩ := at4 K4
  have cE := sameTrip_yes ⟨d, f, hh, kk⟩ _ _ y6 r4 r2 (by show hh.length ≤ _; omega)
  dsimp only [trV, trA] at cE
  have hsz := (HW0.out.2).size
  have hs2 := ZA.out
  have HG6 := hidI (grown_join g5 g6 (.inr (fun x hx => by have := b3 x hx; omega)))
  clear k2 k3 k4 o2 o3 o4 b2 z2 b3 z3 b4 z4 z5 r2 r4 K2 K4 cO g6 e5 g5 gA4 HEND
  go_wp2_with fail
  refine cE.mono ?_
  rintro e y7 ⟨rfl, g7⟩
  go_wp2
  go_ret
  exact ⟨rfl, grown_join HG6.out g7 (.inl rfl)⟩
end Go.Proofs.Ytefekafpmnaeoaa
