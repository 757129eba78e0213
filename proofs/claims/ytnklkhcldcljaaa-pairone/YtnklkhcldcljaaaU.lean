/- One of two is active. -/
import Derived.Test.YtnklkhcldcljaaaRb
namespace Go.Proofs.Ytnklkhcldcljaaa
open Go.RowKit
attribute [local go_sem ↓] Go.wp_at_zero Go.wp_at_succ
set_option linter.unusedVariables false
set_option linter.unusedSimpArgs false

set_option maxRecDepth 20000 in
set_option maxHeartbeats 200000000 in
theorem one_any (pn : Int) (ps : List (Int × Int × Int)) (v : Value) (w : World) (h1 : in64 pn) (hv : BsAt w v ps) (hz : ∀ x ∈ ps, in64 x.1 ∧ in64 x.2.1 ∧ in64 x.2.2) (hl : ps.length ≤ maxLen) : Calls Try.prog 8 #[.int .i64 pn, v] w fun e w' => e = .returned (.bool true) ∧ w.grownBy w' none := by
  obtain ⟨pa, cap, rfl, hpa⟩ := hv
  obtain ⟨N, hN⟩ : ∃ N, ps.length = N := ⟨_, rfl⟩
  have HPS := hidI (And.intro hpa (And.intro hz hN))
  rw [hN] at hl ⊢
  clear hpa hz hN
  have hl2 : N ≤ 9223372036854775807 := by unfold maxLen at hl; omega
  by_cases h400 : 400 < N
  · have i4 : (400 : Int) < (N : Int) := by omega
    go_enter Try.func8, Try.ntmps8
    go_wp2
    go_ret
    exact ⟨rfl, World.grownBy.refl _ _⟩
  have i4 : ¬ (400 : Int) < (N : Int) := by omega
  have cp := picked_any pn 4 w h1 (by omega) (by omega)
  have pl := pk_lt pn (m := 4) (by omega)
  generalize pk pn 4 = pq at *
  obtain ⟨pt, hpt⟩ : ∃ pt, pt = 1 + pq := ⟨_, rfl⟩
  have hp1 : 1 ≤ pt ∧ pt ≤ 4 := by omega
  have HPI := hidI (show (1 : Int) + (pq : Int) = (pt : Int) by omega)
  clear hpt
  go_enter Try.func8, Try.ntmps8
  go_wp2_with fail
  refine cp.mono ?_
  rintro e w0 ⟨rfl, rfl⟩
  clear cp
  go_upto_region 4 with fail
  rw [HPI.out]
  clear HPI pl i4
  obtain ⟨P, hP⟩ : ∃ q, w.heap.size = q := ⟨_, rfl⟩
  go_upto_region 5 with fail
  have hM := PM.first hP (World.grownBy.refl w none) pt
  generalize w.alloc (.cells #[.int .i64 0, .bool false, .int .i64 0, .int .i64 0, .slice none 0 0, .int .i64 0, .int .i64 0, .int .i64 0, .bool false, .int .i64 0, .int .i64 0, .slice none 0 0, .int .i64 0, .int .i64 0] 45) = X0 at *
  have HM := hidI hM
  clear hM hP
  go_upto_block 0 with fail
  go_cut [] (fun wx => ∃ a c, PM w wx P (S1 pt 2) a c)
  case first =>
    go_wp2_with fail
    go_loopg [7] 2 (fun gk s7 wx => ∃ (i : Nat) (a : Nat → Option Addr) (c : Nat → Nat), s7 = .int .i64 (i : Int) ∧ i ≤ 2 ∧ gk = 2 - i ∧ PM w wx P (S1 pt i) a c)
    case atStart => exact ⟨0, _, _, rfl, by omega, by omega, HM.out⟩
    case round =>
      obtain ⟨i, a, c, rfl, hi, hgi, hM⟩ := hrel
      have HG := hidI hgi
      clear hgi HM
      have HM := hidI hM
      clear hM
      by_cases hlt : i < 2
      · obtain ⟨L, hL⟩ : ∃ L, L = sdOf i pt (sn0 i) := ⟨_, rfl⟩
        have cs : ∀ X, Calls Try.prog 27 #[.int .i64 0] X fun e w' => TwP X w' e 0 := fun X => summed_any 0 X (by omega)
        have cA : ∀ X v, rd X v (im2 0) → Calls Try.prog 11 #[.int .i64 (i : Int), .int .i64 (pt : Int), v] X fun e w' => StE X w' e L 0 := fun X v k => by
          have := start_any (i : Int) (pt : Int) (im2 0) v X k (by simp [im2])
          rw [(start_is hlt hp1).1, (start_is hlt hp1).2] at this
          rw [hL]
          exact this
        have HL := hidI hL
        clear hL
        have x1 : (0 : Int) ≤ (i : Int) := by omega
        have x2 : (i : Int) < 2 := by omega
        go_wp2_with fail
        refine (cs _).mono ?_
        rintro e w1 ⟨ua, uc, rfl, ou, g1⟩
        go_wp2_with fail
        refine (cA _ _ (OwnL.rd ou)).mono ?_
        rintro e w2 ⟨aa, ac, rfl, o2, g2⟩
        dsimp only [sdV, sdA] at *
        obtain ⟨q, hq⟩ : ∃ q, w2.heap.size = q := ⟨_, rfl⟩
        go_upto_region 11 with fail
        have gA := gr_alloc (World.grownBy.refl w2 none) (.cells #[.int .i64 L.me, .bool L.ac, .int .i64 L.te, .int .i64 L.cy, .slice aa L.im.length ac, .int .i64 L.si, .int .i64 L.pa] 24)
        have K1 := hp_new hq.symm (.cells #[.int .i64 L.me, .bool L.ac, .int .i64 L.te, .int .i64 L.cy, .slice aa L.im.length ac, .int .i64 L.si, .int .i64 L.pa] 24)
        have hM := HM.out.grow (grown_join (grown_join g1 g2 (.inl rfl)) gA (.inl rfl))
        have o2 := OwnL.kept o2 gA
        clear HM g1 g2 gA hq ou cs cA
        generalize w2.alloc (.cells #[.int .i64 L.me, .bool L.ac, .int .i64 L.te, .int .i64 L.cy, .slice aa L.im.length ac, .int .i64 L.si, .int .i64 L.pa] 24) = X at *
        obtain ⟨i0, i1, i2, i3, i4, i5, i6⟩ := at7 K1
        obtain ⟨p0, p1, p2, p3, p4, p5, p6⟩ := hM.cells hlt
        obtain ⟨f0, f1, f2, f3, f4, f5, f6⟩ := hM.frozen i
        have HM := hidI (hM.put hlt o2)
        clear hM K1 o2
        go_wp2
        have hgl := HG.out
        go_roundg (2 - (i + 1))
        all_goals first | omega | exact ⟨i + 1, _, _, by go_num, by omega, by omega, by have e1 := HL.out; subst e1; rw [← S1_next]; exact HM.out⟩
      · have hi2 : i = 2 := by omega
        subst hi2
        go_wp2_with fail
        go_meet
        exact ⟨_, _, HM.out⟩
  case rest =>
  obtain ⟨a, c, hM⟩ := hcut
  clear HM
  obtain ⟨T, hT⟩ : ∃ q, wc.heap.size = q := ⟨_, rfl⟩
  go_upto_region 13 with fail
  have hI := Iv.first hM hT
  clear hM hT
  generalize wc.alloc (.cells #[.slice none 0 0] 47) = X1 at *
  have HI := hidI hI
  clear hI
  have HGd := hidI (Good.start (pt := pt) hp1.1)
  go_upto_block 2 with fail
  go_wp2_with fail
  go_loopg [13] N (fun gk s13 wx => ∃ (i : Nat) (s : Nat → Sn) (a : Nat → Option Addr) (c : Nat → Nat) (bs : List Bn) (sa : Option Addr) (sc : Nat), s13 = .int .i64 (i : Int) ∧ i ≤ N ∧ gk = N - i ∧ Good i pt s bs ∧ bs.length ≤ 2 * i ∧ Iv w wx P T (SS pt s) a c (bs.map btOf) sa sc)
  case atStart => exact ⟨0, _, a, c, [], none, 0, rfl, by omega, by omega, HGd.out, by simp, HI.out⟩
  case round =>
  clear HI HGd
  obtain ⟨i, s, a, c, bs, sa, sc, rfl, hi, hgi, hG, hbl, hI⟩ := hrel
  have HG := hidI hgi
  clear hgi
  by_cases hlt : i < N
  case neg =>
    have hk' : ¬ ((i : Int) < (N : Int)) := by omega
    go_wp2
    go_ret
    exact ⟨rfl, hI.gr⟩
  have hN4 : N ≤ 400 := by omega
  obtain ⟨hps, hz, hN⟩ := HPS.out
  have hkl : i < ps.length := by omega
  rcases hps with h | ⟨b, off, rfl, hc⟩
  · subst h; simp at hkl
  obtain ⟨c0, c1, c2⟩ := hc i hkl
  obtain ⟨z0, z1, z2⟩ := hz (ps.getD i (0, 0, 0)) (by rw [List.getD, List.getElem?_eq_getElem hkl]; exact List.getElem_mem _)
  generalize (ps.getD i (0, 0, 0)).1 = e0 at *
  generalize (ps.getD i (0, 0, 0)).2.1 = e1 at *
  generalize (ps.getD i (0, 0, 0)).2.2 = e2 at *
  have q0 := hI.gr.cell c0 (by simp)
  have q1 := hI.gr.cell c1 (by simp)
  have HC2 := hidI (And.intro c2 z2)
  clear hc hz hkl hN c0 c1 c2 z2
  have ck := fun X => picked_any e0 2 X z0 (by omega) (by omega)
  have hk := pk_lt e0 (m := 2) (by omega)
  have cw := fun X => picked_any e1 5 X z1 (by omega) (by omega)
  have hw := pk_lt e1 (m := 5) (by omega)
  generalize pk e0 2 = k at *
  generalize pk e1 5 = wh at *
  have HI := hidI hI
  have HGd := hidI (And.intro hG hbl)
  have x1 : (0 : Int) ≤ (i : Int) := by omega
  have x2 : (i : Int) < (N : Int) := by omega
  clear hG hbl hI z0 z1
  go_wp2_with fail
  refine (ck _).mono ?_
  rintro e w1 ⟨rfl, rfl⟩
  clear ck q0
  go_upto_region 19 with fail
  obtain ⟨S, hS⟩ : ∃ S, SS pt s = S := ⟨_, rfl⟩
  have hI := HI.out
  rw [hS] at hI
  have HS := hidI hS
  clear hS HI
  obtain ⟨Q, hQ⟩ : ∃ q, wr.heap.size = q := ⟨_, rfl⟩
  have y0 := at_cell hI.bp 0
  have y1 := at_cell hI.bp 1
  have y2 := at_cell hI.bp 2
  have y3 := at_cell hI.bp 3
  have y4 := at_cell hI.bp 4
  have y5 := at_cell hI.bp 5
  have y6 := at_cell hI.bp 6
  have y7 := at_cell hI.bp 7
  have y8 := at_cell hI.bp 8
  have y9 := at_cell hI.bp 9
  have y10 := at_cell hI.bp 10
  have y11 := at_cell hI.bp 11
  have y12 := at_cell hI.bp 12
  have y13 := at_cell hI.bp 13
  simp only [sd14, List.getElem?_toArray, List.getElem?_cons_succ, List.getElem?_cons_zero] at y0 y1 y2 y3 y4 y5 y6 y7 y8 y9 y10 y11 y12 y13
  go_upto_region 20 with fail
  clear y0 y1 y2 y3 y4 y5 y6 y7 y8 y9 y10 y11 y12 y13
  have gQ := gr_alloc (World.grownBy.refl wr none) (.cells #[.int .i64 (S 0).me, .bool (S 0).ac, .int .i64 (S 0).te, .int .i64 (S 0).cy, .slice (a 0) (S 0).im.length (c 0), .int .i64 (S 0).si, .int .i64 (S 0).pa, .int .i64 (S 1).me, .bool (S 1).ac, .int .i64 (S 1).te, .int .i64 (S 1).cy, .slice (a 1) (S 1).im.length (c 1), .int .i64 (S 1).si, .int .i64 (S 1).pa] 45)
  have KQ := hp_new hQ.symm (.cells #[.int .i64 (S 0).me, .bool (S 0).ac, .int .i64 (S 0).te, .int .i64 (S 0).cy, .slice (a 0) (S 0).im.length (c 0), .int .i64 (S 0).si, .int .i64 (S 0).pa, .int .i64 (S 1).me, .bool (S 1).ac, .int .i64 (S 1).te, .int .i64 (S 1).cy, .slice (a 1) (S 1).im.length (c 1), .int .i64 (S 1).si, .int .i64 (S 1).pa] 45)
  have hQP : Q ≠ P := by have := at_lt hI.bp; omega
  have hI := hI.grow gQ
  have q1 := gQ.cell q1 (by simp)
  clear gQ hQ
  generalize wr.alloc (.cells #[.int .i64 (S 0).me, .bool (S 0).ac, .int .i64 (S 0).te, .int .i64 (S 0).cy, .slice (a 0) (S 0).im.length (c 0), .int .i64 (S 0).si, .int .i64 (S 0).pa, .int .i64 (S 1).me, .bool (S 1).ac, .int .i64 (S 1).te, .int .i64 (S 1).cy, .slice (a 1) (S 1).im.length (c 1), .int .i64 (S 1).si, .int .i64 (S 1).pa] 45) = X2 at *
  have HI := hidI (And.intro hI (And.intro KQ hQP))
  clear hI KQ hQP
  go_wp2_with fail
  refine (cw _).mono ?_
  rintro e w2 ⟨rfl, rfl⟩
  clear cw q1
  go_upto_block 4 with fail
  go_cut [] (fun wx => ∃ (s' : Nat → Sn) (a' : Nat → Option Addr) (c' : Nat → Nat) (bs' : List Bn) (sa' : Option Addr) (sc' : Nat), Hid (Good (i + 1) pt s' bs' ∧ bs'.length ≤ 2 * (i + 1) ∧ Mo s s' ∧ Iv w wx P T (SS pt s') a' c' (bs'.map btOf) sa' sc' ∧ wx.heap[Q]? = some (.cells #[.int .i64 (S 0).me, .bool (S 0).ac, .int .i64 (S 0).te, .int .i64 (S 0).cy, .slice (a 0) (S 0).im.length (c 0), .int .i64 (S 0).si, .int .i64 (S 0).pa, .int .i64 (S 1).me, .bool (S 1).ac, .int .i64 (S 1).te, .int .i64 (S 1).cy, .slice (a 1) (S 1).im.length (c 1), .int .i64 (S 1).si, .int .i64 (S 1).pa] 45)))
  case first =>
    have hwc : wh = 0 ∨ wh = 1 ∨ wh = 2 ∨ wh = 3 ∨ wh = 4 := by omega
    rcases hwc with rfl | rfl | rfl | rfl | rfl
    · as_aux_lemma =>
        have hSk : S k = sdOf k pt (s k) := by rw [← HS.out]; rfl
        have ok := HGd.out.1.ok k hk
        have hlen : (S k).im.length ≤ 17592186043904 := by rw [hSk]; simp [sdOf, im2]
        have x3 : (0 : Int) ≤ (k : Int) := by omega
        have x4 : (k : Int) < 2 := by omega
        obtain ⟨i0, i1, i2, i3, i4, i5, i6⟩ := HI.out.1.cells hk
        cases hac : (s k).ac with
        | false =>
          rw [hSk] at i1
          have y1 : X2.cell? ⟨P, k * 7 + 1, none⟩ = some (.bool false) := by rw [i1]; show some (Value.bool (s k).ac) = _; rw [hac]
          clear i0 i1 i2 i3 i4 i5 i6 hSk ok hlen hac
          go_wp2
          have hgl := HG.out
          go_roundg (N - (i + 1))
          all_goals first | omega | exact ⟨i + 1, s, a, c, bs, sa, sc, by go_num, by omega, by omega, HGd.out.1.mono (Nat.le_succ _), by have := HGd.out.2; omega, by rw [HS.out]; exact HI.out.1⟩
        | true =>
          obtain ⟨L, hL⟩ : ∃ L, S k = L := ⟨_, rfl⟩
          obtain ⟨R, hR⟩ : ∃ R, R = sdOf k pt (doneN (s k)) := ⟨_, rfl⟩
          have cAf : ∀ X v, rd X v L.im → Calls Try.prog 31 #[v] X fun e w' => TwP X w' e ((s k).cy + 1) := fun X v h => by
            rw [← hL, hSk] at h
            exact after_any (s k).cy v X h (by have := ok.2.1; omega)
          have cDn : ∀ X v u, rd X v L.im → rd X u (im2 ((s k).cy + 1)) → Calls Try.prog 25 #[sdV L v, u] X fun e w' => StE X w' e R 0 := fun X v u h h2 => by
            rw [← hL] at h
            have := done_any (S k) (im2 ((s k).cy + 1)) v u X h hlen h2 (by simp [im2])
            have e := done_is (N := i) hk hp1 ok (by omega) hac
            rw [← hSk] at e
            rw [e.1, e.2, ← hR, hL] at this
            exact this
          have hrd := OwnL.rd (HI.out.1.ow k hk)
          have HRC := hidI (show R.cy = L.cy + 1 by rw [hR, ← hL, hSk]; show (((s k).cy + 1 : Nat) : Int) = ((s k).cy : Int) + 1; omega)
          have HLC := hidI (show 0 ≤ L.cy ∧ L.cy ≤ 1000 by rw [← hL, hSk]; show (0 : Int) ≤ ((s k).cy : Int) ∧ ((s k).cy : Int) ≤ 1000; have := ok.2.1; omega)
          have HLA := hidI (show L.ac = true by rw [← hL, hSk]; exact hac)
          rw [hL] at i0 i1 i2 i3 i4 i5 i6 hrd
          have HRR := hidI (And.intro hR hac)
          have HRD := hidI hrd
          have HCE := hidI (And.intro i0 (And.intro i1 (And.intro i2 (And.intro i3 (And.intro i4 (And.intro i5 i6))))))
          have y1 := i1
          rw [HLA.out] at y1
          clear hL hR hSk ok hlen hac i0 i1 i2 i3 i4 i5 i6 hrd
          generalize a k = ak at *
          generalize c k = ck at *
          go_upto_region 23 with fail
          clear y1
          dsimp only [sdV, sdA] at cDn
          obtain ⟨i0, i1, i2, i3, i4, i5, i6⟩ := HCE.out
          have gR := World.grownBy.refl X2 none
          have gD := gr_drew gR
          have gY := gr_alloc gR (.cells #[.int .i64 0, .bool false, .int .i64 0, .int .i64 0, .slice none 0 0, .int .i64 0, .int .i64 0] 24)
          have gZ := gr_drew gY
          have HQX := hidI (heap_alloc_new X2 (.cells #[.int .i64 0, .bool false, .int .i64 0, .int .i64 0, .slice none 0 0, .int .i64 0, .int .i64 0] 24))
          have HKEEP : Hid (∀ Y : World, X2.grownBy Y none → (Y.cell? ⟨P, k * 7, none⟩ = some (.int .i64 L.me) ∧ Y.cell? ⟨P, k * 7 + 1, none⟩ = some (.bool L.ac) ∧ Y.cell? ⟨P, k * 7 + 2, none⟩ = some (.int .i64 L.te) ∧ Y.cell? ⟨P, k * 7 + 3, none⟩ = some (.int .i64 L.cy) ∧ Y.cell? ⟨P, k * 7 + 4, none⟩ = some (.slice ak L.im.length ck) ∧ Y.cell? ⟨P, k * 7 + 5, none⟩ = some (.int .i64 L.si) ∧ Y.cell? ⟨P, k * 7 + 6, none⟩ = some (.int .i64 L.pa))) := hidI (fun Y g => ⟨g.cell i0 (by simp), g.cell i1 (by simp), g.cell i2 (by simp), g.cell i3 (by simp), g.cell i4 (by simp), g.cell i5 (by simp), g.cell i6 (by simp)⟩)
          go_cut [16, 17] (fun s16 s17 wx => ∃ q aa ac B1, s16 = .pointer (some ⟨q, 0, none⟩) ∧ s17 = .int .i64 0 ∧ Hid (X2.grownBy wx none ∧ wx.heap[q]? = some (.cells #[.int .i64 R.me, .bool R.ac, .int .i64 R.te, .int .i64 R.cy, .slice aa R.im.length ac, .int .i64 R.si, .int .i64 R.pa] 24) ∧ OwnL B1 wx aa ac R.im))
          case first =>
            as_aux_lemma =>
              refine wp_region_held_drew (S := (fun Y : World => Y.cell? ⟨P, k * 7, none⟩ = some (.int .i64 L.me) ∧ Y.cell? ⟨P, k * 7 + 1, none⟩ = some (.bool L.ac) ∧ Y.cell? ⟨P, k * 7 + 2, none⟩ = some (.int .i64 L.te) ∧ Y.cell? ⟨P, k * 7 + 3, none⟩ = some (.int .i64 L.cy) ∧ Y.cell? ⟨P, k * 7 + 4, none⟩ = some (.slice ak L.im.length ck) ∧ Y.cell? ⟨P, k * 7 + 5, none⟩ = some (.int .i64 L.si) ∧ Y.cell? ⟨P, k * 7 + 6, none⟩ = some (.int .i64 L.pa))) (by kernel_rfl) (HKEEP.out _ gD) (fun hHeld => ?_)
              refine wpAnyH_take (i := 0) (oi := { dst := some 75, op := Op.move (Operand.tmp 14), type := 3, pos := "pair.go:59", after := #[], guard := none }) (v := ?_) rfl (by kernel_rfl) (by kernel_rfl) (by kernel_rfl) (fun _ _ _ h => h) (Or.inl ⟨by rfl, ?_⟩) (by assumption) ?_
              rotate_left
              · intro w hSw
                try dsimp only at hSw
                go_simp
                try with_reducible rfl
              try simp only [Act.put, List.setIfInBounds_toArray, List.set_cons_zero, List.set_cons_succ]
              refine wpAnyH_take (i := 1) (oi := { dst := some 76, op := Op.indexAddr 45 (Operand.tmp 6) (Operand.tmp 75), type := 0, pos := "pair.go:59", after := #[{ on := 0, ground := Ground.data }], guard := none }) (v := ?_) rfl (by kernel_rfl) (by kernel_rfl) (by kernel_rfl) (fun _ _ _ h => h) (Or.inl ⟨by rfl, ?_⟩) (by assumption) ?_
              rotate_left
              · intro w hSw
                try dsimp only at hSw
                go_simp
                try with_reducible rfl
              try simp only [Act.put, List.setIfInBounds_toArray, List.set_cons_zero, List.set_cons_succ]
              refine wpAnyH_take (i := 2) (oi := { dst := some 77, op := Op.load 24 (Operand.tmp 76), type := 24, pos := "pair.go:59", after := #[{ on := 1, ground := Ground.data }], guard := none }) (v := ?_) rfl (by kernel_rfl) (by kernel_rfl) (by kernel_rfl) (fun _ _ _ h => h) (Or.inl ⟨by rfl, ?_⟩) (by assumption) ?_
              rotate_left
              · intro w hSw
                try dsimp only at hSw
                go_simp
                try with_reducible rfl
              try simp only [Act.put, List.setIfInBounds_toArray, List.set_cons_zero, List.set_cons_succ]
              refine wpAnyH_take (i := 3) (oi := { dst := some 78, op := Op.move (Operand.tmp 14), type := 3, pos := "pair.go:59", after := #[], guard := none }) (v := ?_) rfl (by kernel_rfl) (by kernel_rfl) (by kernel_rfl) (fun _ _ _ h => h) (Or.inl ⟨by rfl, ?_⟩) (by assumption) ?_
              rotate_left
              · intro w hSw
                try dsimp only at hSw
                go_simp
                try with_reducible rfl
              try simp only [Act.put, List.setIfInBounds_toArray, List.set_cons_zero, List.set_cons_succ]
              refine wpAnyH_take (i := 4) (oi := { dst := some 79, op := Op.indexAddr 45 (Operand.tmp 6) (Operand.tmp 78), type := 0, pos := "pair.go:59", after := #[{ on := 3, ground := Ground.data }], guard := none }) (v := ?_) rfl (by kernel_rfl) (by kernel_rfl) (by kernel_rfl) (fun _ _ _ h => h) (Or.inl ⟨by rfl, ?_⟩) (by assumption) ?_
              rotate_left
              · intro w hSw
                try dsimp only at hSw
                go_simp
                try with_reducible rfl
              try simp only [Act.put, List.setIfInBounds_toArray, List.set_cons_zero, List.set_cons_succ]
              refine wpAnyH_take (i := 5) (oi := { dst := some 80, op := Op.fieldAddr 24 (Operand.tmp 79) 4, type := 0, pos := "pair.go:59", after := #[{ on := 4, ground := Ground.data }], guard := none }) (v := ?_) rfl (by kernel_rfl) (by kernel_rfl) (by kernel_rfl) (fun _ _ _ h => h) (Or.inl ⟨by rfl, ?_⟩) (by assumption) ?_
              rotate_left
              · intro w hSw
                try dsimp only at hSw
                go_simp
                try with_reducible rfl
              try simp only [Act.put, List.setIfInBounds_toArray, List.set_cons_zero, List.set_cons_succ]
              refine wpAnyH_take (i := 6) (oi := { dst := some 81, op := Op.load 22 (Operand.tmp 80), type := 22, pos := "pair.go:59", after := #[{ on := 5, ground := Ground.data }], guard := none }) (v := ?_) rfl (by kernel_rfl) (by kernel_rfl) (by kernel_rfl) (fun _ _ _ h => h) (Or.inl ⟨by rfl, ?_⟩) (by assumption) ?_
              rotate_left
              · intro w hSw
                try dsimp only at hSw
                go_simp
                try with_reducible rfl
              try simp only [Act.put, List.setIfInBounds_toArray, List.set_cons_zero, List.set_cons_succ]
              refine wpAnyH_ready (rs := [7, 12]) (by kernel_rfl) (by simp) ?_
              refine AllReadyH.cons (o := { dst := some 82, op := Op.call { callee := Callee.value (Operand.func 31), args := #[Operand.tmp 81], argTypes := #[22] }, type := 22, pos := "pair.go:59", after := #[{ on := 6, ground := Ground.data }], guard := none }) rfl (fun K hK => ?_) (AllReadyH.cons (o := { dst := some 16, op := Op.alloc 24, type := 0, pos := "pair.go:59", after := #[], guard := none }) rfl (fun K hK => ?_) AllReadyH.nil)
              · go_simp
                refine (cAf _ _ (rd_grown HRD.out gD)).mono ?_
                rintro e w1 ⟨ua, uc, rfl, ou, g1⟩
                have g01 := grown_join gD g1 (.inl rfl)
                go_wp2_with fail
                refine hK.out _ _ (HKEEP.out _ g01) (fun hHeld => ?_)
                clear hK K
                try simp only [Act.put, List.setIfInBounds_toArray, List.set_cons_zero, List.set_cons_succ]
                refine wpAnyH_ready (rs := [8, 12]) (by kernel_rfl) (by simp) ?_
                refine AllReadyH.cons (o := { dst := some 83, op := Op.call { callee := Callee.value (Operand.func 25), args := #[Operand.tmp 77, Operand.tmp 82], argTypes := #[24, 22] }, type := 26, pos := "pair.go:59", after := #[{ on := 2, ground := Ground.data }, { on := 7, ground := Ground.data }, { on := 7, ground := Ground.chain }], guard := none }) rfl (fun K hK => ?_) (AllReadyH.cons (o := { dst := some 16, op := Op.alloc 24, type := 0, pos := "pair.go:59", after := #[], guard := none }) rfl (fun K hK => ?_) AllReadyH.nil)
                · go_simp
                  refine (cDn _ _ _ (rd_grown HRD.out g01) (OwnL.rd ou)).mono ?_
                  rintro e w4 ⟨aa, ac, rfl, o4, g4⟩
                  try dsimp only [sdV, sdA]
                  have g04 := grown_join g01 g4 (.inl rfl)
                  go_wp2_with fail
                  refine hK.out _ _ (HKEEP.out _ g04) (fun hHeld => ?_)
                  clear hK K
                  try simp only [Act.put, List.setIfInBounds_toArray, List.set_cons_zero, List.set_cons_succ]
                  refine wpAnyH_take (i := 9) (oi := { dst := some 74, op := Op.move (Operand.tmp 83), type := 26, pos := "pair.go:59", after := #[{ on := 8, ground := Ground.data }], guard := none }) (v := ?_) rfl (by kernel_rfl) (by kernel_rfl) (by kernel_rfl) (fun _ _ _ h => h) (Or.inl ⟨by rfl, ?_⟩) (by assumption) ?_
                  rotate_left
                  · intro w hSw
                    try dsimp only at hSw
                    go_simp
                    try with_reducible rfl
                  try simp only [Act.put, List.setIfInBounds_toArray, List.set_cons_zero, List.set_cons_succ]
                  refine wpAnyH_take (i := 10) (oi := { dst := some 84, op := Op.extract (Operand.tmp 74) 0, type := 24, pos := "pair.go:59", after := #[{ on := 9, ground := Ground.data }], guard := none }) (v := ?_) rfl (by kernel_rfl) (by kernel_rfl) (by kernel_rfl) (fun _ _ _ h => h) (Or.inl ⟨by rfl, ?_⟩) (by assumption) ?_
                  rotate_left
                  · intro w hSw
                    try dsimp only at hSw
                    go_simp
                    try with_reducible rfl
                  try simp only [Act.put, List.setIfInBounds_toArray, List.set_cons_zero, List.set_cons_succ]
                  refine wpAnyH_take (i := 11) (oi := { dst := some 85, op := Op.extract (Operand.tmp 74) 1, type := 25, pos := "pair.go:59", after := #[{ on := 9, ground := Ground.data }, { on := 13, ground := Ground.gcOnly Departure.lateStores }], guard := none }) (v := ?_) rfl (by kernel_rfl) (by kernel_rfl) (by kernel_rfl) (fun _ _ _ h => h) (Or.inl ⟨by rfl, ?_⟩) (by assumption) ?_
                  rotate_left
                  · intro w hSw
                    try dsimp only at hSw
                    go_simp
                    try with_reducible rfl
                  try simp only [Act.put, List.setIfInBounds_toArray, List.set_cons_zero, List.set_cons_succ]
                  refine wpAnyH_ready (rs := [12]) (by kernel_rfl) (by simp) ?_
                  refine AllReadyH.cons (o := { dst := some 16, op := Op.alloc 24, type := 0, pos := "pair.go:59", after := #[], guard := none }) rfl (fun K hK => ?_) AllReadyH.nil
                  go_simp
                  refine hK.out _ _ (HKEEP.out _ (gr_alloc g04 _)) (fun hHeld => ?_)
                  clear hK K
                  try simp only [Act.put, List.setIfInBounds_toArray, List.set_cons_zero, List.set_cons_succ]
                  refine wpAnyH_ready (rs := [13]) (by kernel_rfl) (by simp) ?_
                  refine AllReadyH.cons (o := { dst := none, op := Op.store 24 (Operand.tmp 16) (Operand.tmp 84), type := 0, pos := "pair.go:59", after := #[{ on := 12, ground := Ground.data }, { on := 10, ground := Ground.data }, { on := 8, ground := Ground.chain }, { on := 0, ground := Ground.phase }, { on := 1, ground := Ground.phase }, { on := 2, ground := Ground.phase }, { on := 3, ground := Ground.phase }, { on := 4, ground := Ground.phase }, { on := 5, ground := Ground.phase }, { on := 6, ground := Ground.phase }, { on := 7, ground := Ground.phase }, { on := 8, ground := Ground.phase }, { on := 9, ground := Ground.phase }, { on := 10, ground := Ground.phase }, { on := 11, ground := Ground.textOnly Departure.lateStores }, { on := 12, ground := Ground.phase }], guard := none }) rfl (fun K hK => ?_) AllReadyH.nil
                  go_simp
                  first | refine hK.out _ _ (HKEEP.out _ (gr_alloc g04 _)) (fun hHeld => ?_) | refine hK.out _ _ (HKEEP.out _ (gr7n (gr_alloc g04 _) g04.size)) (fun hHeld => ?_)
                  clear hK K
                  try simp only [Act.put, List.setIfInBounds_toArray, List.set_cons_zero, List.set_cons_succ]
                  refine wpAnyH_take (i := 14) (oi := { dst := some 17, op := Op.assign (Operand.tmp 85), type := 25, pos := "pair.go:59", after := #[{ on := 11, ground := Ground.data }, { on := 13, ground := Ground.chain }, { on := 0, ground := Ground.phase }, { on := 1, ground := Ground.phase }, { on := 2, ground := Ground.phase }, { on := 3, ground := Ground.phase }, { on := 4, ground := Ground.phase }, { on := 5, ground := Ground.phase }, { on := 6, ground := Ground.phase }, { on := 7, ground := Ground.phase }, { on := 8, ground := Ground.phase }, { on := 9, ground := Ground.phase }, { on := 10, ground := Ground.phase }, { on := 11, ground := Ground.phase }, { on := 12, ground := Ground.phase }, { on := 13, ground := Ground.phase }], guard := none }) (v := ?_) rfl (by kernel_rfl) (by kernel_rfl) (by kernel_rfl) (fun _ _ _ h => h) (Or.inl ⟨by rfl, ?_⟩) (by assumption) ?_
                  rotate_left
                  · intro w hSw
                    try dsimp only at hSw
                    go_simp
                    try with_reducible rfl
                  try simp only [Act.put, List.setIfInBounds_toArray, List.set_cons_zero, List.set_cons_succ]
                  refine wpAnyH_done (by kernel_rfl) ?_ _
                  go_wp2_with fail
                  go_meet
                  exact ⟨_, aa, ac, _, rfl, rfl, hidI ⟨gr_alloc g04 _, heap_alloc_new _ _, OwnL.kept o4 (gr_alloc (World.grownBy.refl _ _) _)⟩⟩
                · go_simp
                  refine hK.out _ _ (HKEEP.out _ (gr_alloc g01 _)) (fun hHeld => ?_)
                  clear hK K
                  try simp only [Act.put, List.setIfInBounds_toArray, List.set_cons_zero, List.set_cons_succ]
                  refine wpAnyH_ready (rs := [8]) (by kernel_rfl) (by simp) ?_
                  refine AllReadyH.cons (o := { dst := some 83, op := Op.call { callee := Callee.value (Operand.func 25), args := #[Operand.tmp 77, Operand.tmp 82], argTypes := #[24, 22] }, type := 26, pos := "pair.go:59", after := #[{ on := 2, ground := Ground.data }, { on := 7, ground := Ground.data }, { on := 7, ground := Ground.chain }], guard := none }) rfl (fun K hK => ?_) AllReadyH.nil
                  go_simp
                  refine (cDn _ _ _ (rd_grown HRD.out (gr_alloc g01 _)) (OwnL.rd (OwnL.kept ou (gr_alloc (World.grownBy.refl _ _) _)))).mono ?_
                  rintro e w4 ⟨aa, ac, rfl, o4, g4⟩
                  try dsimp only [sdV, sdA]
                  have g04 := grown_join (gr_alloc g01 _) g4 (.inl rfl)
                  go_wp2_with fail
                  refine hK.out _ _ (HKEEP.out _ g04) (fun hHeld => ?_)
                  clear hK K
                  try simp only [Act.put, List.setIfInBounds_toArray, List.set_cons_zero, List.set_cons_succ]
                  have KV := kept g4 (heap_alloc_new w1 (.cells #[.int .i64 0, .bool false, .int .i64 0, .int .i64 0, .slice none 0 0, .int .i64 0, .int .i64 0] 24))
                  obtain ⟨z0, z1, z2, z3, z4, z5, z6⟩ := at7 KV
                  obtain ⟨t0, t1, t2, t3, t4, t5, t6⟩ := fz7 KV
                  refine wpAnyH_take (i := 9) (oi := { dst := some 74, op := Op.move (Operand.tmp 83), type := 26, pos := "pair.go:59", after := #[{ on := 8, ground := Ground.data }], guard := none }) (v := ?_) rfl (by kernel_rfl) (by kernel_rfl) (by kernel_rfl) (fun _ _ _ h => h) (Or.inl ⟨by rfl, ?_⟩) (by assumption) ?_
                  rotate_left
                  · intro w hSw
                    try dsimp only at hSw
                    go_simp
                    try with_reducible rfl
                  try simp only [Act.put, List.setIfInBounds_toArray, List.set_cons_zero, List.set_cons_succ]
                  refine wpAnyH_take (i := 10) (oi := { dst := some 84, op := Op.extract (Operand.tmp 74) 0, type := 24, pos := "pair.go:59", after := #[{ on := 9, ground := Ground.data }], guard := none }) (v := ?_) rfl (by kernel_rfl) (by kernel_rfl) (by kernel_rfl) (fun _ _ _ h => h) (Or.inl ⟨by rfl, ?_⟩) (by assumption) ?_
                  rotate_left
                  · intro w hSw
                    try dsimp only at hSw
                    go_simp
                    try with_reducible rfl
                  try simp only [Act.put, List.setIfInBounds_toArray, List.set_cons_zero, List.set_cons_succ]
                  refine wpAnyH_take (i := 11) (oi := { dst := some 85, op := Op.extract (Operand.tmp 74) 1, type := 25, pos := "pair.go:59", after := #[{ on := 9, ground := Ground.data }, { on := 13, ground := Ground.gcOnly Departure.lateStores }], guard := none }) (v := ?_) rfl (by kernel_rfl) (by kernel_rfl) (by kernel_rfl) (fun _ _ _ h => h) (Or.inl ⟨by rfl, ?_⟩) (by assumption) ?_
                  rotate_left
                  · intro w hSw
                    try dsimp only at hSw
                    go_simp
                    try with_reducible rfl
                  try simp only [Act.put, List.setIfInBounds_toArray, List.set_cons_zero, List.set_cons_succ]
                  refine wpAnyH_ready (rs := [13]) (by kernel_rfl) (by simp) ?_
                  refine AllReadyH.cons (o := { dst := none, op := Op.store 24 (Operand.tmp 16) (Operand.tmp 84), type := 0, pos := "pair.go:59", after := #[{ on := 12, ground := Ground.data }, { on := 10, ground := Ground.data }, { on := 8, ground := Ground.chain }, { on := 0, ground := Ground.phase }, { on := 1, ground := Ground.phase }, { on := 2, ground := Ground.phase }, { on := 3, ground := Ground.phase }, { on := 4, ground := Ground.phase }, { on := 5, ground := Ground.phase }, { on := 6, ground := Ground.phase }, { on := 7, ground := Ground.phase }, { on := 8, ground := Ground.phase }, { on := 9, ground := Ground.phase }, { on := 10, ground := Ground.phase }, { on := 11, ground := Ground.textOnly Departure.lateStores }, { on := 12, ground := Ground.phase }], guard := none }) rfl (fun K hK => ?_) AllReadyH.nil
                  go_simp
                  refine hK.out _ _ (HKEEP.out _ (gr7n g04 g01.size)) (fun hHeld => ?_)
                  clear hK K
                  try simp only [Act.put, List.setIfInBounds_toArray, List.set_cons_zero, List.set_cons_succ]
                  refine wpAnyH_take (i := 14) (oi := { dst := some 17, op := Op.assign (Operand.tmp 85), type := 25, pos := "pair.go:59", after := #[{ on := 11, ground := Ground.data }, { on := 13, ground := Ground.chain }, { on := 0, ground := Ground.phase }, { on := 1, ground := Ground.phase }, { on := 2, ground := Ground.phase }, { on := 3, ground := Ground.phase }, { on := 4, ground := Ground.phase }, { on := 5, ground := Ground.phase }, { on := 6, ground := Ground.phase }, { on := 7, ground := Ground.phase }, { on := 8, ground := Ground.phase }, { on := 9, ground := Ground.phase }, { on := 10, ground := Ground.phase }, { on := 11, ground := Ground.phase }, { on := 12, ground := Ground.phase }, { on := 13, ground := Ground.phase }], guard := none }) (v := ?_) rfl (by kernel_rfl) (by kernel_rfl) (by kernel_rfl) (fun _ _ _ h => h) (Or.inl ⟨by rfl, ?_⟩) (by assumption) ?_
                  rotate_left
                  · intro w hSw
                    try dsimp only at hSw
                    go_simp
                    try with_reducible rfl
                  try simp only [Act.put, List.setIfInBounds_toArray, List.set_cons_zero, List.set_cons_succ]
                  refine wpAnyH_done (by kernel_rfl) ?_ _
                  go_wp2_with fail
                  go_meet
                  exact ⟨_, aa, ac, _, rfl, rfl, hidI ⟨gr7n g04 g01.size, box7 KV, own_but o4 (gr7 (World.grownBy.refl _ _)) (by simp)⟩⟩
              · go_simp
                refine hK.out _ _ (HKEEP.out _ (gr_alloc gD _)) (fun hHeld => ?_)
                clear hK K
                try simp only [Act.put, List.setIfInBounds_toArray, List.set_cons_zero, List.set_cons_succ]
                refine wpAnyH_ready (rs := [7]) (by kernel_rfl) (by simp) ?_
                refine AllReadyH.cons (o := { dst := some 82, op := Op.call { callee := Callee.value (Operand.func 31), args := #[Operand.tmp 81], argTypes := #[22] }, type := 22, pos := "pair.go:59", after := #[{ on := 6, ground := Ground.data }], guard := none }) rfl (fun K hK => ?_) AllReadyH.nil
                go_simp
                refine (cAf _ _ (rd_grown HRD.out (gr_alloc gD _))).mono ?_
                rintro e w1 ⟨ua, uc, rfl, ou, g1⟩
                have g01 := grown_join (gr_alloc gD _) g1 (.inl rfl)
                go_wp2_with fail
                refine hK.out _ _ (HKEEP.out _ g01) (fun hHeld => ?_)
                clear hK K
                try simp only [Act.put, List.setIfInBounds_toArray, List.set_cons_zero, List.set_cons_succ]
                have KY : w1.heap[X2.heap.size]? = some (.cells #[.int .i64 0, .bool false, .int .i64 0, .int .i64 0, .slice none 0 0, .int .i64 0, .int .i64 0] 24) := kept g1 (heap_alloc_new X2.drew (.cells #[.int .i64 0, .bool false, .int .i64 0, .int .i64 0, .slice none 0 0, .int .i64 0, .int .i64 0] 24))
                refine wpAnyH_ready (rs := [8]) (by kernel_rfl) (by simp) ?_
                refine AllReadyH.cons (o := { dst := some 83, op := Op.call { callee := Callee.value (Operand.func 25), args := #[Operand.tmp 77, Operand.tmp 82], argTypes := #[24, 22] }, type := 26, pos := "pair.go:59", after := #[{ on := 2, ground := Ground.data }, { on := 7, ground := Ground.data }, { on := 7, ground := Ground.chain }], guard := none }) rfl (fun K hK => ?_) AllReadyH.nil
                go_simp
                refine (cDn _ _ _ (rd_grown HRD.out g01) (OwnL.rd ou)).mono ?_
                rintro e w4 ⟨aa, ac, rfl, o4, g4⟩
                try dsimp only [sdV, sdA]
                have g04 := grown_join g01 g4 (.inl rfl)
                go_wp2_with fail
                refine hK.out _ _ (HKEEP.out _ g04) (fun hHeld => ?_)
                clear hK K
                try simp only [Act.put, List.setIfInBounds_toArray, List.set_cons_zero, List.set_cons_succ]
                have KV := kept g4 KY
                obtain ⟨z0, z1, z2, z3, z4, z5, z6⟩ := at7 KV
                obtain ⟨t0, t1, t2, t3, t4, t5, t6⟩ := fz7 KV
                refine wpAnyH_take (i := 9) (oi := { dst := some 74, op := Op.move (Operand.tmp 83), type := 26, pos := "pair.go:59", after := #[{ on := 8, ground := Ground.data }], guard := none }) (v := ?_) rfl (by kernel_rfl) (by kernel_rfl) (by kernel_rfl) (fun _ _ _ h => h) (Or.inl ⟨by rfl, ?_⟩) (by assumption) ?_
                rotate_left
                · intro w hSw
                  try dsimp only at hSw
                  go_simp
                  try with_reducible rfl
                try simp only [Act.put, List.setIfInBounds_toArray, List.set_cons_zero, List.set_cons_succ]
                refine wpAnyH_take (i := 10) (oi := { dst := some 84, op := Op.extract (Operand.tmp 74) 0, type := 24, pos := "pair.go:59", after := #[{ on := 9, ground := Ground.data }], guard := none }) (v := ?_) rfl (by kernel_rfl) (by kernel_rfl) (by kernel_rfl) (fun _ _ _ h => h) (Or.inl ⟨by rfl, ?_⟩) (by assumption) ?_
                rotate_left
                · intro w hSw
                  try dsimp only at hSw
                  go_simp
                  try with_reducible rfl
                try simp only [Act.put, List.setIfInBounds_toArray, List.set_cons_zero, List.set_cons_succ]
                refine wpAnyH_take (i := 11) (oi := { dst := some 85, op := Op.extract (Operand.tmp 74) 1, type := 25, pos := "pair.go:59", after := #[{ on := 9, ground := Ground.data }, { on := 13, ground := Ground.gcOnly Departure.lateStores }], guard := none }) (v := ?_) rfl (by kernel_rfl) (by kernel_rfl) (by kernel_rfl) (fun _ _ _ h => h) (Or.inl ⟨by rfl, ?_⟩) (by assumption) ?_
                rotate_left
                · intro w hSw
                  try dsimp only at hSw
                  go_simp
                  try with_reducible rfl
                try simp only [Act.put, List.setIfInBounds_toArray, List.set_cons_zero, List.set_cons_succ]
                refine wpAnyH_ready (rs := [13]) (by kernel_rfl) (by simp) ?_
                refine AllReadyH.cons (o := { dst := none, op := Op.store 24 (Operand.tmp 16) (Operand.tmp 84), type := 0, pos := "pair.go:59", after := #[{ on := 12, ground := Ground.data }, { on := 10, ground := Ground.data }, { on := 8, ground := Ground.chain }, { on := 0, ground := Ground.phase }, { on := 1, ground := Ground.phase }, { on := 2, ground := Ground.phase }, { on := 3, ground := Ground.phase }, { on := 4, ground := Ground.phase }, { on := 5, ground := Ground.phase }, { on := 6, ground := Ground.phase }, { on := 7, ground := Ground.phase }, { on := 8, ground := Ground.phase }, { on := 9, ground := Ground.phase }, { on := 10, ground := Ground.phase }, { on := 11, ground := Ground.textOnly Departure.lateStores }, { on := 12, ground := Ground.phase }], guard := none }) rfl (fun K hK => ?_) AllReadyH.nil
                go_simp
                refine hK.out _ _ (HKEEP.out _ (gr7n g04 (Nat.le_refl _))) (fun hHeld => ?_)
                clear hK K
                try simp only [Act.put, List.setIfInBounds_toArray, List.set_cons_zero, List.set_cons_succ]
                refine wpAnyH_take (i := 14) (oi := { dst := some 17, op := Op.assign (Operand.tmp 85), type := 25, pos := "pair.go:59", after := #[{ on := 11, ground := Ground.data }, { on := 13, ground := Ground.chain }, { on := 0, ground := Ground.phase }, { on := 1, ground := Ground.phase }, { on := 2, ground := Ground.phase }, { on := 3, ground := Ground.phase }, { on := 4, ground := Ground.phase }, { on := 5, ground := Ground.phase }, { on := 6, ground := Ground.phase }, { on := 7, ground := Ground.phase }, { on := 8, ground := Ground.phase }, { on := 9, ground := Ground.phase }, { on := 10, ground := Ground.phase }, { on := 11, ground := Ground.phase }, { on := 12, ground := Ground.phase }, { on := 13, ground := Ground.phase }], guard := none }) (v := ?_) rfl (by kernel_rfl) (by kernel_rfl) (by kernel_rfl) (fun _ _ _ h => h) (Or.inl ⟨by rfl, ?_⟩) (by assumption) ?_
                rotate_left
                · intro w hSw
                  try dsimp only at hSw
                  go_simp
                  try with_reducible rfl
                try simp only [Act.put, List.setIfInBounds_toArray, List.set_cons_zero, List.set_cons_succ]
                refine wpAnyH_done (by kernel_rfl) ?_ _
                go_wp2_with fail
                go_meet
                exact ⟨_, aa, ac, _, rfl, rfl, hidI ⟨gr7n g04 (Nat.le_refl _), box7 KV, own_but o4 (gr7 (World.grownBy.refl _ _)) (at_lt KY)⟩⟩
          case rest =>
           as_aux_lemma =>
             obtain ⟨q, aa, ac, B1, rfl, rfl, HC⟩ := hcut
             obtain ⟨g5, K5, o5⟩ := HC.out
             have p3 := g5.cell i3 (by simp)
             obtain ⟨-, -, -, z3, -, -, -⟩ := at7 K5
             have D1 : (R.cy != L.cy + 1) = false := by rw [HRC.out]; simp
             have hlc := HLC.out
             have D2 : (R.cy != IntKind.i64.wrap (L.cy + 1)) = false := by rw [i64_id (by omega) (by omega)]; exact D1
             clear i0 i1 i2 i3 i4 i5 i6 gR gD gY gZ HKEEP HQX HCE HRD cAf cDn g5 K5 o5
             go_upto_region 24 with fail
             go_quiet (fail)
             obtain ⟨X4, hX4⟩ : ∃ X, wc.drewN nq = X := ⟨_, rfl⟩
             have g4 : wc.grownBy X4 none := by rw [← hX4]; exact gr_drewN (World.grownBy.refl _ _) _
             rw [hX4]
             clear hX4
             obtain ⟨g5, K5, o5⟩ := HC.out
             have K5 := kept g4 K5
             have o5 := OwnL.kept o5 g4
             have hI := (HI.out.1.grow g5).grow g4
             have KQ := kept g4 (kept g5 HI.out.2.1)
             clear g4 g5 p3 z3 HC
             obtain ⟨i0, i1, i2, i3, i4, i5, i6⟩ := at7 K5
             obtain ⟨p0, p1, p2, p3, p4, p5, p6⟩ := hI.cells hk
             obtain ⟨f0, f1, f2, f3, f4, f5, f6⟩ := hI.frozen k
             have HF := hidI (And.intro (hI.put hk o5) (keptBut (putK_gr X4 P k R (.slice aa R.im.length ac)) KQ HI.out.2.2))
             clear hI K5 o5 KQ
             go_wp2_with fail
             go_meet
             obtain ⟨hR, hac⟩ := HRR.out
             have hg := HGd.out.1.done hk hac
             subst hR
             exact ⟨_, _, _, bs, sa, sc, hidI ⟨hg.1, by have := HGd.out.2; omega, hg.2, by rw [← SS_up, HS.out]; exact HF.out.1, HF.out.2⟩⟩
    · as_aux_lemma =>
        have hSk : S k = sdOf k pt (s k) := by rw [← HS.out]; rfl
        have ok := HGd.out.1.ok k hk
        have hlen : (S k).im.length ≤ 17592186043904 := by rw [hSk]; simp [sdOf, im2]
        cases hac : (s k).ac with
        | true =>
          have cS : ∀ X v, rd X v (S k).im → Calls Try.prog 14 #[sdV (S k) v] X fun e w' => BtE X w' e (btOf ⟨k, (s k).te, (s k).cy⟩) 0 := fun X v h => by
            have := send_any (S k) v X h hlen
            have e := send_yes (N := i) hk hp1 ok (by omega) hac
            rw [← hSk] at e
            rw [e.1, e.2] at this
            exact this
          have cC := say_any hk _ 0 cS (by rw [hSk]; exact hac) HI.out.1 (by simp; have := HGd.out.2; omega)
          have HAC := hidI hac
          clear hac ok hSk hlen cS
          go_wp2_with fail
          refine cC.mono ?_
          rintro e w3 ⟨rfl, hP3⟩
          go_wp2_with fail
          go_meet
          obtain ⟨sa', sc', hI3⟩ := hP3.2.1 rfl
          exact ⟨s, a, c, bs ++ [⟨k, (s k).te, (s k).cy⟩], sa', sc', hidI ⟨(HGd.out.1.say hk HAC.out).mono (Nat.le_succ _), by simp; have := HGd.out.2; omega, Mo.refl _, by rw [HS.out]; simpa using hI3, hP3.1.2 _ _ _ HI.out.2.1 (by decide) (by decide) HI.out.2.2⟩⟩
        | false =>
          have cS : ∀ X v, rd X v (S k).im → Calls Try.prog 14 #[sdV (S k) v] X fun e w' => BtE X w' e zeroB 18 := fun X v h => by
            have := send_any (S k) v X h hlen
            have e := send_no (N := i) hk hp1 ok (by omega) hac
            rw [← hSk] at e
            rw [e.1, e.2] at this
            exact this
          have cC := say_any hk _ 18 cS (by rw [hSk]; exact hac) HI.out.1 (by simp; have := HGd.out.2; omega)
          clear hac ok hSk hlen cS
          go_wp2_with fail
          refine cC.mono ?_
          rintro e w3 ⟨rfl, hP3⟩
          go_wp2_with fail
          go_meet
          have hI3 := hP3.2.2 (by decide)
          exact ⟨s, a, c, bs, sa, sc, hidI ⟨HGd.out.1.mono (Nat.le_succ _), by have := HGd.out.2; omega, Mo.refl _, by rw [HS.out]; exact hI3, hP3.1.2 _ _ _ HI.out.2.1 (by decide) (by decide) HI.out.2.2⟩⟩
    · as_aux_lemma =>
        have hSk : S k = sdOf k pt (s k) := by rw [← HS.out]; rfl
        have ok := HGd.out.1.ok k hk
        have hlen : (S k).im.length ≤ 17592186043904 := by rw [hSk]; simp [sdOf, im2]
        have t0 := at_cell HI.out.1.bt 0
        simp only [List.getElem?_toArray, List.getElem?_cons_zero, List.length_map] at t0
        by_cases hn : bs.length = 0
        · rw [hn] at t0
          clear hSk ok hlen
          go_upto_region 32 with fail
          go_quiet (fail)
          obtain ⟨X4, hX4⟩ : ∃ X, X2.drewN nq = X := ⟨_, rfl⟩
          have g4 : X2.grownBy X4 none := by rw [← hX4]; exact gr_drewN (World.grownBy.refl _ _) _
          rw [hX4]
          clear hX4
          go_wp2_with fail
          go_meet
          exact ⟨s, a, c, bs, sa, sc, hidI ⟨HGd.out.1.mono (Nat.le_succ _), by have := HGd.out.2; omega, Mo.refl _, by rw [HS.out]; exact HI.out.1.grow g4, kept g4 HI.out.2.1⟩⟩
        obtain ⟨n, hnn⟩ : ∃ n, bs.length = n := ⟨_, rfl⟩
        rw [hnn] at t0
        have hn0 : 0 < n := by omega
        have hn1 : n ≤ 800 := by have := HGd.out.2; omega
        have cpk := fun X => picked_any e2 n X HC2.out.2 hn0 (by omega)
        have hm := pk_lt e2 hn0
        generalize pk e2 n = m at *
        obtain ⟨n1, hn2⟩ : ∃ n1, n1 + 1 = n := ⟨n - 1, by omega⟩
        obtain ⟨ix, hix⟩ : ∃ ix, ix + m = n1 := ⟨n1 - m, by omega⟩
        have hixl : ix < bs.length := by omega
        have hixl2 : ix < (bs.map btOf).length := by rw [List.length_map]; exact hixl
        obtain ⟨g, ai, ci, hsa, b0, b1, b2, b3, ob⟩ := HI.out.1.beat hixl2
        have hbx : (bs.map btOf)[ix] = btOf bs[ix] := List.getElem_map _
        rw [hbx] at b0 b1 b2 b3 ob
        have hmem : bs[ix] ∈ bs := List.getElem_mem _
        obtain ⟨v1, v2, v3, v4, v5⟩ := HGd.out.1.bt _ hmem
        generalize bs[ix] = bx at *
        obtain ⟨R, hR⟩ : ∃ R, R = sdOf k pt (hearN k (s k) bx) := ⟨_, rfl⟩
        obtain ⟨E, hE⟩ : ∃ E, E = beatN k (s k) bx := ⟨_, rfl⟩
        obtain ⟨B, hB⟩ : ∃ B, B = btOf bx := ⟨_, rfl⟩
        have hBl : B.im.length = 2 := by rw [hB]; rfl
        have cH : ∀ X v u, rd X v (S k).im → rd X u B.im → Calls Try.prog 20 #[sdV (S k) v, btV B u] X fun e w' => StE X w' e R E := fun X v u h h2 => by
          have := hear_any (S k) B v u X h hlen h2 (by omega)
          have e := hear_is (N := i) (b := bx) hk hp1 ok (by omega) v1 (by omega) (by omega)
          rw [← hSk, ← hB, ← hR, ← hE] at e
          rw [e.1, e.2] at this
          exact this
        have hRe : E = 0 → R.ac = false ∧ R.te = B.te ∧ R.cy = B.cy ∧ R.im = B.im := fun h => by rw [hR, hB]; exact hear_R (by rw [← hE]; exact h)
        rw [← hB] at b0 b1 b2 b3 ob
        have cC : ∀ X, X2.grownBy X none → Calls Try.prog 29 #[.int .i64 (k : Int), btV B (.slice ai B.im.length ci), .pointer (some ⟨P, 0, none⟩)] X fun e w' => e = .returned (.bool true) ∧ HrdQ w X w' P T k S a c (bs.map btOf) sa sc R := fun X g => heard_q hk B R E _ (rd_grown (OwnL.rd ob) g) (by omega) cH hRe (HI.out.1.grow g)
        dsimp only [btV, btA] at cC
        have q2 : X2.cell? ⟨b, off + i * 3 + 2, none⟩ = some (.int .i64 e2) := HI.out.1.gr.cell HC2.out.1 (by simp)
        have HRR := hidI (And.intro hR hmem)
        have hTP : T ≠ P := fun e => by
          have h1 := HI.out.1.bt
          rw [e, HI.out.1.bp] at h1
          injection h1 with h1
          injection h1 with _ h1
          cases h1
        have hbP : b ≠ P := fun e => by
          have h1 := HC2.out.1
          have h2 := World.block_lt_of_cell? _ _ h1
          have h3 := HI.out.1.lp
          dsimp only at h2
          omega
        have hgP : g ≠ P := fun e => by
          obtain ⟨xs, hx, _⟩ := HI.out.1.row
          rw [hsa] at hx
          obtain ⟨_, ⟨hv, _⟩ | ⟨g', cap', cur', hv, _, hr', _⟩⟩ := hx
          · cases hv
          · injection hv with hv1
            injection hv1 with hv1
            injection hv1 with hv1
            rw [← hv1, e, HI.out.1.bp] at hr'
            injection hr' with hr'
            injection hr' with _ hr'
            cases hr'
        have HNP := hidI (And.intro hTP (And.intro hbP hgP))
        clear hTP hbP hgP
        have w1' : IntKind.i64.wrap ((n : Int) - 1) = (n1 : Int) := by rw [i64_id (by omega) (by omega)]; omega
        have w2' : IntKind.i64.wrap ((n1 : Int) - (m : Int)) = (ix : Int) := by rw [i64_id (by omega) (by omega)]; omega
        have w3' : (n : Int) - 1 = (n1 : Int) := by omega
        have w4' : (n1 : Int) - (m : Int) = (ix : Int) := by omega
        have w5' : IntKind.i64.wrap (n1 : Int) = (n1 : Int) := i64_id (by omega) (by omega)
        have w6' : IntKind.i64.wrap (ix : Int) = (ix : Int) := i64_id (by omega) (by omega)
        have D1 : (0 : Int) < (n : Int) := by omega
        have D2 : decide ((0 : Int) < (n : Int)) = true := decide_eq_true D1
        have D3 : (0 : Int) ≤ (ix : Int) := by omega
        have D4 : (ix : Int) < (n : Int) := by omega
        rw [hsa] at t0
        have gR := World.grownBy.refl X2 none
        have gD := gr_drew gR
        clear hSk ok hlen cH hRe hbx hixl hixl2 hmem v1 v2 v3 v4 v5 hR hE hB ob hnn hn hn2 hix hm hsa hBl
        go_upto_region 32 with fail
        have HKP : Hid (∀ X, X2.grownBy X none → (X.cell? ⟨T, 0, none⟩ = some (.slice (some ⟨g, 0, none⟩) n sc) ∧ X.cell? ⟨b, off + i * 3 + 2, none⟩ = some (.int .i64 e2) ∧ X.cell? ⟨g, ix * 4, none⟩ = some (.int .i64 B.fr) ∧ X.cell? ⟨g, ix * 4 + 1, none⟩ = some (.int .i64 B.te) ∧ X.cell? ⟨g, ix * 4 + 2, none⟩ = some (.int .i64 B.cy) ∧ X.cell? ⟨g, ix * 4 + 3, none⟩ = some (.slice ai B.im.length ci))) := hidI (fun X g' => ⟨g'.cell t0 (by simp), g'.cell q2 (by simp), g'.cell b0 (by simp), g'.cell b1 (by simp), g'.cell b2 (by simp), g'.cell b3 (by simp)⟩)
        have HKQ : Hid (∀ X, X2.drew.grownBy X (some P) → (X.cell? ⟨T, 0, none⟩ = some (.slice (some ⟨g, 0, none⟩) n sc) ∧ X.cell? ⟨b, off + i * 3 + 2, none⟩ = some (.int .i64 e2) ∧ X.cell? ⟨g, ix * 4, none⟩ = some (.int .i64 B.fr) ∧ X.cell? ⟨g, ix * 4 + 1, none⟩ = some (.int .i64 B.te) ∧ X.cell? ⟨g, ix * 4 + 2, none⟩ = some (.int .i64 B.cy) ∧ X.cell? ⟨g, ix * 4 + 3, none⟩ = some (.slice ai B.im.length ci))) := hidI (fun X g' => ⟨g'.cell t0 (by simpa using HNP.out.1), g'.cell q2 (by simpa using HNP.out.2.1), g'.cell b0 (by simpa using HNP.out.2.2), g'.cell b1 (by simpa using HNP.out.2.2), g'.cell b2 (by simpa using HNP.out.2.2), g'.cell b3 (by simpa using HNP.out.2.2)⟩)
        go_region_held3 (fun X => X.cell? ⟨T, 0, none⟩ = some (.slice (some ⟨g, 0, none⟩) n sc) ∧ X.cell? ⟨b, off + i * 3 + 2, none⟩ = some (.int .i64 e2) ∧ X.cell? ⟨g, ix * 4, none⟩ = some (.int .i64 B.fr) ∧ X.cell? ⟨g, ix * 4 + 1, none⟩ = some (.int .i64 B.te) ∧ X.cell? ⟨g, ix * 4 + 2, none⟩ = some (.int .i64 B.cy) ∧ X.cell? ⟨g, ix * 4 + 3, none⟩ = some (.slice ai B.im.length ci)) (first | exact HKP.out _ gR | exact HKP.out _ gD | exact HKQ.out _ hH.1) (first | (go_at_call 26; refine (cpk _).mono ?_; rintro e w3 ⟨rfl, rfl⟩) | (go_at_call 29; refine (cC _ (by first | exact gR | exact gD)).mono ?_; rintro e w3 ⟨rfl, hH⟩))
        go_wp2_with fail
        go_meet
        obtain ⟨hF4, a4, c4, hI4⟩ := hH
        have hg := HGd.out.1.hear hp1.1 hk HRR.out.2
        have hR := HRR.out.1
        subst hR
        exact ⟨_, _, _, bs, sa, sc, hidI ⟨hg.1.mono (Nat.le_succ _), by have := HGd.out.2; omega, hg.2, by rw [← SS_up, HS.out]; exact hI4, keptBut hF4 HI.out.2.1 HI.out.2.2⟩⟩
    · as_aux_lemma =>
        have hSk : S k = sdOf k pt (s k) := by rw [← HS.out]; rfl
        have ok := HGd.out.1.ok k hk
        have hlen : (S k).im.length ≤ 17592186043904 := by rw [hSk]; simp [sdOf, im2]
        obtain ⟨L, hL⟩ : ∃ L, S k = L := ⟨_, rfl⟩
        obtain ⟨R, hR⟩ : ∃ R, R = sdOf k pt (waitN pt (s k)) := ⟨_, rfl⟩
        have cW : ∀ X v, rd X v L.im → Calls Try.prog 23 #[sdV L v] X fun e w' => StE X w' e R 0 := fun X v h => by
          rw [← hL] at h
          have := wait_any (S k) v X h hlen
          have e := wait_is (N := i) hk hp1 ok (by omega)
          rw [← hSk] at e
          rw [e.1, e.2, ← hR, hL] at this
          exact this
        have hrd := OwnL.rd (HI.out.1.ow k hk)
        obtain ⟨i0, i1, i2, i3, i4, i5, i6⟩ := HI.out.1.cells hk
        rw [hL] at i0 i1 i2 i3 i4 i5 i6 hrd
        have HRR := hidI hR
        clear hL hR hSk ok hlen
        have x3 : (0 : Int) ≤ (k : Int) := by omega
        have x4 : (k : Int) < 2 := by omega
        dsimp only [sdV, sdA] at cW
        go_upto_region 35 with fail
        go_wp2_with fail
        refine (cW _ _ hrd).mono ?_
        rintro e w3 ⟨aa, ac, rfl, o3, g3⟩
        try dsimp only [sdV, sdA] at *
        clear i0 i1 i2 i3 i4 i5 i6 cW hrd
        obtain ⟨q, hq⟩ : ∃ q, w3.heap.size = q := ⟨_, rfl⟩
        go_upto_region 38 with fail
        have gA := gr_alloc (World.grownBy.refl w3 none) (.cells #[.int .i64 R.me, .bool R.ac, .int .i64 R.te, .int .i64 R.cy, .slice aa R.im.length ac, .int .i64 R.si, .int .i64 R.pa] 24)
        have K3 := hp_new hq.symm (.cells #[.int .i64 R.me, .bool R.ac, .int .i64 R.te, .int .i64 R.cy, .slice aa R.im.length ac, .int .i64 R.si, .int .i64 R.pa] 24)
        have o3 := OwnL.kept o3 gA
        have hI := (HI.out.1.grow g3).grow gA
        have KQ := kept gA (kept g3 HI.out.2.1)
        clear g3 gA hq
        generalize w3.alloc (.cells #[.int .i64 R.me, .bool R.ac, .int .i64 R.te, .int .i64 R.cy, .slice aa R.im.length ac, .int .i64 R.si, .int .i64 R.pa] 24) = X3 at *
        obtain ⟨i0, i1, i2, i3, i4, i5, i6⟩ := at7 K3
        obtain ⟨p0, p1, p2, p3, p4, p5, p6⟩ := hI.cells hk
        obtain ⟨f0, f1, f2, f3, f4, f5, f6⟩ := hI.frozen k
        have HF := hidI (And.intro (hI.put hk o3) (keptBut (putK_gr X3 P k R (.slice aa R.im.length ac)) KQ HI.out.2.2))
        clear hI K3 o3 KQ
        go_wp2_with fail
        go_meet
        have hg := HGd.out.1.wait hp1.1 hk
        have hR := HRR.out
        subst hR
        exact ⟨_, _, _, bs, sa, sc, hidI ⟨hg.1, by have := HGd.out.2; omega, hg.2, by rw [← SS_up, HS.out]; exact HF.out.1, HF.out.2⟩⟩
    · as_aux_lemma =>
        have hq0 : X2.heap[Q]? = some (.cells (sd14 S a c) 45) := HI.out.2.1
        have H0 : Hid (Good i pt s bs ∧ bs.length ≤ 2 * i + 0 ∧ Mo s s ∧ Iv w X2 P T (SS pt s) a c (bs.map btOf) sa sc ∧ X2.heap[Q]? = some (.cells (sd14 S a c) 45) ∧ Stg 0 s) := hidI ⟨HGd.out.1, HGd.out.2, Mo.refl _, by rw [HS.out]; exact HI.out.1, hq0, Stg.zero s⟩
        have HQP := hidI HI.out.2.2
        clear hq0
        go_upto_block 5 with fail
        go_cut [] (fun wx => ∃ (s' : Nat → Sn) (a' : Nat → Option Addr) (c' : Nat → Nat) (bs' : List Bn) (sa' : Option Addr) (sc' : Nat), Hid (Good i pt s' bs' ∧ bs'.length ≤ 2 * i + 2 ∧ Mo s s' ∧ Iv w wx P T (SS pt s') a' c' (bs'.map btOf) sa' sc' ∧ wx.heap[Q]? = some (.cells (sd14 S a c) 45) ∧ Stg 2 s'))
        case first =>
          go_wp2_with fail
          go_loopg [21] 2 (fun gk s21 wx => ∃ (j : Nat) (s' : Nat → Sn) (a' : Nat → Option Addr) (c' : Nat → Nat) (bs' : List Bn) (sa' : Option Addr) (sc' : Nat), s21 = .int .i64 (j : Int) ∧ j ≤ 2 ∧ gk = 2 - j ∧ Hid (Good i pt s' bs' ∧ bs'.length ≤ 2 * i + j ∧ Mo s s' ∧ Iv w wx P T (SS pt s') a' c' (bs'.map btOf) sa' sc' ∧ wx.heap[Q]? = some (.cells (sd14 S a c) 45) ∧ Stg j s'))
          case atStart => exact ⟨0, s, a, c, bs, sa, sc, rfl, by omega, by omega, H0⟩
          case round =>
            obtain ⟨j, s', a', c', bs', sa', sc', rfl, hj, hgj, HJ⟩ := hrel
            have HGj := hidI hgj
            clear hgj H0
            by_cases hjl : j < 2
            case neg =>
              have hj2 : 2 = j := by omega
              subst hj2
              have hj' : ¬ (((2 : Nat) : Int) < 2) := by omega
              go_wp2_with fail
              go_meet
              exact ⟨s', a', c', bs', sa', sc', HJ⟩
            obtain ⟨hG, hbl, hMo, hIv, hq, hSt⟩ := HJ.out
            obtain ⟨S', hS'⟩ : ∃ S, SS pt s' = S := ⟨_, rfl⟩
            have hSj : SS pt s' j = sdOf j pt (s' j) := rfl
            have hSk : SS pt s' (1 - j) = sdOf (1 - j) pt (s' (1 - j)) := rfl
            rw [hS'] at hIv hSj hSk
            have hk2 : 1 - j < 2 := by omega
            have okj := hG.ok j hjl
            have okk := hG.ok (1 - j) hk2
            have hlj : (S' j).im.length ≤ 17592186043904 := by rw [hSj]; simp [sdOf, im2]
            have hlk : (S' (1 - j)).im.length ≤ 17592186043904 := by rw [hSk]; simp [sdOf, im2]
            have t0 := at_cell hIv.bt 0
            simp only [List.getElem?_toArray, List.getElem?_cons_zero, List.length_map] at t0
            obtain ⟨n, hnn⟩ : ∃ n, bs'.length = n := ⟨_, rfl⟩
            rw [hnn] at t0
            have hn1 : n ≤ 900 := by omega
            have x5 : (j : Int) < 2 := by omega
            cases hac : (s' j).ac with
            | false =>
              have cS : ∀ X v, rd X v (S' j).im → Calls Try.prog 14 #[sdV (S' j) v] X fun e w' => BtE X w' e zeroB 18 := fun X v h => by
                have := send_any (S' j) v X h hlj
                have e := send_no (N := i) hjl hp1 okj (by omega) hac
                rw [← hSj] at e
                rw [e.1, e.2] at this
                exact this
              have cC := say_any hjl _ 18 cS (by rw [hSj]; exact hac) hIv (by simp; omega)
              have HJ2 := hidI (And.intro hG (And.intro hbl (And.intro hMo (And.intro hq (And.intro (Stg.no hG hjl hac) (And.intro hS' hnn))))))
              clear hSj hSk hlj hlk okj okk hac hIv hG hbl hMo hq hSt HJ cS hS' hnn hk2
              go_wp2_with fail
              refine cC.mono ?_
              rintro e w3 ⟨rfl, hP3⟩
              have hI3 := hP3.2.2 (by decide)
              have t1 := at_cell hI3.bt 0
              simp only [List.getElem?_toArray, List.getElem?_cons_zero, List.length_map] at t1
              obtain ⟨hG, hbl, hMo, hq, hSt, hS', hnn⟩ := HJ2.out
              rw [hnn] at t1
              have HJ3 := hidI (And.intro hI3 (hP3.1.2 _ _ _ hq (by decide) (by decide) HQP.out))
              clear hP3 hI3 hG hbl hMo hq hSt hS' hnn t0
              have D1 : ¬ ((n : Int) < (n : Int)) := by omega
              have D2 : decide ((n : Int) < (n : Int)) = false := decide_eq_false D1
              go_wp2
              have hgl := HGj.out
              go_roundg (2 - (j + 1))
              all_goals first | omega | (obtain ⟨hG, hbl, hMo, hq, hSt, hS', hnn⟩ := HJ2.out; exact ⟨j + 1, s', a', c', bs', sa', sc', by go_num, by omega, by omega, hidI ⟨hG, by omega, hMo, by rw [hS']; exact HJ3.out.1, HJ3.out.2, hSt⟩⟩)
            | true =>
              obtain ⟨bx, hbx⟩ : ∃ b : Bn, b = ⟨j, (s' j).te, (s' j).cy⟩ := ⟨_, rfl⟩
              obtain ⟨B, hB⟩ : ∃ B, B = btOf bx := ⟨_, rfl⟩
              have cS : ∀ X v, rd X v (S' j).im → Calls Try.prog 14 #[sdV (S' j) v] X fun e w' => BtE X w' e B 0 := fun X v h => by
                have := send_any (S' j) v X h hlj
                have e := send_yes (N := i) hjl hp1 okj (by omega) hac
                rw [← hSj, ← hbx, ← hB] at e
                rw [e.1, e.2] at this
                exact this
              have cC := say_any hjl B 0 cS (by rw [hSj]; exact hac) hIv (by simp; omega)
              have hG2 := hG.say hjl hac
              rw [← hbx] at hG2
              have hmem : bx ∈ bs' ++ [bx] := by simp
              obtain ⟨v1, v2, v3, v4, v5⟩ := hG2.bt bx hmem
              have hG3 := hG2.hear hp1.1 hk2 hmem
              have hSt3 := Stg.yes hG hSt hjl hac
              rw [← hbx] at hSt3
              obtain ⟨R, hR⟩ : ∃ R, R = sdOf (1 - j) pt (hearN (1 - j) (s' (1 - j)) bx) := ⟨_, rfl⟩
              obtain ⟨E, hE⟩ : ∃ E, E = beatN (1 - j) (s' (1 - j)) bx := ⟨_, rfl⟩
              have hBl : B.im.length = 2 := by rw [hB]; rfl
              have cH : ∀ X v u, rd X v (S' (1 - j)).im → rd X u B.im → Calls Try.prog 20 #[sdV (S' (1 - j)) v, btV B u] X fun e w' => StE X w' e R E := fun X v u h h2 => by
                have := hear_any (S' (1 - j)) B v u X h hlk h2 (by omega)
                have e := hear_is (N := i) (b := bx) hk2 hp1 okk (by omega) v1 (by omega) (by omega)
                rw [← hSk, ← hB, ← hR, ← hE] at e
                rw [e.1, e.2] at this
                exact this
              have hRe : E = 0 → R.ac = false ∧ R.te = B.te ∧ R.cy = B.cy ∧ R.im = B.im := fun h => by rw [hR, hB]; exact hear_R (by rw [← hE]; exact h)
              have HJ2 := hidI (And.intro hG3 (And.intro hbl (And.intro hMo (And.intro hq (And.intro hSt3 (And.intro hS' (And.intro hnn (And.intro hR hB))))))))
              have HCH := hidI (And.intro cH (And.intro hRe hBl))
              obtain ⟨k2, hk3⟩ : ∃ k2, 1 - j = k2 := ⟨_, rfl⟩
              have hkc : (1 : Int) - (j : Int) = (k2 : Int) := by omega
              have hkw : IntKind.i64.wrap ((1 : Int) - (j : Int)) = (k2 : Int) := by rw [i64_id (by omega) (by omega)]; exact hkc
              rw [hk3] at hk2 HJ2 HCH
              clear hSj hSk hlj hlk okj okk hac hIv hG hbl hMo hq hSt HJ cS hS' hnn hG2 hG3 hSt3 hmem v1 v2 v3 v4 v5 hR hE hBl cH hRe hbx hB hk3
              go_wp2_with fail
              refine cC.mono ?_
              rintro e w3 ⟨rfl, hP3⟩
              obtain ⟨sa2, sc2, hI3⟩ := hP3.2.1 rfl
              have t1 := at_cell hI3.bt 0
              simp only [List.getElem?_toArray, List.getElem?_cons_zero, List.length_append, List.length_map, List.length_singleton] at t1
              obtain ⟨hG3, hbl, hMo, hq, hSt3, hS', hnn, hR, hB⟩ := HJ2.out
              rw [hnn] at t1
              have hln : n < (bs'.map btOf ++ [B]).length := by simp [hnn]
              obtain ⟨g, ai, ci, hsa, b0, b1, b2, b3, ob⟩ := hI3.beat hln
              have hbe : (bs'.map btOf ++ [B])[n] = B := by
                rw [List.getElem_append_right (by simp [hnn])]
                simp
              rw [hbe] at b0 b1 b2 b3 ob
              rw [hsa] at t1
              have cR := heard_any hk2 B R E (.slice ai B.im.length ci) (OwnL.rd ob) (by have := HCH.out.2.2; omega) HCH.out.1 HCH.out.2.1 hI3
              have HJ3 := hidI (hP3.1.2 _ _ _ hq (by decide) (by decide) HQP.out)
              dsimp only [btV, btA] at cR
              clear hP3 hI3 hG3 hbl hMo hq hSt3 hS' hnn hR hB t0 hln hbe ob hsa
              have D1 : ((n : Int) < ((n + 1 : Nat) : Int)) := by omega
              have D2 : decide ((n : Int) < ((n + 1 : Nat) : Int)) = true := decide_eq_true D1
              have D3 : (0 : Int) ≤ (n : Int) := by omega
              have D4 : (n : Int) < (n : Int) + 1 := by omega
              go_wp2_with fail
              refine cR.mono ?_
              rintro e w4 ⟨rfl, hF4, a4, c4, hI4⟩
              go_wp2
              have hgl := HGj.out
              go_roundg (2 - (j + 1))
              all_goals first | omega | (obtain ⟨hG3, hbl, hMo, hq, hSt3, hS', hnn, hR, hB⟩ := HJ2.out; exact ⟨j + 1, _, _, _, bs' ++ [bx], sa2, sc2, by go_num, by omega, by omega, hidI ⟨hG3.1, by simp; omega, hMo.trans hG3.2, by rw [← SS_up, hS', ← hR]; simpa [hB] using hI4, hF4.2 _ _ _ HJ3.out (by decide) (by decide) HQP.out, hSt3⟩⟩)
        case rest =>
          obtain ⟨s', a', c', bs', sa', sc', HJ⟩ := hcut
          obtain ⟨hG, hbl, hMo, hIv, hq, hSt⟩ := HJ.out
          obtain ⟨m1, -, -, -, m8, -, -, -⟩ := cells14 hIv.bp
          have r1 : (SS pt s' 0).ac = (s' 0).ac ∧ (SS pt s' 1).ac = (s' 1).ac := ⟨rfl, rfl⟩
          rw [r1.1] at m1
          rw [r1.2] at m8
          have ho := hG.one
          have hb := hSt.2 (by omega)
          have HF := hidI (And.intro (hG.mono (Nat.le_succ _)) (And.intro (show bs'.length ≤ 2 * (i + 1) by omega) (And.intro hMo (And.intro hIv hq))))
          clear hG hbl hMo hIv hq hSt HJ r1 H0
          cases ha : (s' 0).ac with
          | true =>
            have hb1 : (s' 1).ac = false := by
              cases h : (s' 1).ac with
              | false => rfl
              | true => exact absurd ⟨ha, h⟩ hb
            rw [ha] at m1
            rw [hb1] at m8
            clear ha hb1 ho hb
            go_wp2_with fail
            go_meet
            exact ⟨s', a', c', bs', sa', sc', HF⟩
          | false =>
            have hb1 : (s' 1).ac = true := by
              rw [ha] at ho
              simpa using ho
            rw [ha] at m1
            rw [hb1] at m8
            clear ha hb1 ho hb
            go_wp2_with fail
            go_meet
            exact ⟨s', a', c', bs', sa', sc', HF⟩
  case rest =>
    obtain ⟨s', a', c', bs', sa', sc', HR⟩ := hcut
    obtain ⟨hG2, hb2, hMo, hI2, KQ2⟩ := HR.out
    obtain ⟨S', hS'⟩ : ∃ S, SS pt s' = S := ⟨_, rfl⟩
    rw [hS'] at hI2
    have hqc : wc.heap[Q]? = some (.cells (sd14 S a c) 45) := KQ2
    have HIr := hidI (And.intro hI2 hqc)
    have HGr := hidI (And.intro hG2 (And.intro hb2 hMo))
    have HSr := hidI hS'
    clear hS' hI2 KQ2 hqc hG2 hb2 hMo HR HI
    go_upto_block 7 with fail
    go_cut [] (fun wx => wc.grownBy wx none)
    case first =>
      go_wp2_with fail
      go_loopg [23] 2 (fun gk s23 wx => ∃ j : Nat, s23 = .int .i64 (j : Int) ∧ j ≤ 2 ∧ gk = 2 - j ∧ wc.grownBy wx none)
      case atStart => exact ⟨0, rfl, by omega, by omega, World.grownBy.refl _ _⟩
      case round =>
        obtain ⟨j, rfl, hj, hgj, hgr⟩ := hrel
        have HGj := hidI hgj
        clear hgj
        by_cases hjl : j < 2
        case neg =>
          have hj' : ¬ ((j : Int) < 2) := by omega
          go_wp2_with fail
          go_meet
          exact hgr
        have hjc : j = 0 ∨ j = 1 := by omega
        rcases hjc with rfl | rfl
        · obtain ⟨L1, hL1⟩ : ∃ L, S' 0 = L := ⟨_, rfl⟩
          obtain ⟨O1, hO1⟩ : ∃ L, S 0 = L := ⟨_, rfl⟩
          have hI3 := HIr.out.1.grow hgr
          obtain ⟨-, m2, m3, m4, -, m9, m10, m11⟩ := cells14 hI3.bp
          obtain ⟨-, n2, n3, -, -, n9, n10, -⟩ := cells14 (kept hgr HIr.out.2)
          have hrd := OwnL.rd (hI3.ow 0 (by omega))
          have hmo := HGr.out.2.2 0 (by omega)
          have hok := HGr.out.1.ok 0 (by omega)
          have e1 : S' 0 = sdOf 0 pt (s' 0) := by rw [← HSr.out]; rfl
          have e2 : S 0 = sdOf 0 pt (s 0) := by rw [← HS.out]; rfl
          have f1 : L1.te = ((s' 0).te : Int) ∧ L1.cy = ((s' 0).cy : Int) ∧ L1.im = im2 (s' 0).cy := by rw [← hL1, e1]; exact ⟨rfl, rfl, rfl⟩
          have f2 : O1.te = ((s 0).te : Int) ∧ O1.cy = ((s 0).cy : Int) := by rw [← hO1, e2]; exact ⟨rfl, rfl⟩
          have cSm : ∀ X, Calls Try.prog 27 #[.int .i64 L1.cy] X fun e w' => TwP X w' e (s' 0).cy := fun X => by rw [f1.2.1]; exact summed_any (s' 0).cy X (by have := hok.2.1; omega)
          have cEq : ∀ X u v, rd X u L1.im → rd X v (im2 (s' 0).cy) → Calls Try.prog 30 #[u, v] X fun e w' => e = .returned (.bool true) ∧ X.grownBy w' none := fun X u v k1 k2 => by
            rw [f1.2.2] at k1
            exact keepEq_yes (im2 (s' 0).cy) u v X k1 k2 (by simp [im2])
          have d1 : ¬ L1.te < O1.te := by rw [f1.1, f2.1]; omega
          have d2 : L1.te = O1.te → ¬ L1.cy < O1.cy := by rw [f1.1, f2.1, f1.2.1, f2.2]; omega
          have D1 : decide (L1.te < O1.te) = false := decide_eq_false d1
          rw [hL1] at m2 m3 m4 hrd
          rw [hO1] at n2 n3
          have HRD := hidI hrd
          generalize a' 0 = ax at *
          generalize c' 0 = cx at *
          have HKP : Hid (∀ X, wr.grownBy X none → (wr.grownBy X none ∧ X.cell? ⟨P, 2, none⟩ = some (.int .i64 L1.te) ∧ X.cell? ⟨P, 3, none⟩ = some (.int .i64 L1.cy) ∧ X.cell? ⟨P, 4, none⟩ = some (.slice ax L1.im.length cx) ∧ X.cell? ⟨Q, 2, none⟩ = some (.int .i64 O1.te) ∧ X.cell? ⟨Q, 3, none⟩ = some (.int .i64 O1.cy))) := hidI (fun X g => ⟨g, g.cell m2 (by simp), g.cell m3 (by simp), g.cell m4 (by simp), g.cell n2 (by simp), g.cell n3 (by simp)⟩)
          have gR := World.grownBy.refl wr none
          have gD := gr_drew gR
          clear hL1 hO1 hI3 m2 m3 m4 m9 m10 m11 n2 n3 n9 n10 hrd hmo hok e1 e2 f1 f2
          go_upto_region 51 with fail
          by_cases hte : L1.te = O1.te
          · as_aux_lemma =>
              have d3 := d2 hte
              have D2 : (L1.te == O1.te) = true := by simpa using hte
              have D3 : decide (L1.cy < O1.cy) = false := decide_eq_false d3
              clear hte d2
              go_region_held3 (fun X => wr.grownBy X none ∧ X.cell? ⟨P, 2, none⟩ = some (.int .i64 L1.te) ∧ X.cell? ⟨P, 3, none⟩ = some (.int .i64 L1.cy) ∧ X.cell? ⟨P, 4, none⟩ = some (.slice ax L1.im.length cx) ∧ X.cell? ⟨Q, 2, none⟩ = some (.int .i64 O1.te) ∧ X.cell? ⟨Q, 3, none⟩ = some (.int .i64 O1.cy)) (first | exact HKP.out _ gR | exact HKP.out _ gD | exact HKP.out _ g01 | exact HKP.out _ g02) (first | (go_at_call 27; refine (cSm _).mono ?_; rintro e w1 ⟨ua2, uc2, rfl, ou2, g1⟩; have g01 := grown_join gD g1 (.inl rfl)) | (go_at_call 30; refine (cEq _ _ _ (rd_grown HRD.out g01) (OwnL.rd ou2)).mono ?_; rintro e w2 ⟨rfl, g2⟩; have g02 := grown_join g01 g2 (.inl rfl)))
              go_wp2
              have hgl := HGj.out
              go_roundg (2 - (0 + 1))
              all_goals first | omega | exact ⟨0 + 1, by go_num, by omega, by omega, grown_join hgr g02 (.inl rfl)⟩
          · as_aux_lemma =>
              have D2 : (L1.te == O1.te) = false := by simpa using hte
              clear d2 hte
              refine wp_region_held_drew (S := (fun X : World => wr.grownBy X none ∧ X.cell? ⟨P, 2, none⟩ = some (.int .i64 L1.te) ∧ X.cell? ⟨P, 3, none⟩ = some (.int .i64 L1.cy) ∧ X.cell? ⟨P, 4, none⟩ = some (.slice ax L1.im.length cx) ∧ X.cell? ⟨Q, 2, none⟩ = some (.int .i64 O1.te) ∧ X.cell? ⟨Q, 3, none⟩ = some (.int .i64 O1.cy))) (by kernel_rfl) (HKP.out _ gD) (fun hHeld => ?_)
              refine wpAnyH_take (i := 0) (oi := { dst := some 186, op := Op.move (Operand.tmp 23), type := 3, pos := "pair.go:90", after := #[], guard := none }) (v := ?_) rfl (by kernel_rfl) (by kernel_rfl) (by kernel_rfl) (fun _ _ _ h => h) (Or.inl ⟨by rfl, ?_⟩) (by assumption) ?_
              rotate_left
              · intro w hSw
                try dsimp only at hSw
                go_simp
                try with_reducible rfl
              try simp only [Act.put, List.setIfInBounds_toArray, List.set_cons_zero, List.set_cons_succ]
              refine wpAnyH_take (i := 1) (oi := { dst := some 187, op := Op.indexAddr 45 (Operand.tmp 6) (Operand.tmp 186), type := 0, pos := "pair.go:90", after := #[{ on := 0, ground := Ground.data }], guard := none }) (v := ?_) rfl (by kernel_rfl) (by kernel_rfl) (by kernel_rfl) (fun _ _ _ h => h) (Or.inl ⟨by rfl, ?_⟩) (by assumption) ?_
              rotate_left
              · intro w hSw
                try dsimp only at hSw
                go_simp
                try with_reducible rfl
              try simp only [Act.put, List.setIfInBounds_toArray, List.set_cons_zero, List.set_cons_succ]
              refine wpAnyH_take (i := 2) (oi := { dst := some 188, op := Op.fieldAddr 24 (Operand.tmp 187) 4, type := 0, pos := "pair.go:90", after := #[{ on := 1, ground := Ground.data }], guard := none }) (v := ?_) rfl (by kernel_rfl) (by kernel_rfl) (by kernel_rfl) (fun _ _ _ h => h) (Or.inl ⟨by rfl, ?_⟩) (by assumption) ?_
              rotate_left
              · intro w hSw
                try dsimp only at hSw
                go_simp
                try with_reducible rfl
              try simp only [Act.put, List.setIfInBounds_toArray, List.set_cons_zero, List.set_cons_succ]
              refine wpAnyH_take (i := 3) (oi := { dst := some 189, op := Op.load 22 (Operand.tmp 188), type := 22, pos := "pair.go:90", after := #[{ on := 2, ground := Ground.data }], guard := none }) (v := ?_) rfl (by kernel_rfl) (by kernel_rfl) (by kernel_rfl) (fun _ _ _ h => h) (Or.inl ⟨by rfl, ?_⟩) (by assumption) ?_
              rotate_left
              · intro w hSw
                try dsimp only at hSw
                go_simp
                try with_reducible rfl
              try simp only [Act.put, List.setIfInBounds_toArray, List.set_cons_zero, List.set_cons_succ]
              refine wpAnyH_take (i := 4) (oi := { dst := some 190, op := Op.move (Operand.tmp 23), type := 3, pos := "pair.go:90", after := #[], guard := none }) (v := ?_) rfl (by kernel_rfl) (by kernel_rfl) (by kernel_rfl) (fun _ _ _ h => h) (Or.inl ⟨by rfl, ?_⟩) (by assumption) ?_
              rotate_left
              · intro w hSw
                try dsimp only at hSw
                go_simp
                try with_reducible rfl
              try simp only [Act.put, List.setIfInBounds_toArray, List.set_cons_zero, List.set_cons_succ]
              refine wpAnyH_take (i := 5) (oi := { dst := some 191, op := Op.indexAddr 45 (Operand.tmp 6) (Operand.tmp 190), type := 0, pos := "pair.go:90", after := #[{ on := 4, ground := Ground.data }], guard := none }) (v := ?_) rfl (by kernel_rfl) (by kernel_rfl) (by kernel_rfl) (fun _ _ _ h => h) (Or.inl ⟨by rfl, ?_⟩) (by assumption) ?_
              rotate_left
              · intro w hSw
                try dsimp only at hSw
                go_simp
                try with_reducible rfl
              try simp only [Act.put, List.setIfInBounds_toArray, List.set_cons_zero, List.set_cons_succ]
              refine wpAnyH_take (i := 6) (oi := { dst := some 192, op := Op.fieldAddr 24 (Operand.tmp 191) 3, type := 0, pos := "pair.go:90", after := #[{ on := 5, ground := Ground.data }], guard := none }) (v := ?_) rfl (by kernel_rfl) (by kernel_rfl) (by kernel_rfl) (fun _ _ _ h => h) (Or.inl ⟨by rfl, ?_⟩) (by assumption) ?_
              rotate_left
              · intro w hSw
                try dsimp only at hSw
                go_simp
                try with_reducible rfl
              try simp only [Act.put, List.setIfInBounds_toArray, List.set_cons_zero, List.set_cons_succ]
              refine wpAnyH_take (i := 7) (oi := { dst := some 193, op := Op.load 3 (Operand.tmp 192), type := 3, pos := "pair.go:90", after := #[{ on := 6, ground := Ground.data }], guard := none }) (v := ?_) rfl (by kernel_rfl) (by kernel_rfl) (by kernel_rfl) (fun _ _ _ h => h) (Or.inl ⟨by rfl, ?_⟩) (by assumption) ?_
              rotate_left
              · intro w hSw
                try dsimp only at hSw
                go_simp
                try with_reducible rfl
              try simp only [Act.put, List.setIfInBounds_toArray, List.set_cons_zero, List.set_cons_succ]
              refine wpAnyH_ready (rs := [8]) (by kernel_rfl) (by simp) ?_
              refine AllReadyH.cons (o := { dst := some 194, op := Op.call { callee := Callee.value (Operand.func 27), args := #[Operand.tmp 193], argTypes := #[3] }, type := 22, pos := "pair.go:90", after := #[{ on := 7, ground := Ground.data }], guard := none }) rfl (fun K hK => ?_) AllReadyH.nil
              go_simp
              refine (cSm _).mono ?_
              rintro e w1 ⟨ua2, uc2, rfl, ou2, g1⟩
              have g01 := grown_join gD g1 (.inl rfl)
              go_wp2_with fail
              refine hK.out _ _ (HKP.out _ g01) (fun hHeld => ?_)
              clear hK K
              try simp only [Act.put, List.setIfInBounds_toArray, List.set_cons_zero, List.set_cons_succ]
              refine wpAnyH_ready (rs := [9]) (by kernel_rfl) (by simp) ?_
              refine AllReadyH.cons (o := { dst := some 195, op := Op.call { callee := Callee.value (Operand.func 30), args := #[Operand.tmp 189, Operand.tmp 194], argTypes := #[22, 22] }, type := 4, pos := "pair.go:90", after := #[{ on := 3, ground := Ground.data }, { on := 8, ground := Ground.data }, { on := 8, ground := Ground.chain }], guard := none }) rfl (fun K hK => ?_) AllReadyH.nil
              go_simp
              refine (cEq _ _ _ (rd_grown HRD.out g01) (OwnL.rd ou2)).mono ?_
              rintro e w2 ⟨rfl, g2⟩
              have g02 := grown_join g01 g2 (.inl rfl)
              go_wp2_with fail
              refine hK.out _ _ (HKP.out _ g02) (fun hHeld => ?_)
              clear hK K
              try simp only [Act.put, List.setIfInBounds_toArray, List.set_cons_zero, List.set_cons_succ]
              refine wpAnyH_take (i := 10) (oi := { dst := some 196, op := Op.unOp UnOp.not 4 (Operand.tmp 195), type := 4, pos := "pair.go:90", after := #[{ on := 9, ground := Ground.data }], guard := none }) (v := ?_) rfl (by kernel_rfl) (by kernel_rfl) (by kernel_rfl) (fun _ _ _ h => h) (Or.inl ⟨by rfl, ?_⟩) (by assumption) ?_
              rotate_left
              · intro w hSw
                try dsimp only at hSw
                go_simp
                try with_reducible rfl
              try simp only [Act.put, List.setIfInBounds_toArray, List.set_cons_zero, List.set_cons_succ]
              refine wpAnyH_take (i := 11) (oi := { dst := some 197, op := Op.move (Operand.tmp 196), type := 4, pos := "pair.go:90", after := #[{ on := 10, ground := Ground.data }, { on := 9, ground := Ground.chain }], guard := none }) (v := ?_) rfl (by kernel_rfl) (by kernel_rfl) (by kernel_rfl) (fun _ _ _ h => h) (Or.inl ⟨by rfl, ?_⟩) (by assumption) ?_
              rotate_left
              · intro w hSw
                try dsimp only at hSw
                go_simp
                try with_reducible rfl
              try simp only [Act.put, List.setIfInBounds_toArray, List.set_cons_zero, List.set_cons_succ]
              refine wpAnyH_take (i := 12) (oi := { dst := some 198, op := Op.move (Operand.tmp 23), type := 3, pos := "pair.go:90", after := #[{ on := 11, ground := Ground.guard }], guard := some (11, false) }) (v := ?_) rfl (by kernel_rfl) (by kernel_rfl) (by kernel_rfl) (fun _ _ _ h => h) (Or.inl ⟨by rfl, ?_⟩) (by assumption) ?_
              rotate_left
              · intro w hSw
                try dsimp only at hSw
                go_simp
                try with_reducible rfl
              try simp only [Act.put, List.setIfInBounds_toArray, List.set_cons_zero, List.set_cons_succ]
              refine wpAnyH_take (i := 13) (oi := { dst := some 199, op := Op.indexAddr 45 (Operand.tmp 6) (Operand.tmp 198), type := 0, pos := "pair.go:90", after := #[{ on := 12, ground := Ground.data }, { on := 11, ground := Ground.guard }], guard := some (11, false) }) (v := ?_) rfl (by kernel_rfl) (by kernel_rfl) (by kernel_rfl) (fun _ _ _ h => h) (Or.inl ⟨by rfl, ?_⟩) (by assumption) ?_
              rotate_left
              · intro w hSw
                try dsimp only at hSw
                go_simp
                try with_reducible rfl
              try simp only [Act.put, List.setIfInBounds_toArray, List.set_cons_zero, List.set_cons_succ]
              refine wpAnyH_take (i := 14) (oi := { dst := some 200, op := Op.fieldAddr 24 (Operand.tmp 199) 2, type := 0, pos := "pair.go:90", after := #[{ on := 13, ground := Ground.data }, { on := 11, ground := Ground.guard }], guard := some (11, false) }) (v := ?_) rfl (by kernel_rfl) (by kernel_rfl) (by kernel_rfl) (fun _ _ _ h => h) (Or.inl ⟨by rfl, ?_⟩) (by assumption) ?_
              rotate_left
              · intro w hSw
                try dsimp only at hSw
                go_simp
                try with_reducible rfl
              try simp only [Act.put, List.setIfInBounds_toArray, List.set_cons_zero, List.set_cons_succ]
              refine wpAnyH_take (i := 15) (oi := { dst := some 201, op := Op.load 3 (Operand.tmp 200), type := 3, pos := "pair.go:90", after := #[{ on := 14, ground := Ground.data }, { on := 11, ground := Ground.guard }], guard := some (11, false) }) (v := ?_) rfl (by kernel_rfl) (by kernel_rfl) (by kernel_rfl) (fun _ _ _ h => h) (Or.inl ⟨by rfl, ?_⟩) (by assumption) ?_
              rotate_left
              · intro w hSw
                try dsimp only at hSw
                go_simp
                try with_reducible rfl
              try simp only [Act.put, List.setIfInBounds_toArray, List.set_cons_zero, List.set_cons_succ]
              refine wpAnyH_take (i := 16) (oi := { dst := some 202, op := Op.move (Operand.tmp 23), type := 3, pos := "pair.go:90", after := #[{ on := 11, ground := Ground.guard }], guard := some (11, false) }) (v := ?_) rfl (by kernel_rfl) (by kernel_rfl) (by kernel_rfl) (fun _ _ _ h => h) (Or.inl ⟨by rfl, ?_⟩) (by assumption) ?_
              rotate_left
              · intro w hSw
                try dsimp only at hSw
                go_simp
                try with_reducible rfl
              try simp only [Act.put, List.setIfInBounds_toArray, List.set_cons_zero, List.set_cons_succ]
              refine wpAnyH_take (i := 17) (oi := { dst := some 203, op := Op.indexAddr 45 (Operand.tmp 15) (Operand.tmp 202), type := 0, pos := "pair.go:90", after := #[{ on := 16, ground := Ground.data }, { on := 11, ground := Ground.guard }], guard := some (11, false) }) (v := ?_) rfl (by kernel_rfl) (by kernel_rfl) (by kernel_rfl) (fun _ _ _ h => h) (Or.inl ⟨by rfl, ?_⟩) (by assumption) ?_
              rotate_left
              · intro w hSw
                try dsimp only at hSw
                go_simp
                try with_reducible rfl
              try simp only [Act.put, List.setIfInBounds_toArray, List.set_cons_zero, List.set_cons_succ]
              refine wpAnyH_take (i := 18) (oi := { dst := some 204, op := Op.fieldAddr 24 (Operand.tmp 203) 2, type := 0, pos := "pair.go:90", after := #[{ on := 17, ground := Ground.data }, { on := 11, ground := Ground.guard }], guard := some (11, false) }) (v := ?_) rfl (by kernel_rfl) (by kernel_rfl) (by kernel_rfl) (fun _ _ _ h => h) (Or.inl ⟨by rfl, ?_⟩) (by assumption) ?_
              rotate_left
              · intro w hSw
                try dsimp only at hSw
                go_simp
                try with_reducible rfl
              try simp only [Act.put, List.setIfInBounds_toArray, List.set_cons_zero, List.set_cons_succ]
              refine wpAnyH_take (i := 19) (oi := { dst := some 205, op := Op.load 3 (Operand.tmp 204), type := 3, pos := "pair.go:90", after := #[{ on := 18, ground := Ground.data }, { on := 11, ground := Ground.guard }], guard := some (11, false) }) (v := ?_) rfl (by kernel_rfl) (by kernel_rfl) (by kernel_rfl) (fun _ _ _ h => h) (Or.inl ⟨by rfl, ?_⟩) (by assumption) ?_
              rotate_left
              · intro w hSw
                try dsimp only at hSw
                go_simp
                try with_reducible rfl
              try simp only [Act.put, List.setIfInBounds_toArray, List.set_cons_zero, List.set_cons_succ]
              refine wpAnyH_take (i := 20) (oi := { dst := some 206, op := Op.binOp BinOp.lss 3 (Operand.tmp 201) (Operand.tmp 205) 3, type := 4, pos := "pair.go:90", after := #[{ on := 15, ground := Ground.data }, { on := 19, ground := Ground.data }, { on := 11, ground := Ground.guard }], guard := some (11, false) }) (v := ?_) rfl (by kernel_rfl) (by kernel_rfl) (by kernel_rfl) (fun _ _ _ h => h) (Or.inl ⟨by rfl, ?_⟩) (by assumption) ?_
              rotate_left
              · intro w hSw
                try dsimp only at hSw
                go_simp
                try with_reducible rfl
              try simp only [Act.put, List.setIfInBounds_toArray, List.set_cons_zero, List.set_cons_succ]
              refine wpAnyH_take (i := 21) (oi := { dst := some 207, op := Op.pick (Operand.tmp 197) (Operand.const (Value.bool true)) (Operand.tmp 206), type := 4, pos := "pair.go:90", after := #[{ on := 11, ground := Ground.data }, { on := 20, ground := Ground.data }], guard := none }) (v := ?_) rfl (by kernel_rfl) (by kernel_rfl) (by kernel_rfl) (fun _ _ _ h => h) (Or.inl ⟨by rfl, ?_⟩) (by assumption) ?_
              rotate_left
              · intro w hSw
                try dsimp only at hSw
                go_simp
                try with_reducible rfl
              try simp only [Act.put, List.setIfInBounds_toArray, List.set_cons_zero, List.set_cons_succ]
              refine wpAnyH_take (i := 22) (oi := { dst := some 208, op := Op.move (Operand.tmp 207), type := 4, pos := "pair.go:90", after := #[{ on := 21, ground := Ground.data }, { on := 11, ground := Ground.chain }], guard := none }) (v := ?_) rfl (by kernel_rfl) (by kernel_rfl) (by kernel_rfl) (fun _ _ _ h => h) (Or.inl ⟨by rfl, ?_⟩) (by assumption) ?_
              rotate_left
              · intro w hSw
                try dsimp only at hSw
                go_simp
                try with_reducible rfl
              try simp only [Act.put, List.setIfInBounds_toArray, List.set_cons_zero, List.set_cons_succ]
              refine wpAnyH_take (i := 23) (oi := { dst := some 209, op := Op.move (Operand.tmp 23), type := 3, pos := "pair.go:90", after := #[{ on := 22, ground := Ground.guard }], guard := some (22, false) }) (v := ?_) rfl (by kernel_rfl) (by kernel_rfl) (by kernel_rfl) (fun _ _ _ h => h) (Or.inl ⟨by rfl, ?_⟩) (by assumption) ?_
              rotate_left
              · intro w hSw
                try dsimp only at hSw
                go_simp
                try with_reducible rfl
              try simp only [Act.put, List.setIfInBounds_toArray, List.set_cons_zero, List.set_cons_succ]
              refine wpAnyH_take (i := 24) (oi := { dst := some 210, op := Op.indexAddr 45 (Operand.tmp 6) (Operand.tmp 209), type := 0, pos := "pair.go:90", after := #[{ on := 23, ground := Ground.data }, { on := 22, ground := Ground.guard }], guard := some (22, false) }) (v := ?_) rfl (by kernel_rfl) (by kernel_rfl) (by kernel_rfl) (fun _ _ _ h => h) (Or.inl ⟨by rfl, ?_⟩) (by assumption) ?_
              rotate_left
              · intro w hSw
                try dsimp only at hSw
                go_simp
                try with_reducible rfl
              try simp only [Act.put, List.setIfInBounds_toArray, List.set_cons_zero, List.set_cons_succ]
              refine wpAnyH_take (i := 25) (oi := { dst := some 211, op := Op.fieldAddr 24 (Operand.tmp 210) 2, type := 0, pos := "pair.go:90", after := #[{ on := 24, ground := Ground.data }, { on := 22, ground := Ground.guard }], guard := some (22, false) }) (v := ?_) rfl (by kernel_rfl) (by kernel_rfl) (by kernel_rfl) (fun _ _ _ h => h) (Or.inl ⟨by rfl, ?_⟩) (by assumption) ?_
              rotate_left
              · intro w hSw
                try dsimp only at hSw
                go_simp
                try with_reducible rfl
              try simp only [Act.put, List.setIfInBounds_toArray, List.set_cons_zero, List.set_cons_succ]
              refine wpAnyH_take (i := 26) (oi := { dst := some 212, op := Op.load 3 (Operand.tmp 211), type := 3, pos := "pair.go:90", after := #[{ on := 25, ground := Ground.data }, { on := 22, ground := Ground.guard }], guard := some (22, false) }) (v := ?_) rfl (by kernel_rfl) (by kernel_rfl) (by kernel_rfl) (fun _ _ _ h => h) (Or.inl ⟨by rfl, ?_⟩) (by assumption) ?_
              rotate_left
              · intro w hSw
                try dsimp only at hSw
                go_simp
                try with_reducible rfl
              try simp only [Act.put, List.setIfInBounds_toArray, List.set_cons_zero, List.set_cons_succ]
              refine wpAnyH_take (i := 27) (oi := { dst := some 213, op := Op.move (Operand.tmp 23), type := 3, pos := "pair.go:90", after := #[{ on := 22, ground := Ground.guard }], guard := some (22, false) }) (v := ?_) rfl (by kernel_rfl) (by kernel_rfl) (by kernel_rfl) (fun _ _ _ h => h) (Or.inl ⟨by rfl, ?_⟩) (by assumption) ?_
              rotate_left
              · intro w hSw
                try dsimp only at hSw
                go_simp
                try with_reducible rfl
              try simp only [Act.put, List.setIfInBounds_toArray, List.set_cons_zero, List.set_cons_succ]
              refine wpAnyH_take (i := 28) (oi := { dst := some 214, op := Op.indexAddr 45 (Operand.tmp 15) (Operand.tmp 213), type := 0, pos := "pair.go:90", after := #[{ on := 27, ground := Ground.data }, { on := 22, ground := Ground.guard }], guard := some (22, false) }) (v := ?_) rfl (by kernel_rfl) (by kernel_rfl) (by kernel_rfl) (fun _ _ _ h => h) (Or.inl ⟨by rfl, ?_⟩) (by assumption) ?_
              rotate_left
              · intro w hSw
                try dsimp only at hSw
                go_simp
                try with_reducible rfl
              try simp only [Act.put, List.setIfInBounds_toArray, List.set_cons_zero, List.set_cons_succ]
              refine wpAnyH_take (i := 29) (oi := { dst := some 215, op := Op.fieldAddr 24 (Operand.tmp 214) 2, type := 0, pos := "pair.go:90", after := #[{ on := 28, ground := Ground.data }, { on := 22, ground := Ground.guard }], guard := some (22, false) }) (v := ?_) rfl (by kernel_rfl) (by kernel_rfl) (by kernel_rfl) (fun _ _ _ h => h) (Or.inl ⟨by rfl, ?_⟩) (by assumption) ?_
              rotate_left
              · intro w hSw
                try dsimp only at hSw
                go_simp
                try with_reducible rfl
              try simp only [Act.put, List.setIfInBounds_toArray, List.set_cons_zero, List.set_cons_succ]
              refine wpAnyH_take (i := 30) (oi := { dst := some 216, op := Op.load 3 (Operand.tmp 215), type := 3, pos := "pair.go:90", after := #[{ on := 29, ground := Ground.data }, { on := 22, ground := Ground.guard }], guard := some (22, false) }) (v := ?_) rfl (by kernel_rfl) (by kernel_rfl) (by kernel_rfl) (fun _ _ _ h => h) (Or.inl ⟨by rfl, ?_⟩) (by assumption) ?_
              rotate_left
              · intro w hSw
                try dsimp only at hSw
                go_simp
                try with_reducible rfl
              try simp only [Act.put, List.setIfInBounds_toArray, List.set_cons_zero, List.set_cons_succ]
              refine wpAnyH_take (i := 31) (oi := { dst := some 217, op := Op.binOp BinOp.eql 3 (Operand.tmp 212) (Operand.tmp 216) 3, type := 4, pos := "pair.go:90", after := #[{ on := 26, ground := Ground.data }, { on := 30, ground := Ground.data }, { on := 22, ground := Ground.guard }], guard := some (22, false) }) (v := ?_) rfl (by kernel_rfl) (by kernel_rfl) (by kernel_rfl) (fun _ _ _ h => h) (Or.inl ⟨by rfl, ?_⟩) (by assumption) ?_
              rotate_left
              · intro w hSw
                try dsimp only at hSw
                go_simp
                try with_reducible rfl
              try simp only [Act.put, List.setIfInBounds_toArray, List.set_cons_zero, List.set_cons_succ]
              refine wpAnyH_take (i := 32) (oi := { dst := some 218, op := Op.move (Operand.tmp 217), type := 4, pos := "pair.go:90", after := #[{ on := 31, ground := Ground.data }, { on := 22, ground := Ground.chain }, { on := 22, ground := Ground.guard }], guard := some (22, false) }) (v := ?_) rfl (by kernel_rfl) (by kernel_rfl) (by kernel_rfl) (fun _ _ _ h => h) (Or.inl ⟨by rfl, ?_⟩) (by assumption) ?_
              rotate_left
              · intro w hSw
                try dsimp only at hSw
                go_simp
                try with_reducible rfl
              try simp only [Act.put, List.setIfInBounds_toArray, List.set_cons_zero, List.set_cons_succ]
              refine wpAnyH_take (i := 33) (oi := { dst := some 219, op := Op.move (Operand.tmp 23), type := 3, pos := "pair.go:90", after := #[{ on := 32, ground := Ground.guard }], guard := some (32, true) }) (v := undef) rfl (by kernel_rfl) (by kernel_rfl) (by kernel_rfl) (fun _ _ _ h => h) (Or.inr ⟨by rfl, rfl⟩) (by assumption) ?_
              try simp only [Act.put, List.setIfInBounds_toArray, List.set_cons_zero, List.set_cons_succ]
              refine wpAnyH_take (i := 34) (oi := { dst := some 220, op := Op.indexAddr 45 (Operand.tmp 6) (Operand.tmp 219), type := 0, pos := "pair.go:90", after := #[{ on := 33, ground := Ground.data }, { on := 32, ground := Ground.guard }], guard := some (32, true) }) (v := undef) rfl (by kernel_rfl) (by kernel_rfl) (by kernel_rfl) (fun _ _ _ h => h) (Or.inr ⟨by rfl, rfl⟩) (by assumption) ?_
              try simp only [Act.put, List.setIfInBounds_toArray, List.set_cons_zero, List.set_cons_succ]
              refine wpAnyH_take (i := 35) (oi := { dst := some 221, op := Op.fieldAddr 24 (Operand.tmp 220) 3, type := 0, pos := "pair.go:90", after := #[{ on := 34, ground := Ground.data }, { on := 32, ground := Ground.guard }], guard := some (32, true) }) (v := undef) rfl (by kernel_rfl) (by kernel_rfl) (by kernel_rfl) (fun _ _ _ h => h) (Or.inr ⟨by rfl, rfl⟩) (by assumption) ?_
              try simp only [Act.put, List.setIfInBounds_toArray, List.set_cons_zero, List.set_cons_succ]
              refine wpAnyH_take (i := 36) (oi := { dst := some 222, op := Op.load 3 (Operand.tmp 221), type := 3, pos := "pair.go:90", after := #[{ on := 35, ground := Ground.data }, { on := 32, ground := Ground.guard }], guard := some (32, true) }) (v := undef) rfl (by kernel_rfl) (by kernel_rfl) (by kernel_rfl) (fun _ _ _ h => h) (Or.inr ⟨by rfl, rfl⟩) (by assumption) ?_
              try simp only [Act.put, List.setIfInBounds_toArray, List.set_cons_zero, List.set_cons_succ]
              refine wpAnyH_take (i := 37) (oi := { dst := some 223, op := Op.move (Operand.tmp 23), type := 3, pos := "pair.go:90", after := #[{ on := 32, ground := Ground.guard }], guard := some (32, true) }) (v := undef) rfl (by kernel_rfl) (by kernel_rfl) (by kernel_rfl) (fun _ _ _ h => h) (Or.inr ⟨by rfl, rfl⟩) (by assumption) ?_
              try simp only [Act.put, List.setIfInBounds_toArray, List.set_cons_zero, List.set_cons_succ]
              refine wpAnyH_take (i := 38) (oi := { dst := some 224, op := Op.indexAddr 45 (Operand.tmp 15) (Operand.tmp 223), type := 0, pos := "pair.go:90", after := #[{ on := 37, ground := Ground.data }, { on := 32, ground := Ground.guard }], guard := some (32, true) }) (v := undef) rfl (by kernel_rfl) (by kernel_rfl) (by kernel_rfl) (fun _ _ _ h => h) (Or.inr ⟨by rfl, rfl⟩) (by assumption) ?_
              try simp only [Act.put, List.setIfInBounds_toArray, List.set_cons_zero, List.set_cons_succ]
              refine wpAnyH_take (i := 39) (oi := { dst := some 225, op := Op.fieldAddr 24 (Operand.tmp 224) 3, type := 0, pos := "pair.go:90", after := #[{ on := 38, ground := Ground.data }, { on := 32, ground := Ground.guard }], guard := some (32, true) }) (v := undef) rfl (by kernel_rfl) (by kernel_rfl) (by kernel_rfl) (fun _ _ _ h => h) (Or.inr ⟨by rfl, rfl⟩) (by assumption) ?_
              try simp only [Act.put, List.setIfInBounds_toArray, List.set_cons_zero, List.set_cons_succ]
              refine wpAnyH_take (i := 40) (oi := { dst := some 226, op := Op.load 3 (Operand.tmp 225), type := 3, pos := "pair.go:90", after := #[{ on := 39, ground := Ground.data }, { on := 32, ground := Ground.guard }], guard := some (32, true) }) (v := undef) rfl (by kernel_rfl) (by kernel_rfl) (by kernel_rfl) (fun _ _ _ h => h) (Or.inr ⟨by rfl, rfl⟩) (by assumption) ?_
              try simp only [Act.put, List.setIfInBounds_toArray, List.set_cons_zero, List.set_cons_succ]
              refine wpAnyH_take (i := 41) (oi := { dst := some 227, op := Op.binOp BinOp.lss 3 (Operand.tmp 222) (Operand.tmp 226) 3, type := 4, pos := "pair.go:90", after := #[{ on := 36, ground := Ground.data }, { on := 40, ground := Ground.data }, { on := 32, ground := Ground.guard }], guard := some (32, true) }) (v := undef) rfl (by kernel_rfl) (by kernel_rfl) (by kernel_rfl) (fun _ _ _ h => h) (Or.inr ⟨by rfl, rfl⟩) (by assumption) ?_
              try simp only [Act.put, List.setIfInBounds_toArray, List.set_cons_zero, List.set_cons_succ]
              refine wpAnyH_take (i := 42) (oi := { dst := some 228, op := Op.pick (Operand.tmp 218) (Operand.tmp 227) (Operand.const (Value.bool false)), type := 4, pos := "pair.go:90", after := #[{ on := 32, ground := Ground.data }, { on := 41, ground := Ground.data }, { on := 22, ground := Ground.guard }], guard := some (22, false) }) (v := ?_) rfl (by kernel_rfl) (by kernel_rfl) (by kernel_rfl) (fun _ _ _ h => h) (Or.inl ⟨by rfl, ?_⟩) (by assumption) ?_
              rotate_left
              · intro w hSw
                try dsimp only at hSw
                go_simp
                try with_reducible rfl
              try simp only [Act.put, List.setIfInBounds_toArray, List.set_cons_zero, List.set_cons_succ]
              refine wpAnyH_take (i := 43) (oi := { dst := some 229, op := Op.pick (Operand.tmp 208) (Operand.const (Value.bool true)) (Operand.tmp 228), type := 4, pos := "pair.go:90", after := #[{ on := 22, ground := Ground.data }, { on := 42, ground := Ground.data }], guard := none }) (v := ?_) rfl (by kernel_rfl) (by kernel_rfl) (by kernel_rfl) (fun _ _ _ h => h) (Or.inl ⟨by rfl, ?_⟩) (by assumption) ?_
              rotate_left
              · intro w hSw
                try dsimp only at hSw
                go_simp
                try with_reducible rfl
              try simp only [Act.put, List.setIfInBounds_toArray, List.set_cons_zero, List.set_cons_succ]
              refine wpAnyH_done (by kernel_rfl) ?_ _
              go_wp2
              have hgl := HGj.out
              go_roundg (2 - (0 + 1))
              all_goals first | omega | exact ⟨0 + 1, by go_num, by omega, by omega, grown_join hgr g02 (.inl rfl)⟩
        · obtain ⟨L1, hL1⟩ : ∃ L, S' 1 = L := ⟨_, rfl⟩
          obtain ⟨O1, hO1⟩ : ∃ L, S 1 = L := ⟨_, rfl⟩
          have hI3 := HIr.out.1.grow hgr
          obtain ⟨-, m2, m3, m4, -, m9, m10, m11⟩ := cells14 hI3.bp
          obtain ⟨-, n2, n3, -, -, n9, n10, -⟩ := cells14 (kept hgr HIr.out.2)
          have hrd := OwnL.rd (hI3.ow 1 (by omega))
          have hmo := HGr.out.2.2 1 (by omega)
          have hok := HGr.out.1.ok 1 (by omega)
          have e1 : S' 1 = sdOf 1 pt (s' 1) := by rw [← HSr.out]; rfl
          have e2 : S 1 = sdOf 1 pt (s 1) := by rw [← HS.out]; rfl
          have f1 : L1.te = ((s' 1).te : Int) ∧ L1.cy = ((s' 1).cy : Int) ∧ L1.im = im2 (s' 1).cy := by rw [← hL1, e1]; exact ⟨rfl, rfl, rfl⟩
          have f2 : O1.te = ((s 1).te : Int) ∧ O1.cy = ((s 1).cy : Int) := by rw [← hO1, e2]; exact ⟨rfl, rfl⟩
          have cSm : ∀ X, Calls Try.prog 27 #[.int .i64 L1.cy] X fun e w' => TwP X w' e (s' 1).cy := fun X => by rw [f1.2.1]; exact summed_any (s' 1).cy X (by have := hok.2.1; omega)
          have cEq : ∀ X u v, rd X u L1.im → rd X v (im2 (s' 1).cy) → Calls Try.prog 30 #[u, v] X fun e w' => e = .returned (.bool true) ∧ X.grownBy w' none := fun X u v k1 k2 => by
            rw [f1.2.2] at k1
            exact keepEq_yes (im2 (s' 1).cy) u v X k1 k2 (by simp [im2])
          have d1 : ¬ L1.te < O1.te := by rw [f1.1, f2.1]; omega
          have d2 : L1.te = O1.te → ¬ L1.cy < O1.cy := by rw [f1.1, f2.1, f1.2.1, f2.2]; omega
          have D1 : decide (L1.te < O1.te) = false := decide_eq_false d1
          rw [hL1] at m9 m10 m11 hrd
          rw [hO1] at n9 n10
          have HRD := hidI hrd
          generalize a' 1 = ax at *
          generalize c' 1 = cx at *
          have HKP : Hid (∀ X, wr.grownBy X none → (wr.grownBy X none ∧ X.cell? ⟨P, 9, none⟩ = some (.int .i64 L1.te) ∧ X.cell? ⟨P, 10, none⟩ = some (.int .i64 L1.cy) ∧ X.cell? ⟨P, 11, none⟩ = some (.slice ax L1.im.length cx) ∧ X.cell? ⟨Q, 9, none⟩ = some (.int .i64 O1.te) ∧ X.cell? ⟨Q, 10, none⟩ = some (.int .i64 O1.cy))) := hidI (fun X g => ⟨g, g.cell m9 (by simp), g.cell m10 (by simp), g.cell m11 (by simp), g.cell n9 (by simp), g.cell n10 (by simp)⟩)
          have gR := World.grownBy.refl wr none
          have gD := gr_drew gR
          clear hL1 hO1 hI3 m2 m3 m4 m9 m10 m11 n2 n3 n9 n10 hrd hmo hok e1 e2 f1 f2
          go_upto_region 51 with fail
          by_cases hte : L1.te = O1.te
          · as_aux_lemma =>
              have d3 := d2 hte
              have D2 : (L1.te == O1.te) = true := by simpa using hte
              have D3 : decide (L1.cy < O1.cy) = false := decide_eq_false d3
              clear hte d2
              go_region_held3 (fun X => wr.grownBy X none ∧ X.cell? ⟨P, 9, none⟩ = some (.int .i64 L1.te) ∧ X.cell? ⟨P, 10, none⟩ = some (.int .i64 L1.cy) ∧ X.cell? ⟨P, 11, none⟩ = some (.slice ax L1.im.length cx) ∧ X.cell? ⟨Q, 9, none⟩ = some (.int .i64 O1.te) ∧ X.cell? ⟨Q, 10, none⟩ = some (.int .i64 O1.cy)) (first | exact HKP.out _ gR | exact HKP.out _ gD | exact HKP.out _ g01 | exact HKP.out _ g02) (first | (go_at_call 27; refine (cSm _).mono ?_; rintro e w1 ⟨ua2, uc2, rfl, ou2, g1⟩; have g01 := grown_join gD g1 (.inl rfl)) | (go_at_call 30; refine (cEq _ _ _ (rd_grown HRD.out g01) (OwnL.rd ou2)).mono ?_; rintro e w2 ⟨rfl, g2⟩; have g02 := grown_join g01 g2 (.inl rfl)))
              go_wp2
              have hgl := HGj.out
              go_roundg (2 - (1 + 1))
              all_goals first | omega | exact ⟨1 + 1, by go_num, by omega, by omega, grown_join hgr g02 (.inl rfl)⟩
          · as_aux_lemma =>
              have D2 : (L1.te == O1.te) = false := by simpa using hte
              clear d2 hte
              refine wp_region_held_drew (S := (fun X : World => wr.grownBy X none ∧ X.cell? ⟨P, 9, none⟩ = some (.int .i64 L1.te) ∧ X.cell? ⟨P, 10, none⟩ = some (.int .i64 L1.cy) ∧ X.cell? ⟨P, 11, none⟩ = some (.slice ax L1.im.length cx) ∧ X.cell? ⟨Q, 9, none⟩ = some (.int .i64 O1.te) ∧ X.cell? ⟨Q, 10, none⟩ = some (.int .i64 O1.cy))) (by kernel_rfl) (HKP.out _ gD) (fun hHeld => ?_)
              refine wpAnyH_take (i := 0) (oi := { dst := some 186, op := Op.move (Operand.tmp 23), type := 3, pos := "pair.go:90", after := #[], guard := none }) (v := ?_) rfl (by kernel_rfl) (by kernel_rfl) (by kernel_rfl) (fun _ _ _ h => h) (Or.inl ⟨by rfl, ?_⟩) (by assumption) ?_
              rotate_left
              · intro w hSw
                try dsimp only at hSw
                go_simp
                try with_reducible rfl
              try simp only [Act.put, List.setIfInBounds_toArray, List.set_cons_zero, List.set_cons_succ]
              refine wpAnyH_take (i := 1) (oi := { dst := some 187, op := Op.indexAddr 45 (Operand.tmp 6) (Operand.tmp 186), type := 0, pos := "pair.go:90", after := #[{ on := 0, ground := Ground.data }], guard := none }) (v := ?_) rfl (by kernel_rfl) (by kernel_rfl) (by kernel_rfl) (fun _ _ _ h => h) (Or.inl ⟨by rfl, ?_⟩) (by assumption) ?_
              rotate_left
              · intro w hSw
                try dsimp only at hSw
                go_simp
                try with_reducible rfl
              try simp only [Act.put, List.setIfInBounds_toArray, List.set_cons_zero, List.set_cons_succ]
              refine wpAnyH_take (i := 2) (oi := { dst := some 188, op := Op.fieldAddr 24 (Operand.tmp 187) 4, type := 0, pos := "pair.go:90", after := #[{ on := 1, ground := Ground.data }], guard := none }) (v := ?_) rfl (by kernel_rfl) (by kernel_rfl) (by kernel_rfl) (fun _ _ _ h => h) (Or.inl ⟨by rfl, ?_⟩) (by assumption) ?_
              rotate_left
              · intro w hSw
                try dsimp only at hSw
                go_simp
                try with_reducible rfl
              try simp only [Act.put, List.setIfInBounds_toArray, List.set_cons_zero, List.set_cons_succ]
              refine wpAnyH_take (i := 3) (oi := { dst := some 189, op := Op.load 22 (Operand.tmp 188), type := 22, pos := "pair.go:90", after := #[{ on := 2, ground := Ground.data }], guard := none }) (v := ?_) rfl (by kernel_rfl) (by kernel_rfl) (by kernel_rfl) (fun _ _ _ h => h) (Or.inl ⟨by rfl, ?_⟩) (by assumption) ?_
              rotate_left
              · intro w hSw
                try dsimp only at hSw
                go_simp
                try with_reducible rfl
              try simp only [Act.put, List.setIfInBounds_toArray, List.set_cons_zero, List.set_cons_succ]
              refine wpAnyH_take (i := 4) (oi := { dst := some 190, op := Op.move (Operand.tmp 23), type := 3, pos := "pair.go:90", after := #[], guard := none }) (v := ?_) rfl (by kernel_rfl) (by kernel_rfl) (by kernel_rfl) (fun _ _ _ h => h) (Or.inl ⟨by rfl, ?_⟩) (by assumption) ?_
              rotate_left
              · intro w hSw
                try dsimp only at hSw
                go_simp
                try with_reducible rfl
              try simp only [Act.put, List.setIfInBounds_toArray, List.set_cons_zero, List.set_cons_succ]
              refine wpAnyH_take (i := 5) (oi := { dst := some 191, op := Op.indexAddr 45 (Operand.tmp 6) (Operand.tmp 190), type := 0, pos := "pair.go:90", after := #[{ on := 4, ground := Ground.data }], guard := none }) (v := ?_) rfl (by kernel_rfl) (by kernel_rfl) (by kernel_rfl) (fun _ _ _ h => h) (Or.inl ⟨by rfl, ?_⟩) (by assumption) ?_
              rotate_left
              · intro w hSw
                try dsimp only at hSw
                go_simp
                try with_reducible rfl
              try simp only [Act.put, List.setIfInBounds_toArray, List.set_cons_zero, List.set_cons_succ]
              refine wpAnyH_take (i := 6) (oi := { dst := some 192, op := Op.fieldAddr 24 (Operand.tmp 191) 3, type := 0, pos := "pair.go:90", after := #[{ on := 5, ground := Ground.data }], guard := none }) (v := ?_) rfl (by kernel_rfl) (by kernel_rfl) (by kernel_rfl) (fun _ _ _ h => h) (Or.inl ⟨by rfl, ?_⟩) (by assumption) ?_
              rotate_left
              · intro w hSw
                try dsimp only at hSw
                go_simp
                try with_reducible rfl
              try simp only [Act.put, List.setIfInBounds_toArray, List.set_cons_zero, List.set_cons_succ]
              refine wpAnyH_take (i := 7) (oi := { dst := some 193, op := Op.load 3 (Operand.tmp 192), type := 3, pos := "pair.go:90", after := #[{ on := 6, ground := Ground.data }], guard := none }) (v := ?_) rfl (by kernel_rfl) (by kernel_rfl) (by kernel_rfl) (fun _ _ _ h => h) (Or.inl ⟨by rfl, ?_⟩) (by assumption) ?_
              rotate_left
              · intro w hSw
                try dsimp only at hSw
                go_simp
                try with_reducible rfl
              try simp only [Act.put, List.setIfInBounds_toArray, List.set_cons_zero, List.set_cons_succ]
              refine wpAnyH_ready (rs := [8]) (by kernel_rfl) (by simp) ?_
              refine AllReadyH.cons (o := { dst := some 194, op := Op.call { callee := Callee.value (Operand.func 27), args := #[Operand.tmp 193], argTypes := #[3] }, type := 22, pos := "pair.go:90", after := #[{ on := 7, ground := Ground.data }], guard := none }) rfl (fun K hK => ?_) AllReadyH.nil
              go_simp
              refine (cSm _).mono ?_
              rintro e w1 ⟨ua2, uc2, rfl, ou2, g1⟩
              have g01 := grown_join gD g1 (.inl rfl)
              go_wp2_with fail
              refine hK.out _ _ (HKP.out _ g01) (fun hHeld => ?_)
              clear hK K
              try simp only [Act.put, List.setIfInBounds_toArray, List.set_cons_zero, List.set_cons_succ]
              refine wpAnyH_ready (rs := [9]) (by kernel_rfl) (by simp) ?_
              refine AllReadyH.cons (o := { dst := some 195, op := Op.call { callee := Callee.value (Operand.func 30), args := #[Operand.tmp 189, Operand.tmp 194], argTypes := #[22, 22] }, type := 4, pos := "pair.go:90", after := #[{ on := 3, ground := Ground.data }, { on := 8, ground := Ground.data }, { on := 8, ground := Ground.chain }], guard := none }) rfl (fun K hK => ?_) AllReadyH.nil
              go_simp
              refine (cEq _ _ _ (rd_grown HRD.out g01) (OwnL.rd ou2)).mono ?_
              rintro e w2 ⟨rfl, g2⟩
              have g02 := grown_join g01 g2 (.inl rfl)
              go_wp2_with fail
              refine hK.out _ _ (HKP.out _ g02) (fun hHeld => ?_)
              clear hK K
              try simp only [Act.put, List.setIfInBounds_toArray, List.set_cons_zero, List.set_cons_succ]
              refine wpAnyH_take (i := 10) (oi := { dst := some 196, op := Op.unOp UnOp.not 4 (Operand.tmp 195), type := 4, pos := "pair.go:90", after := #[{ on := 9, ground := Ground.data }], guard := none }) (v := ?_) rfl (by kernel_rfl) (by kernel_rfl) (by kernel_rfl) (fun _ _ _ h => h) (Or.inl ⟨by rfl, ?_⟩) (by assumption) ?_
              rotate_left
              · intro w hSw
                try dsimp only at hSw
                go_simp
                try with_reducible rfl
              try simp only [Act.put, List.setIfInBounds_toArray, List.set_cons_zero, List.set_cons_succ]
              refine wpAnyH_take (i := 11) (oi := { dst := some 197, op := Op.move (Operand.tmp 196), type := 4, pos := "pair.go:90", after := #[{ on := 10, ground := Ground.data }, { on := 9, ground := Ground.chain }], guard := none }) (v := ?_) rfl (by kernel_rfl) (by kernel_rfl) (by kernel_rfl) (fun _ _ _ h => h) (Or.inl ⟨by rfl, ?_⟩) (by assumption) ?_
              rotate_left
              · intro w hSw
                try dsimp only at hSw
                go_simp
                try with_reducible rfl
              try simp only [Act.put, List.setIfInBounds_toArray, List.set_cons_zero, List.set_cons_succ]
              refine wpAnyH_take (i := 12) (oi := { dst := some 198, op := Op.move (Operand.tmp 23), type := 3, pos := "pair.go:90", after := #[{ on := 11, ground := Ground.guard }], guard := some (11, false) }) (v := ?_) rfl (by kernel_rfl) (by kernel_rfl) (by kernel_rfl) (fun _ _ _ h => h) (Or.inl ⟨by rfl, ?_⟩) (by assumption) ?_
              rotate_left
              · intro w hSw
                try dsimp only at hSw
                go_simp
                try with_reducible rfl
              try simp only [Act.put, List.setIfInBounds_toArray, List.set_cons_zero, List.set_cons_succ]
              refine wpAnyH_take (i := 13) (oi := { dst := some 199, op := Op.indexAddr 45 (Operand.tmp 6) (Operand.tmp 198), type := 0, pos := "pair.go:90", after := #[{ on := 12, ground := Ground.data }, { on := 11, ground := Ground.guard }], guard := some (11, false) }) (v := ?_) rfl (by kernel_rfl) (by kernel_rfl) (by kernel_rfl) (fun _ _ _ h => h) (Or.inl ⟨by rfl, ?_⟩) (by assumption) ?_
              rotate_left
              · intro w hSw
                try dsimp only at hSw
                go_simp
                try with_reducible rfl
              try simp only [Act.put, List.setIfInBounds_toArray, List.set_cons_zero, List.set_cons_succ]
              refine wpAnyH_take (i := 14) (oi := { dst := some 200, op := Op.fieldAddr 24 (Operand.tmp 199) 2, type := 0, pos := "pair.go:90", after := #[{ on := 13, ground := Ground.data }, { on := 11, ground := Ground.guard }], guard := some (11, false) }) (v := ?_) rfl (by kernel_rfl) (by kernel_rfl) (by kernel_rfl) (fun _ _ _ h => h) (Or.inl ⟨by rfl, ?_⟩) (by assumption) ?_
              rotate_left
              · intro w hSw
                try dsimp only at hSw
                go_simp
                try with_reducible rfl
              try simp only [Act.put, List.setIfInBounds_toArray, List.set_cons_zero, List.set_cons_succ]
              refine wpAnyH_take (i := 15) (oi := { dst := some 201, op := Op.load 3 (Operand.tmp 200), type := 3, pos := "pair.go:90", after := #[{ on := 14, ground := Ground.data }, { on := 11, ground := Ground.guard }], guard := some (11, false) }) (v := ?_) rfl (by kernel_rfl) (by kernel_rfl) (by kernel_rfl) (fun _ _ _ h => h) (Or.inl ⟨by rfl, ?_⟩) (by assumption) ?_
              rotate_left
              · intro w hSw
                try dsimp only at hSw
                go_simp
                try with_reducible rfl
              try simp only [Act.put, List.setIfInBounds_toArray, List.set_cons_zero, List.set_cons_succ]
              refine wpAnyH_take (i := 16) (oi := { dst := some 202, op := Op.move (Operand.tmp 23), type := 3, pos := "pair.go:90", after := #[{ on := 11, ground := Ground.guard }], guard := some (11, false) }) (v := ?_) rfl (by kernel_rfl) (by kernel_rfl) (by kernel_rfl) (fun _ _ _ h => h) (Or.inl ⟨by rfl, ?_⟩) (by assumption) ?_
              rotate_left
              · intro w hSw
                try dsimp only at hSw
                go_simp
                try with_reducible rfl
              try simp only [Act.put, List.setIfInBounds_toArray, List.set_cons_zero, List.set_cons_succ]
              refine wpAnyH_take (i := 17) (oi := { dst := some 203, op := Op.indexAddr 45 (Operand.tmp 15) (Operand.tmp 202), type := 0, pos := "pair.go:90", after := #[{ on := 16, ground := Ground.data }, { on := 11, ground := Ground.guard }], guard := some (11, false) }) (v := ?_) rfl (by kernel_rfl) (by kernel_rfl) (by kernel_rfl) (fun _ _ _ h => h) (Or.inl ⟨by rfl, ?_⟩) (by assumption) ?_
              rotate_left
              · intro w hSw
                try dsimp only at hSw
                go_simp
                try with_reducible rfl
              try simp only [Act.put, List.setIfInBounds_toArray, List.set_cons_zero, List.set_cons_succ]
              refine wpAnyH_take (i := 18) (oi := { dst := some 204, op := Op.fieldAddr 24 (Operand.tmp 203) 2, type := 0, pos := "pair.go:90", after := #[{ on := 17, ground := Ground.data }, { on := 11, ground := Ground.guard }], guard := some (11, false) }) (v := ?_) rfl (by kernel_rfl) (by kernel_rfl) (by kernel_rfl) (fun _ _ _ h => h) (Or.inl ⟨by rfl, ?_⟩) (by assumption) ?_
              rotate_left
              · intro w hSw
                try dsimp only at hSw
                go_simp
                try with_reducible rfl
              try simp only [Act.put, List.setIfInBounds_toArray, List.set_cons_zero, List.set_cons_succ]
              refine wpAnyH_take (i := 19) (oi := { dst := some 205, op := Op.load 3 (Operand.tmp 204), type := 3, pos := "pair.go:90", after := #[{ on := 18, ground := Ground.data }, { on := 11, ground := Ground.guard }], guard := some (11, false) }) (v := ?_) rfl (by kernel_rfl) (by kernel_rfl) (by kernel_rfl) (fun _ _ _ h => h) (Or.inl ⟨by rfl, ?_⟩) (by assumption) ?_
              rotate_left
              · intro w hSw
                try dsimp only at hSw
                go_simp
                try with_reducible rfl
              try simp only [Act.put, List.setIfInBounds_toArray, List.set_cons_zero, List.set_cons_succ]
              refine wpAnyH_take (i := 20) (oi := { dst := some 206, op := Op.binOp BinOp.lss 3 (Operand.tmp 201) (Operand.tmp 205) 3, type := 4, pos := "pair.go:90", after := #[{ on := 15, ground := Ground.data }, { on := 19, ground := Ground.data }, { on := 11, ground := Ground.guard }], guard := some (11, false) }) (v := ?_) rfl (by kernel_rfl) (by kernel_rfl) (by kernel_rfl) (fun _ _ _ h => h) (Or.inl ⟨by rfl, ?_⟩) (by assumption) ?_
              rotate_left
              · intro w hSw
                try dsimp only at hSw
                go_simp
                try with_reducible rfl
              try simp only [Act.put, List.setIfInBounds_toArray, List.set_cons_zero, List.set_cons_succ]
              refine wpAnyH_take (i := 21) (oi := { dst := some 207, op := Op.pick (Operand.tmp 197) (Operand.const (Value.bool true)) (Operand.tmp 206), type := 4, pos := "pair.go:90", after := #[{ on := 11, ground := Ground.data }, { on := 20, ground := Ground.data }], guard := none }) (v := ?_) rfl (by kernel_rfl) (by kernel_rfl) (by kernel_rfl) (fun _ _ _ h => h) (Or.inl ⟨by rfl, ?_⟩) (by assumption) ?_
              rotate_left
              · intro w hSw
                try dsimp only at hSw
                go_simp
                try with_reducible rfl
              try simp only [Act.put, List.setIfInBounds_toArray, List.set_cons_zero, List.set_cons_succ]
              refine wpAnyH_take (i := 22) (oi := { dst := some 208, op := Op.move (Operand.tmp 207), type := 4, pos := "pair.go:90", after := #[{ on := 21, ground := Ground.data }, { on := 11, ground := Ground.chain }], guard := none }) (v := ?_) rfl (by kernel_rfl) (by kernel_rfl) (by kernel_rfl) (fun _ _ _ h => h) (Or.inl ⟨by rfl, ?_⟩) (by assumption) ?_
              rotate_left
              · intro w hSw
                try dsimp only at hSw
                go_simp
                try with_reducible rfl
              try simp only [Act.put, List.setIfInBounds_toArray, List.set_cons_zero, List.set_cons_succ]
              refine wpAnyH_take (i := 23) (oi := { dst := some 209, op := Op.move (Operand.tmp 23), type := 3, pos := "pair.go:90", after := #[{ on := 22, ground := Ground.guard }], guard := some (22, false) }) (v := ?_) rfl (by kernel_rfl) (by kernel_rfl) (by kernel_rfl) (fun _ _ _ h => h) (Or.inl ⟨by rfl, ?_⟩) (by assumption) ?_
              rotate_left
              · intro w hSw
                try dsimp only at hSw
                go_simp
                try with_reducible rfl
              try simp only [Act.put, List.setIfInBounds_toArray, List.set_cons_zero, List.set_cons_succ]
              refine wpAnyH_take (i := 24) (oi := { dst := some 210, op := Op.indexAddr 45 (Operand.tmp 6) (Operand.tmp 209), type := 0, pos := "pair.go:90", after := #[{ on := 23, ground := Ground.data }, { on := 22, ground := Ground.guard }], guard := some (22, false) }) (v := ?_) rfl (by kernel_rfl) (by kernel_rfl) (by kernel_rfl) (fun _ _ _ h => h) (Or.inl ⟨by rfl, ?_⟩) (by assumption) ?_
              rotate_left
              · intro w hSw
                try dsimp only at hSw
                go_simp
                try with_reducible rfl
              try simp only [Act.put, List.setIfInBounds_toArray, List.set_cons_zero, List.set_cons_succ]
              refine wpAnyH_take (i := 25) (oi := { dst := some 211, op := Op.fieldAddr 24 (Operand.tmp 210) 2, type := 0, pos := "pair.go:90", after := #[{ on := 24, ground := Ground.data }, { on := 22, ground := Ground.guard }], guard := some (22, false) }) (v := ?_) rfl (by kernel_rfl) (by kernel_rfl) (by kernel_rfl) (fun _ _ _ h => h) (Or.inl ⟨by rfl, ?_⟩) (by assumption) ?_
              rotate_left
              · intro w hSw
                try dsimp only at hSw
                go_simp
                try with_reducible rfl
              try simp only [Act.put, List.setIfInBounds_toArray, List.set_cons_zero, List.set_cons_succ]
              refine wpAnyH_take (i := 26) (oi := { dst := some 212, op := Op.load 3 (Operand.tmp 211), type := 3, pos := "pair.go:90", after := #[{ on := 25, ground := Ground.data }, { on := 22, ground := Ground.guard }], guard := some (22, false) }) (v := ?_) rfl (by kernel_rfl) (by kernel_rfl) (by kernel_rfl) (fun _ _ _ h => h) (Or.inl ⟨by rfl, ?_⟩) (by assumption) ?_
              rotate_left
              · intro w hSw
                try dsimp only at hSw
                go_simp
                try with_reducible rfl
              try simp only [Act.put, List.setIfInBounds_toArray, List.set_cons_zero, List.set_cons_succ]
              refine wpAnyH_take (i := 27) (oi := { dst := some 213, op := Op.move (Operand.tmp 23), type := 3, pos := "pair.go:90", after := #[{ on := 22, ground := Ground.guard }], guard := some (22, false) }) (v := ?_) rfl (by kernel_rfl) (by kernel_rfl) (by kernel_rfl) (fun _ _ _ h => h) (Or.inl ⟨by rfl, ?_⟩) (by assumption) ?_
              rotate_left
              · intro w hSw
                try dsimp only at hSw
                go_simp
                try with_reducible rfl
              try simp only [Act.put, List.setIfInBounds_toArray, List.set_cons_zero, List.set_cons_succ]
              refine wpAnyH_take (i := 28) (oi := { dst := some 214, op := Op.indexAddr 45 (Operand.tmp 15) (Operand.tmp 213), type := 0, pos := "pair.go:90", after := #[{ on := 27, ground := Ground.data }, { on := 22, ground := Ground.guard }], guard := some (22, false) }) (v := ?_) rfl (by kernel_rfl) (by kernel_rfl) (by kernel_rfl) (fun _ _ _ h => h) (Or.inl ⟨by rfl, ?_⟩) (by assumption) ?_
              rotate_left
              · intro w hSw
                try dsimp only at hSw
                go_simp
                try with_reducible rfl
              try simp only [Act.put, List.setIfInBounds_toArray, List.set_cons_zero, List.set_cons_succ]
              refine wpAnyH_take (i := 29) (oi := { dst := some 215, op := Op.fieldAddr 24 (Operand.tmp 214) 2, type := 0, pos := "pair.go:90", after := #[{ on := 28, ground := Ground.data }, { on := 22, ground := Ground.guard }], guard := some (22, false) }) (v := ?_) rfl (by kernel_rfl) (by kernel_rfl) (by kernel_rfl) (fun _ _ _ h => h) (Or.inl ⟨by rfl, ?_⟩) (by assumption) ?_
              rotate_left
              · intro w hSw
                try dsimp only at hSw
                go_simp
                try with_reducible rfl
              try simp only [Act.put, List.setIfInBounds_toArray, List.set_cons_zero, List.set_cons_succ]
              refine wpAnyH_take (i := 30) (oi := { dst := some 216, op := Op.load 3 (Operand.tmp 215), type := 3, pos := "pair.go:90", after := #[{ on := 29, ground := Ground.data }, { on := 22, ground := Ground.guard }], guard := some (22, false) }) (v := ?_) rfl (by kernel_rfl) (by kernel_rfl) (by kernel_rfl) (fun _ _ _ h => h) (Or.inl ⟨by rfl, ?_⟩) (by assumption) ?_
              rotate_left
              · intro w hSw
                try dsimp only at hSw
                go_simp
                try with_reducible rfl
              try simp only [Act.put, List.setIfInBounds_toArray, List.set_cons_zero, List.set_cons_succ]
              refine wpAnyH_take (i := 31) (oi := { dst := some 217, op := Op.binOp BinOp.eql 3 (Operand.tmp 212) (Operand.tmp 216) 3, type := 4, pos := "pair.go:90", after := #[{ on := 26, ground := Ground.data }, { on := 30, ground := Ground.data }, { on := 22, ground := Ground.guard }], guard := some (22, false) }) (v := ?_) rfl (by kernel_rfl) (by kernel_rfl) (by kernel_rfl) (fun _ _ _ h => h) (Or.inl ⟨by rfl, ?_⟩) (by assumption) ?_
              rotate_left
              · intro w hSw
                try dsimp only at hSw
                go_simp
                try with_reducible rfl
              try simp only [Act.put, List.setIfInBounds_toArray, List.set_cons_zero, List.set_cons_succ]
              refine wpAnyH_take (i := 32) (oi := { dst := some 218, op := Op.move (Operand.tmp 217), type := 4, pos := "pair.go:90", after := #[{ on := 31, ground := Ground.data }, { on := 22, ground := Ground.chain }, { on := 22, ground := Ground.guard }], guard := some (22, false) }) (v := ?_) rfl (by kernel_rfl) (by kernel_rfl) (by kernel_rfl) (fun _ _ _ h => h) (Or.inl ⟨by rfl, ?_⟩) (by assumption) ?_
              rotate_left
              · intro w hSw
                try dsimp only at hSw
                go_simp
                try with_reducible rfl
              try simp only [Act.put, List.setIfInBounds_toArray, List.set_cons_zero, List.set_cons_succ]
              refine wpAnyH_take (i := 33) (oi := { dst := some 219, op := Op.move (Operand.tmp 23), type := 3, pos := "pair.go:90", after := #[{ on := 32, ground := Ground.guard }], guard := some (32, true) }) (v := undef) rfl (by kernel_rfl) (by kernel_rfl) (by kernel_rfl) (fun _ _ _ h => h) (Or.inr ⟨by rfl, rfl⟩) (by assumption) ?_
              try simp only [Act.put, List.setIfInBounds_toArray, List.set_cons_zero, List.set_cons_succ]
              refine wpAnyH_take (i := 34) (oi := { dst := some 220, op := Op.indexAddr 45 (Operand.tmp 6) (Operand.tmp 219), type := 0, pos := "pair.go:90", after := #[{ on := 33, ground := Ground.data }, { on := 32, ground := Ground.guard }], guard := some (32, true) }) (v := undef) rfl (by kernel_rfl) (by kernel_rfl) (by kernel_rfl) (fun _ _ _ h => h) (Or.inr ⟨by rfl, rfl⟩) (by assumption) ?_
              try simp only [Act.put, List.setIfInBounds_toArray, List.set_cons_zero, List.set_cons_succ]
              refine wpAnyH_take (i := 35) (oi := { dst := some 221, op := Op.fieldAddr 24 (Operand.tmp 220) 3, type := 0, pos := "pair.go:90", after := #[{ on := 34, ground := Ground.data }, { on := 32, ground := Ground.guard }], guard := some (32, true) }) (v := undef) rfl (by kernel_rfl) (by kernel_rfl) (by kernel_rfl) (fun _ _ _ h => h) (Or.inr ⟨by rfl, rfl⟩) (by assumption) ?_
              try simp only [Act.put, List.setIfInBounds_toArray, List.set_cons_zero, List.set_cons_succ]
              refine wpAnyH_take (i := 36) (oi := { dst := some 222, op := Op.load 3 (Operand.tmp 221), type := 3, pos := "pair.go:90", after := #[{ on := 35, ground := Ground.data }, { on := 32, ground := Ground.guard }], guard := some (32, true) }) (v := undef) rfl (by kernel_rfl) (by kernel_rfl) (by kernel_rfl) (fun _ _ _ h => h) (Or.inr ⟨by rfl, rfl⟩) (by assumption) ?_
              try simp only [Act.put, List.setIfInBounds_toArray, List.set_cons_zero, List.set_cons_succ]
              refine wpAnyH_take (i := 37) (oi := { dst := some 223, op := Op.move (Operand.tmp 23), type := 3, pos := "pair.go:90", after := #[{ on := 32, ground := Ground.guard }], guard := some (32, true) }) (v := undef) rfl (by kernel_rfl) (by kernel_rfl) (by kernel_rfl) (fun _ _ _ h => h) (Or.inr ⟨by rfl, rfl⟩) (by assumption) ?_
              try simp only [Act.put, List.setIfInBounds_toArray, List.set_cons_zero, List.set_cons_succ]
              refine wpAnyH_take (i := 38) (oi := { dst := some 224, op := Op.indexAddr 45 (Operand.tmp 15) (Operand.tmp 223), type := 0, pos := "pair.go:90", after := #[{ on := 37, ground := Ground.data }, { on := 32, ground := Ground.guard }], guard := some (32, true) }) (v := undef) rfl (by kernel_rfl) (by kernel_rfl) (by kernel_rfl) (fun _ _ _ h => h) (Or.inr ⟨by rfl, rfl⟩) (by assumption) ?_
              try simp only [Act.put, List.setIfInBounds_toArray, List.set_cons_zero, List.set_cons_succ]
              refine wpAnyH_take (i := 39) (oi := { dst := some 225, op := Op.fieldAddr 24 (Operand.tmp 224) 3, type := 0, pos := "pair.go:90", after := #[{ on := 38, ground := Ground.data }, { on := 32, ground := Ground.guard }], guard := some (32, true) }) (v := undef) rfl (by kernel_rfl) (by kernel_rfl) (by kernel_rfl) (fun _ _ _ h => h) (Or.inr ⟨by rfl, rfl⟩) (by assumption) ?_
              try simp only [Act.put, List.setIfInBounds_toArray, List.set_cons_zero, List.set_cons_succ]
              refine wpAnyH_take (i := 40) (oi := { dst := some 226, op := Op.load 3 (Operand.tmp 225), type := 3, pos := "pair.go:90", after := #[{ on := 39, ground := Ground.data }, { on := 32, ground := Ground.guard }], guard := some (32, true) }) (v := undef) rfl (by kernel_rfl) (by kernel_rfl) (by kernel_rfl) (fun _ _ _ h => h) (Or.inr ⟨by rfl, rfl⟩) (by assumption) ?_
              try simp only [Act.put, List.setIfInBounds_toArray, List.set_cons_zero, List.set_cons_succ]
              refine wpAnyH_take (i := 41) (oi := { dst := some 227, op := Op.binOp BinOp.lss 3 (Operand.tmp 222) (Operand.tmp 226) 3, type := 4, pos := "pair.go:90", after := #[{ on := 36, ground := Ground.data }, { on := 40, ground := Ground.data }, { on := 32, ground := Ground.guard }], guard := some (32, true) }) (v := undef) rfl (by kernel_rfl) (by kernel_rfl) (by kernel_rfl) (fun _ _ _ h => h) (Or.inr ⟨by rfl, rfl⟩) (by assumption) ?_
              try simp only [Act.put, List.setIfInBounds_toArray, List.set_cons_zero, List.set_cons_succ]
              refine wpAnyH_take (i := 42) (oi := { dst := some 228, op := Op.pick (Operand.tmp 218) (Operand.tmp 227) (Operand.const (Value.bool false)), type := 4, pos := "pair.go:90", after := #[{ on := 32, ground := Ground.data }, { on := 41, ground := Ground.data }, { on := 22, ground := Ground.guard }], guard := some (22, false) }) (v := ?_) rfl (by kernel_rfl) (by kernel_rfl) (by kernel_rfl) (fun _ _ _ h => h) (Or.inl ⟨by rfl, ?_⟩) (by assumption) ?_
              rotate_left
              · intro w hSw
                try dsimp only at hSw
                go_simp
                try with_reducible rfl
              try simp only [Act.put, List.setIfInBounds_toArray, List.set_cons_zero, List.set_cons_succ]
              refine wpAnyH_take (i := 43) (oi := { dst := some 229, op := Op.pick (Operand.tmp 208) (Operand.const (Value.bool true)) (Operand.tmp 228), type := 4, pos := "pair.go:90", after := #[{ on := 22, ground := Ground.data }, { on := 42, ground := Ground.data }], guard := none }) (v := ?_) rfl (by kernel_rfl) (by kernel_rfl) (by kernel_rfl) (fun _ _ _ h => h) (Or.inl ⟨by rfl, ?_⟩) (by assumption) ?_
              rotate_left
              · intro w hSw
                try dsimp only at hSw
                go_simp
                try with_reducible rfl
              try simp only [Act.put, List.setIfInBounds_toArray, List.set_cons_zero, List.set_cons_succ]
              refine wpAnyH_done (by kernel_rfl) ?_ _
              go_wp2
              have hgl := HGj.out
              go_roundg (2 - (1 + 1))
              all_goals first | omega | exact ⟨1 + 1, by go_num, by omega, by omega, grown_join hgr g02 (.inl rfl)⟩
    case rest =>
      have hI3 := HIr.out.1.grow hcut
      have HI3 := hidI hI3
      obtain ⟨m1, m2, -, -, m8, m9, -, -⟩ := cells14 hI3.bp
      have e0 : S' 0 = sdOf 0 pt (s' 0) := by rw [← HSr.out]; rfl
      have e1 : S' 1 = sdOf 1 pt (s' 1) := by rw [← HSr.out]; rfl
      rw [e0] at m1 m2
      rw [e1] at m8 m9
      have h0 := HGr.out.1.par 0 (by omega)
      have h1 := HGr.out.1.par 1 (by omega)
      have ho := HGr.out.1.one
      have r1 : (sdOf 0 pt (s' 0)).ac = (s' 0).ac ∧ (sdOf 1 pt (s' 1)).ac = (s' 1).ac ∧ (sdOf 0 pt (s' 0)).te = ((s' 0).te : Int) ∧ (sdOf 1 pt (s' 1)).te = ((s' 1).te : Int) := ⟨rfl, rfl, rfl, rfl⟩
      rw [r1.1] at m1
      rw [r1.2.1] at m8
      rw [r1.2.2.1] at m2
      rw [r1.2.2.2] at m9
      clear e0 e1 r1 hI3
      generalize (s' 0).te = t0 at *
      generalize (s' 1).te = t1 at *
      have fin : True := trivial
      cases ha : (s' 0).ac with
      | true =>
        cases hb : (s' 1).ac with
        | true =>
          rw [ha] at m1 h0
          rw [hb] at m8 h1
          simp at h0 h1
          have D1 : ((t0 : Int) == (t1 : Int)) = false := by simpa using (show ¬ (t0 : Int) = (t1 : Int) by omega)
          clear ha hb h0 h1 ho
          as_aux_lemma =>
            go_wp2
            have hgl := HG.out
            go_roundg (N - (i + 1))
            all_goals first | omega | exact ⟨i + 1, s', a', c', bs', sa', sc', by go_num, by omega, by omega, HGr.out.1, by have := HGr.out.2.1; omega, by rw [HSr.out]; exact HI3.out⟩
        | false =>
          rw [ha] at m1
          rw [hb] at m8
          clear ha hb h0 h1 ho
          as_aux_lemma =>
            go_wp2
            have hgl := HG.out
            go_roundg (N - (i + 1))
            all_goals first | omega | exact ⟨i + 1, s', a', c', bs', sa', sc', by go_num, by omega, by omega, HGr.out.1, by have := HGr.out.2.1; omega, by rw [HSr.out]; exact HI3.out⟩
      | false =>
        cases hb : (s' 1).ac with
        | true =>
          rw [ha] at m1
          rw [hb] at m8
          clear ha hb h0 h1 ho
          as_aux_lemma =>
            go_wp2
            have hgl := HG.out
            go_roundg (N - (i + 1))
            all_goals first | omega | exact ⟨i + 1, s', a', c', bs', sa', sc', by go_num, by omega, by omega, HGr.out.1, by have := HGr.out.2.1; omega, by rw [HSr.out]; exact HI3.out⟩
        | false =>
          rw [ha, hb] at ho
          simp at ho
end Go.Proofs.Ytnklkhcldcljaaa
