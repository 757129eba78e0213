/- The document's step of a plant that is down. -/
import Derived.Test.YtefekafpmnaeoaaX
namespace Go.Proofs.Ytefekafpmnaeoaa
open Go.RowKit
attribute [local go_sem ↓] Go.wp_at_zero Go.wp_at_succ
set_option linter.unusedVariables false
set_option linter.unusedSimpArgs false

set_option maxRecDepth 10000 in
set_option maxHeartbeats 8000000 in
theorem stepped_true (se de : Int) (l : List (Int × List Int)) (f : Int) (hh : List Int) (kk : Bool) (told : List Int) (key : Bool) (v s t : Value) (w : World) (hv : rdVs w v l) (hs : rd w s hh) (ht : rd w t told) (hl : OkL l) (hlT : hh.length ≤ 17592186043904) (hlt : told.length ≤ 17592186043904) :
    Calls Try.prog 15 #[.agg #[.int .i64 se, .int .i64 de, v], trV ⟨true, f, hh, kk⟩ s, t, .bool key] w fun e w' => TrE w w' e (stepT se de l ⟨true, f, hh, kk⟩ told key) (stepE se de l ⟨true, f, hh, kk⟩ told) := by
  obtain ⟨va, vc, rfl, _⟩ := id hv
  obtain ⟨sa, sc, rfl, _⟩ := id hs
  obtain ⟨ta, tc, rfl, _⟩ := id ht
  have cC := fun (X : World) (hX : w.grownBy X none) => guarded_any se de l _ X (rdVs_grown hv hX) hl
  obtain ⟨E, hE⟩ : ∃ b, (checkF se de l).1 = b := ⟨_, rfl⟩
  have HE := hidI hE
  rw [hE] at cC
  generalize (checkF se de l).2 = U at *
  obtain ⟨n, hn⟩ : ∃ n, l.length = n := ⟨_, rfl⟩
  obtain ⟨m, hm⟩ : ∃ n, hh.length = n := ⟨_, rfl⟩
  have HN := hidI hn
  have HM := hidI hm
  have HIN := hidI (And.intro hv (And.intro hs (And.intro ht hl)))
  dsimp only [trV, trA] at *
  rw [hn] at cC ⊢
  rw [hm] at hlT ⊢
  clear hE hv hs ht hl hn hm
  obtain ⟨p, hp⟩ : ∃ p, w.heap.size = p := ⟨_, rfl⟩
  have hW1 : (((w.alloc (.cells #[.int .i64 se, .int .i64 de, .slice va n vc] 24)).alloc (.cells #[.bool true, .int .i64 f, .slice sa m sc, .bool kk] 28)).alloc (.cells #[.bool false, .int .i64 0, .slice none 0 0, .bool false] 28)).heap[p]? = some (.cells #[.int .i64 se, .int .i64 de, .slice va n vc] 24) := by
    rw [hp_old (by simp; omega), hp_old (by simp; omega)]; exact hp_new hp.symm _
  have hW2 : (((w.alloc (.cells #[.int .i64 se, .int .i64 de, .slice va n vc] 24)).alloc (.cells #[.bool true, .int .i64 f, .slice sa m sc, .bool kk] 28)).alloc (.cells #[.bool false, .int .i64 0, .slice none 0 0, .bool false] 28)).heap[p + 1]? = some (.cells #[.bool true, .int .i64 f, .slice sa m sc, .bool kk] 28) := by
    rw [hp_old (by simp; omega)]; exact hp_new (by simp; omega) _
  have hW3 : (((w.alloc (.cells #[.int .i64 se, .int .i64 de, .slice va n vc] 24)).alloc (.cells #[.bool true, .int .i64 f, .slice sa m sc, .bool kk] 28)).alloc (.cells #[.bool false, .int .i64 0, .slice none 0 0, .bool false] 28)).heap[p + 2]? = some (.cells #[.bool false, .int .i64 0, .slice none 0 0, .bool false] 28) := hp_new (by simp; omega) _
  have hgW : w.grownBy (((w.alloc (.cells #[.int .i64 se, .int .i64 de, .slice va n vc] 24)).alloc (.cells #[.bool true, .int .i64 f, .slice sa m sc, .bool kk] 28)).alloc (.cells #[.bool false, .int .i64 0, .slice none 0 0, .bool false] 28)) none := gr_alloc (gr_alloc (gr_alloc (World.grownBy.refl _ _) _) _) _
  have hsW : (((w.alloc (.cells #[.int .i64 se, .int .i64 de, .slice va n vc] 24)).alloc (.cells #[.bool true, .int .i64 f, .slice sa m sc, .bool kk] 28)).alloc (.cells #[.bool false, .int .i64 0, .slice none 0 0, .bool false] 28)).heap.size = p + 3 := by simp; omega
  go_enter Try.func15, Try.ntmps15
  go_upto_region 1 with fail
  have HP := hidI hp
  clear hp
  generalize (((w.alloc (.cells #[.int .i64 se, .int .i64 de, .slice va n vc] 24)).alloc (.cells #[.bool true, .int .i64 f, .slice sa m sc, .bool kk] 28)).alloc (.cells #[.bool false, .int .i64 0, .slice none 0 0, .bool false] 28)) = W at *
  obtain ⟨i0, i1, i2⟩ := at3 hW1
  have HW := hidI (And.intro hW1 (And.intro hW2 (And.intro hW3 (And.intro hgW hsW))))
  have cC1 := cC W hgW
  clear hW1 hW2 hW3 hgW hsW cC
  go_wp2_with fail
  refine cC1.mono ?_
  rintro e w1 ⟨rfl, g1⟩
  clear cC1 i0 i1 i2
  obtain ⟨hW1, hW2, hW3, hgW, hsW⟩ := HW.out
  have gA : W.grownBy (w1.alloc (.cells #[.int .i64 (E : Int), .int .i64 (U : Int), .int .i64 0] 33)) none := gr_alloc g1 _
  have hk1 := kept gA hW1
  have hk2 := kept gA hW2
  have hk3 := kept gA hW3
  have hk4 : (w1.alloc (.cells #[.int .i64 (E : Int), .int .i64 (U : Int), .int .i64 0] 33)).heap[w1.heap.size]? = _ := heap_alloc_new w1 _
  have hG := grown_join hgW gA (.inl rfl)
  have hsz : p + 3 ≤ w1.heap.size ∧ w1.heap.size < (w1.alloc (.cells #[.int .i64 (E : Int), .int .i64 (U : Int), .int .i64 0] 33)).heap.size := ⟨by have := g1.size; omega, by simp⟩
  go_upto_region 2 with fail
  clear hW1 hW2 hW3 hgW gA g1 HW hsW
  generalize w1.alloc (.cells #[.int .i64 (E : Int), .int .i64 (U : Int), .int .i64 0] 33) = W1 at *
  generalize w1.heap.size = z at *
  obtain ⟨i0, i1, i2⟩ := at3 hk1
  obtain ⟨j0, j1, j2, j3⟩ := at4 hk2
  obtain ⟨k0, k1, k2, k3⟩ := at4 hk3
  obtain ⟨f0, f1, f2, f3⟩ := fz4 hk3
  obtain ⟨c0, _, _⟩ := at3 hk4
  have hne : z ≠ p + 2 := by omega
  have HW := hidI (And.intro hk1 (And.intro hk2 (And.intro hk3 (And.intro hG hsz))))
  clear hk1 hk2 hk3 hk4 hG hsz
  by_cases hE : E = 0
  case neg =>
    have HS : Hid (stepT se de l ⟨true, f, hh, kk⟩ told key = zeroT ∧ stepE se de l ⟨true, f, hh, kk⟩ told = E) := hidI (by
      have : stepE se de l ⟨true, f, hh, kk⟩ told = E := by unfold stepE; rw [HE.out, if_neg hE]
      exact ⟨by unfold stepT; rw [this, if_neg hE], this⟩)
    have i3 : ¬ ((E : Int) = 0) := by omega
    clear i0 i1 i2 j0 j1 j2 j3
    go_wp2_with fail
    go_region_held3 (fun w' => w'.cell? ⟨z, 0, none⟩ = some (.int .i64 (E : Int))) (first | (go_keep; done) | (repeat (first | with_reducible assumption | refine ck_set (by assumption) ?_))) (fail)
    all_goals (
      go_wp2
      refine bodyPost_ret (results28 rfl _ _ (p + 2) zeroT (.slice none 0 0) rfl (box4 (by first | exact HW.out.2.2.1 | (rw [hp_drew]; exact HW.out.2.2.1)))) rfl ?_
      rw [HS.out.1, HS.out.2]
      exact ⟨_, rfl, TrP.zero (gr_drew (gr4n (q := p + 2) HW.out.2.2.2.1 (by rw [HP.out]; omega)))⟩)
  subst hE
  have c0 : W1.cell? ⟨z, 0, none⟩ = some (.int .i64 0) := c0
  obtain ⟨s1, s2, s3, s4, s5, s6, s7⟩ := checkF_ok HE.out
  rw [HN.out] at s3 s4
  have mD : IntKind.i64.wrap (de + 1) = de + 1 := i64_id (by omega) (by omega)
  have HNM := hidI s7
  have HRET : Hid (∀ (X : World) (E : Nat), W1.grownBy X none → E ≠ 0 → stepE se de l ⟨true, f, hh, kk⟩ told = E → ∀ x0 x1 x2 x3 : Value, x0 = .bool false → x1 = .int .i64 0 → x2 = .slice none 0 0 → x3 = .bool false → ((((X.setCell ⟨p + 2, 0, none⟩ x0).setCell ⟨p + 2, 1, none⟩ x1).setCell ⟨p + 2, 2, none⟩ x2).setCell ⟨p + 2, 3, none⟩ x3).heap[p + 2]? = some (.cells (trA zeroT (.slice none 0 0)) 28) ∧ TrE w ((((X.setCell ⟨p + 2, 0, none⟩ x0).setCell ⟨p + 2, 1, none⟩ x1).setCell ⟨p + 2, 2, none⟩ x2).setCell ⟨p + 2, 3, none⟩ x3) (.returned (.tuple #[trV zeroT (.slice none 0 0), .int .i64 (E : Int)])) (stepT se de l ⟨true, f, hh, kk⟩ told key) (stepE se de l ⟨true, f, hh, kk⟩ told)) := hidI (by
    intro X E hX hE hs x0 x1 x2 x3 e0 e1 e2 e3
    subst e0 e1 e2 e3
    refine ⟨box4 (kept hX HW.out.2.2.1), ?_⟩
    have : stepT se de l ⟨true, f, hh, kk⟩ told key = zeroT := by unfold stepT; rw [hs, if_neg hE]
    rw [this, hs]
    exact ⟨_, rfl, TrP.zero (gr4n (q := p + 2) (grown_join HW.out.2.2.2.1 hX (.inl rfl)) (by rw [HP.out]; omega))⟩)
  clear s1 s2 s7
  go_wp2_with fail
  go_loopg [11, 12] m (fun gk s11 s12 wx => ∃ (k : Nat) (b : Bool), s12 = .int .i64 k ∧ s11 = .bool b ∧ k ≤ m ∧ gk = m - k ∧ Hid (b = okK de n hh k ∧ W1.grownBy wx none))
  case atStart => exact ⟨0, decide (m = n), rfl, by first | rfl | (congr 1; rw [Bool.eq_iff_iff]; simp; omega), Nat.zero_le _, by omega, hidI ⟨by unfold okK; rw [HM.out]; simp, World.grownBy.refl _ _⟩⟩
  case round =>
    obtain ⟨k, bk, rfl, rfl, hk, hgk, HK⟩ := hrel
    have HG : Hid (gk = m - k) := hgk
    clear hgk
    have j2 := HK.out.2.cell j2 (by simp)
    have i1 := HK.out.2.cell i1 (by simp)
    by_cases hlt2 : k < m
    · have hkl : k < hh.length := by rw [HM.out]; exact hlt2
      obtain ⟨ua1, uc1, ev, h | ⟨b', off', rfl, hc'⟩⟩ := rd_grown HIN.out.2.1 (grown_join HW.out.2.2.2.1 HK.out.2 (.inl rfl))
      · subst h; simp at hkl
      simp at ev
      obtain ⟨rfl, rfl⟩ := ev
      have q2 := hc' k hkl
      have HT : Hid (okK de n hh (k + 1) = (okK de n hh k && !ou 0 (de + 1) (hh.getD k 0))) := hidI (by
        unfold okK
        have : hh.take (k + 1) = hh.take k ++ [hh.getD k 0] := by
          rw [List.take_add_one]
          simp [List.getD, hkl]
        rw [this, List.any_append]
        simp [Bool.and_assoc])
      generalize hh.getD k 0 = x at *
      have y1 : (0 : Int) ≤ (k : Int) := by omega
      have y2 : (k : Int) < (m : Int) := by omega
      clear hc' hkl i0 i2 j0 j1 j3 k0 k1 k2 k3 f0 f1 f2 f3 c0
      cases bk with
      | false =>
        have NEW : Hid (false = okK de n hh (k + 1)) := hidI (by rw [HT.out, ← HK.out.1]; rfl)
        go_wp2_with fail
        go_quiet (fail)
        go_wp2
        have hgl := HG.out
        go_roundg (m - (k + 1))
        all_goals first | omega | exact ⟨k + 1, false, by go_num, rfl, by omega, by omega, hidI ⟨NEW.out, gr_drewN HK.out.2 _⟩⟩
      | true =>
      by_cases hx0 : 0 ≤ x
      · have hd0 : decide (0 ≤ x) = true := by simpa using hx0
        by_cases hx1 : x ≤ de + 1
        · have hd1 : decide (x ≤ de + 1) = true := by simpa using hx1
          have NEW : Hid (true = okK de n hh (k + 1)) := hidI (by rw [HT.out, ← HK.out.1]; simp [ou]; omega)
          go_wp2_with fail
          go_quiet (fail)
          go_wp2
          have hgl := HG.out
          go_roundg (m - (k + 1))
          all_goals first | omega | exact ⟨k + 1, true, by go_num, by first | rfl | simp [hx0, hx1], by omega, by omega, hidI ⟨NEW.out, gr_drewN HK.out.2 _⟩⟩
        · have hd1 : decide (x ≤ de + 1) = false := by simpa using hx1
          have NEW : Hid (false = okK de n hh (k + 1)) := hidI (by rw [HT.out, ← HK.out.1]; simp [ou]; omega)
          go_wp2_with fail
          go_quiet (fail)
          go_wp2
          have hgl := HG.out
          go_roundg (m - (k + 1))
          all_goals first | omega | exact ⟨k + 1, false, by go_num, by first | rfl | simp [hx0, hx1], by omega, by omega, hidI ⟨NEW.out, gr_drewN HK.out.2 _⟩⟩
      · have hd0 : decide (0 ≤ x) = false := by simpa using hx0
        have NEW : Hid (false = okK de n hh (k + 1)) := hidI (by rw [HT.out, ← HK.out.1]; simp [ou]; omega)
        go_wp2_with fail
        go_quiet (fail)
        go_wp2
        have hgl := HG.out
        go_roundg (m - (k + 1))
        all_goals first | omega | exact ⟨k + 1, false, by go_num, by first | rfl | simp [hx0], by omega, by omega, hidI ⟨NEW.out, gr_drewN HK.out.2 _⟩⟩
    · have hk' : ¬ ((k : Int) < (m : Int)) := by omega
      have hke : k = m := by omega
      subst hke
      have hgr := HK.out.2
      have HGR := hidI hgr
      obtain ⟨hk1, hk2, hk3, hG, hsz⟩ := HW.out
      clear i0 i1 i2 j0 j1 j2 j3 k0 k1 k2 k3 f0 f1 f2 f3 c0
      obtain ⟨i0, i1, i2⟩ := at3 (kept hgr hk1)
      obtain ⟨j0, j1, j2, j3⟩ := at4 (kept hgr hk2)
      obtain ⟨k0, k1, k2, k3⟩ := at4 (kept hgr hk3)
      obtain ⟨f0, f1, f2, f3⟩ := fz4 (kept hgr hk3)
      clear hk1 hk2 hk3 hG hsz hgr
      have HMB : Hid (mayB de l.length ⟨true, f, hh, kk⟩ = (bk && (decide (0 ≤ f) && decide (f < (n : Int))))) := hidI (by
        rw [HK.out.1]; unfold mayB okK; dsimp only; rw [HN.out, List.take_of_length_le (by rw [HM.out]; exact Nat.le_refl _)]
        simp only [if_true]
        congr 1
        rw [Bool.eq_iff_iff]; simp [ou]; omega)
      cases bk with
      | false =>
        have HST : Hid (stepE se de l ⟨true, f, hh, kk⟩ told = 15) := hidI (by unfold stepE; rw [HE.out, if_pos rfl, HMB.out]; simp)
        go_wp2
        obtain ⟨hb, hr⟩ := HRET.out _ 15 HGR.out (by decide) HST.out _ _ _ _ rfl rfl rfl rfl
        refine bodyPost_ret (results28 (k := 8) (m := 9) rfl _ _ (p + 2) zeroT (.slice none 0 0) rfl hb) rfl ?_
        exact hr
      | true =>
      by_cases hf0 : 0 ≤ f
      case neg =>
        have HST : Hid (stepE se de l ⟨true, f, hh, kk⟩ told = 15) := hidI (by unfold stepE; rw [HE.out, if_pos rfl, HMB.out]; simp [hf0])
        go_wp2
        obtain ⟨hb, hr⟩ := HRET.out _ 15 HGR.out (by decide) HST.out _ _ _ _ rfl rfl rfl rfl
        refine bodyPost_ret (results28 (k := 8) (m := 9) rfl _ _ (p + 2) zeroT (.slice none 0 0) rfl hb) rfl ?_
        exact hr
      by_cases hf1 : f < (n : Int)
      case neg =>
        have HST : Hid (stepE se de l ⟨true, f, hh, kk⟩ told = 15) := hidI (by unfold stepE; rw [HE.out, if_pos rfl, HMB.out]; simp [hf1])
        go_wp2
        obtain ⟨hb, hr⟩ := HRET.out _ 15 HGR.out (by decide) HST.out _ _ _ _ rfl rfl rfl rfl
        refine bodyPost_ret (results28 (k := 8) (m := 9) rfl _ _ (p + 2) zeroT (.slice none 0 0) rfl hb) rfl ?_
        exact hr
      have HMB : Hid (mayB de l.length ⟨true, f, hh, kk⟩ = true) := hidI (by rw [HMB.out]; simp [hf0, hf1])

      obtain ⟨nt, hnt⟩ : ∃ x, told.length = x := ⟨_, rfl⟩
      have HNT := hidI hnt
      rw [hnt] at hlt
      by_cases hse : (nt : Int) = se
      case neg =>
        have HST : Hid (stepE se de l ⟨true, f, hh, kk⟩ told = 4) := hidI (by unfold stepE; rw [HE.out, if_pos rfl, HMB.out, HNT.out]; simp [hse])
        have hse' : ¬ se = (nt : Int) := fun e => hse e.symm
        rw [← hnt] at hse hse'
        clear hnt
        go_wp2
        obtain ⟨hb, hr⟩ := HRET.out _ 4 HGR.out (by decide) HST.out _ _ _ _ rfl rfl rfl rfl
        refine bodyPost_ret (results28 (k := 8) (m := 9) rfl _ _ (p + 2) zeroT (.slice none 0 0) rfl hb) rfl ?_
        exact hr
      have HSE := hidI hse
      rw [← hnt] at hse
      have hlt3 : told.length ≤ 17592186043904 := by omega
      clear hnt
      go_wp2_with fail
      go_loopg [13] told.length (fun gk s13 wx => ∃ k : Nat, s13 = .int .i64 k ∧ k ≤ told.length ∧ gk = told.length - k ∧ Hid (∀ x ∈ told.take k, 0 ≤ x ∧ x ≤ 2) ∧ wr = wx)
      case atStart => exact ⟨0, rfl, Nat.zero_le _, by omega, hidI (by simp), rfl⟩
      case round =>
      obtain ⟨kt, rfl, hk2, hgk2, HTK, hw⟩ := hrel
      subst hw
      have HG2 : Hid (gk = told.length - kt) := hgk2
      clear hgk2
      by_cases hlt2 : kt < told.length
      · obtain ⟨ua1, uc1, ev, h | ⟨b', off', rfl, hc'⟩⟩ := rd_grown HIN.out.2.2.1 (grown_join HW.out.2.2.2.1 HGR.out (.inl rfl))
        · subst h; simp at hlt2
        simp at ev
        obtain ⟨rfl, rfl⟩ := ev
        have q2 := hc' kt hlt2
        have HT2 : Hid (told.take (kt + 1) = told.take kt ++ [told.getD kt 0]) := hidI (by
          rw [List.take_add_one]
          simp [List.getD, hlt2])
        have HMEM : Hid (told.getD kt 0 ∈ told) := hidI (by
          have : told.getD kt 0 = told[kt] := by simp [List.getD, hlt2]
          rw [this]; exact List.getElem_mem _)
        generalize told.getD kt 0 = x at *
        have y1 : (0 : Int) ≤ (kt : Int) := by omega
        have y2 : (kt : Int) < (told.length : Int) := by omega
        clear hc'
        have hst3 : ¬ (0 ≤ x ∧ x ≤ 2) → stepE se de l ⟨true, f, hh, kk⟩ told = 3 := fun hx => by
          unfold stepE
          have ht3 : told.any tl = true := List.any_eq_true.2 ⟨x, HMEM.out, by simp [tl]; omega⟩
          rw [HE.out, if_pos rfl, HMB.out, if_pos rfl, HNT.out, if_pos HSE.out, ht3, if_pos rfl]
        by_cases hx0 : x < 0
        · have HST := hidI (hst3 (by omega))
          clear hst3 i0 i1 i2 j0 j1 j2 j3
          go_wp2
          obtain ⟨hb, hr⟩ := HRET.out _ 3 HGR.out (by decide) HST.out _ _ _ _ rfl rfl rfl rfl
          refine bodyPost_ret (results28 (k := 8) (m := 9) rfl _ _ (p + 2) zeroT (.slice none 0 0) rfl hb) rfl ?_
          exact hr
        by_cases hx1 : 2 < x
        · have HST := hidI (hst3 (by omega))
          clear hst3 i0 i1 i2 j0 j1 j2 j3
          go_wp2
          obtain ⟨hb, hr⟩ := HRET.out _ 3 HGR.out (by decide) HST.out _ _ _ _ rfl rfl rfl rfl
          refine bodyPost_ret (results28 (k := 8) (m := 9) rfl _ _ (p + 2) zeroT (.slice none 0 0) rfl hb) rfl ?_
          exact hr
        clear hst3
        go_wp2
        have hgl := HG2.out
        go_roundg (told.length - (kt + 1))
        all_goals first | omega | exact ⟨kt + 1, by go_num, by omega, by omega, hidI (by
          rw [HT2.out]; intro y hy
          rw [List.mem_append] at hy
          rcases hy with hy | hy
          · exact HTK.out y hy
          · rw [List.mem_singleton.1 hy]; omega), rfl⟩
      have hk3 : ¬ ((kt : Int) < (told.length : Int)) := by omega
      rw [List.take_of_length_le (by omega)] at HTK
      have HST : Hid (stepE se de l ⟨true, f, hh, kk⟩ told = 0) := hidI (by
        unfold stepE
        have ht3 : told.any tl = false := List.any_eq_false.2 (fun x hx => by have := HTK.out x hx; simp [tl]; omega)
        rw [HE.out, if_pos rfl, HMB.out, if_pos rfl, HNT.out, if_pos HSE.out, ht3]; rfl)
      have HNX : Hid (stepT se de l ⟨true, f, hh, kk⟩ told key = nextT de l ⟨true, f, hh, kk⟩ told key) := hidI (by unfold stepT; rw [HST.out, if_pos rfl])
      have HOK := hidI (stepE_ok HST.out)
      obtain ⟨o1, o2, o3, o4, o5, o6, o7, o8, o9, o10, o11⟩ := HOK.out
      have HO := hidI (And.intro o5 (And.intro o6 (And.intro o7 o8)))
      clear o1 o2 o3 o4 o5 o6 o7 o8 o9 o10 o11 HTK HG2
      obtain ⟨HL, hHL⟩ : ∃ L, heldL de told l hh = L := ⟨_, rfl⟩
      have HHL := hidI hHL
      have hHLn : HL.length = n := by rw [← hHL]; unfold heldL; simp; exact HN.out
      have HHN := hidI hHLn
      clear hHL hHLn
      have gA2 : wr.grownBy (wr.alloc (.cells #[.bool true, .int .i64 f, .slice none 0 0, .bool key] 28)) none := gr_alloc (World.grownBy.refl _ _) _
      have hbq : (wr.alloc (.cells #[.bool true, .int .i64 f, .slice none 0 0, .bool key] 28)).heap[wr.heap.size]? = some (.cells #[.bool true, .int .i64 f, .slice none 0 0, .bool key] 28) := heap_alloc_new _ _
      have hszq : (wr.alloc (.cells #[.bool true, .int .i64 f, .slice none 0 0, .bool key] 28)).heap.size = wr.heap.size + 1 := by simp
      have hqp : p + 3 ≤ wr.heap.size := by have := HGR.out.size; have := HW.out.2.2.2.2; omega
      go_upto_region 22 with fail
      obtain ⟨W2, hW2⟩ : ∃ X, wr.alloc (.cells #[.bool true, .int .i64 f, .slice none 0 0, .bool key] 28) = X := ⟨_, rfl⟩
      obtain ⟨q, hq⟩ : ∃ X, wr.heap.size = X := ⟨_, rfl⟩
      rw [hW2] at gA2 hbq hszq ⊢
      rw [hq] at hbq hszq hqp ⊢
      have HQ := hidI (And.intro hq (And.intro hszq (And.intro gA2 hbq)))
      clear hW2 hq hszq gA2 hbq i0 i1 i2 j0 j1 j2 j3 k0 k1 k2 k3 f0 f1 f2 f3
      go_wp2_with fail
      go_loopg [15, 16, 17] n (fun gk s15 s16 s17 wx => ∃ (k : Nat) (a : Option Addr) (c : Nat) (sm : Bool) (rp : Int), s17 = .int .i64 k ∧ s15 = .bool sm ∧ s16 = .int .i64 rp ∧ k ≤ n ∧ -1 ≤ rp ∧ gk = n - k ∧ Hid (sm = (HL.take k).any (ou 0 0) ∧ rp = ixOf (HL.take k) (de + 1) ∧ wx.heap[q]? = some (.cells #[.bool true, .int .i64 f, .slice a k c, .bool key] 28) ∧ OwnL (q + 1) wx a c (HL.take k) ∧ wr.grownBy wx none))
      case atStart => exact ⟨0, none, 0, false, -1, rfl, rfl, rfl, Nat.zero_le _, by omega, by omega, hidI ⟨by simp, by simp [ixOf], HQ.out.2.2.2, OwnL.nil _ _, HQ.out.2.2.1⟩⟩
      case round =>
      obtain ⟨k5, a, c, sm, rp, rfl, rfl, rfl, hk5, hrp, hgk5, HV⟩ := hrel
      have HG5 := hidI hgk5
      clear hgk5
      have hg5 := grown_join HGR.out HV.out.2.2.2.2 (.inl rfl)
      have HG6 := hidI hg5
      obtain ⟨hk1, hk2', hk3', hG, hsz⟩ := HW.out
      obtain ⟨i0, i1, i2⟩ := at3 (kept hg5 hk1)
      obtain ⟨j0, j1, j2, j3⟩ := at4 (kept hg5 hk2')
      have hGX := grown_join hG hg5 (.inl rfl)
      clear hk1 hk2' hk3' hG hsz hg5
      by_cases hlt5 : k5 < n
      · have hkl : k5 < l.length := by rw [HN.out]; exact hlt5
        have hkh : k5 < hh.length := by rw [HO.out.1, HN.out]; exact hlt5
        obtain ⟨va1, vc1, ev, h | ⟨b, off, rfl, hc⟩⟩ := rdVs_grown HIN.out.1 hGX
        · subst h; simp at hkl
        simp at ev
        obtain ⟨rfl, rfl⟩ := ev
        obtain ⟨u, q0, q1, hu⟩ := hc k5 hkl
        obtain ⟨ua1, uc1, ev, h | ⟨b', off', rfl, hc'⟩⟩ := rd_grown HIN.out.2.1 hGX
        · subst h; simp at hkh
        simp at ev
        obtain ⟨rfl, rfl⟩ := ev
        have q2 := hc' k5 hkh
        have htr := rd_grown HIN.out.2.2.1 hGX
        have hVl : l.getD k5 (0, []) = l[k5] := by simp [List.getD, hkl]
        have hof : (l.getD k5 (0, [])).2.length ≤ 17592186044416 := by
          rw [hVl]
          have := HIN.out.2.2.2.2 _ (List.getElem_mem hkl)
          omega
        have hnm : Named told.length (l.getD k5 (0, [])).2 := by rw [hVl]; exact HO.out.2.1 _ (List.getElem_mem hkl)
        have hxr : 0 ≤ hh.getD k5 0 ∧ hh.getD k5 0 ≤ de + 1 := by
          have : hh.getD k5 0 = hh[k5] := by simp [List.getD, hkh]
          rw [this]; exact HO.out.2.2.1 _ (List.getElem_mem _)
        have hpos := heldAt_pos (told := told) (l := l) s5 hxr.1
        have HTA : Hid (HL.take (k5 + 1) = HL.take k5 ++ [heldAt de told l hh k5]) := hidI (by rw [← HHL.out]; exact heldL_take de told l hh k5 hkl)
        have hAt : heldAt de told l hh k5 = if holdB told (l.getD k5 (0, [])).1 (l.getD k5 (0, [])).2 then (if hh.getD k5 0 + 1 ≤ de + 1 then hh.getD k5 0 + 1 else de + 1) else 0 := rfl
        obtain ⟨hv, hhv⟩ : ∃ x, heldAt de told l hh k5 = x := ⟨_, rfl⟩
        rw [hhv] at hpos HTA hAt
        clear hhv
        generalize l.getD k5 (0, []) = V at *
        generalize hh.getD k5 0 = x at *
        obtain ⟨need, of⟩ := V
        dsimp only at *
        obtain ⟨ua2, uc2, rfl, _⟩ := id hu
        obtain ⟨mo, hmo⟩ : ∃ x, of.length = x := ⟨_, rfl⟩
        have HMO := hidI hmo
        rw [hmo] at hu q1 hof
        have y3 : (0 : Int) ≤ (k5 : Int) := by omega
        have y4 : (k5 : Int) < (n : Int) := by omega
        have y5 : (k5 : Int) < (k : Int) := by have := HO.out.1; have := HN.out; have := HM.out; omega
        have HU := hidI (And.intro hu (And.intro htr hnm))
        have HAT := hidI (And.intro hpos hAt)
        clear hc hc' hkl hkh hVl hu htr hnm hpos hAt hmo hGX
        go_wp2_with fail
        go_loopg [18, 19] mo (fun gk s18 s19 wx => ∃ jj cc : Nat, s19 = .int .i64 jj ∧ s18 = .int .i64 cc ∧ jj ≤ mo ∧ cc ≤ jj ∧ gk = mo - jj ∧ Hid (cc = cnt told (of.take jj)) ∧ wr = wx)
        case atStart => exact ⟨0, 0, rfl, rfl, Nat.zero_le _, Nat.le_refl _, by omega, hidI (by simp [cnt]), rfl⟩
        case round =>
        obtain ⟨jj, cc, rfl, rfl, hjj, hcj, hgj, HC, hw⟩ := hrel
        subst hw
        have HGJ := hidI hgj
        clear hgj
        by_cases hltj : jj < mo
        · have hkl : jj < of.length := by rw [HMO.out]; exact hltj
          obtain ⟨hu', ht', hn⟩ := HU.out
          obtain ⟨ua', uc', ev, h | ⟨b3, off3, rfl, hc⟩⟩ := hu'
          · subst h; simp at hkl
          simp at ev
          obtain ⟨rfl, -, rfl⟩ := ev
          have q5 := hc jj hkl
          have hx := hn (of.getD jj 0) (by
            have : of.getD jj 0 = of[jj] := by simp [List.getD, hkl]
            rw [this]; exact List.getElem_mem _)
          obtain ⟨xx, hxe⟩ := Int.eq_ofNat_of_zero_le hx.1
          have hxn : xx < told.length := by omega
          obtain ⟨ta', tc', ev, h | ⟨b4, off4, rfl, hc'⟩⟩ := ht'
          · subst h; simp at hxn
          simp at ev
          obtain ⟨rfl, rfl⟩ := ev
          have q6 := hc' xx hxn
          have HT6 : Hid (cnt told (of.take (jj + 1)) = cnt told (of.take jj) + if told.getD xx 0 = 0 then 0 else 1) := hidI (by
            have : of.take (jj + 1) = of.take jj ++ [of.getD jj 0] := by
              rw [List.take_add_one]
              simp [List.getD, hkl]
            rw [this, cnt_snoc, hxe]; rfl)
          rw [hxe] at q5
          generalize told.getD xx 0 = zz at *
          have y6 : (0 : Int) ≤ (jj : Int) := by omega
          have y7 : (jj : Int) < (mo : Int) := by omega
          have y8 : (0 : Int) ≤ (xx : Int) := by omega
          have y9 : (xx : Int) < (told.length : Int) := by omega
          clear hc hc' hx hxe hkl hn
          by_cases hz : zz = 0
          · subst hz
            go_wp2
            have hgl := HGJ.out
            go_roundg (mo - (jj + 1))
            all_goals first | omega | exact ⟨jj + 1, cc, by go_num, rfl, by omega, by omega, by omega, hidI (by rw [HT6.out, ← HC.out]; simp), rfl⟩
          · have hz' : (zz == 0) = false := by simpa using hz
            go_wp2
            have hgl := HGJ.out
            go_roundg (mo - (jj + 1))
            all_goals first | omega | exact ⟨jj + 1, cc + 1, by go_num, by go_num, by omega, by omega, by omega, hidI (by rw [HT6.out, ← HC.out, if_neg hz]), rfl⟩
        have hnj : ¬ ((jj : Int) < (mo : Int)) := by omega
        rw [List.take_of_length_le (by rw [HMO.out]; omega)] at HC
        have HHB : Hid (holdB told need of = decide (need ≤ (cc : Int))) := hidI (by unfold holdB; rw [← HC.out])
        have mX : IntKind.i64.wrap (x + 1) = x + 1 := i64_id (by omega) (by omega)
        go_upto_if 159 with fail
        go_cut [15, 20] from 119 to 189 (fun s15 s20 wx => s20 = .int .i64 hv ∧ s15 = .bool (sm || ou 0 0 hv) ∧ wr = wx)
        case first =>
          by_cases hnd : need ≤ (cc : Int)
          · have hB : holdB told need of = true := by rw [HHB.out]; simpa using hnd
            obtain ⟨hp1, hp2⟩ := HAT.out
            rw [hB] at hp1 hp2
            simp only [if_true] at hp2
            have HP1 := hidI hp1
            have HP2 := hidI hp2
            clear hp1 hp2 hB
            by_cases hxd : x + 1 ≤ de + 1
            · have hxd' : ¬ de + 1 < x + 1 := by omega
              go_wp2_with fail
              go_meet
              exact ⟨by rw [HP2.out, if_pos (by omega)], by rw [HP1.out]; simp, rfl⟩
            · have hxd' : de + 1 < x + 1 := by omega
              go_wp2_with fail
              go_meet
              exact ⟨by rw [HP2.out, if_neg (by omega)], by rw [HP1.out]; simp, rfl⟩
          · have hB : holdB told need of = false := by rw [HHB.out]; simpa using hnd
            obtain ⟨hp1, hp2⟩ := HAT.out
            rw [hB] at hp1 hp2
            simp only [Bool.false_eq_true, if_false] at hp2
            have HP1 := hidI hp1
            have HP2 := hidI hp2
            clear hp1 hp2 hB
            go_wp2_with fail
            go_meet
            exact ⟨by rw [HP2.out], by rw [HP1.out]; simp, rfl⟩
        case rest =>
        obtain ⟨rfl, rfl, hw⟩ := hcut
        subst hw
        obtain ⟨v1, v2, v3, v4, v5⟩ := HV.out
        have htl : (HL.take k5).length = k5 := by have := HHN.out; simp; omega
        have hqs : q + 1 ≤ wr.heap.size := at_lt v3
        obtain ⟨a', c', w8, hrun, ho8, g8, hb8⟩ := own_plus v4 hv (by rw [htl]; omega) hqs
        rw [htl] at hrun
        have HRUN : Hid (_ = _) := hrun
        have B8 : w8.heap[q]? = some (.cells #[.bool true, .int .i64 f, .slice a k5 c, .bool key] 28) := (g8.block q (by omega) (fun e => by have := hb8 _ e.symm; omega)).trans v3
        have HNEW : Hid ((w8.setCell ⟨q, 2, none⟩ (.slice a' (k5 + 1) c')).heap[q]? = some (.cells #[.bool true, .int .i64 f, .slice a' (k5 + 1) c', .bool key] 28) ∧ OwnL (q + 1) (w8.setCell ⟨q, 2, none⟩ (.slice a' (k5 + 1) c')) a' c' (HL.take (k5 + 1)) ∧ World.grownBy _ (w8.setCell ⟨q, 2, none⟩ (.slice a' (k5 + 1) c')) none) := hidI ⟨by have := at_set B8 2 (.slice a' (k5 + 1) c'); simpa using this, by rw [HTA.out]; exact own_but (p := q) ho8 (gr_set (World.grownBy.refl _ _) _ _) (by omega), gr_own (grown_join v5 g8 (.inr (fun y hy => by have := hb8 y hy; have := HQ.out.1; omega))) (by rw [HQ.out.1]; exact Nat.le_refl _) _ _⟩
        have HSM : Hid ((sm || ou 0 0 hv) = (HL.take (k5 + 1)).any (ou 0 0)) := hidI (by rw [HTA.out, List.any_append, ← v1]; simp)
        have HIX : Hid (ixOf (HL.take (k5 + 1)) (de + 1) = if rp = -1 then (if hv = de + 1 then (k5 : Int) else -1) else rp) := hidI (by rw [HTA.out, ixOf_snoc, ← v2, htl])
        obtain ⟨_, _, e2, _⟩ := at4 v3
        obtain ⟨_, _, e3, _⟩ := at4 B8
        have e4 := at_frozen B8 2
        generalize (sm || ou 0 0 hv) = sm' at *
        have HVV := hidI (And.intro v1 v2)
        clear v1 v2 v3 v4 v5 hrun ho8 g8 hb8 B8 htl hqs i0 i2 j0 j1 j2 j3 q0 q1 q2 HV HAT HU HC
        by_cases hve : hv = de + 1
        · by_cases hrp0 : rp < 0
          · have hrpe : rp = -1 := by omega
            have HR : Hid ((k5 : Int) = ixOf (HL.take (k5 + 1)) (de + 1)) := hidI (by rw [HIX.out, if_pos hrpe, if_pos hve])
            clear hrpe
            subst hve
            go_wp2_with (first | (at_builtin; refine wpList_append_run rfl _ _ 26 rfl _ _ _ w8 rfl rfl HRUN.out ?_))
            have hgl := HG5.out
            obtain ⟨z1, z2, z3⟩ := HNEW.out
            go_roundg (n - (k5 + 1))
            all_goals first | omega | exact ⟨k5 + 1, a', c', sm', (k5 : Int), by go_num, rfl, by first | rfl | go_num, by omega, by omega, by omega, hidI ⟨HSM.out, HR.out, z1, z2, z3⟩⟩
          · have HR : Hid (rp = ixOf (HL.take (k5 + 1)) (de + 1)) := hidI (by rw [HIX.out, if_neg (by omega)])
            subst hve
            go_wp2_with (first | (at_builtin; refine wpList_append_run rfl _ _ 26 rfl _ _ _ w8 rfl rfl HRUN.out ?_))
            have hgl := HG5.out
            obtain ⟨z1, z2, z3⟩ := HNEW.out
            go_roundg (n - (k5 + 1))
            all_goals first | omega | exact ⟨k5 + 1, a', c', sm', rp, by go_num, rfl, by first | rfl | go_num, by omega, by omega, by omega, hidI ⟨HSM.out, HR.out, z1, z2, z3⟩⟩
        · have HR : Hid (rp = ixOf (HL.take (k5 + 1)) (de + 1)) := hidI (by
            rw [HIX.out]
            by_cases h : rp = -1
            · rw [if_pos h, if_neg hve, h]
            · rw [if_neg h])
          have hve2 : (hv == de + 1) = false := by simpa using hve
          go_wp2_with (first | (at_builtin; refine wpList_append_run rfl _ _ 26 rfl _ _ _ w8 rfl rfl HRUN.out ?_))
          have hgl := HG5.out
          obtain ⟨z1, z2, z3⟩ := HNEW.out
          go_roundg (n - (k5 + 1))
          all_goals first | omega | exact ⟨k5 + 1, a', c', sm', rp, by go_num, rfl, by first | rfl | go_num, by omega, by omega, by omega, hidI ⟨HSM.out, HR.out, z1, z2, z3⟩⟩
      have hk6 : ¬ ((k5 : Int) < (n : Int)) := by omega
      have hk7 : k5 = n := by omega
      have hHLt : HL.take k5 = HL := List.take_of_length_le (by rw [HHN.out]; omega)
      rw [hHLt] at HV
      have HK7 := hidI hk7
      clear hHLt hk7
      obtain ⟨v1, v2, v3, v4, v5⟩ := HV.out
      have hgw : w.grownBy wr none := hGX
      have hb3 : wr.heap[p + 2]? = some (.cells #[.bool false, .int .i64 0, .slice none 0 0, .bool false] 28) := kept HG6.out HW.out.2.2.1
      have hqq := HQ.out.1
      have hpp := HP.out
      rw [HK7.out] at v3
      have hxq : ∀ x, (Value.slice a HL.length c).ownBlock = some x → x ≠ q := fun x hx => by have := own_lt v4 x hx; omega
      have ZF : Hid (wr.heap[q]? = some (.cells #[.bool true, .int .i64 f, .slice a n c, .bool key] 28) ∧ wr.heap[p + 2]? = some (.cells #[.bool false, .int .i64 0, .slice none 0 0, .bool false] 28) ∧ OwnL (q + 1) wr a c HL ∧ w.grownBy wr none) := hidI ⟨v3, hb3, v4, hgw⟩
      have ZT : Hid (∀ x0 x1 : Value, ((wr.setCell ⟨q, 0, none⟩ x0).setCell ⟨q, 1, none⟩ x1).heap[q]? = some (.cells #[x0, x1, .slice a n c, .bool key] 28) ∧ ((wr.setCell ⟨q, 0, none⟩ x0).setCell ⟨q, 1, none⟩ x1).heap[p + 2]? = some (.cells #[.bool false, .int .i64 0, .slice none 0 0, .bool false] 28) ∧ OwnL (q + 1) ((wr.setCell ⟨q, 0, none⟩ x0).setCell ⟨q, 1, none⟩ x1) a c HL ∧ w.grownBy ((wr.setCell ⟨q, 0, none⟩ x0).setCell ⟨q, 1, none⟩ x1) none) := hidI (fun x0 x1 => by
        obtain ⟨b1, b2, b3, b4⟩ := ZF.out
        refine ⟨by have := at_set (at_set b1 0 x0) 1 x1; simpa using this, ?_, own_ne b3 (gr_set (gr_set (World.grownBy.refl _ _) _ _) _ _) (fun x hx e => hxq x hx (by injection e with e; exact e.symm)), gr_own (gr_own b4 (by omega) _ _) (by omega) _ _⟩
        rw [Below.heap_setCell _ _ _ _ (by simp; omega), Below.heap_setCell _ _ _ _ (by simp; omega)]
        exact b2)
      have HSMX : Hid (sm = HL.any (ou 0 0) ∧ rp = ixOf HL (de + 1)) := hidI ⟨v1, v2⟩
      obtain ⟨u0, u1, u2, u3⟩ := at4 v3
      obtain ⟨g0, g1, g2, g3⟩ := fz4 v3
      obtain ⟨t0, t1, t2, t3⟩ := at4 hb3
      obtain ⟨h0, h1, h2, h3⟩ := fz4 hb3
      have HNQ := hidI (And.intro hqp hxq)
      clear v1 v2 v3 v4 v5 hgw hb3 hxq hGX hqq hpp HV i0 i1 j1 j2
      cases key with
      | false =>
        have HNT2 : Hid (nextT de l ⟨true, f, hh, kk⟩ told false = ⟨true, f, HL, false⟩) := hidI (by unfold nextT; dsimp only; rw [HHL.out]; simp)
        have HZ := hidI ZF.out
        go_upto_region 47 with fail
        clear i2 j0 j3
        go_wp2
        obtain ⟨z1, z2, z3, z4⟩ := HZ.out
        refine bodyPost_ret (results28 (k := 8) (m := 9) rfl _ _ (p + 2) ⟨true, f, HL, false⟩ (.slice a n c) rfl (box4 z2)) rfl ?_
        rw [HNX.out, HST.out, HNT2.out]
        have hp := HP.out
        have hnn := HHN.out
        have hnq := HNQ.out.1
        exact ⟨_, rfl, a, c, by rw [hnn], own_low (own_but z3 (gr4 (World.grownBy.refl _ _)) (by omega)) (by omega), gr4n z4 (by omega)⟩
      | true =>
      cases kk with
      | true =>
        have HNT2 : Hid (nextT de l ⟨true, f, hh, true⟩ told true = ⟨true, f, HL, true⟩) := hidI (by unfold nextT; dsimp only; rw [HHL.out]; simp)
        have HZ := hidI ZF.out
        go_upto_region 47 with fail
        clear i2 j0 j3
        go_wp2
        obtain ⟨z1, z2, z3, z4⟩ := HZ.out
        refine bodyPost_ret (results28 (k := 8) (m := 9) rfl _ _ (p + 2) ⟨true, f, HL, true⟩ (.slice a n c) rfl (box4 z2)) rfl ?_
        rw [HNX.out, HST.out, HNT2.out]
        have hp := HP.out
        have hnn := HHN.out
        have hnq := HNQ.out.1
        exact ⟨_, rfl, a, c, by rw [hnn], own_low (own_but z3 (gr4 (World.grownBy.refl _ _)) (by omega)) (by omega), gr4n z4 (by omega)⟩
      | false =>
      cases sm with
      | true =>
        have HNT2 : Hid (nextT de l ⟨true, f, hh, false⟩ told true = ⟨true, f, HL, true⟩) := hidI (by unfold nextT; dsimp only; rw [HHL.out, ← HSMX.out.1]; simp)
        have HZ := hidI ZF.out
        go_upto_region 47 with fail
        clear i2 j0 j3
        go_wp2
        obtain ⟨z1, z2, z3, z4⟩ := HZ.out
        refine bodyPost_ret (results28 (k := 8) (m := 9) rfl _ _ (p + 2) ⟨true, f, HL, true⟩ (.slice a n c) rfl (box4 z2)) rfl ?_
        rw [HNX.out, HST.out, HNT2.out]
        have hp := HP.out
        have hnn := HHN.out
        have hnq := HNQ.out.1
        exact ⟨_, rfl, a, c, by rw [hnn], own_low (own_but z3 (gr4 (World.grownBy.refl _ _)) (by omega)) (by omega), gr4n z4 (by omega)⟩
      | false =>
        have HNT2 : Hid (nextT de l ⟨true, f, hh, false⟩ told true = ⟨false, -1, HL, true⟩) := hidI (by unfold nextT; dsimp only; rw [HHL.out, ← HSMX.out.1]; simp)
        have HZ := hidI (ZT.out (.bool false) (.int .i64 (-1)))
        go_upto_region 47 with fail
        clear i2 j0 j3 u0 u1 u2 u3 g0 g1 g2 g3 t0 t1 t2 t3 h0 h1 h2 h3
        generalize (wr.setCell ⟨q, 0, none⟩ (.bool false)).setCell ⟨q, 1, none⟩ (.int .i64 (-1)) = Z at *
        obtain ⟨z1, z2, z3, z4⟩ := HZ.out
        obtain ⟨u0, u1, u2, u3⟩ := at4 z1
        obtain ⟨t0, t1, t2, t3⟩ := at4 z2
        obtain ⟨h0, h1, h2, h3⟩ := fz4 z2
        clear z1 z2 z3 z4
        go_wp2
        obtain ⟨z1, z2, z3, z4⟩ := HZ.out
        refine bodyPost_ret (results28 (k := 8) (m := 9) rfl _ _ (p + 2) ⟨false, -1, HL, true⟩ (.slice a n c) rfl (box4 z2)) rfl ?_
        rw [HNX.out, HST.out, HNT2.out]
        have hp := HP.out
        have hnn := HHN.out
        have hnq := HNQ.out.1
        exact ⟨_, rfl, a, c, by rw [hnn], own_low (own_but z3 (gr4 (World.grownBy.refl _ _)) (by omega)) (by omega), gr4n z4 (by omega)⟩
end Go.Proofs.Ytefekafpmnaeoaa
