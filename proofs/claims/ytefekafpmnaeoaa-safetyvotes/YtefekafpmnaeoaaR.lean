/- What is wrong with a guard, by the document. -/
import Derived.Test.YtefekafpmnaeoaaG
namespace Go.Proofs.Ytefekafpmnaeoaa
open Go.RowKit
attribute [local go_sem ↓] Go.wp_at_zero Go.wp_at_succ
set_option linter.unusedVariables false
set_option linter.unusedSimpArgs false

theorem twB_snoc (l : List Int) (x : Int) : twB (l ++ [x]) = (twB l || decide (x ∈ l)) := by
  induction l with
  | nil => simp [twB]
  | cons y l ih =>
    simp only [List.cons_append, twB, ih]
    by_cases h1 : x = y
    · subst h1; simp
    · have h2 : ¬ y = x := fun e => h1 e.symm
      simp [h1, h2, Bool.or_assoc]
theorem tw_end {of : List Int} {j k : Nat} {x : Int} {tw tw' : Bool} (hT : of.take (j + 1) = of.take j ++ [x]) (ht : tw = twB (of.take j)) (hk : k ≤ j) (h1 : tw = false → tw' = decide (x ∈ of.take k)) (h2 : tw = true → tw' = true) (he : k = j ∨ tw' = true) : tw' = twB (of.take (j + 1)) := by
  rw [hT, twB_snoc, ← ht]
  cases tw with
  | true => rw [h2 rfl]; rfl
  | false =>
    rw [Bool.false_or, h1 rfl]
    rcases he with rfl | he
    · rfl
    · rw [h1 rfl] at he
      have hx : x ∈ of.take k := by simpa using he
      have hx' : x ∈ of.take j := by
        rw [List.mem_iff_getElem] at hx ⊢
        obtain ⟨i, hi, e⟩ := hx
        simp at hi
        refine ⟨i, by simp; omega, ?_⟩
        rw [List.getElem_take] at e ⊢
        exact e
      simp [hx, hx']
set_option maxRecDepth 10000 in
set_option maxHeartbeats 4000000 in
theorem guarded_any (se de : Int) (l : List (Int × List Int)) (v : Value) (w : World) (hv : rdVs w v l) (hl : OkL l) :
    Calls Try.prog 11 #[.agg #[.int .i64 se, .int .i64 de, v]] w fun e w' => e = .returned (.agg #[.int .i64 ((checkF se de l).1 : Int), .int .i64 ((checkF se de l).2 : Int), .int .i64 0]) ∧ w.grownBy w' none := by
  obtain ⟨va, vc, rfl, _⟩ := id hv
  obtain ⟨p, hp⟩ : ∃ p, w.heap.size = p := ⟨_, rfl⟩
  have hW1 : ((w.alloc (.cells #[.int .i64 se, .int .i64 de, .slice va l.length vc] 24)).alloc (.cells #[.int .i64 0, .int .i64 0, .int .i64 0] 33)).heap[p]? = some (.cells #[.int .i64 se, .int .i64 de, .slice va l.length vc] 24) := by
    rw [hp_old (by simp; omega)]; exact hp_new hp.symm _
  have hW2 : ((w.alloc (.cells #[.int .i64 se, .int .i64 de, .slice va l.length vc] 24)).alloc (.cells #[.int .i64 0, .int .i64 0, .int .i64 0] 33)).heap[p + 1]? = some (.cells #[.int .i64 0, .int .i64 0, .int .i64 0] 33) := hp_new (by simp; omega) _
  have hgW : w.grownBy ((w.alloc (.cells #[.int .i64 se, .int .i64 de, .slice va l.length vc] 24)).alloc (.cells #[.int .i64 0, .int .i64 0, .int .i64 0] 33)) none := gr_alloc (gr_alloc (World.grownBy.refl _ _) _) _
  go_enter Try.func11, Try.ntmps11
  go_upto_region 1 with fail
  have HP := hidI hp
  clear hp
  generalize (w.alloc (.cells #[.int .i64 se, .int .i64 de, .slice va l.length vc] 24)).alloc (.cells #[.int .i64 0, .int .i64 0, .int .i64 0] 33) = W at *
  obtain ⟨i0, i1, i2⟩ := at3 hW1
  obtain ⟨j0, j1, j2⟩ := at3 hW2
  obtain ⟨f0, f1, f2⟩ := fz3 hW2
  have hvW := rdVs_grown hv hgW
  have HW := hidI (And.intro hW1 (And.intro hW2 (And.intro hgW hvW)))
  obtain ⟨n, hn⟩ : ∃ n, l.length = n := ⟨_, rfl⟩
  have HN := hidI hn
  rw [hn] at i2 ⊢
  have HL := hidI hl
  have hn0 : n ≤ 17592186043904 := by have := HL.out.1; omega
  clear hW1 hW2 hgW hv hl hvW hn
  by_cases hE : guardE se de n = 0
  case neg =>
    obtain ⟨E, hEE⟩ : ∃ E, guardE se de n = E := ⟨_, rfl⟩
    have hF : checkF se de l = (E, 0) := by unfold checkF; rw [HN.out, hEE, if_neg (by rw [← hEE]; exact hE)]
    have HF := hidI hF
    have HE := hidI hEE
    have h5 : se < 1 ∨ (¬ se < 1 ∧ 64 < se) ∨ (¬ se < 1 ∧ ¬ 64 < se ∧ (n : Int) < 1) ∨ (¬ se < 1 ∧ ¬ 64 < se ∧ ¬ (n : Int) < 1 ∧ 16 < (n : Int)) ∨ (¬ se < 1 ∧ ¬ 64 < se ∧ ¬ (n : Int) < 1 ∧ ¬ 16 < (n : Int) ∧ de < 0) ∨ (¬ se < 1 ∧ ¬ 64 < se ∧ ¬ (n : Int) < 1 ∧ ¬ 16 < (n : Int) ∧ ¬ de < 0 ∧ 1000 < de) := by
      by_cases a1 : se < 1; · exact .inl a1
      by_cases a2 : 64 < se; · exact .inr (.inl ⟨a1, a2⟩)
      by_cases a3 : (n : Int) < 1; · exact .inr (.inr (.inl ⟨a1, a2, a3⟩))
      by_cases a4 : 16 < (n : Int); · exact .inr (.inr (.inr (.inl ⟨a1, a2, a3, a4⟩)))
      by_cases a5 : de < 0; · exact .inr (.inr (.inr (.inr (.inl ⟨a1, a2, a3, a4, a5⟩))))
      by_cases a6 : 1000 < de; · exact .inr (.inr (.inr (.inr (.inr ⟨a1, a2, a3, a4, a5, a6⟩))))
      exact absurd (by unfold guardE ou; simp [a1, a2, a3, a4, a5, a6]) hE
    clear hE hF hEE
    rcases h5 with h5 | ⟨h5, h6⟩ | ⟨h5, h6, h7⟩ | ⟨h5, h6, h7, h8⟩ | ⟨h5, h6, h7, h8, h9⟩ | ⟨h5, h6, h7, h8, h9, h10⟩
    all_goals (
      go_wp2
      obtain ⟨hW1, hW2, hgW, _⟩ := HW.out
      refine bodyPost_ret (results33 rfl _ _ (p + 1) _ _ _ rfl (box3 hW2)) rfl ?_
      rw [HF.out]
      refine ⟨?_, gr3n hgW (by rw [HP.out]; omega)⟩
      rw [← HE.out]
      first | (rw [show guardE se de n = 4 from if_pos (by simp [ou]; omega)]; rfl) | (rw [show guardE se de n = 3 from (if_neg (by simp [ou]; omega)).trans (if_pos (by simp [ou]; omega))]; rfl))
  have HE := hidI hE
  obtain ⟨s1, s2, s3, s4, s5, s6⟩ := guardE_ok hE
  clear hE
  have t1 : ¬ se < 1 := by omega
  have t2 : ¬ 64 < se := by omega
  have t3 : ¬ (n : Int) < 1 := by omega
  have t4 : ¬ 16 < (n : Int) := by omega
  have t5 : ¬ de < 0 := by omega
  have t6 : ¬ 1000 < de := by omega
  go_wp2_with fail
  clear t1 t2 t3 t4 t5 t6 s3 s4 s5 s6 i1 j0 j1 j2 f0 f1 f2
  go_loopg [3] n (fun gk s3 wx => ∃ k : Nat, s3 = .int .i64 k ∧ k ≤ n ∧ gk = n - k ∧ Hid ((∀ v ∈ l.take k, voteE se v.1 v.2 = 0) ∧ W.grownBy wx none))
  case atStart => exact ⟨0, rfl, Nat.zero_le _, by omega, hidI ⟨by simp, World.grownBy.refl _ _⟩⟩
  case round =>
    obtain ⟨k, rfl, hk, hgk, HKK⟩ := hrel
    have HG : Hid (gk = n - k) := hgk
    clear hgk i0 i2
    obtain ⟨x1, x2, x3, x4⟩ := HW.out
    have hb1 : wr.heap[p]? = _ := kept HKK.out.2 x1
    have hb2 : wr.heap[p + 1]? = _ := kept HKK.out.2 x2
    obtain ⟨b0, b1, b2⟩ := at3 hb1
    rw [HN.out] at b2
    by_cases hlt : k < n
    · have hkl : k < l.length := by rw [HN.out]; exact hlt
      obtain ⟨va', vc', ev, h | ⟨b, off, rfl, hc⟩⟩ := rdVs_grown x4 HKK.out.2
      · subst h; simp at hkl
      simp at ev
      obtain ⟨rfl, rfl⟩ := ev
      obtain ⟨u, q0, q1, hu⟩ := hc k hkl
      have HT : Hid (l.take (k + 1) = l.take k ++ [l.getD k (0, [])]) := hidI (by
        rw [List.take_add_one]
        simp [List.getD, hkl])
      have HLk : Hid (∃ h : k < l.length, l[k] = l.getD k (0, [])) := hidI ⟨hkl, by simp [List.getD, hkl]⟩
      have hof : (l.getD k (0, [])).2.length ≤ 17592186044416 := by
        obtain ⟨h1, h2⟩ := HLk.out
        rw [← h2]
        have := HL.out.2 _ (List.getElem_mem h1)
        omega
      have HBX := hidI (And.intro hb1 (And.intro hb2 (grown_join x3 HKK.out.2 (.inl rfl))))
      clear x1 x2 x3 x4 hc hkl hb1 hb2
      generalize l.getD k (0, []) = V at *
      obtain ⟨need, of⟩ := V
      dsimp only at *
      obtain ⟨ua, uc, rfl, _⟩ := id hu
      obtain ⟨m, hm⟩ : ∃ m, of.length = m := ⟨_, rfl⟩
      have HM := hidI hm
      rw [hm] at hu q1 hof
      clear hm
      have i1 : (0 : Int) ≤ (k : Int) := by omega
      have i2 : (k : Int) < (n : Int) := by omega
      have hgA : wr.grownBy (wr.alloc (.cells #[.int .i64 need, .slice ua m uc] 50)) none := gr_alloc (World.grownBy.refl _ _) _
      have hvb : (wr.alloc (.cells #[.int .i64 need, .slice ua m uc] 50)).heap[wr.heap.size]? = some (.cells #[.int .i64 need, .slice ua m uc] 50) := heap_alloc_new _ _
      have huA := rd_grown hu hgA
      have b0' : (wr.alloc (.cells #[.int .i64 need, .slice ua m uc] 50)).cell? ⟨p, 0, none⟩ = some (.int .i64 se) := hgA.cell b0 (by simp)
      have HVB := hidI (And.intro hvb (And.intro b0' (And.intro huA hgA)))
      clear hu hgA b1 hvb b0' huA
      go_upto_region 9 with fail
      generalize wr.alloc (.cells #[.int .i64 need, .slice ua m uc] 50) = WV at *
      generalize wr.heap.size = pv at *
      clear q0 q1 b2 b0
      go_wp2_with fail
      go_loopg [5, 6, 7] m (fun gk s5 s6 s7 wx => ∃ (j : Nat) (nm tw : Bool), s5 = .bool nm ∧ s6 = .bool tw ∧ s7 = .int .i64 j ∧ j ≤ m ∧ gk = m - j ∧ Hid (nm = (of.take j).any (ou 0 (se - 1)) ∧ (nm = false → tw = twB (of.take j)) ∧ WV.grownBy wx none))
      case atStart => exact ⟨0, false, false, rfl, rfl, rfl, Nat.zero_le _, by omega, hidI ⟨by simp, by simp [twB], World.grownBy.refl _ _⟩⟩
      case round =>
        obtain ⟨j, nm, tw, rfl, rfl, rfl, hj, hgj, HJ⟩ := hrel
        have HGJ := hidI hgj
        clear hgj
        obtain ⟨y1, y2, y3, y4⟩ := HVB.out
        have c0 : wr.cell? ⟨pv, 0, none⟩ = some (.int .i64 need) := HJ.out.2.2.cell (at_cell y1 0) (by simp)
        have c1 : wr.cell? ⟨pv, 1, none⟩ = some (.slice ua m uc) := HJ.out.2.2.cell (at_cell y1 1) (by simp)
        have c2 : wr.cell? ⟨p, 0, none⟩ = some (.int .i64 se) := HJ.out.2.2.cell y2 (by simp)
        by_cases hjm : j < m
        · have hjl : j < of.length := by rw [HM.out]; exact hjm
          obtain ⟨ua', uc', ev, h | ⟨b', off', rfl, hc⟩⟩ := rd_grown y3 HJ.out.2.2
          · subst h; simp at hjl
          simp at ev
          obtain ⟨rfl, -, rfl⟩ := ev
          have z0 := hc j hjl
          have HZ : Hid (∀ i, i < m → wr.cell? ⟨b', off' + i, none⟩ = some (.int .i64 (of.getD i 0))) := hidI (fun i hi => hc i (by rw [HM.out]; exact hi))
          have HO : Hid (of.take (j + 1) = of.take j ++ [of.getD j 0]) := hidI (by
            rw [List.take_add_one]
            simp [List.getD, hjl])
          obtain ⟨x, hx⟩ : ∃ x, of.getD j 0 = x := ⟨_, rfl⟩
          rw [hx] at z0 HO
          have HX := hidI hx
          have j1 : (0 : Int) ≤ (j : Int) := by omega
          have j2 : (j : Int) < (m : Int) := by omega
          clear y1 y2 y3 y4 hc hjl hx
          cases nm with
          | true =>
            have NEW : Hid (true = (of.take (j + 1)).any (ou 0 (se - 1))) := hidI (by rw [HO.out, List.any_append, ← HJ.out.1]; rfl)
            go_wp2_with fail
            cases tw
            all_goals by_cases hj0 : (0 : Int) < (j : Int)
            all_goals (
            go_quiet (fail)
            go_wp2_with fail
            refine wp_loop_rounds 1 ?_
            rw [rounds_succ]
            go_wp2
            have hgl := HGJ.out
            go_roundg (m - (j + 1))
            all_goals first | omega | exact ⟨j + 1, true, _, rfl, rfl, by go_num, by omega, by omega, hidI ⟨NEW.out, by simp, gr_drewN HJ.out.2.2 _⟩⟩)
          | false =>
          by_cases hx0 : x < 0
          · have NEW : Hid (true = (of.take (j + 1)).any (ou 0 (se - 1))) := hidI (by rw [HO.out, List.any_append, ← HJ.out.1]; simp [ou]; omega)
            have hd : decide (x < 0) = true := by simpa using hx0
            go_wp2_with fail
            cases tw
            all_goals by_cases hj0 : (0 : Int) < (j : Int)
            all_goals (
            go_quiet (fail)
            go_wp2_with fail
            refine wp_loop_rounds 1 ?_
            rw [rounds_succ]
            go_wp2
            have hgl := HGJ.out
            go_roundg (m - (j + 1))
            all_goals first | omega | exact ⟨j + 1, true, _, rfl, rfl, by go_num, by omega, by omega, hidI ⟨NEW.out, by simp, gr_drewN HJ.out.2.2 _⟩⟩)
          have hd : decide (x < 0) = false := by simpa using hx0
          by_cases hx1 : se ≤ x
          · have NEW : Hid (true = (of.take (j + 1)).any (ou 0 (se - 1))) := hidI (by rw [HO.out, List.any_append, ← HJ.out.1]; simp [ou]; omega)
            have hd' : decide (se ≤ x) = true := by simpa using hx1
            go_wp2_with fail
            cases tw
            all_goals by_cases hj0 : (0 : Int) < (j : Int)
            all_goals (
            go_quiet (fail)
            go_wp2_with fail
            refine wp_loop_rounds 1 ?_
            rw [rounds_succ]
            go_wp2
            have hgl := HGJ.out
            go_roundg (m - (j + 1))
            all_goals first | omega | exact ⟨j + 1, true, _, rfl, rfl, by go_num, by omega, by omega, hidI ⟨NEW.out, by simp, gr_drewN HJ.out.2.2 _⟩⟩)
          have hd' : decide (se ≤ x) = false := by simpa using hx1
          have NEW : Hid (false = (of.take (j + 1)).any (ou 0 (se - 1))) := hidI (by rw [HO.out, List.any_append, ← HJ.out.1]; simp [ou]; omega)
          go_wp2_with fail
          go_quiet (fail)
          go_wp2_with fail
          go_loopg [6, 8] j (fun gk s6 s8 wx => ∃ (k2 : Nat) (t2 : Bool), s6 = .bool t2 ∧ s8 = .int .i64 k2 ∧ k2 ≤ j ∧ gk = j - k2 ∧ Hid ((tw = false → t2 = decide (x ∈ of.take k2)) ∧ (tw = true → t2 = true) ∧ wr.grownBy wx none))
          case atStart => exact ⟨0, tw, rfl, rfl, Nat.zero_le _, by omega, hidI ⟨fun h => by simp [h], fun h => h, gr_drewN (World.grownBy.refl _ _) _⟩⟩
          case round =>
            obtain ⟨k2, t2, rfl, rfl, hk2, hg2, H2⟩ := hrel
            have HG2 := hidI hg2
            clear hg2
            have HJG := hidI (grown_join HJ.out.2.2 H2.out.2.2 (.inl rfl))
            have c1 := H2.out.2.2.cell c1 (by simp)
            have z0 := H2.out.2.2.cell z0 (by simp)
            clear c0 c2 hd hd' hx0 hx1
            by_cases hkj : k2 < j
            · have hkj' : (k2 : Int) < (j : Int) := by omega
              cases t2 with
              | true =>
                clear z0 c1
                go_wp2
                have hgl := HGJ.out
                go_roundg (m - (j + 1))
                all_goals first | omega | exact ⟨j + 1, false, true, rfl, rfl, by go_num, by omega, by omega, hidI ⟨NEW.out, fun _ => tw_end HO.out (HJ.out.2.1 (by simp)) hk2 H2.out.1 (fun _ => rfl) (.inr rfl), HJG.out⟩⟩
              | false =>
                have z1 := H2.out.2.2.cell (HZ.out k2 (by omega)) (by simp)
                have HO2 : Hid (of.take (k2 + 1) = of.take k2 ++ [of.getD k2 0]) := hidI (by
                  have hkl : k2 < of.length := by rw [HM.out]; omega
                  rw [List.take_add_one]
                  simp [List.getD, hkl])
                generalize of.getD k2 0 = y at *
                have i3 : (0 : Int) ≤ (k2 : Int) := by omega
                have i4 : (k2 : Int) < (m : Int) := by omega
                have HT2 : Hid (tw = false ∧ x ∉ of.take k2) := hidI (by
                  cases tw with
                  | true => have := H2.out.2.1 rfl; simp at this
                  | false => refine ⟨rfl, ?_⟩; have := H2.out.1 rfl; simpa using this.symm)
                by_cases hxy : x = y
                · subst hxy
                  have NW2 : Hid (true = decide (x ∈ of.take (k2 + 1))) := hidI (by rw [HO2.out]; simp)
                  go_wp2_with fail
                  go_quiet (fail)
                  go_wp2
                  have hgl := HG2.out
                  go_roundg (j - (k2 + 1))
                  all_goals first | omega | exact ⟨k2 + 1, true, rfl, by go_num, by omega, by omega, hidI ⟨fun _ => NW2.out, fun _ => rfl, gr_drewN H2.out.2.2 _⟩⟩
                · have hd2 : decide (x = y) = false := by simpa using hxy
                  have NW2 : Hid (false = decide (x ∈ of.take (k2 + 1))) := hidI (by rw [HO2.out]; simp [hxy, HT2.out.2])
                  go_wp2_with fail
                  go_quiet (fail)
                  go_wp2
                  have hgl := HG2.out
                  go_roundg (j - (k2 + 1))
                  all_goals first | omega | exact ⟨k2 + 1, false, by first | rfl | simp [hxy], by go_num, by omega, by omega, hidI ⟨fun _ => NW2.out, fun h => by rw [HT2.out.1] at h; simp at h, gr_drewN H2.out.2.2 _⟩⟩
            · have hkj' : ¬ (k2 : Int) < (j : Int) := by omega
              clear z0 c1
              go_wp2
              have hgl := HGJ.out
              go_roundg (m - (j + 1))
              all_goals first | omega | exact ⟨j + 1, false, t2, rfl, rfl, by go_num, by omega, by omega, hidI ⟨NEW.out, fun _ => tw_end HO.out (HJ.out.2.1 (by simp)) hk2 H2.out.1 H2.out.2.1 (.inl (by omega)), HJG.out⟩⟩
        · have hjm' : ¬ (j : Int) < (m : Int) := by omega
          have hje : of.take j = of := List.take_of_length_le (by rw [HM.out]; omega)
          rw [hje] at HJ
          have hGX := grown_join y4 HJ.out.2.2 (.inl rfl)
          have k2 := kept hGX HBX.out.2.1
          obtain ⟨k0', k1', k2'⟩ := at3 k2
          obtain ⟨f0, f1, f2⟩ := fz3 k2
          have HK2 := hidI (And.intro k2 (grown_join HBX.out.2.2 hGX (.inl rfl)))
          have HGX := hidI (grown_join HKK.out.2 hGX (.inl rfl))
          clear k2 hGX y1 y2 y3 y4 hje
          by_cases hz : m = 0
          · have HEV : Hid (voteE se need of = 4) := hidI (by unfold voteE; rw [if_pos (by rw [HM.out]; exact hz)])
            subst hz
            have hj0 : j = 0 := by omega
            subst hj0
            go_wp2
            obtain ⟨k2, hg⟩ := HK2.out
            refine bodyPost_ret (results33 rfl _ _ (p + 1) _ _ _ rfl (box3 k2)) rfl ?_
            obtain ⟨hkl, hel⟩ := HLk.out
            have hF : checkF se de l = (4, k) := by
              unfold checkF
              rw [HN.out, if_pos HE.out, votesF_at k hkl HKK.out.1 (by rw [hel]; show voteE se need of ≠ 0; rw [HEV.out]; decide), hel, HEV.out]
              simp
            rw [hF]
            exact ⟨rfl, gr3n hg (by rw [HP.out]; omega)⟩
          have hz' : ¬ (m : Int) = 0 := by omega
          cases nm with
          | true =>
            have HEV : Hid (voteE se need of = 6) := hidI (by unfold voteE; rw [if_neg (by rw [HM.out]; exact hz), if_pos HJ.out.1.symm])
            go_wp2
            obtain ⟨k2, hg⟩ := HK2.out
            refine bodyPost_ret (results33 rfl _ _ (p + 1) _ _ _ rfl (box3 k2)) rfl ?_
            obtain ⟨hkl, hel⟩ := HLk.out
            have hF : checkF se de l = (6, k) := by
              unfold checkF
              rw [HN.out, if_pos HE.out, votesF_at k hkl HKK.out.1 (by rw [hel]; show voteE se need of ≠ 0; rw [HEV.out]; decide), hel, HEV.out]
              simp
            rw [hF]
            exact ⟨rfl, gr3n hg (by rw [HP.out]; omega)⟩
          | false =>
          cases tw with
          | true =>
            have HEV : Hid (voteE se need of = 7) := hidI (by unfold voteE; rw [if_neg (by rw [HM.out]; exact hz), if_neg (by rw [← HJ.out.1]; simp), if_pos (HJ.out.2.1 (by simp)).symm])
            go_wp2
            obtain ⟨k2, hg⟩ := HK2.out
            refine bodyPost_ret (results33 rfl _ _ (p + 1) _ _ _ rfl (box3 k2)) rfl ?_
            obtain ⟨hkl, hel⟩ := HLk.out
            have hF : checkF se de l = (7, k) := by
              unfold checkF
              rw [HN.out, if_pos HE.out, votesF_at k hkl HKK.out.1 (by rw [hel]; show voteE se need of ≠ 0; rw [HEV.out]; decide), hel, HEV.out]
              simp
            rw [hF]
            exact ⟨rfl, gr3n hg (by rw [HP.out]; omega)⟩
          | false =>
          by_cases hn1 : need < 1
          · have HEV : Hid (voteE se need of = 3) := hidI (by unfold voteE; rw [if_neg (by rw [HM.out]; exact hz), if_neg (by rw [← HJ.out.1]; simp), if_neg (by rw [← HJ.out.2.1 (by simp)]; simp), if_pos (by rw [HM.out]; simp [ou]; omega)])
            go_wp2
            obtain ⟨k2, hg⟩ := HK2.out
            refine bodyPost_ret (results33 rfl _ _ (p + 1) _ _ _ rfl (box3 k2)) rfl ?_
            obtain ⟨hkl, hel⟩ := HLk.out
            have hF : checkF se de l = (3, k) := by
              unfold checkF
              rw [HN.out, if_pos HE.out, votesF_at k hkl HKK.out.1 (by rw [hel]; show voteE se need of ≠ 0; rw [HEV.out]; decide), hel, HEV.out]
              simp
            rw [hF]
            exact ⟨rfl, gr3n hg (by rw [HP.out]; omega)⟩
          by_cases hn2 : (m : Int) < need
          · have HEV : Hid (voteE se need of = 3) := hidI (by unfold voteE; rw [if_neg (by rw [HM.out]; exact hz), if_neg (by rw [← HJ.out.1]; simp), if_neg (by rw [← HJ.out.2.1 (by simp)]; simp), if_pos (by rw [HM.out]; simp [ou]; omega)])
            go_wp2
            obtain ⟨k2, hg⟩ := HK2.out
            refine bodyPost_ret (results33 rfl _ _ (p + 1) _ _ _ rfl (box3 k2)) rfl ?_
            obtain ⟨hkl, hel⟩ := HLk.out
            have hF : checkF se de l = (3, k) := by
              unfold checkF
              rw [HN.out, if_pos HE.out, votesF_at k hkl HKK.out.1 (by rw [hel]; show voteE se need of ≠ 0; rw [HEV.out]; decide), hel, HEV.out]
              simp
            rw [hF]
            exact ⟨rfl, gr3n hg (by rw [HP.out]; omega)⟩
          have HEV : Hid (voteE se need of = 0) := hidI (by unfold voteE; rw [if_neg (by rw [HM.out]; exact hz), if_neg (by rw [← HJ.out.1]; simp), if_neg (by rw [← HJ.out.2.1 (by simp)]; simp), if_neg (by rw [HM.out]; simp [ou]; omega)])
          go_wp2
          have hgl := HG.out
          go_roundg (n - (k + 1))
          all_goals first | omega | exact ⟨k + 1, by go_num, by omega, by omega, hidI ⟨by
            rw [HT.out]
            intro v hv
            rw [List.mem_append] at hv
            rcases hv with hv | hv
            · exact HKK.out.1 v hv
            · rw [List.mem_singleton.1 hv]; exact HEV.out, HGX.out⟩⟩
    · have hk' : ¬ ((k : Int) < (n : Int)) := by omega
      have hkn : l.take k = l := List.take_of_length_le (by rw [HN.out]; omega)
      rw [hkn] at HKK
      obtain ⟨k0', k1', k2'⟩ := at3 hb2
      obtain ⟨f0, f1, f2⟩ := fz3 hb2
      have HK2 := hidI (And.intro hb2 (grown_join x3 HKK.out.2 (.inl rfl)))
      clear hb1 hb2 x1 x2 x3 x4
      go_wp2
      obtain ⟨k2, hg⟩ := HK2.out
      refine bodyPost_ret (results33 rfl _ _ (p + 1) _ _ _ rfl (box3 k2)) rfl ?_
      have hF : checkF se de l = (0, 0) := by
        unfold checkF
        rw [HN.out, if_pos HE.out, votesF_all HKK.out.1]
      rw [hF]
      exact ⟨rfl, gr3n hg (by rw [HP.out]; omega)⟩
end Go.Proofs.Ytefekafpmnaeoaa
