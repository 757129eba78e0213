/- What is wrong with a guard. -/
import Derived.Test.YtefekafpmnaeoaaF
namespace Go.Proofs.Ytefekafpmnaeoaa
open Go.RowKit
attribute [local go_sem ↓] Go.wp_at_zero Go.wp_at_succ
set_option linter.unusedVariables false
set_option linter.unusedSimpArgs false

/-- Votes that are short enough. -/
def OkL (l : List (Int × List Int)) : Prop := l.length ≤ 17592186043904 ∧ ∀ v ∈ l, v.2.length ≤ 17592186043904
def votesF (se : Int) : List (Int × List Int) → Nat → Nat × Nat
  | [], _ => (0, 0)
  | v :: l, i => if voteE se v.1 v.2 = 0 then votesF se l (i + 1) else (voteE se v.1 v.2, i)
theorem votesF_all {se : Int} {l : List (Int × List Int)} (h : ∀ v ∈ l, voteE se v.1 v.2 = 0) (i : Nat) : votesF se l i = (0, 0) := by
  induction l generalizing i with
  | nil => rfl
  | cons v l ih => simp only [votesF]; rw [if_pos (h v (by simp))]; exact ih (fun x hx => h x (by simp [hx])) _
theorem votesF_at {se : Int} {l : List (Int × List Int)} (k : Nat) (hk : k < l.length) (h : ∀ v ∈ l.take k, voteE se v.1 v.2 = 0) (hx : voteE se l[k].1 l[k].2 ≠ 0) (i : Nat) : votesF se l i = (voteE se l[k].1 l[k].2, i + k) := by
  induction l generalizing k i with
  | nil => simp at hk
  | cons v l ih =>
    cases k with
    | zero => simp only [votesF]; rw [if_neg (by simpa using hx)]; rfl
    | succ k =>
      simp only [votesF]
      rw [if_pos (h v (by simp)), ih k (by simpa using hk) (fun x hx => h x (by simp [hx])) (by simpa using hx)]
      simp
      omega
def checkF (se de : Int) (l : List (Int × List Int)) : Nat × Nat := if guardE se de l.length = 0 then votesF se l 0 else (guardE se de l.length, 0)
theorem guardE_ok {se de : Int} {n : Nat} (h : guardE se de n = 0) : 1 ≤ se ∧ se ≤ 64 ∧ 1 ≤ n ∧ n ≤ 16 ∧ 0 ≤ de ∧ de ≤ 1000 := by
  unfold guardE at h
  split at h
  · omega
  · next h1 =>
    split at h
    · omega
    · next h2 => simp [ou] at h1 h2; omega
theorem info33 : (Try.prog.info? 33).map (·.size) = some 3 := by kernel_rfl
theorem load33 (W : World) (p : Nat) (x y z : Value) (hg : W.heap[p]? = some (.cells #[x, y, z] 33)) : (loadVar 33 ⟨p, 0, none⟩).run Try.prog W = .ok (.agg #[x, y, z]) W :=
  run_loadVar_row (P := Try.prog) W p 33 33 #[x, y, z] (0, 0) _ hg Try.underlying33 rfl info33
theorem results33 {f : Func} {k : Tmp} (hr : f.results = #[.cell k 33]) (tmps : Array Value) (W : World) (q : Nat) (x y z : Value) (h6 : tmps.getD k undef = .pointer (some ⟨q, 0, none⟩)) (hg : W.heap[q]? = some (.cells #[x, y, z] 33)) :
    (results f tmps).run Try.prog W = .ok (.agg #[x, y, z]) W := by
  have hl := load33 W q x y z hg
  have h6' : tmps[k]?.getD undef = .pointer (some ⟨q, 0, none⟩) := by simpa using h6
  simp [results, hr]
  rw [h6']
  simp [asAddr, hl, Result.andThen]
theorem box3 {W : World} {q : Nat} {y0 y1 y2 x0 x1 x2 : Value} {T : TypeId} (h : W.heap[q]? = some (.cells #[y0, y1, y2] T)) : ((((W).setCell ⟨q, 0, none⟩ x0).setCell ⟨q, 1, none⟩ x1).setCell ⟨q, 2, none⟩ x2).heap[q]? = some (.cells #[x0, x1, x2] T) := by
  have := at_set (at_set (at_set h 0 x0) 1 x1) 2 x2
  simpa using this
theorem gr3n {w W : World} {q : Nat} {x0 x1 x2 : Value} (h : w.grownBy W none) (hq : w.heap.size ≤ q) : w.grownBy ((((W).setCell ⟨q, 0, none⟩ x0).setCell ⟨q, 1, none⟩ x1).setCell ⟨q, 2, none⟩ x2) none :=
  gr_own (gr_own (gr_own h hq _ _) hq _ _) hq _ _
theorem at3 {W : World} {q : Nat} {y0 y1 y2 : Value} {T : TypeId} (h : W.heap[q]? = some (.cells #[y0, y1, y2] T)) : W.cell? ⟨q, 0, none⟩ = some y0 ∧ W.cell? ⟨q, 1, none⟩ = some y1 ∧ W.cell? ⟨q, 2, none⟩ = some y2 :=
  ⟨at_cell h 0, at_cell h 1, at_cell h 2⟩
theorem fz3 {W : World} {q : Nat} {cs : Array Value} {T : TypeId} (h : W.heap[q]? = some (.cells cs T)) : W.frozen? ⟨q, 0, none⟩ = false ∧ W.frozen? ⟨q, 1, none⟩ = false ∧ W.frozen? ⟨q, 2, none⟩ = false :=
  ⟨at_frozen h 0, at_frozen h 1, at_frozen h 2⟩
set_option maxRecDepth 10000 in
set_option maxHeartbeats 2000000 in
theorem check_any (se de : Int) (l : List (Int × List Int)) (v : Value) (w : World) (hv : rdVs w v l) (hl : OkL l) :
    Calls Try.prog 10 #[.agg #[.int .i64 se, .int .i64 de, v]] w fun e w' => e = .returned (.agg #[.int .i64 ((checkF se de l).1 : Int), .int .i64 ((checkF se de l).2 : Int), .int .i64 0]) ∧ w.grownBy w' none := by
  obtain ⟨va, vc, rfl, _⟩ := id hv
  obtain ⟨p, hp⟩ : ∃ p, w.heap.size = p := ⟨_, rfl⟩
  have hW1 : ((w.alloc (.cells #[.int .i64 se, .int .i64 de, .slice va l.length vc] 24)).alloc (.cells #[.int .i64 0, .int .i64 0, .int .i64 0] 33)).heap[p]? = some (.cells #[.int .i64 se, .int .i64 de, .slice va l.length vc] 24) := by
    rw [hp_old (by simp; omega)]; exact hp_new hp.symm _
  have hW2 : ((w.alloc (.cells #[.int .i64 se, .int .i64 de, .slice va l.length vc] 24)).alloc (.cells #[.int .i64 0, .int .i64 0, .int .i64 0] 33)).heap[p + 1]? = some (.cells #[.int .i64 0, .int .i64 0, .int .i64 0] 33) := hp_new (by simp; omega) _
  have hgW : w.grownBy ((w.alloc (.cells #[.int .i64 se, .int .i64 de, .slice va l.length vc] 24)).alloc (.cells #[.int .i64 0, .int .i64 0, .int .i64 0] 33)) none := gr_alloc (gr_alloc (World.grownBy.refl _ _) _) _
  go_enter Try.func10, Try.ntmps10
  go_upto_region 1 with fail
  have HP := hidI hp
  clear hp
  generalize (w.alloc (.cells #[.int .i64 se, .int .i64 de, .slice va l.length vc] 24)).alloc (.cells #[.int .i64 0, .int .i64 0, .int .i64 0] 33) = W at *
  obtain ⟨i0, i1, i2⟩ := at3 hW1
  obtain ⟨j0, j1, j2⟩ := at3 hW2
  have HW := hidI (And.intro hW1 (And.intro hW2 hgW))
  have HV := hidI (And.intro (rd_grown (l := []) (v := .slice none 0 0) ⟨none, 0, rfl, .inl rfl⟩ hgW) (rdVs_grown hv hgW))
  obtain ⟨n, hn⟩ : ∃ n, l.length = n := ⟨_, rfl⟩
  have HN := hidI hn
  rw [hn] at i2 ⊢
  have HL := hidI hl
  clear hW1 hW2 hgW hv hl
  go_wp2_with fail
  refine (lookAtGuard_any se de va n vc W).mono ?_
  rintro e w1 ⟨rfl, g1⟩
  by_cases hE : guardE se de n = 0
  case neg =>
    obtain ⟨E, hEE⟩ : ∃ E, guardE se de n = E := ⟨_, rfl⟩
    have HE := hidI hEE
    rw [hEE] at hE ⊢
    have i3 : ¬ ((E : Int) = 0) := by omega
    obtain ⟨hW1, hW2, hgW⟩ := HW.out
    have k2 := kept g1 hW2
    obtain ⟨k0', k1', k2'⟩ := at3 k2
    obtain ⟨f0, f1, f2⟩ := fz3 k2
    have HK := hidI (And.intro k2 (grown_join hgW g1 (.inl rfl)))
    clear hEE hW1 hW2 hgW k2 g1
    go_wp2
    obtain ⟨k2, hg⟩ := HK.out
    refine bodyPost_ret (results33 rfl _ _ (p + 1) _ _ _ rfl (box3 k2)) rfl ?_
    have hF : checkF se de l = (E, 0) := by unfold checkF; rw [HN.out, HE.out, if_neg hE]
    rw [hF]
    exact ⟨rfl, gr3n hg (by rw [HP.out]; omega)⟩
  have HE := hidI hE
  rw [hE]
  obtain ⟨s1, s2, s3, s4, _, _⟩ := guardE_ok hE
  clear hE
  obtain ⟨hW1, hW2, hgW⟩ := HW.out
  have kk1 := kept g1 hW1
  obtain ⟨m0, m1, m2⟩ := at3 kk1
  have HK := hidI (And.intro kk1 (And.intro (kept g1 hW2) (And.intro (grown_join hgW g1 (.inl rfl)) (rdVs_grown HV.out.2 g1))))
  rw [hn] at m2
  clear hW1 hW2 hgW kk1 g1 i0 i1 i2 j0 j1 j2 hn HW HV
  go_wp2_with fail
  go_loopg [16] n (fun gk s16 wx => ∃ k : Nat, s16 = .int .i64 k ∧ k ≤ n ∧ gk = n - k ∧ Hid ((∀ v ∈ l.take k, voteE se v.1 v.2 = 0) ∧ w1.grownBy wx none))
  case atStart => exact ⟨0, rfl, Nat.zero_le _, by omega, hidI ⟨by simp, World.grownBy.refl _ _⟩⟩
  case round =>
    obtain ⟨k, rfl, hk, hgk, HKK⟩ := hrel
    have HG : Hid (gk = n - k) := hgk
    clear hgk
    by_cases hlt : k < n
    · have hkl : k < l.length := by rw [HN.out]; exact hlt
      obtain ⟨x1, x2, x3, x4⟩ := HK.out
      obtain ⟨va', vc', ev, h | ⟨b, off, rfl, hc⟩⟩ := rdVs_grown x4 HKK.out.2
      · subst h; simp at hkl
      simp at ev
      obtain ⟨rfl, rfl⟩ := ev
      obtain ⟨u, q0, q1, hu⟩ := hc k hkl
      have HT : Hid (l.take (k + 1) = l.take k ++ [l.getD k (0, [])]) := hidI (by
        rw [List.take_add_one]
        simp [List.getD, hkl])
      have HLk : Hid (∃ h : k < l.length, l[k] = l.getD k (0, [])) := hidI ⟨hkl, by simp [List.getD, hkl]⟩
      have hof : (l.getD k (0, [])).2.length ≤ 17592186044416 := by
        obtain ⟨h1, h2⟩ := HLk.out
        rw [← h2]
        have := HL.out.2 _ (List.getElem_mem h1)
        omega
      have hb1 : wr.heap[p]? = _ := kept HKK.out.2 x1
      have hb2 : wr.heap[p + 1]? = _ := kept HKK.out.2 x2
      have HBX := hidI (And.intro hb1 (And.intro hb2 (grown_join x3 HKK.out.2 (.inl rfl))))
      obtain ⟨b0, b1, b2⟩ := at3 hb1
      clear x1 x2 x3 x4 hc hkl hb1 hb2 m0 m1 m2
      generalize l.getD k (0, []) = V at *
      obtain ⟨need, of⟩ := V
      dsimp only at *
      obtain ⟨ua, uc, rfl, _⟩ := id hu
      have i1 : (0 : Int) ≤ (k : Int) := by omega
      have i2 : (k : Int) < (n : Int) := by omega
      have hgA : wr.grownBy (wr.alloc (.cells #[.int .i64 need, .slice ua of.length uc] 50)) none := gr_alloc (World.grownBy.refl _ _) _
      have cV := lookAtVote_any se need of _ _ (rd_grown hu hgA) hof s1 s2
      have hpl : p < wr.heap.size := at_lt HBX.out.1
      have HGA := hidI hgA
      have b0' : (wr.alloc (.cells #[.int .i64 need, .slice ua of.length uc] 50)).cell? ⟨p, 0, none⟩ = some (.int .i64 se) := hgA.cell b0 (by simp)
      clear hu hgA
      go_wp2_with fail
      refine cV.mono ?_
      rintro e w3 ⟨rfl, g3⟩
      by_cases hz : voteE se need of = 0
      · have HZ := hidI hz
        rw [hz]
        clear hz cV
        go_wp2
        have hgl := HG.out
        go_roundg (n - (k + 1))
        all_goals first | omega | exact ⟨k + 1, by go_num, by omega, by omega, hidI ⟨by
          rw [HT.out]
          intro v hv
          rw [List.mem_append] at hv
          rcases hv with hv | hv
          · exact HKK.out.1 v hv
          · rw [List.mem_singleton.1 hv]; exact HZ.out, grown_join HKK.out.2 (grown_join HGA.out g3 (.inl rfl)) (.inl rfl)⟩⟩
      · obtain ⟨E, hEE⟩ : ∃ E, voteE se need of = E := ⟨_, rfl⟩
        have HEE := hidI hEE
        have HZ := hidI hz
        rw [hEE] at hz ⊢
        have i3 : ¬ ((E : Int) = 0) := by omega
        clear hEE cV
        have k2 := kept (grown_join HGA.out g3 (.inl rfl)) HBX.out.2.1
        obtain ⟨k0', k1', k2'⟩ := at3 k2
        obtain ⟨f0, f1, f2⟩ := fz3 k2
        have HK2 := hidI (And.intro k2 (grown_join HBX.out.2.2 (grown_join HGA.out g3 (.inl rfl)) (.inl rfl)))
        clear k2 g3
        go_wp2
        obtain ⟨k2, hg⟩ := HK2.out
        refine bodyPost_ret (results33 rfl _ _ (p + 1) _ _ _ rfl (box3 k2)) rfl ?_
        obtain ⟨hkl, hel⟩ := HLk.out
        have hF : checkF se de l = (E, k) := by
          unfold checkF
          rw [HN.out, if_pos HE.out, votesF_at k hkl HKK.out.1 (by rw [hel]; exact HZ.out), hel, HEE.out]
          simp
        rw [hF]
        exact ⟨rfl, gr3n hg (by rw [HP.out]; omega)⟩
    · have hk' : ¬ ((k : Int) < (n : Int)) := by omega
      have hkn : l.take k = l := List.take_of_length_le (by rw [HN.out]; omega)
      rw [hkn] at HKK
      obtain ⟨x1, x2, x3, x4⟩ := HK.out
      have k2 := kept HKK.out.2 x2
      obtain ⟨k0', k1', k2'⟩ := at3 k2
      obtain ⟨f0, f1, f2⟩ := fz3 k2
      have HK2 := hidI (And.intro k2 (grown_join x3 HKK.out.2 (.inl rfl)))
      clear k2 x1 x2 x3 x4
      go_wp2
      obtain ⟨k2, hg⟩ := HK2.out
      refine bodyPost_ret (results33 rfl _ _ (p + 1) _ _ _ rfl (box3 k2)) rfl ?_
      have hF : checkF se de l = (0, 0) := by
        unfold checkF
        rw [HN.out, if_pos HE.out, votesF_all HKK.out.1]
      rw [hF]
      exact ⟨rfl, gr3n hg (by rw [HP.out]; omega)⟩
end Go.Proofs.Ytefekafpmnaeoaa
