/- How a guard stands at first, by the program. -/
import Derived.Test.YtefekafpmnaeoaaT
namespace Go.Proofs.Ytefekafpmnaeoaa
open Go.RowKit
attribute [local go_sem ↓] Go.wp_at_zero Go.wp_at_succ
set_option linter.unusedVariables false
set_option linter.unusedSimpArgs false

set_option maxRecDepth 10000 in
set_option maxHeartbeats 2000000 in
theorem start_any (se de : Int) (l : List (Int × List Int)) (v : Value) (w : World) (hv : rdVs w v l) (hl : OkL l) :
    Calls Try.prog 9 #[.agg #[.int .i64 se, .int .i64 de, v]] w fun e w' => TrE w w' e (startT se de l) (checkF se de l).1 := by
  obtain ⟨va, vc, rfl, _⟩ := id hv
  obtain ⟨p, hp⟩ : ∃ p, w.heap.size = p := ⟨_, rfl⟩
  have hW1 : ((w.alloc (.cells #[.int .i64 se, .int .i64 de, .slice va l.length vc] 24)).alloc (.cells #[.bool false, .int .i64 0, .slice none 0 0, .bool false] 28)).heap[p]? = some (.cells #[.int .i64 se, .int .i64 de, .slice va l.length vc] 24) := by
    rw [hp_old (by simp; omega)]; exact hp_new hp.symm _
  have hW2 : ((w.alloc (.cells #[.int .i64 se, .int .i64 de, .slice va l.length vc] 24)).alloc (.cells #[.bool false, .int .i64 0, .slice none 0 0, .bool false] 28)).heap[p + 1]? = some (.cells #[.bool false, .int .i64 0, .slice none 0 0, .bool false] 28) := hp_new (by simp; omega) _
  have hgW : w.grownBy ((w.alloc (.cells #[.int .i64 se, .int .i64 de, .slice va l.length vc] 24)).alloc (.cells #[.bool false, .int .i64 0, .slice none 0 0, .bool false] 28)) none := gr_alloc (gr_alloc (World.grownBy.refl _ _) _) _
  go_enter Try.func9, Try.ntmps9
  go_upto_region 1 with fail
  have HP := hidI hp
  clear hp
  generalize (w.alloc (.cells #[.int .i64 se, .int .i64 de, .slice va l.length vc] 24)).alloc (.cells #[.bool false, .int .i64 0, .slice none 0 0, .bool false] 28) = W at *
  obtain ⟨i0, i1, i2⟩ := at3 hW1
  have cC := check_any se de l _ W (rdVs_grown hv hgW) hl
  obtain ⟨E, hE⟩ : ∃ E, (checkF se de l).1 = E := ⟨_, rfl⟩
  have HE := hidI hE
  rw [hE] at cC
  clear hE
  generalize (checkF se de l).2 = U at *
  have HW := hidI (And.intro hW1 (And.intro hW2 hgW))
  obtain ⟨n, hn⟩ : ∃ n, l.length = n := ⟨_, rfl⟩
  have HN := hidI hn
  rw [hn] at i2 cC ⊢
  clear hW1 hW2 hgW hv hl hn
  go_wp2_with fail
  refine cC.mono ?_
  rintro e w1 ⟨rfl, g1⟩
  clear cC i0 i1 i2
  obtain ⟨hW1, hW2, hgW⟩ := HW.out
  have gA : W.grownBy (w1.alloc (.cells #[.int .i64 (E : Int), .int .i64 (U : Int), .int .i64 0] 33)) none := gr_alloc g1 _
  have k1 := kept gA hW1
  have k2 := kept gA hW2
  have k3 : (w1.alloc (.cells #[.int .i64 (E : Int), .int .i64 (U : Int), .int .i64 0] 33)).heap[w1.heap.size]? = _ := heap_alloc_new w1 _
  have hne : w1.heap.size ≠ p + 1 := by have := at_lt (kept g1 hW2); omega
  have HG := hidI (grown_join hgW gA (.inl rfl))
  go_upto_region 2 with fail
  clear hW1 hW2 hgW gA g1
  generalize w1.alloc (.cells #[.int .i64 (E : Int), .int .i64 (U : Int), .int .i64 0] 33) = W1 at *
  generalize w1.heap.size = q at *
  obtain ⟨a0, a1, a2⟩ := at3 k1
  rw [HN.out] at a2
  obtain ⟨b0, b1, b2, b3⟩ := at4 k2
  obtain ⟨f0, f1, f2, f3⟩ := fz4 k2
  obtain ⟨c0, c1, c2⟩ := at3 k3
  have HK := hidI (And.intro k2 (at_lt k2))
  clear k1 k2 k3 c1 c2
  by_cases hE : E = 0
  case neg =>
    have HS : Hid (startT se de l = zeroT) := hidI (by unfold startT; rw [HE.out, if_neg hE])
    have i3 : ¬ ((E : Int) = 0) := by omega
    go_wp2_with fail
    go_region_held3 (fun w' => w'.cell? ⟨q, 0, none⟩ = some (.int .i64 (E : Int))) (first | (go_keep; done) | (repeat (first | with_reducible assumption | refine ck_set (by assumption) ?_))) (fail)
    all_goals (
      go_wp2
      refine bodyPost_ret (results28 rfl _ _ (p + 1) zeroT (.slice none 0 0) rfl (box4 (by first | exact HK.out.1 | (rw [hp_drew]; exact HK.out.1)))) rfl ?_
      rw [HS.out, HE.out]
      exact ⟨_, rfl, TrP.zero (gr_drew (gr4n (q := p + 1) HG.out (by rw [HP.out]; omega)))⟩)
  subst hE
  obtain ⟨s1, s2, s3, s4, _⟩ := checkF_ok HE.out
  have hn16 : n ≤ 16 := by have := HN.out; omega
  have HS : Hid (startT se de l = ⟨false, -1, List.replicate n 0, false⟩) := hidI (by unfold startT; rw [HE.out, if_pos rfl, HN.out])
  have hmk := make_ints n (by omega) W1
  have hgM := gr_alloc (World.grownBy.refl W1 none) (.cells (intsA (List.replicate n 0)) 3)
  have hOw := own_made (w := W1) (B := W1.heap.size) (n := n) (Nat.le_refl _) (by omega)
  have kM := kept hgM HK.out.1
  obtain ⟨e0, e1, e2, e3⟩ := at4 kM
  obtain ⟨h0, h1, h2, h3⟩ := fz4 kM
  have HM := hidI (And.intro kM (And.intro hOw (grown_join HG.out hgM (.inl rfl))))
  have c0 : W1.cell? ⟨q, 0, none⟩ = some (.int .i64 0) := c0
  clear kM hgM hOw s1 s2 s3 s4 f0 f1 f2 f3 b0 b1 b2 b3
  go_wp2
  obtain ⟨kM, hOw, hg⟩ := HM.out
  refine bodyPost_ret (results28 rfl _ _ (p + 1) ⟨false, -1, List.replicate n 0, false⟩ (.slice (some ⟨W1.heap.size, 0, none⟩) n n) rfl (box4 kM)) rfl ?_
  rw [HS.out, HE.out]
  have hx := HK.out.2
  have hp := HP.out
  exact ⟨_, rfl, _, n, by simp, own_low (own_but hOw (gr4 (World.grownBy.refl _ _)) (by omega)) (by omega), gr4n hg (by omega)⟩
end Go.Proofs.Ytefekafpmnaeoaa
