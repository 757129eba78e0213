/- What is wrong with what a step is given. -/
import Derived.Test.YtefekafpmnaeoaaQ
namespace Go.Proofs.Ytefekafpmnaeoaa
open Go.RowKit
attribute [local go_sem ↓] Go.wp_at_zero Go.wp_at_succ
set_option linter.unusedVariables false
set_option linter.unusedSimpArgs false

def stepE (se de : Int) (l : List (Int × List Int)) (T : Tr) (told : List Int) : Nat :=
  if (checkF se de l).1 = 0 then (if mayB de l.length T then (if (told.length : Int) = se then (if told.any tl then 3 else 0) else 4) else 15) else (checkF se de l).1
set_option maxRecDepth 10000 in
set_option maxHeartbeats 2000000 in
theorem lookAtStep_any (se de : Int) (l : List (Int × List Int)) (T : Tr) (told : List Int) (v s t : Value) (w : World) (hv : rdVs w v l) (hs : rd w s T.h) (ht : rd w t told) (hl : OkL l) (hlT : T.h.length ≤ 17592186043904) (hlt : told.length ≤ 17592186043904) :
    Calls Try.prog 24 #[.agg #[.int .i64 se, .int .i64 de, v], trV T s, t] w fun e w' => e = .returned (.int .i64 (stepE se de l T told : Int)) ∧ w.grownBy w' none := by
  obtain ⟨va, vc, rfl, _⟩ := id hv
  obtain ⟨sa, sc, rfl, _⟩ := id hs
  obtain ⟨ta, tc, rfl, _⟩ := id ht
  have cM := fun (X : World) (hX : w.grownBy X none) (h16 : l.length ≤ 16) (h0 : 0 ≤ de) (h1 : de ≤ 1000) => mayBe_any se de l.length va vc T _ X (rd_grown hs hX) hlT h16 h0 h1
  obtain ⟨MB, hMB⟩ : ∃ b, mayB de l.length T = b := ⟨_, rfl⟩
  obtain ⟨TB, hTB⟩ : ∃ b, told.any tl = b := ⟨_, rfl⟩
  obtain ⟨E, hE⟩ : ∃ b, (checkF se de l).1 = b := ⟨_, rfl⟩
  have HST : Hid (stepE se de l T told = if E = 0 then (if MB then (if (told.length : Int) = se then (if TB then 3 else 0) else 4) else 15) else E) := hidI (by unfold stepE; rw [hMB, hTB, hE])
  rw [hMB] at cM
  have HE := hidI hE
  have cT := fun (X : World) (hX : w.grownBy X none) => hasTell_any told _ X (rd_grown ht hX) (by omega)
  rw [hTB] at cT
  have cC := fun (X : World) (hX : w.grownBy X none) => check_any se de l _ X (rdVs_grown hv hX) hl
  rw [hE] at cC
  generalize (checkF se de l).2 = U at *
  clear hMB hTB hE
  obtain ⟨d, f, hh, kk⟩ := T
  dsimp only [trV, trA] at *
  obtain ⟨p, hp⟩ : ∃ p, w.heap.size = p := ⟨_, rfl⟩
  have hW1 : ((w.alloc (.cells #[.int .i64 se, .int .i64 de, .slice va l.length vc] 24)).alloc (.cells #[.bool d, .int .i64 f, .slice sa hh.length sc, .bool kk] 28)).heap[p]? = some (.cells #[.int .i64 se, .int .i64 de, .slice va l.length vc] 24) := by
    rw [hp_old (by simp; omega)]; exact hp_new hp.symm _
  have hW2 : ((w.alloc (.cells #[.int .i64 se, .int .i64 de, .slice va l.length vc] 24)).alloc (.cells #[.bool d, .int .i64 f, .slice sa hh.length sc, .bool kk] 28)).heap[p + 1]? = some (.cells #[.bool d, .int .i64 f, .slice sa hh.length sc, .bool kk] 28) := hp_new (by simp; omega) _
  have hgW : w.grownBy ((w.alloc (.cells #[.int .i64 se, .int .i64 de, .slice va l.length vc] 24)).alloc (.cells #[.bool d, .int .i64 f, .slice sa hh.length sc, .bool kk] 28)) none := gr_alloc (gr_alloc (World.grownBy.refl _ _) _) _
  go_enter Try.func24, Try.ntmps24
  go_upto_region 1 with fail
  clear hp
  generalize (w.alloc (.cells #[.int .i64 se, .int .i64 de, .slice va l.length vc] 24)).alloc (.cells #[.bool d, .int .i64 f, .slice sa hh.length sc, .bool kk] 28) = W at *
  obtain ⟨i0, i1, i2⟩ := at3 hW1
  have HW := hidI (And.intro hW1 (And.intro hW2 hgW))
  clear hv hs ht hl
  have c0 := cC W hgW
  clear hW1 hW2 hgW cC
  go_wp2_with fail
  refine c0.mono ?_
  rintro e w1 ⟨rfl, g1⟩
  clear c0 i0 i1 i2
  obtain ⟨hW1, hW2, hgW⟩ := HW.out
  have gA : W.grownBy (w1.alloc (.cells #[.int .i64 (E : Int), .int .i64 (U : Int), .int .i64 0] 33)) none := gr_alloc g1 _
  have k1 := kept gA hW1
  have k2 := kept gA hW2
  have k3 : (w1.alloc (.cells #[.int .i64 (E : Int), .int .i64 (U : Int), .int .i64 0] 33)).heap[w1.heap.size]? = _ := heap_alloc_new w1 _
  have hG := grown_join hgW gA (.inl rfl)
  go_upto_region 2 with fail
  clear hW1 hW2 hgW gA g1 HW
  generalize w1.alloc (.cells #[.int .i64 (E : Int), .int .i64 (U : Int), .int .i64 0] 33) = W1 at *
  generalize w1.heap.size = q at *
  obtain ⟨a0, a1, a2⟩ := at3 k1
  obtain ⟨b0, b1, b2, b3⟩ := at4 k2
  obtain ⟨c0, _, _⟩ := at3 k3
  have HG := hidI (And.intro hG k1)
  clear k1 k2 k3 hG
  by_cases hE : E = 0
  case neg =>
    have HS : Hid (stepE se de l ⟨d, f, hh, kk⟩ told = E) := hidI (by rw [HST.out, if_neg hE])
    have i3 : ¬ ((E : Int) = 0) := by omega
    go_wp2
    go_ret
    exact ⟨ret_int (by rw [HS.out]), HG.out.1⟩
  subst hE
  have c0 : W1.cell? ⟨q, 0, none⟩ = some (.int .i64 0) := c0
  obtain ⟨s1, s2, s3, s4, s5, s6, _⟩ := checkF_ok HE.out
  have cM1 := cM W1 HG.out.1 s4 s5 s6
  clear cM s1 s2 s3 s4 s5 s6
  go_wp2_with fail
  refine cM1.mono ?_
  rintro e w2 ⟨rfl, g2⟩
  obtain ⟨j0, j1, j2⟩ := at3 (kept g2 HG.out.2)
  have hG2 := grown_join HG.out.1 g2 (.inl rfl)
  have HG2 := hidI hG2
  have cT2 := cT _ hG2
  clear cM1 cT hG2 a0 a1 a2 b0 b1 b2 b3 c0
  cases MB with
  | false =>
    have HS : Hid (stepE se de l ⟨d, f, hh, kk⟩ told = 15) := hidI (by rw [HST.out]; simp)
    go_wp2
    go_ret
    exact ⟨ret_int (by rw [HS.out]; rfl), HG2.out⟩
  | true =>
  obtain ⟨m, hm⟩ : ∃ m, told.length = m := ⟨_, rfl⟩
  have HM := hidI hm
  rw [hm] at hlt cT2
  by_cases hse : (m : Int) = se
  case neg =>
    have HS : Hid (stepE se de l ⟨d, f, hh, kk⟩ told = 4) := hidI (by rw [HST.out, HM.out]; simp [hse])
    have hse' : ¬ se = (m : Int) := fun e => hse e.symm
    rw [← hm] at hse hse'
    clear cT2 hm
    go_wp2
    go_ret
    exact ⟨ret_int (by rw [HS.out]; rfl), HG2.out⟩
  cases TB with
  | true =>
    have HS : Hid (stepE se de l ⟨d, f, hh, kk⟩ told = 3) := hidI (by rw [HST.out, HM.out]; simp [hse])
    rw [← hm] at hse cT2
    clear hm
    go_wp2_with fail
    refine cT2.mono ?_
    rintro e w3 ⟨rfl, rfl⟩
    go_wp2
    go_ret
    exact ⟨ret_int (by rw [HS.out]; rfl), HG2.out⟩
  | false =>
    have HS : Hid (stepE se de l ⟨d, f, hh, kk⟩ told = 0) := hidI (by rw [HST.out, HM.out]; simp [hse])
    rw [← hm] at hse cT2
    clear hm
    go_wp2_with fail
    refine cT2.mono ?_
    rintro e w3 ⟨rfl, rfl⟩
    go_wp2
    go_ret
    exact ⟨ret_int (by rw [HS.out]; rfl), HG2.out⟩
end Go.Proofs.Ytefekafpmnaeoaa
