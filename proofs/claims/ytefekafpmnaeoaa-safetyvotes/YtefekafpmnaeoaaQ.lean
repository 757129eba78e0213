/- Could it be a trip of this guard? -/
import Derived.Test.YtefekafpmnaeoaaN
import Derived.Test.YtefekafpmnaeoaaT
namespace Go.Proofs.Ytefekafpmnaeoaa
open Go.RowKit
attribute [local go_sem ↓] Go.wp_at_zero Go.wp_at_succ
set_option linter.unusedVariables false
set_option linter.unusedSimpArgs false

/-- Is it a trip of this guard? -/
def mayB (de : Int) (n : Nat) (T : Tr) : Bool := decide (T.h.length = n) && !T.h.any (ou 0 (de + 1)) && !(if T.d then ou 0 ((n : Int) - 1) T.f else ou (-1) (-1) T.f)
set_option maxRecDepth 10000 in
set_option maxHeartbeats 2000000 in
theorem mayBe_any (se de : Int) (n : Nat) (va : Option Addr) (vc : Nat) (T : Tr) (s : Value) (w : World) (hs : rd w s T.h) (hl : T.h.length ≤ 17592186043904) (h16 : n ≤ 16) (hd0 : 0 ≤ de) (hd1 : de ≤ 1000) :
    Calls Try.prog 33 #[.agg #[.int .i64 se, .int .i64 de, .slice va n vc], trV T s] w fun e w' => e = .returned (.bool (mayB de n T)) ∧ w.grownBy w' none := by
  obtain ⟨d, f, hh, kk⟩ := T
  dsimp only [trV, trA] at *
  obtain ⟨sa, sc, rfl, _⟩ := id hs
  obtain ⟨p, hp⟩ : ∃ p, w.heap.size = p := ⟨_, rfl⟩
  have hW1 : ((w.alloc (.cells #[.int .i64 se, .int .i64 de, .slice va n vc] 24)).alloc (.cells #[.bool d, .int .i64 f, .slice sa hh.length sc, .bool kk] 28)).heap[p]? = some (.cells #[.int .i64 se, .int .i64 de, .slice va n vc] 24) := by
    rw [hp_old (by simp; omega)]; exact hp_new hp.symm _
  have hW2 : ((w.alloc (.cells #[.int .i64 se, .int .i64 de, .slice va n vc] 24)).alloc (.cells #[.bool d, .int .i64 f, .slice sa hh.length sc, .bool kk] 28)).heap[p + 1]? = some (.cells #[.bool d, .int .i64 f, .slice sa hh.length sc, .bool kk] 28) := hp_new (by simp; omega) _
  have hgW : w.grownBy ((w.alloc (.cells #[.int .i64 se, .int .i64 de, .slice va n vc] 24)).alloc (.cells #[.bool d, .int .i64 f, .slice sa hh.length sc, .bool kk] 28)) none := gr_alloc (gr_alloc (World.grownBy.refl _ _) _) _
  go_enter Try.func33, Try.ntmps33
  go_upto_region 1 with fail
  clear hp
  generalize (w.alloc (.cells #[.int .i64 se, .int .i64 de, .slice va n vc] 24)).alloc (.cells #[.bool d, .int .i64 f, .slice sa hh.length sc, .bool kk] 28) = W at *
  obtain ⟨i0, i1, i2⟩ := at3 hW1
  obtain ⟨j0, j1, j2, j3⟩ := at4 hW2
  have HW := hidI (And.intro hW1 (And.intro hW2 (And.intro hgW (rd_grown hs hgW))))
  clear hW1 hW2 hgW hs
  obtain ⟨m, hm⟩ : ∃ m, hh.length = m := ⟨_, rfl⟩
  have HM := hidI hm
  rw [hm] at hl j2 ⊢
  clear hm
  by_cases hmn : m = n
  case neg =>
    have h0 : ¬ ((m : Int) = (n : Int)) := by omega
    have hd : decide ((m : Int) = (n : Int)) = false := by simpa using h0
    have HMB : Hid (mayB de n ⟨d, f, hh, kk⟩ = false) := hidI (by unfold mayB; dsimp only; rw [HM.out]; simp [hmn])
    go_quiet (fail)
    go_wp2
    go_ret
    exact ⟨ret_bool HMB.out.symm, gr_drewN HW.out.2.2.1 _⟩
  subst hmn
  have hd : decide ((m : Int) = (m : Int)) = true := by simp
  have HKEEP : Hid (∀ X : World, W.grownBy X none → X.cell? ⟨p, 0, none⟩ = some (.int .i64 se) ∧ X.cell? ⟨p, 1, none⟩ = some (.int .i64 de) ∧ X.cell? ⟨p, 2, none⟩ = some (.slice va m vc) ∧ X.cell? ⟨p + 1, 2, none⟩ = some (.slice sa m sc)) := hidI (fun X hX => ⟨hX.cell i0 (by simp), hX.cell i1 (by simp), hX.cell i2 (by simp), hX.cell j2 (by simp)⟩)
  have cH : ∀ (a b : Nat) (X : World), W.grownBy X none → OutP X 0 (de + 1) a b → Calls Try.prog 30 #[.slice sa m sc, .func (.func 35) #[] #[.pointer (some ⟨a, 0, none⟩), .pointer (some ⟨b, 0, none⟩)]] X fun e w' => e = .returned (.bool (hh.any (ou 0 (de + 1)))) ∧ X = w' := fun a b X hX hP => by
    have := hasOut_any hh _ 0 (de + 1) a b X (rd_grown HW.out.2.2.2 hX) (by rw [HM.out]; omega) hP
    rw [HM.out] at this
    exact this
  obtain ⟨Bb, hB⟩ : ∃ b, hh.any (ou 0 (de + 1)) = b := ⟨_, rfl⟩
  rw [hB] at cH
  have HB := hidI hB
  clear hB j0 j1 j3
  go_region_held3 (fun X => X.cell? ⟨p, 0, none⟩ = some (.int .i64 se) ∧ X.cell? ⟨p, 1, none⟩ = some (.int .i64 de) ∧ X.cell? ⟨p, 2, none⟩ = some (.slice va m vc) ∧ X.cell? ⟨p + 1, 2, none⟩ = some (.slice sa m sc)) (first | (go_keep; done) | exact HKEEP.out _ (by assumption) | exact HKEEP.out _ (gr_drew (by assumption)))
    (first | (go_at_call 27; refine (most_any se de _ _ hd0 hd1).mono ?_; rintro e y1 ⟨rfl, e1'⟩; have e1 : W.grownBy y1 none := (grown_join (by first | assumption | exact World.grownBy.refl _ _ | exact gr_drew (World.grownBy.refl _ _) | exact gr_drew (by assumption)) e1' (.inl rfl)); clear e1') | (go_at_call 29; refine (outside_any 0 (de + 1) _).mono ?_; rintro e y2 ⟨p1, q1, rfl, o1, e2'⟩; have e2 : W.grownBy y2 none := (grown_join (by first | assumption | exact World.grownBy.refl _ _ | exact gr_drew (World.grownBy.refl _ _) | exact gr_drew (by assumption)) e2' (.inl rfl)); clear e2') | (go_at_call 30; refine (cH p1 q1 _ (by first | assumption | exact World.grownBy.refl _ _ | exact gr_drew (World.grownBy.refl _ _) | exact gr_drew (by assumption)) (by first | exact o1 | exact ⟨o1.1, o1.2⟩)).mono ?_; rintro e y3 ⟨rfl, e3⟩; have e4 : W.grownBy y3 none := (by rw [← e3]; exact e2); clear e3))
  obtain ⟨hW1, hW2, hgW, hsr⟩ := HW.out
  obtain ⟨j0, j1, j2', j3⟩ := at4 (kept e4 hW2)
  obtain ⟨l0, l1, l2⟩ := at3 (kept e4 hW1)
  have HG := hidI (And.intro (grown_join hgW e4 (.inl rfl)) (And.intro (kept e4 hW1) (kept e4 hW2)))
  clear hW1 hW2 hgW hsr cH HKEEP i0 i1 i2 j2 HW e1 e2 o1
  have mN : IntKind.i64.wrap ((m : Int) - 1) = (m : Int) - 1 := i64_id (by omega) (by omega)
  cases Bb with
  | true =>
    have HMB : Hid (mayB de m ⟨d, f, hh, kk⟩ = false) := hidI (by unfold mayB; dsimp only; rw [HB.out]; simp)
    go_wp2
    go_ret
    exact ⟨ret_bool HMB.out.symm, HG.out.1⟩
  | false =>
  go_wp2_with fail
  refine (outside_any (-1) (-1) _).mono ?_
  rintro e w5 ⟨p2, q2, rfl, o2, g5⟩
  obtain ⟨n0, n1, n2, n3⟩ := at4 (kept g5 HG.out.2.2)
  obtain ⟨r0, r1, r2⟩ := at3 (kept g5 HG.out.2.1)
  cases d with
  | false =>
    have c := out_any (-1) (-1) f p2 q2 w5 o2
    have HMB : Hid (mayB de m ⟨false, f, hh, kk⟩ = !ou (-1) (-1) f) := hidI (by unfold mayB; dsimp only; rw [HB.out, HM.out]; simp)
    generalize ou (-1) (-1) f = X at *
    go_wp2_with fail
    refine c.mono ?_
    rintro e w6 ⟨rfl, rfl⟩
    go_wp2
    go_ret
    exact ⟨ret_bool HMB.out.symm, grown_join HG.out.1 g5 (.inl rfl)⟩
  | true =>
    go_wp2_with fail
    refine (outside_any 0 ((m : Int) - 1) _).mono ?_
    rintro e w6 ⟨p3, q3, rfl, o3, g6⟩
    obtain ⟨s0, s1, s2, s3⟩ := at4 (kept g6 (kept g5 HG.out.2.2))
    have c := out_any 0 ((m : Int) - 1) f p3 q3 w6 o3
    have HMB : Hid (mayB de m ⟨true, f, hh, kk⟩ = !ou 0 ((m : Int) - 1) f) := hidI (by unfold mayB; dsimp only; rw [HB.out, HM.out]; simp)
    generalize ou 0 ((m : Int) - 1) f = X at *
    go_wp2_with fail
    refine c.mono ?_
    rintro e w7 ⟨rfl, rfl⟩
    go_wp2
    go_ret
    exact ⟨ret_bool HMB.out.symm, grown_join (grown_join HG.out.1 g5 (.inl rfl)) g6 (.inl rfl)⟩
end Go.Proofs.Ytefekafpmnaeoaa
