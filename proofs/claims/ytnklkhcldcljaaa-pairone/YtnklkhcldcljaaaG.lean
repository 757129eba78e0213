/- The document's sides. -/
import Derived.Test.YtnklkhcldcljaaaF
namespace Go.Proofs.Ytnklkhcldcljaaa
open Go.RowKit
attribute [local go_sem ↓] Go.wp_at_zero Go.wp_at_succ
set_option linter.unusedVariables false
set_option linter.unusedSimpArgs false

def RfE (w w' : World) (e : Ending) (R : Sd) (v : Value) (E : Nat) : Prop := e = .returned (.tuple #[sdV R v, .int .i64 (E : Int)]) ∧ w.grownBy w' none
theorem canS_iff (L : Sd) : canS L = true ↔ (wi 0 1 L.me && progB L.te L.cy L.im.length) = true ∧ (1 ≤ L.pa ∧ L.pa ≤ 1000) ∧ 0 ≤ L.si ∧ L.si < L.pa ∧ (L.ac = true → L.si = 0) := by
  unfold canS
  simp only [Bool.and_eq_true, wi_iff]
  constructor
  · rintro ⟨h1, h2, h3, h4, h5⟩
    refine ⟨⟨h1, h3⟩, h2, h4, ?_, ?_⟩
    · split at h5 <;> omega
    · intro ha
      rw [if_pos ha] at h5
      omega
  · rintro ⟨⟨h1, h3⟩, h2, h4, h5, h6⟩
    refine ⟨h1, h2, h3, h4, ?_⟩
    split
    · rename_i k
      rw [h6 k]
      exact Int.le_refl _
    · omega
set_option maxRecDepth 10000 in
set_option maxHeartbeats 1000000 in
theorem tell_any (who te cy : Int) (l : List Int) (v : Value) (w : World) (hv : rd w v l) : Calls Try.prog 38 #[.int .i64 who, .int .i64 te, .int .i64 cy, v] w fun e w' => e = .returned (.bool (wi 0 1 who && progB te cy l.length)) ∧ w = w' := by
  obtain ⟨a, cap, rfl, _⟩ := id hv
  clear hv
  have HR : Hid ((wi 0 1 who && progB te cy l.length) = true ↔ (0 ≤ who ∧ who ≤ 1) ∧ (0 ≤ te ∧ te ≤ 1000000) ∧ (0 ≤ cy ∧ cy ≤ 999999999) ∧ l.length ≤ 20000) := hidI (by simp [progB, wi_iff])
  generalize (wi 0 1 who && progB te cy l.length) = R at *
  have no : ∀ (X : Value), ¬ ((0 ≤ who ∧ who ≤ 1) ∧ (0 ≤ te ∧ te ≤ 1000000) ∧ (0 ≤ cy ∧ cy ≤ 999999999) ∧ l.length ≤ 20000) → R = false := fun _ h => by
    cases R
    · rfl
    · exact absurd (HR.out.1 rfl) h
  have HNO := hidI (no undef)
  clear no
  go_enter Try.func38, Try.ntmps38
  have hw : who = 0 ∨ who = 1 ∨ (who ≠ 0 ∧ who ≠ 1) := by omega
  rcases hw with h0 | h0 | ⟨h0, h1⟩
  case inr.inr =>
    have e0 : (who == 0) = false := by simpa using h0
    have e1 : (who == 1) = false := by simpa using h1
    have hR := HNO.out (by omega)
    subst hR
    go_wp2
    go_ret
    exact ⟨rfl, rfl⟩
  all_goals (
    subst h0
    by_cases k1 : 0 ≤ te
    case neg =>
      have k1' : te < 0 := by omega
      have hR := HNO.out (by omega)
      subst hR
      go_wp2
      go_ret
      exact ⟨rfl, rfl⟩
    by_cases k2 : te ≤ 1000000
    case neg =>
      have k2' : 1000000 < te := by omega
      have hR := HNO.out (by omega)
      subst hR
      go_wp2
      go_ret
      exact ⟨rfl, rfl⟩
    by_cases k3 : 0 ≤ cy
    case neg =>
      have k3' : cy < 0 := by omega
      have hR := HNO.out (by omega)
      subst hR
      go_wp2
      go_ret
      exact ⟨rfl, rfl⟩
    by_cases k4 : cy ≤ 999999999
    case neg =>
      have k4' : 999999999 < cy := by omega
      have hR := HNO.out (by omega)
      subst hR
      go_wp2
      go_ret
      exact ⟨rfl, rfl⟩
    by_cases k5 : l.length ≤ 20000
    case neg =>
      have k5' : ¬ ((l.length : Int) ≤ 20000) := by omega
      have hR := HNO.out (by omega)
      subst hR
      go_wp2
      go_ret
      exact ⟨ret_bool (by first | rfl | simp [k5']), rfl⟩
    have k5' : ((l.length : Int) ≤ 20000) := by omega
    have hR := HR.out.2 (by omega)
    subst hR
    go_wp2
    go_ret
    exact ⟨ret_bool (by first | rfl | simp [k5']), rfl⟩)
set_option maxRecDepth 10000 in
set_option maxHeartbeats 1000000 in
theorem stand_any (L : Sd) (v : Value) (w : World) (hv : rd w v L.im) : Calls Try.prog 35 #[sdV L v] w fun e w' => e = .returned (.bool (canS L)) ∧ w.grownBy w' none := by
  obtain ⟨va, vc, rfl, _⟩ := id hv
  obtain ⟨p, hp⟩ : ∃ p, w.heap.size = p := ⟨_, rfl⟩
  have B1 : (w.alloc (.cells #[.int .i64 L.me, .bool L.ac, .int .i64 L.te, .int .i64 L.cy, .slice va L.im.length vc, .int .i64 L.si, .int .i64 L.pa] 24)).heap[p]? = some (.cells #[.int .i64 L.me, .bool L.ac, .int .i64 L.te, .int .i64 L.cy, .slice va L.im.length vc, .int .i64 L.si, .int .i64 L.pa] 24) := hp_new hp.symm _
  have hgW : w.grownBy (w.alloc (.cells #[.int .i64 L.me, .bool L.ac, .int .i64 L.te, .int .i64 L.cy, .slice va L.im.length vc, .int .i64 L.si, .int .i64 L.pa] 24)) none := gr_alloc (World.grownBy.refl _ _) _
  have c1 := tell_any L.me L.te L.cy L.im _ _ (rd_grown hv hgW)
  have HR : Hid (canS L = true ↔ (wi 0 1 L.me && progB L.te L.cy L.im.length) = true ∧ (1 ≤ L.pa ∧ L.pa ≤ 1000) ∧ 0 ≤ L.si ∧ L.si < L.pa ∧ (L.ac = true → L.si = 0)) := hidI (canS_iff L)
  generalize canS L = R at *
  generalize (wi 0 1 L.me && progB L.te L.cy L.im.length) = D at *
  have no : ¬ (D = true ∧ (1 ≤ L.pa ∧ L.pa ≤ 1000) ∧ 0 ≤ L.si ∧ L.si < L.pa ∧ (L.ac = true → L.si = 0)) → R = false := fun h => by
    cases R
    · rfl
    · exact absurd (HR.out.1 rfl) h
  have HNO := hidI no
  clear no
  dsimp only [sdV, sdA] at *
  go_enter Try.func35, Try.ntmps35
  go_upto_region 1 with fail
  clear hp
  generalize w.alloc (.cells #[.int .i64 L.me, .bool L.ac, .int .i64 L.te, .int .i64 L.cy, .slice va L.im.length vc, .int .i64 L.si, .int .i64 L.pa] 24) = W at *
  obtain ⟨i0, i1, i2, i3, i4, i5, i6⟩ := at7 B1
  have HW := hidI hgW
  clear B1 hgW hv
  obtain ⟨me, ac, te, cy, im, si, pa⟩ := L
  dsimp only at *
  go_wp2_with fail
  refine c1.mono ?_
  rintro e w' ⟨rfl, rfl⟩
  cases D with
  | false =>
    have hR := HNO.out (by simp)
    subst hR
    go_wp2
    go_ret
    exact ⟨rfl, HW.out⟩
  | true =>
  clear c1
  by_cases k1 : 1 ≤ pa
  case neg =>
    have k1' : pa < 1 := by omega
    have hR := HNO.out (by omega)
    subst hR
    go_wp2
    go_ret
    exact ⟨rfl, HW.out⟩
  have k1' : ¬ pa < 1 := by omega
  by_cases k2 : pa ≤ 1000
  case neg =>
    have k2' : 1000 < pa := by omega
    have hR := HNO.out (by omega)
    subst hR
    go_wp2
    go_ret
    exact ⟨rfl, HW.out⟩
  have k2' : ¬ 1000 < pa := by omega
  by_cases k3 : 0 ≤ si
  case neg =>
    have k3' : si < 0 := by omega
    have hR := HNO.out (by omega)
    subst hR
    go_wp2
    go_ret
    exact ⟨rfl, HW.out⟩
  have k3' : ¬ si < 0 := by omega
  by_cases k4 : si < pa
  case neg =>
    have k4' : pa ≤ si := by omega
    have hR := HNO.out (by omega)
    subst hR
    go_wp2
    go_ret
    exact ⟨rfl, HW.out⟩
  have k4' : ¬ pa ≤ si := by omega
  cases ac with
  | false =>
    have hR := HR.out.2 ⟨rfl, ⟨k1, k2⟩, k3, k4, by simp⟩
    subst hR
    clear HR HNO
    go_wp2
    go_ret
    exact ⟨rfl, HW.out⟩
  | true =>
  by_cases k5 : si = 0
  · subst k5
    have hR := HR.out.2 ⟨rfl, ⟨k1, k2⟩, k3, k4, by simp⟩
    subst hR
    clear HR HNO
    go_wp2
    go_ret
    exact ⟨rfl, HW.out⟩
  · have e5 : (si == 0) = false := by simpa using k5
    have hR := HNO.out (by simp [k5])
    subst hR
    clear HR HNO
    go_wp2
    go_ret
    exact ⟨rfl, HW.out⟩
def refV (E : Nat) (v : Value) : Value := if E = 0 then v else .slice none 0 0
set_option maxRecDepth 10000 in
set_option maxHeartbeats 1000000 in
theorem sided_any (me pa : Int) (l : List Int) (v : Value) (w : World) (hv : rd w v l) : Calls Try.prog 9 #[.int .i64 me, .int .i64 pa, v] w fun e w' => RfE w w' e (startS me pa l) (refV (startE me pa l.length) v) (startE me pa l.length) := by
  obtain ⟨va, vc, rfl, _⟩ := id hv
  obtain ⟨p, hp⟩ : ∃ p, w.heap.size = p := ⟨_, rfl⟩
  have B1 : (w.alloc (.cells #[.int .i64 0, .bool false, .int .i64 0, .int .i64 0, .slice none 0 0, .int .i64 0, .int .i64 0] 24)).heap[p]? = some (.cells #[.int .i64 0, .bool false, .int .i64 0, .int .i64 0, .slice none 0 0, .int .i64 0, .int .i64 0] 24) := hp_new hp.symm _
  have hgW : w.grownBy (w.alloc (.cells #[.int .i64 0, .bool false, .int .i64 0, .int .i64 0, .slice none 0 0, .int .i64 0, .int .i64 0] 24)) none := gr_alloc (World.grownBy.refl _ _) _
  have HE : Hid (startE me pa l.length = if (0 ≤ me ∧ me ≤ 1) ∧ 1 ≤ pa ∧ pa ≤ 1000 then (if l.length ≤ 20000 then 0 else 4) else 3) := hidI (by simp [startE, wi_iff])
  have HS : Hid (startS me pa l = if startE me pa l.length = 0 then ⟨me, decide (me = 0), 0, 0, l, 0, pa⟩ else zeroS) := hidI rfl
  generalize startS me pa l = RR at *
  generalize startE me pa l.length = EE at *
  go_enter Try.func9, Try.ntmps9
  go_upto_region 1 with fail
  have HP := hidI hp
  clear hp
  generalize w.alloc (.cells #[.int .i64 0, .bool false, .int .i64 0, .int .i64 0, .slice none 0 0, .int .i64 0, .int .i64 0] 24) = W at *
  obtain ⟨i0, i1, i2, i3, i4, i5, i6⟩ := at7 B1
  obtain ⟨f0, f1, f2, f3, f4, f5, f6⟩ := fz7 B1
  have HX := hidI (And.intro B1 hgW)
  clear B1 hgW hv
  by_cases h1 : (0 ≤ me ∧ me ≤ 1) ∧ 1 ≤ pa ∧ pa ≤ 1000
  case neg =>
    have hE := HE.out
    rw [if_neg h1] at hE
    subst hE
    have hS := HS.out
    rw [if_neg (by decide)] at hS
    subst hS
    have h5 : me < 0 ∨ (¬ me < 0 ∧ 1 < me) ∨ (¬ me < 0 ∧ ¬ 1 < me ∧ pa < 1) ∨ (¬ me < 0 ∧ ¬ 1 < me ∧ ¬ pa < 1 ∧ 1000 < pa) := by omega
    clear h1 HE HS
    rcases h5 with h5 | ⟨h5, h6⟩ | ⟨h5, h6, h7⟩ | ⟨h5, h6, h7, h8⟩
    all_goals (
      go_wp2
      obtain ⟨B1, hgW⟩ := HX.out
      refine bodyPost_ret (results2 rfl _ _ p zeroS (.slice none 0 0) rfl (box7 B1)) rfl ?_
      exact ⟨rfl, gr7n hgW (by rw [HP.out]; exact Nat.le_refl _)⟩)
  obtain ⟨⟨m1, m2⟩, m3, m4⟩ := id h1
  have t1 : ¬ me < 0 := by omega
  have t2 : ¬ 1 < me := by omega
  have t3 : ¬ pa < 1 := by omega
  have t4 : ¬ 1000 < pa := by omega
  have hE := HE.out
  rw [if_pos h1] at hE
  clear HE h1
  by_cases h2 : l.length ≤ 20000
  case neg =>
    have k2 : (20000 : Int) < (l.length : Int) := by omega
    rw [if_neg h2] at hE
    subst hE
    have hS := HS.out
    rw [if_neg (by decide)] at hS
    subst hS
    clear HS
    go_wp2
    obtain ⟨B1, hgW⟩ := HX.out
    refine bodyPost_ret (results2 rfl _ _ p zeroS (.slice none 0 0) rfl (box7 B1)) rfl ?_
    exact ⟨rfl, gr7n hgW (by rw [HP.out]; exact Nat.le_refl _)⟩
  have k2 : ¬ (20000 : Int) < (l.length : Int) := by omega
  rw [if_pos h2] at hE
  subst hE
  have hS := HS.out
  rw [if_pos rfl] at hS
  subst hS
  clear HS
  go_wp2
  obtain ⟨B1, hgW⟩ := HX.out
  refine bodyPost_ret (results2 rfl _ _ p ⟨me, decide (me = 0), 0, 0, l, 0, pa⟩ (.slice va l.length vc) rfl (box7 B1)) rfl ?_
  exact ⟨rfl, gr7n hgW (by rw [HP.out]; exact Nat.le_refl _)⟩
end Go.Proofs.Ytnklkhcldcljaaa
