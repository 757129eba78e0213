/- Links: copied, compared, started. -/
import Derived.Test.YtaiicehifailhabM
import Derived.Deep.Cut
namespace Go.Proofs.Ytaiicehifailhab
open Go.RowKit
attribute [local go_sem ↓] Go.wp_at_zero Go.wp_at_succ
set_option linter.unusedVariables false
set_option linter.unusedSimpArgs false

def startE (st wa : Int) (sa : List Int) : Nat := if wi 0 247 st && wi 1 1000 wa then lookE sa else 3
def zeroL : Lk := ⟨0, 0, [], [], 0, 0, false⟩
def startL (st wa : Int) (sa : List Int) : Lk := if startE st wa sa = 0 then ⟨st, wa, sa, sa, 0, 0, false⟩ else zeroL
/-- A link and an error: what a call tells. -/
def LkE (w w' : World) (e : Ending) (L : Lk) (c : Nat) : Prop := ∃ V, e = .returned (.tuple #[V, .int .i64 (c : Int)]) ∧ LkP w w' L V
theorem LkP.zero {w w' : World} (hg : w.grownBy w' none) : LkP w w' zeroL (lkV zeroL (.slice none 0 0) (.slice none 0 0)) := ⟨none, 0, none, 0, rfl, OwnL.nil _ _, OwnL.nil _ _, fun x hx => by simp [Value.ownBlock] at hx, hg⟩
set_option maxHeartbeats 1000000 in
theorem lookAtStart_any (st wa : Int) (sa : List Int) (v : Value) (w : World) (hv : rd w v sa) (hl : sa.length ≤ 17592186044416) : Calls Try.prog 11 #[.int .i64 st, .int .i64 wa, v] w fun e w' => e = .returned (.int .i64 (startE st wa sa : Int)) ∧ w = w' := by
  have c1 := within_any st 0 247
  have c2 := within_any wa 1 1000
  have cL := lookAt_any sa v w hv hl
  obtain ⟨a, cap, rfl, _⟩ := id hv
  unfold startE
  cases h1 : wi 0 247 st with
  | false =>
    simp only [h1] at c1
    simp only [Bool.false_and]
    rw [if_neg (by simp)]
    go_enter Try.func11, Try.ntmps11
    go_wp2_with fail
    refine (c1 _).mono ?_
    rintro e w' ⟨rfl, rfl⟩
    go_wp2
    go_ret
    exact ⟨rfl, rfl⟩
  | true =>
  simp only [h1] at c1
  cases h2 : wi 1 1000 wa with
  | false =>
    simp only [h2] at c2
    rw [if_neg (by simp)]
    go_enter Try.func11, Try.ntmps11
    go_wp2_with fail
    refine (c1 _).mono ?_
    rintro e w' ⟨rfl, rfl⟩
    go_wp2_with fail
    refine (c2 _).mono ?_
    rintro e w' ⟨rfl, rfl⟩
    go_wp2
    go_ret
    exact ⟨rfl, rfl⟩
  | true =>
  simp only [h2] at c2
  rw [if_pos (by simp)]
  go_enter Try.func11, Try.ntmps11
  go_wp2_with fail
  refine (c1 _).mono ?_
  rintro e w' ⟨rfl, rfl⟩
  go_wp2_with fail
  refine (c2 _).mono ?_
  rintro e w' ⟨rfl, rfl⟩
  go_wp2_with fail
  refine cL.mono ?_
  rintro e w' ⟨rfl, rfl⟩
  go_wp2
  go_ret
  exact ⟨rfl, rfl⟩
theorem startE_ok {st wa : Int} {sa : List Int} (h : startE st wa sa = 0) : sa.length ≤ 60 := by
  unfold startE lookE at h
  split at h
  · split at h <;> omega
  · omega
set_option maxRecDepth 10000 in
set_option maxHeartbeats 1000000 in
theorem start_any (st wa : Int) (sa : List Int) (v : Value) (w : World) (hv : rd w v sa) (hl : sa.length ≤ 17592186043904) : Calls Try.prog 6 #[.int .i64 st, .int .i64 wa, v] w fun e w' => LkE w w' e (startL st wa sa) (startE st wa sa) := by
  obtain ⟨p, hp⟩ : ∃ p, w.heap.size = p := ⟨_, rfl⟩
  have hW : (w.alloc (.cells #[.int .i64 0, .int .i64 0, .slice none 0 0, .slice none 0 0, .int .i64 0, .int .i64 0, .bool false] 26)).heap[p]? = some (.cells #[.int .i64 0, .int .i64 0, .slice none 0 0, .slice none 0 0, .int .i64 0, .int .i64 0, .bool false] 26) := hp_new hp.symm _
  have hgW : w.grownBy (w.alloc (.cells #[.int .i64 0, .int .i64 0, .slice none 0 0, .slice none 0 0, .int .i64 0, .int .i64 0, .bool false] 26)) none := gr_alloc (World.grownBy.refl _ _) _
  have cL := lookAtStart_any st wa sa v _ (rd_grown hv hgW) (by omega)
  have cC := copied_any ⟨st, wa, sa, sa, 0, 0, false⟩ v v _ ⟨rd_grown hv hgW, rd_grown hv hgW⟩ hl hl
  obtain ⟨a, cap, rfl, _⟩ := id hv
  go_enter Try.func6, Try.ntmps6
  go_upto_region 1 with fail
  have HP := hidI hp
  clear hp
  generalize w.alloc (.cells #[.int .i64 0, .int .i64 0, .slice none 0 0, .slice none 0 0, .int .i64 0, .int .i64 0, .bool false] 26) = W at *
  obtain ⟨j0, j1, j2, j3, j4, j5, j6⟩ := at7 hW
  obtain ⟨f0, f1, f2, f3, f4, f5, f6⟩ := fz7 hW
  have HW := hidI (And.intro hW hgW)
  clear hW hgW hv
  go_wp2_with fail
  refine cL.mono ?_
  rintro e w' ⟨rfl, rfl⟩
  by_cases hE : startE st wa sa = 0
  case neg =>
    have HS : Hid (startL st wa sa = zeroL) := hidI (by unfold startL; rw [if_neg hE])
    obtain ⟨E, hEE⟩ : ∃ E, startE st wa sa = E := ⟨_, rfl⟩
    have HE := hidI hEE
    rw [hEE] at hE ⊢
    have i3 : ¬ ((E : Int) = 0) := by omega
    clear hEE
    go_wp2
    obtain ⟨hW, hgW⟩ := HW.out
    refine bodyPost_ret (results2 rfl _ _ p zeroL (.slice none 0 0) (.slice none 0 0) rfl (box7 hW)) rfl ?_
    rw [HS.out, HE.out]
    exact ⟨_, rfl, LkP.zero (gr7n hgW (by rw [HP.out]; exact Nat.le_refl _))⟩
  have HS : Hid (startL st wa sa = ⟨st, wa, sa, sa, 0, 0, false⟩) := hidI (by unfold startL; rw [if_pos hE])
  have HE := hidI hE
  rw [hE]
  clear hE cL
  dsimp only [lkV, lkA] at cC
  go_wp2_with fail
  refine cC.mono ?_
  rintro e w1 ⟨V, rfl, a1, c1, a2, c2, rfl, o1, o2, e6, g1⟩
  obtain ⟨hW, hgW⟩ := HW.out
  have hW1 := kept g1 hW
  have hpW := at_lt hW
  dsimp only [lkV, lkA] at *
  clear j0 j1 j2 j3 j4 j5 j6 f0 f1 f2 f3 f4 f5 f6 hW
  obtain ⟨j0, j1, j2, j3, j4, j5, j6⟩ := at7 hW1
  obtain ⟨f0, f1, f2, f3, f4, f5, f6⟩ := fz7 hW1
  have HH := hidI (And.intro hW1 (And.intro o1 (And.intro o2 (And.intro e6 (And.intro (grown_join hgW g1 (.inl rfl)) (And.intro hpW hgW.size))))))
  clear hW1 o1 o2 e6 g1 hpW cC hgW
  go_wp2
  obtain ⟨hW1, o1, o2, e6, g1, hpW, hs⟩ := HH.out
  refine bodyPost_ret (results2 rfl _ _ p ⟨st, wa, sa, sa, 0, 0, false⟩ (.slice a1 sa.length c1) (.slice a2 sa.length c2) rfl (box7 hW1)) rfl ?_
  rw [HS.out, HE.out]
  have hp := HP.out
  exact ⟨_, rfl, a1, c1, a2, c2, rfl, own_low (own_but o1 (gr7 (World.grownBy.refl _ _)) (by omega)) (by omega), own_low (own_but o2 (gr7 (World.grownBy.refl _ _)) (by omega)) (by omega), e6, gr7n g1 (by omega)⟩
end Go.Proofs.Ytaiicehifailhab
