/- What is wrong with a guard, its votes aside. -/
import Derived.Test.YtefekafpmnaeoaaC
import Derived.Deep.Cut
import Derived.Deep.CutRange
import Derived.Deep.CutBlock
namespace Go.Proofs.Ytefekafpmnaeoaa
open Go.RowKit
attribute [local go_sem ↓] Go.wp_at_zero Go.wp_at_succ
set_option linter.unusedVariables false
set_option linter.unusedSimpArgs false

/-- Votes that can be read. -/
def rdVs (w : World) (v : Value) (l : List (Int × List Int)) : Prop :=
  ∃ a cap, v = .slice a l.length cap ∧ (l = [] ∨ ∃ b off, a = some ⟨b, off, none⟩ ∧ ∀ i, i < l.length → ∃ u, w.cell? ⟨b, off + i * 2, none⟩ = some (.int .i64 (l.getD i (0, [])).1) ∧ w.cell? ⟨b, off + i * 2 + 1, none⟩ = some u ∧ rd w u (l.getD i (0, [])).2)
theorem rdVs_grown {w w' : World} {v : Value} {l : List (Int × List Int)} (h : rdVs w v l) (hg : w.grownBy w' none) : rdVs w' v l := by
  obtain ⟨a, cap, rfl, h | ⟨b, off, rfl, hc⟩⟩ := h
  · exact ⟨a, cap, rfl, .inl h⟩
  · exact ⟨_, cap, rfl, .inr ⟨b, off, rfl, fun i hi => by
      obtain ⟨u, h1, h2, h3⟩ := hc i hi
      exact ⟨u, hg.cell h1 (by simp), hg.cell h2 (by simp), rd_grown h3 hg⟩⟩⟩

def guardE (se de : Int) (n : Nat) : Nat := if ou 1 64 se || ou 1 16 (n : Int) then 4 else if ou 0 1000 de then 3 else 0
set_option maxHeartbeats 1000000 in
theorem lookAtGuard_any (se de : Int) (a : Option Addr) (n cap : Nat) (w : World) : Calls Try.prog 22 #[.agg #[.int .i64 se, .int .i64 de, .slice a n cap]] w fun e w' => e = .returned (.int .i64 (guardE se de n : Int)) ∧ w.grownBy w' none := by
  have hg0 : w.grownBy (w.alloc (.cells #[.int .i64 se, .int .i64 de, .slice a n cap] 24)) none := gr_alloc (World.grownBy.refl _ _) _
  obtain ⟨p, hp⟩ : ∃ p, w.heap.size = p := ⟨_, rfl⟩
  have hW : (w.alloc (.cells #[.int .i64 se, .int .i64 de, .slice a n cap] 24)).heap[p]? = some (.cells #[.int .i64 se, .int .i64 de, .slice a n cap] 24) := hp_new hp.symm _
  go_enter Try.func22, Try.ntmps22
  go_upto_region 1 with fail
  generalize w.alloc (.cells #[.int .i64 se, .int .i64 de, .slice a n cap] 24) = W at *
  clear hp
  have HW := hidI (And.intro hW hg0)
  clear hW hg0
  go_wp2_with fail
  refine (outside_any 1 64 _).mono ?_
  rintro e w1 ⟨p1, q1, rfl, o1, g1⟩
  go_wp2_with fail
  refine (outside_any 1 16 _).mono ?_
  rintro e w2 ⟨p2, q2, rfl, o2, g2⟩
  go_wp2_with fail
  refine (outside_any 0 1000 _).mono ?_
  rintro e w3 ⟨p3, q3, rfl, o3, g3⟩
  have g23 := grown_join g2 g3 (.inl rfl)
  have g13 := grown_join g1 g23 (.inl rfl)
  have hW3 := kept g13 HW.out.1
  have HG3 := hidI (grown_join HW.out.2 g13 (.inl rfl))
  have c1 := out_any 1 64 se p1 q1 w3 (o1.grown g23)
  have c2 := out_any 1 16 (n : Int) p2 q2 w3 (o2.grown g3)
  have c3 := out_any 0 1000 de p3 q3 w3 o3
  have y0 : w3.cell? ⟨p, 0, none⟩ = some (.int .i64 se) := at_cell hW3 0
  have y1 : w3.cell? ⟨p, 1, none⟩ = some (.int .i64 de) := at_cell hW3 1
  have y2 : w3.cell? ⟨p, 2, none⟩ = some (.slice a n cap) := at_cell hW3 2
  clear o1 o2 o3 g1 g2 g3 g23 g13 hW3 HW
  cases h1 : ou 1 64 se with
  | true =>
    simp only [h1] at c1
    go_wp2_with fail
    refine c1.mono ?_
    rintro e w' ⟨rfl, rfl⟩
    go_wp2
    go_ret
    exact ⟨ret_int (by simp [guardE, *]), HG3.out⟩
  | false =>
  simp only [h1] at c1
  cases h2 : ou 1 16 (n : Int) with
  | true =>
    simp only [h2] at c2
    go_wp2_with fail
    refine c1.mono ?_
    rintro e w' ⟨rfl, rfl⟩
    go_wp2_with fail
    refine c2.mono ?_
    rintro e w' ⟨rfl, rfl⟩
    go_wp2
    go_ret
    exact ⟨ret_int (by simp [guardE, *]), HG3.out⟩
  | false =>
  simp only [h2] at c2
  cases h3 : ou 0 1000 de with
  | true =>
    simp only [h3] at c3
    go_wp2_with fail
    refine c1.mono ?_
    rintro e w' ⟨rfl, rfl⟩
    go_wp2_with fail
    refine c2.mono ?_
    rintro e w' ⟨rfl, rfl⟩
    go_wp2_with fail
    refine c3.mono ?_
    rintro e w' ⟨rfl, rfl⟩
    go_wp2
    go_ret
    exact ⟨ret_int (by simp [guardE, *]), HG3.out⟩
  | false =>
  simp only [h3] at c3
  go_wp2_with fail
  refine c1.mono ?_
  rintro e w' ⟨rfl, rfl⟩
  go_wp2_with fail
  refine c2.mono ?_
  rintro e w' ⟨rfl, rfl⟩
  go_wp2_with fail
  refine c3.mono ?_
  rintro e w' ⟨rfl, rfl⟩
  go_wp2
  go_ret
  exact ⟨ret_int (by simp [guardE, *]), HG3.out⟩
end Go.Proofs.Ytefekafpmnaeoaa
