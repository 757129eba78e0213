/- Play, whatever it is asked. -/
import Derived.Test.YtholmeebkgpjjaaT
namespace Go.Proofs.Ytholmeebkgpjjaa
open Go.RowKit Go.Shelf
attribute [local go_sem ↓] Go.wp_at_zero Go.wp_at_succ
set_option linter.unusedVariables false
set_option linter.unusedSimpArgs false
set_option maxHeartbeats 4000000 in
theorem play_any (l : List Tk) (v : Value) (u : Int) (w : World) (hm : l.length ≤ maxLen) (hv : TsAt w v l) :
    Calls Try.prog 14 #[v, .int .i64 u] w fun e w' => PlayP w w' e (playS l u) := by
  by_cases hk : (lookS l).1 = 0
  · by_cases hu : u < 0 ∨ 20000 < u
    · obtain ⟨a, cap, rfl, hcap, _⟩ := id hv
      have cL : ∀ W, w.grownBy W none → Calls Try.prog 24 #[.slice a l.length cap] W fun e w' => e = .returned (flV (lookS l)) ∧ W.grownBy w' none := fun W hW => lookAt_any l _ W hm (hv.grown hW)
      unfold maxLen at hm
      obtain ⟨h16, h1, hok⟩ := look_fine hk
      have hp : playS l u = ([], 4, 0) := by unfold playS; rw [if_neg (by simp [hk]), if_pos hu]
      rw [hp]
      rw [look_zero h16 h1 hok] at cL
      unfold flV at cL
      dsimp only at cL
      have hin : inB u 0 20000 = false := by unfold inB; simp; omega
      go_enter Try.func14, Try.ntmps14
      go_wp2_with (first | (go_at_call 24; refine (cL _ (gr_alloc (gr_alloc (World.grownBy.refl _ _) _) _)).mono ?_; rintro e w1 ⟨rfl, hg1⟩; have hub : w1.heap[w.heap.size]? = some (.cells #[.int .i64 u] 3) := (kept hg1 ((hp_old (by simp) _).trans (heap_alloc_new w _))); have hfb : w1.heap[w.heap.size + 1]? = some (.cells #[.int .i64 0, .int .i64 0, .int .i64 0] 26) := (kept hg1 (hp_new (by simp) _)); have hul := at_lt hub; have hfl := at_lt hfb; have uc : w1.cell? ⟨w.heap.size, 0, none⟩ = some (.int .i64 u) := (at_cell hub 0); have f0 : w1.cell? ⟨w.heap.size + 1, 0, none⟩ = some (.int .i64 0) := at_cell hfb 0; have f1 : w1.cell? ⟨w.heap.size + 1, 1, none⟩ = some (.int .i64 0) := at_cell hfb 1; have f2 : w1.cell? ⟨w.heap.size + 1, 2, none⟩ = some (.int .i64 0) := at_cell hfb 2; have ff : ∀ i, w1.frozen? ⟨w.heap.size + 1, i, none⟩ = false := fun i => at_frozen hfb i) | (go_at_call 27; refine (within_any _ _ _ _).mono ?_; rintro e w' ⟨rfl, rfl⟩))
      have hgw : w.grownBy w1 none := grown_join (gr_alloc (gr_alloc (World.grownBy.refl _ _) _) _) hg1 (.inl rfl)
      refine bodyPost_ret (v := .tuple #[.slice none 0 0, .agg #[.int .i64 4, .int .i64 0, .int .i64 0]]) (by simp [results, Try.results14, go_sem, f0, f1, f2, hfl]) rfl ?_
      exact ⟨none, 0, rfl, World.ownsRow_nil _ _ _ _, gr_alloc (gr_own (gr_own (gr_own hgw (Nat.le_succ _) _ _) (Nat.le_succ _) _ _) (Nat.le_succ _) _ _) _⟩
    · have hp : playS l u = ((doc l u.toNat).2, 0, 0) := by unfold playS; rw [if_neg (by simp [hk]), if_neg hu]
      rw [hp]
      exact play_runs l v u w hm hv hk (by omega) (by omega)
  · obtain ⟨a, cap, rfl, hcap, _⟩ := id hv
    have cL : ∀ W, w.grownBy W none → Calls Try.prog 24 #[.slice a l.length cap] W fun e w' => e = .returned (flV (lookS l)) ∧ W.grownBy w' none := fun W hW => lookAt_any l _ W hm (hv.grown hW)
    unfold maxLen at hm
    have hp : playS l u = ([], lookS l) := by unfold playS; rw [if_pos (by simp [hk])]
    rw [hp]
    generalize lookS l = p at *
    obtain ⟨c, n⟩ := p
    unfold flV at cL
    dsimp only at *
    have hne : (c != 0) = true := by simp [hk]
    clear hk
    go_enter Try.func14, Try.ntmps14
    go_wp2_with (first | (go_at_call 24; refine (cL _ (gr_alloc (gr_alloc (World.grownBy.refl _ _) _) _)).mono ?_; rintro e w1 ⟨rfl, hg1⟩; have hub : w1.heap[w.heap.size]? = some (.cells #[.int .i64 u] 3) := (kept hg1 ((hp_old (by simp) _).trans (heap_alloc_new w _))); have hfb : w1.heap[w.heap.size + 1]? = some (.cells #[.int .i64 0, .int .i64 0, .int .i64 0] 26) := (kept hg1 (hp_new (by simp) _)); have hul := at_lt hub; have hfl := at_lt hfb; have uc : w1.cell? ⟨w.heap.size, 0, none⟩ = some (.int .i64 u) := (at_cell hub 0); have f0 : w1.cell? ⟨w.heap.size + 1, 0, none⟩ = some (.int .i64 0) := at_cell hfb 0; have f1 : w1.cell? ⟨w.heap.size + 1, 1, none⟩ = some (.int .i64 0) := at_cell hfb 1; have f2 : w1.cell? ⟨w.heap.size + 1, 2, none⟩ = some (.int .i64 0) := at_cell hfb 2; have ff : ∀ i, w1.frozen? ⟨w.heap.size + 1, i, none⟩ = false := fun i => at_frozen hfb i))
    go_region
    go_wp2
    have hgw : w.grownBy w1 none := grown_join (gr_alloc (gr_alloc (World.grownBy.refl _ _) _) _) hg1 (.inl rfl)
    refine bodyPost_ret (v := .tuple #[.slice none 0 0, .agg #[.int .i64 c, .int .i64 n, .int .i64 0]]) (by simp [results, Try.results14, go_sem, f0, f1, f2, hfl]) rfl ?_
    exact ⟨none, 0, rfl, World.ownsRow_nil _ _ _ _, gr_drew (gr_alloc (gr_own (gr_own (gr_own hgw (Nat.le_succ _) _ _) (Nat.le_succ _) _ _) (Nat.le_succ _) _ _) _)⟩
end Go.Proofs.Ytholmeebkgpjjaa
