/- Played, the document's, whatever it is asked. -/
import Derived.Test.YtholmeebkgpjjaaU
namespace Go.Proofs.Ytholmeebkgpjjaa
open Go.RowKit Go.Shelf
attribute [local go_sem ↓] Go.wp_at_zero Go.wp_at_succ
set_option linter.unusedVariables false
set_option linter.unusedSimpArgs false
set_option maxRecDepth 20000 in
set_option maxHeartbeats 4000000 in
theorem played_any (l : List Tk) (v : Value) (u : Int) (w : World) (hm : l.length ≤ maxLen) (hv : TsAt w v l) :
    Calls Try.prog 13 #[v, .int .i64 u] w fun e w' => PlayP w w' e (playS l u) := by
  by_cases hk : (lookS l).1 = 0
  · by_cases hu : u < 0 ∨ 20000 < u
    · obtain ⟨a, cap, rfl, hcap, _⟩ := id hv
      have cL : ∀ W, w.grownBy W none → Calls Try.prog 20 #[.slice a l.length cap] W fun e w' => e = .returned (flV (lookS l)) ∧ W.grownBy w' none := fun W hW => tasked_any l _ W hm (hv.grown hW)
      unfold maxLen at hm
      obtain ⟨h16, h1, hok⟩ := look_fine hk
      have hp : playS l u = ([], 4, 0) := by unfold playS; rw [if_neg (by simp [hk]), if_pos hu]
      rw [hp]
      rw [look_zero h16 h1 hok] at cL
      unfold flV at cL
      dsimp only at cL
      by_cases hu' : u < 0
      all_goals
        go_enter Try.func13, Try.ntmps13
        go_wp2_with (first | (go_at_call 20; refine (cL _ (gr_alloc (World.grownBy.refl _ _) _)).mono ?_; rintro e w1 ⟨rfl, hg1⟩; obtain ⟨hlt, f0, f1, f2, z0, z1, z2, hgw⟩ := flt hg1))
        refine bodyPost_ret (v := .tuple #[.slice none 0 0, .agg #[.int .i64 4, .int .i64 0, .int .i64 0]]) (by simp [results, Try.results13, go_sem, f0, f1, f2, hlt]) rfl ?_
        exact ⟨none, 0, rfl, World.ownsRow_nil _ _ _ _, gr_alloc (gr_own (gr_own (gr_own hgw (Nat.le_refl _) _ _) (Nat.le_refl _) _ _) (Nat.le_refl _) _ _) _⟩
    · have hp : playS l u = ((doc l u.toNat).2, 0, 0) := by unfold playS; rw [if_neg (by simp [hk]), if_neg hu]
      rw [hp]
      exact played_runs l v u w hm hv hk (by omega) (by omega)
  · obtain ⟨a, cap, rfl, hcap, _⟩ := id hv
    have cL : ∀ W, w.grownBy W none → Calls Try.prog 20 #[.slice a l.length cap] W fun e w' => e = .returned (flV (lookS l)) ∧ W.grownBy w' none := fun W hW => tasked_any l _ W hm (hv.grown hW)
    unfold maxLen at hm
    have hp : playS l u = ([], lookS l) := by unfold playS; rw [if_pos (by simp [hk])]
    rw [hp]
    generalize lookS l = p at *
    obtain ⟨c, n⟩ := p
    unfold flV at cL
    dsimp only at *
    have hne : (c != 0) = true := by simp [hk]
    clear hk
    go_enter Try.func13, Try.ntmps13
    go_wp2_with (first | (go_at_call 20; refine (cL _ (gr_alloc (World.grownBy.refl _ _) _)).mono ?_; rintro e w1 ⟨rfl, hg1⟩; obtain ⟨hlt, f0, f1, f2, z0, z1, z2, hgw⟩ := flt hg1))
    go_region
    go_wp2
    refine bodyPost_ret (v := .tuple #[.slice none 0 0, .agg #[.int .i64 c, .int .i64 n, .int .i64 0]]) (by simp [results, Try.results13, go_sem, f0, f1, f2, hlt]) rfl ?_
    exact ⟨none, 0, rfl, World.ownsRow_nil _ _ _ _, gr_drew (gr_alloc (gr_own (gr_own (gr_own hgw (Nat.le_refl _) _ _) (Nat.le_refl _) _ _) (Nat.le_refl _) _ _) _)⟩
end Go.Proofs.Ytholmeebkgpjjaa
