/- Plain facts for the document's step. -/
import Derived.Test.YtefekafpmnaeoaaW
import Derived.Test.YtefekafpmnaeoaaR
namespace Go.Proofs.Ytefekafpmnaeoaa
open Go.RowKit
attribute [local go_sem ↓] Go.wp_at_zero Go.wp_at_succ
set_option linter.unusedVariables false
set_option linter.unusedSimpArgs false

theorem ixOf_snoc (l : List Int) (x y : Int) : ixOf (l ++ [x]) y = if ixOf l y = -1 then (if x = y then (l.length : Int) else -1) else ixOf l y := by
  induction l with
  | nil => simp [ixOf]
  | cons z l ih =>
    simp only [List.cons_append, ixOf, ih, List.length_cons]
    have hg := ixOf_ge l y
    by_cases h1 : z = y
    · rw [if_pos h1, if_pos h1]; simp
    · rw [if_neg h1, if_neg h1]
      by_cases h2 : ixOf l y = -1
      · rw [if_pos h2, if_pos h2, if_pos rfl]
        by_cases h3 : x = y
        · rw [if_pos h3, if_pos h3, if_neg (by omega)]; simp
        · rw [if_neg h3, if_neg h3, if_pos rfl]
      · rw [if_neg h2, if_neg h2, if_neg (by omega)]
/-- One number more, and what becomes of the rest. -/
theorem own_plus {B : Nat} {w : World} {a : Option Addr} {cap : Nat} {l : List Int} (h : OwnL B w a cap l) (x : Int) (hl : l.length ≤ 1000000) (hB : B ≤ w.heap.size) :
    ∃ a' cap' w', (Builtin.append_ #[26, 26] 26 #[.slice a l.length cap, .slice (some ⟨w.heap.size, 0, none⟩) 1 1]).run Try.prog (w.alloc (.cells #[.int .i64 x] 3)) = .ok (.slice a' (l.length + 1) cap') w' ∧
      OwnL B w' a' cap' (l ++ [x]) ∧ w.grownBy w' (Value.slice a l.length cap).ownBlock ∧ ∀ y, (Value.slice a l.length cap).ownBlock = some y → B ≤ y := by
  obtain ⟨i0, hi, hz0, hz1, hz2⟩ := info_parts info3
  obtain ⟨v', w', r1, r2, r3, r4, r5⟩ := run_append_own_at (P := Try.prog) (w.alloc (.cells #[.int .i64 x] 3)) B 26 26 3 i0 _ 1 8 Try.underlying26 hi hz0 hz1 hz2 rfl (by omega) _ _ _ (World.ownsRow.alloc h _) ⟨w.heap.size, 0, none⟩ 1 1 [.int .i64 x] rfl
    (fun j u hj => by
      rw [addn, at_cell (heap_alloc_new w _) (0 + j)]
      simpa using hj)
    (by simp [Value.oneCell']) (by unfold maxLen; omega) (by omega) (by simp; omega)
  have r2' := r2
  obtain ⟨_, ⟨hx, hn⟩ | ⟨g', cap', cur, rfl, _⟩⟩ := r2'
  · omega
  · refine ⟨_, cap', w', r1, ?_, grown_join (gr_alloc (World.grownBy.refl _ _) _) r3 (.inl rfl), fun y hy => (World.ownsRow.lt h y hy).1⟩
    unfold OwnL
    simpa using r2
def okK (de : Int) (n : Nat) (hh : List Int) (k : Nat) : Bool := decide (hh.length = n) && !(hh.take k).any (ou 0 (de + 1))
theorem heldL_take (de : Int) (told : List Int) (l : List (Int × List Int)) (hs : List Int) (k : Nat) (hk : k < l.length) : (heldL de told l hs).take (k + 1) = (heldL de told l hs).take k ++ [heldAt de told l hs k] := by
  rw [List.take_add_one]
  simp [heldL, hk]

theorem heldAt_pos {de : Int} {told : List Int} {l : List (Int × List Int)} {hs : List Int} {k : Nat} (h0 : 0 ≤ de) (hh : 0 ≤ hs.getD k 0) : ou 0 0 (heldAt de told l hs k) = holdB told (l.getD k (0, [])).1 (l.getD k (0, [])).2 := by
  unfold heldAt
  cases holdB told (l.getD k (0, [])).1 (l.getD k (0, [])).2 with
  | false => simp [ou]
  | true =>
    simp only [if_true]
    split <;> (rw [ou_iff]; omega)
end Go.Proofs.Ytefekafpmnaeoaa
