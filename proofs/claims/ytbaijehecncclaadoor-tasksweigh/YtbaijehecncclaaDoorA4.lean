/- mayFields, mayInstr. -/
import Derived.Test.YtbaijehecncclaaDoorA3
import Derived.Test.YtbaijehecncclaaDoorA3r
import Derived.Test.YtbaijehecncclaaDoorA3s
namespace Go.Proofs.YtbaijehecncclaaDoor
open Go.RowKit
attribute [local go_sem ↓] Go.wp_at_zero Go.wp_at_succ
set_option linter.unusedVariables false
set_option linter.unusedSimpArgs false

theorem fields_any (x : Ins) (l : List (Int × Nat)) (fn n i o : Nat) (w : World) (hO : Ov w o l fn n) (hS : Stds w) (hf : fn ≤ 1000000000000) (hl : l.length ≤ 1000000000000) (hi : i ≤ 1000000000000) (hn : n ≤ 1000000000000) :
    Calls Tryd.prog 35 #[.pointer (some ⟨o, 0, none⟩), .int .i64 i, insV x] w fun e w' => e = .returned (.bool (fieldsS l fn n i x)) ∧ w.grownBy w' none := by
  obtain ⟨d, a, b, c⟩ := x
  unfold insV
  dsimp only
  by_cases h1 : d = 2 ∨ d = 3
  · exact fields_load d a b c h1 l fn n i o w hO hf hl hi hn
  by_cases h2 : d = 4 ∨ d = 5
  · exact fields_loadAt d a b c h2 l fn n i o w hO hf hl hi hn
  by_cases h3 : d = 16
  · exact fields_fill d a b c h3 l fn n i o w hO hf hl hi hn
  by_cases h4 : d = 6
  · exact fields_work d a b c h4 l fn n i o w hO hf hl hi hn
  by_cases h5 : d = 7
  · exact fields_turn d a b c h5 l fn n i o w hO hf hl hi hn
  by_cases h6 : d = 11 ∨ d = 12
  · exact fields_jump d a b c h6 l fn n i o w hO hf hl hi hn
  by_cases h7 : d = 13
  · exact fields_enter d a b c h7 l fn n i o w hO hf hl hi hn
  by_cases h8 : d = 17
  · exact fields_run d a b c h8 l fn n i o w hO hf hl hi hn
  by_cases h9 : d = 18
  · exact fields_std d a b c h9 l fn n i o w hO hf hl hi hn hS
  · exact fields_else d a b c (by simp; omega) (by simp; omega) (by simp; omega) (by simp; omega) (by simp; omega) (by simp; omega) (by simp; omega) (by simp; omega) (by simp; omega) (by simp; omega) (by simp; omega) (by simp; omega) l fn n i o w hO hf hl hi hn

def mayS (l : List (Int × Nat)) (fn n i : Nat) (x : Ins) : Bool := usesS x && fieldsS l fn n i x

set_option maxHeartbeats 1000000 in
theorem mayInstr_any (x : Ins) (l : List (Int × Nat)) (fn n i o : Nat) (w : World) (hO : Ov w o l fn n) (hS : Stds w) (hf : fn ≤ 1000000000000) (hl : l.length ≤ 1000000000000) (hi : i ≤ 1000000000000) (hn : n ≤ 1000000000000) :
    Calls Tryd.prog 28 #[.pointer (some ⟨o, 0, none⟩), .int .i64 i, insV x] w fun e w' => e = .returned (.bool (mayS l fn n i x)) ∧ w.grownBy w' none := by
  have HO : Hid (Ov w o l fn n) := hO
  have HS : Hid (Stds w) := hS
  clear hO hS
  by_cases hu : usesS x = true
  · have HF : Hid (mayS l fn n i x = fieldsS l fn n i x) := (by simp [mayS, hu] : mayS l fn n i x = fieldsS l fn n i x)
    rw [HF.out]
    have cU : ∀ w, Calls Tryd.prog 34 #[insV x] w fun e w' => e = .returned (.bool true) ∧ w.grownBy w' none := fun w => (uses_any x w).mono fun e w' h => ⟨by rw [h.1, hu], h.2⟩
    have cF : ∀ w', w.grownBy w' none → Calls Tryd.prog 35 #[.pointer (some ⟨o, 0, none⟩), .int .i64 i, insV x] w' fun e w2 => e = .returned (.bool (fieldsS l fn n i x)) ∧ w'.grownBy w2 none := fun w' hg => fields_any x l fn n i o w' (HO.out.grown hg) (HS.out.grown hg) hf hl hi hn
    generalize fieldsS l fn n i x = r at *
    obtain ⟨d, a, b, c⟩ := x
    unfold insV at *
    dsimp only at *
    clear hu
    go_enter Tryd.func28, Tryd.ntmps28
    go_wp2_with fail
    refine (cU _).mono ?_
    rintro e w1 ⟨rfl, hg1⟩
    have hX := kept hg1 (heap_alloc_new w _)
    have x0 := at_cell hX 0
    have x1 := at_cell hX 1
    have x2 := at_cell hX 2
    have x3 := at_cell hX 3
    simp at x0 x1 x2 x3
    have hgw : w.grownBy w1 none := (gr1 _ _).trans hg1
    clear hX
    go_wp2_with fail
    refine (cF _ hgw).mono ?_
    rintro e w2 ⟨rfl, hg2⟩
    go_wp2_with fail
    go_ret
    exact ⟨rfl, hgw.trans hg2⟩
  · have hu' : usesS x = false := by simpa using hu
    have HF : Hid (mayS l fn n i x = false) := (by simp [mayS, hu'] : mayS l fn n i x = false)
    rw [HF.out]
    have cU : ∀ w, Calls Tryd.prog 34 #[insV x] w fun e w' => e = .returned (.bool false) ∧ w.grownBy w' none := fun w => (uses_any x w).mono fun e w' h => ⟨by rw [h.1, hu'], h.2⟩
    obtain ⟨d, a, b, c⟩ := x
    unfold insV at *
    dsimp only at *
    clear hu hu'
    go_enter Tryd.func28, Tryd.ntmps28
    go_wp2_with fail
    refine (cU _).mono ?_
    rintro e w1 ⟨rfl, hg1⟩
    go_wp2_with fail
    go_ret
    exact ⟨rfl, (gr1 _ _).trans hg1⟩
end Go.Proofs.YtbaijehecncclaaDoor
