/- usesOnly, operands, effect, ways. -/
import Derived.Test.YtbaijehecncclaaDoorA0
namespace Go.Proofs.YtbaijehecncclaaDoor
open Go.RowKit
attribute [local go_sem ↓] Go.wp_at_zero Go.wp_at_succ
set_option linter.unusedVariables false
set_option linter.unusedSimpArgs false

/-- The fields that an instruction does not use are 0. -/
def usesS (x : Ins) : Bool :=
  if x.d = 4 ∨ x.d = 5 ∨ x.d = 16 then true
  else if x.d = 6 ∨ x.d = 7 ∨ x.d = 13 ∨ x.d = 14 ∨ x.d = 17 ∨ x.d = 18 then (x.c == 0)
  else if x.d = 1 ∨ x.d = 2 ∨ x.d = 3 ∨ x.d = 11 ∨ x.d = 12 then (x.b == 0) && (x.c == 0)
  else if x.d = 8 ∨ x.d = 9 ∨ x.d = 10 ∨ x.d = 15 then (x.a == 0) && (x.b == 0) && (x.c == 0)
  else false

theorem dos (d : Int) : d = 1 ∨ d = 2 ∨ d = 3 ∨ d = 4 ∨ d = 5 ∨ d = 6 ∨ d = 7 ∨ d = 8 ∨ d = 9 ∨ d = 10 ∨ d = 11 ∨ d = 12 ∨ d = 13 ∨ d = 14 ∨ d = 15 ∨ d = 16 ∨ d = 17 ∨ d = 18 ∨ (d < 1 ∨ 18 < d) := by omega

theorem gr1 (w : World) (o : Obj) : w.grownBy (w.alloc o) none := gr_alloc (World.grownBy.refl _ _) _

set_option maxHeartbeats 4000000 in
theorem uses_any (x : Ins) (w : World) : Calls Tryd.prog 34 #[insV x] w fun e w' => e = .returned (.bool (usesS x)) ∧ w.grownBy w' none := by
  obtain ⟨d, a, b, c⟩ := x
  unfold insV
  dsimp only
  rcases dos d with rfl | rfl | rfl | rfl | rfl | rfl | rfl | rfl | rfl | rfl | rfl | rfl | rfl | rfl | rfl | rfl | rfl | rfl | hd
  · go_enter Tryd.func34, Tryd.ntmps34
    go_wp2
    all_goals go_ret
    all_goals exact ⟨ret_bool (by simp_all [usesS]), gr1 _ _⟩
  · go_enter Tryd.func34, Tryd.ntmps34
    go_wp2
    all_goals go_ret
    all_goals exact ⟨ret_bool (by simp_all [usesS]), gr1 _ _⟩
  · go_enter Tryd.func34, Tryd.ntmps34
    go_wp2
    all_goals go_ret
    all_goals exact ⟨ret_bool (by simp_all [usesS]), gr1 _ _⟩
  · go_enter Tryd.func34, Tryd.ntmps34
    go_wp2
    all_goals go_ret
    all_goals exact ⟨ret_bool (by simp_all [usesS]), gr1 _ _⟩
  · go_enter Tryd.func34, Tryd.ntmps34
    go_wp2
    all_goals go_ret
    all_goals exact ⟨ret_bool (by simp_all [usesS]), gr1 _ _⟩
  · go_enter Tryd.func34, Tryd.ntmps34
    go_wp2
    all_goals go_ret
    all_goals exact ⟨ret_bool (by simp_all [usesS]), gr1 _ _⟩
  · go_enter Tryd.func34, Tryd.ntmps34
    go_wp2
    all_goals go_ret
    all_goals exact ⟨ret_bool (by simp_all [usesS]), gr1 _ _⟩
  · go_enter Tryd.func34, Tryd.ntmps34
    go_wp2
    all_goals go_ret
    all_goals exact ⟨ret_bool (by simp_all [usesS]), gr1 _ _⟩
  · go_enter Tryd.func34, Tryd.ntmps34
    go_wp2
    all_goals go_ret
    all_goals exact ⟨ret_bool (by simp_all [usesS]), gr1 _ _⟩
  · go_enter Tryd.func34, Tryd.ntmps34
    go_wp2
    all_goals go_ret
    all_goals exact ⟨ret_bool (by simp_all [usesS]), gr1 _ _⟩
  · go_enter Tryd.func34, Tryd.ntmps34
    go_wp2
    all_goals go_ret
    all_goals exact ⟨ret_bool (by simp_all [usesS]), gr1 _ _⟩
  · go_enter Tryd.func34, Tryd.ntmps34
    go_wp2
    all_goals go_ret
    all_goals exact ⟨ret_bool (by simp_all [usesS]), gr1 _ _⟩
  · go_enter Tryd.func34, Tryd.ntmps34
    go_wp2
    all_goals go_ret
    all_goals exact ⟨ret_bool (by simp_all [usesS]), gr1 _ _⟩
  · go_enter Tryd.func34, Tryd.ntmps34
    go_wp2
    all_goals go_ret
    all_goals exact ⟨ret_bool (by simp_all [usesS]), gr1 _ _⟩
  · go_enter Tryd.func34, Tryd.ntmps34
    go_wp2
    all_goals go_ret
    all_goals exact ⟨ret_bool (by simp_all [usesS]), gr1 _ _⟩
  · go_enter Tryd.func34, Tryd.ntmps34
    go_wp2
    all_goals go_ret
    all_goals exact ⟨ret_bool (by simp_all [usesS]), gr1 _ _⟩
  · go_enter Tryd.func34, Tryd.ntmps34
    go_wp2
    all_goals go_ret
    all_goals exact ⟨ret_bool (by simp_all [usesS]), gr1 _ _⟩
  · go_enter Tryd.func34, Tryd.ntmps34
    go_wp2
    all_goals go_ret
    all_goals exact ⟨ret_bool (by simp_all [usesS]), gr1 _ _⟩
  · have e1 : (d == 1) = false := by simp; omega
    have e2 : (d == 2) = false := by simp; omega
    have e3 : (d == 3) = false := by simp; omega
    have e4 : (d == 4) = false := by simp; omega
    have e5 : (d == 5) = false := by simp; omega
    have e6 : (d == 6) = false := by simp; omega
    have e7 : (d == 7) = false := by simp; omega
    have e8 : (d == 8) = false := by simp; omega
    have e9 : (d == 9) = false := by simp; omega
    have e10 : (d == 10) = false := by simp; omega
    have e11 : (d == 11) = false := by simp; omega
    have e12 : (d == 12) = false := by simp; omega
    have e13 : (d == 13) = false := by simp; omega
    have e14 : (d == 14) = false := by simp; omega
    have e15 : (d == 15) = false := by simp; omega
    have e16 : (d == 16) = false := by simp; omega
    have e17 : (d == 17) = false := by simp; omega
    have e18 : (d == 18) = false := by simp; omega
    have HU : Hid (usesS ⟨d, a, b, c⟩ = false) := (by unfold usesS; dsimp only; rw [if_neg (by omega), if_neg (by omega), if_neg (by omega), if_neg (by omega)] : usesS ⟨d, a, b, c⟩ = false)
    clear hd
    go_enter Tryd.func34, Tryd.ntmps34
    go_wp2
    go_ret
    exact ⟨ret_bool (by rw [HU.out]), gr1 _ _⟩

def opersS (x : Ins) : Int := if secK x.a x.b = 0 then 1 else 2
set_option maxHeartbeats 1000000 in
theorem operands_any (x : Ins) (w : World) : Calls Tryd.prog 47 #[insV x] w fun e w' => e = .returned (.int .i64 (opersS x)) ∧ w.grownBy w' none := by
  obtain ⟨d, a, b, c⟩ := x
  unfold insV
  dsimp only
  obtain ⟨s, hs⟩ : ∃ s, secK a b = s := ⟨_, rfl⟩
  by_cases h : s = 0
  · subst h
    go_enter Tryd.func47, Tryd.ntmps47
    go_wp2_with (first | (go_at_call 51; refine (second_any _ _ _).mono ?_; rintro e w' ⟨rfl, rfl⟩; rw [hs]))
    go_ret
    exact ⟨ret_int (by simp [opersS, hs]), gr1 _ _⟩
  · go_enter Tryd.func47, Tryd.ntmps47
    go_wp2_with (first | (go_at_call 51; refine (second_any _ _ _).mono ?_; rintro e w' ⟨rfl, rfl⟩; rw [hs]))
    go_ret
    exact ⟨ret_int (by simp [opersS, hs, h]), gr1 _ _⟩

def tkS (x : Ins) : Int := if x.d = 3 ∨ x.d = 10 ∨ x.d = 12 ∨ x.d = 4 ∨ x.d = 7 ∨ x.d = 9 then 1 else if x.d = 5 then 2 else if x.d = 6 then opersS x else if x.d = 8 then 3 else 0
def gvS (x : Ins) : Int := if x.d = 1 ∨ x.d = 2 ∨ x.d = 4 ∨ x.d = 7 ∨ x.d = 6 ∨ x.d = 8 then 1 else if x.d = 9 then 2 else 0
set_option maxHeartbeats 4000000 in
theorem effect_any (x : Ins) (w : World) : Calls Tryd.prog 39 #[insV x] w fun e w' => e = .returned (.tuple #[.int .i64 (tkS x), .int .i64 (gvS x)]) ∧ w.grownBy w' none := by
  obtain ⟨d, a, b, c⟩ := x
  unfold insV
  dsimp only
  rcases dos d with rfl | rfl | rfl | rfl | rfl | rfl | rfl | rfl | rfl | rfl | rfl | rfl | rfl | rfl | rfl | rfl | rfl | rfl | hd
  · go_enter Tryd.func39, Tryd.ntmps39
    go_wp2
    go_ret2
    exact ⟨rfl, gr1 _ _⟩
  · go_enter Tryd.func39, Tryd.ntmps39
    go_wp2
    go_ret2
    exact ⟨rfl, gr1 _ _⟩
  · go_enter Tryd.func39, Tryd.ntmps39
    go_wp2
    go_ret2
    exact ⟨rfl, gr1 _ _⟩
  · go_enter Tryd.func39, Tryd.ntmps39
    go_wp2
    go_ret2
    exact ⟨rfl, gr1 _ _⟩
  · go_enter Tryd.func39, Tryd.ntmps39
    go_wp2
    go_ret2
    exact ⟨rfl, gr1 _ _⟩
  · go_enter Tryd.func39, Tryd.ntmps39
    go_wp2_with (first | (go_at_call 47; refine (operands_any ⟨6, a, b, c⟩ _).mono ?_; rintro e w1 ⟨rfl, hg1⟩))
    go_ret2
    exact ⟨rfl, (gr1 _ _).trans hg1⟩
  · go_enter Tryd.func39, Tryd.ntmps39
    go_wp2
    go_ret2
    exact ⟨rfl, gr1 _ _⟩
  · go_enter Tryd.func39, Tryd.ntmps39
    go_wp2
    go_ret2
    exact ⟨rfl, gr1 _ _⟩
  · go_enter Tryd.func39, Tryd.ntmps39
    go_wp2
    go_ret2
    exact ⟨rfl, gr1 _ _⟩
  · go_enter Tryd.func39, Tryd.ntmps39
    go_wp2
    go_ret2
    exact ⟨rfl, gr1 _ _⟩
  · go_enter Tryd.func39, Tryd.ntmps39
    go_wp2
    go_ret2
    exact ⟨rfl, gr1 _ _⟩
  · go_enter Tryd.func39, Tryd.ntmps39
    go_wp2
    go_ret2
    exact ⟨rfl, gr1 _ _⟩
  · go_enter Tryd.func39, Tryd.ntmps39
    go_wp2
    go_ret2
    exact ⟨rfl, gr1 _ _⟩
  · go_enter Tryd.func39, Tryd.ntmps39
    go_wp2
    go_ret2
    exact ⟨rfl, gr1 _ _⟩
  · go_enter Tryd.func39, Tryd.ntmps39
    go_wp2
    go_ret2
    exact ⟨rfl, gr1 _ _⟩
  · go_enter Tryd.func39, Tryd.ntmps39
    go_wp2
    go_ret2
    exact ⟨rfl, gr1 _ _⟩
  · go_enter Tryd.func39, Tryd.ntmps39
    go_wp2
    go_ret2
    exact ⟨rfl, gr1 _ _⟩
  · go_enter Tryd.func39, Tryd.ntmps39
    go_wp2
    go_ret2
    exact ⟨rfl, gr1 _ _⟩
  · have e1 : (d == 1) = false := by simp; omega
    have e2 : (d == 2) = false := by simp; omega
    have e3 : (d == 3) = false := by simp; omega
    have e4 : (d == 4) = false := by simp; omega
    have e5 : (d == 5) = false := by simp; omega
    have e6 : (d == 6) = false := by simp; omega
    have e7 : (d == 7) = false := by simp; omega
    have e8 : (d == 8) = false := by simp; omega
    have e9 : (d == 9) = false := by simp; omega
    have e10 : (d == 10) = false := by simp; omega
    have e11 : (d == 11) = false := by simp; omega
    have e12 : (d == 12) = false := by simp; omega
    have e13 : (d == 13) = false := by simp; omega
    have e14 : (d == 14) = false := by simp; omega
    have e15 : (d == 15) = false := by simp; omega
    have e16 : (d == 16) = false := by simp; omega
    have e17 : (d == 17) = false := by simp; omega
    have e18 : (d == 18) = false := by simp; omega
    have HU : Hid (tkS ⟨d, a, b, c⟩ = 0 ∧ gvS ⟨d, a, b, c⟩ = 0) := (by unfold tkS gvS; dsimp only; rw [if_neg (by omega), if_neg (by omega), if_neg (by omega), if_neg (by omega), if_neg (by omega), if_neg (by omega)]; exact ⟨rfl, rfl⟩ : tkS ⟨d, a, b, c⟩ = 0 ∧ gvS ⟨d, a, b, c⟩ = 0)
    clear hd
    go_enter Tryd.func39, Tryd.ntmps39
    go_wp2
    go_ret2
    exact ⟨by rw [HU.out.1, HU.out.2]; rfl, gr1 _ _⟩

/-- Where it may go on. -/
def wayS (i : Int) (x : Ins) : List Int := if x.d = 11 then [x.a] else if x.d = 12 then [i + 1, x.a] else if x.d = 14 then [i + 1, x.b] else [i + 1]
def FreshInts (w : World) (l : List Int) (e : Ending) (w' : World) : Prop := ∃ b, e = .returned (.slice (some ⟨b, 0, none⟩) l.length l.length) ∧ w.heap.size ≤ b ∧ w'.heap[b]? = some (.cells (intsA l) 3) ∧ w.grownBy w' none
set_option maxHeartbeats 4000000 in
theorem ways_any (i : Int) (x : Ins) (w : World) (h0 : 0 ≤ i) (h1 : i ≤ 1000000000000) : Calls Tryd.prog 40 #[.int .i64 i, insV x] w (FreshInts w (wayS i x)) := by
  obtain ⟨d, a, b, c⟩ := x
  unfold insV
  dsimp only
  have ew : wrap64 (i + 1) = i + 1 := by unfold wrap64; omega
  by_cases h11 : d = 11
  · have q1 : (d == 11) = true := by simpa using h11
    have HL : Hid (wayS i ⟨d, a, b, c⟩ = [a]) := (by unfold wayS; simp_all : wayS i ⟨d, a, b, c⟩ = [a])
    rw [HL.out]
    go_enter Tryd.func40, Tryd.ntmps40
    go_wp2
    go_ret
    exact ⟨w.heap.size + 1, rfl, by omega, hp_new (by simp) _, gr_alloc (gr1 _ _) _⟩
  by_cases h12 : d = 12
  · have q1 : (d == 11) = false := by simpa using h11
    have q2 : (d == 12) = true := by simpa using h12
    have HL : Hid (wayS i ⟨d, a, b, c⟩ = [i + 1, a]) := (by unfold wayS; simp_all : wayS i ⟨d, a, b, c⟩ = [i + 1, a])
    rw [HL.out]
    go_enter Tryd.func40, Tryd.ntmps40
    go_wp2
    go_ret
    exact ⟨w.heap.size + 1, rfl, by omega, hp_new (by simp) _, gr_alloc (gr1 _ _) _⟩
  by_cases h14 : d = 14
  · have q1 : (d == 11) = false := by simpa using h11
    have q2 : (d == 12) = false := by simpa using h12
    have q3 : (d == 14) = true := by simpa using h14
    have HL : Hid (wayS i ⟨d, a, b, c⟩ = [i + 1, b]) := (by unfold wayS; simp_all : wayS i ⟨d, a, b, c⟩ = [i + 1, b])
    rw [HL.out]
    go_enter Tryd.func40, Tryd.ntmps40
    go_wp2
    go_ret
    exact ⟨w.heap.size + 1, rfl, by omega, hp_new (by simp) _, gr_alloc (gr1 _ _) _⟩
  · have q1 : (d == 11) = false := by simpa using h11
    have q2 : (d == 12) = false := by simpa using h12
    have q3 : (d == 14) = false := by simpa using h14
    have HL : Hid (wayS i ⟨d, a, b, c⟩ = [i + 1]) := (by unfold wayS; simp_all : wayS i ⟨d, a, b, c⟩ = [i + 1])
    rw [HL.out]
    go_enter Tryd.func40, Tryd.ntmps40
    go_wp2
    go_ret
    exact ⟨w.heap.size + 1, rfl, by omega, hp_new (by simp) _, gr_alloc (gr1 _ _) _⟩
end Go.Proofs.YtbaijehecncclaaDoor
