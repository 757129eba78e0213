/- Texts put together: A0, A1, CePlain, CeCellA, CeCellB, CeCellC, CeCellD, CeCellE, CeCellF, CeRefA, N1, N3, N4, N5, BlPlain. -/
import Derived.Test.YtcgbfhpmkpglkaaGreatDoorQ02
import Derived.Test.YtcgbfhpmkpglkaaGreatDoorQ01
import Derived.WalkKit
import Derived.Test.YtcgbfhpmkpglkaaGreatDoorRows
import Derived.WalkSpells
import Derived.WalkLawsBesides
import Derived.Outline
import Derived.Laws.BitsLemmas
/- Code as it lies in memory; the program's small functions. -/
namespace Go.Proofs.YtcgbfhpmkpglkaaGreatDoor
open Go.RowKit
attribute [local go_sem ↓] Go.wp_at_zero Go.wp_at_succ
set_option linter.unusedVariables false
set_option linter.unusedSimpArgs false

def insV (x : Ins) : Value := .agg #[.int .i64 x.d, .int .i64 x.a, .int .i64 x.b, .int .i64 x.c]

/-- A text that can be read at a slice's value. -/
def TxtAt (w : World) (v : Value) (t : List Ins) : Prop :=
  ∃ a cap, v = .slice a t.length cap ∧ (t = [] ∨ ∃ b off, a = some ⟨b, off, none⟩ ∧ ∀ i, i < t.length →
    w.cell? ⟨b, off + i * 4, none⟩ = some (.int .i64 (nth t i).d) ∧ w.cell? ⟨b, off + i * 4 + 1, none⟩ = some (.int .i64 (nth t i).a) ∧
    w.cell? ⟨b, off + i * 4 + 2, none⟩ = some (.int .i64 (nth t i).b) ∧ w.cell? ⟨b, off + i * 4 + 3, none⟩ = some (.int .i64 (nth t i).c))
theorem TxtAt.grown {w w' : World} {v : Value} {t : List Ins} (h : TxtAt w v t) (hg : w.grownBy w' none) : TxtAt w' v t := by
  obtain ⟨a, cap, rfl, h | ⟨b, off, rfl, hc⟩⟩ := h
  · exact ⟨a, cap, rfl, .inl h⟩
  · exact ⟨_, cap, rfl, .inr ⟨b, off, rfl, fun i hi => ⟨hg.cell (hc i hi).1 (by simp), hg.cell (hc i hi).2.1 (by simp), hg.cell (hc i hi).2.2.1 (by simp), hg.cell (hc i hi).2.2.2 (by simp)⟩⟩⟩

/-- Of the units ahead: their kinds, and the sizes of their frames. -/
def AhAt (w : World) (v : Value) (l : List (Int × Nat)) : Prop :=
  ∃ a cap, v = .slice a l.length cap ∧ (l = [] ∨ ∃ b off, a = some ⟨b, off, none⟩ ∧ ∀ i, i < l.length →
    w.cell? ⟨b, off + i * 5, none⟩ = some (.int .i64 (l.getD i (0, 0)).1) ∧ ∃ fa fc, w.cell? ⟨b, off + i * 5 + 2, none⟩ = some (.slice fa (l.getD i (0, 0)).2 fc))
theorem AhAt.grown {w w' : World} {v : Value} {l : List (Int × Nat)} (h : AhAt w v l) (hg : w.grownBy w' none) : AhAt w' v l := by
  obtain ⟨a, cap, rfl, h | ⟨b, off, rfl, hc⟩⟩ := h
  · exact ⟨a, cap, rfl, .inl h⟩
  · refine ⟨_, cap, rfl, .inr ⟨b, off, rfl, fun i hi => ?_⟩⟩
    obtain ⟨h1, fa, fc, h2⟩ := hc i hi
    exact ⟨hg.cell h1 (by simp), fa, fc, hg.cell h2 (by simp)⟩

def isW (n lo hi : Int) : Bool := decide (lo ≤ n) && decide (n ≤ hi)
theorem within_any (n lo hi : Int) (w : World) : Calls Tryz.prog 70 #[.int .i64 n, .int .i64 lo, .int .i64 hi] w fun e w' => e = .returned (.bool (isW n lo hi)) ∧ w = w' := by
  by_cases h : lo ≤ n
  · go_enter Tryz.func70, Tryz.ntmps70
    go_wp2
    go_ret
    exact ⟨ret_bool (by simp [isW, h]), rfl⟩
  · go_enter Tryz.func70, Tryz.ntmps70
    go_wp2
    go_ret
    exact ⟨ret_bool (by simp [isW]; omega), rfl⟩

theorem kindIs_any (n : Int) (w : World) : Calls Tryz.prog 89 #[.int .i64 n] w fun e w' => e = .returned (.bool (isK n)) ∧ w = w' := by
  go_enter Tryz.func89, Tryz.ntmps89
  go_wp2_with (first | (go_at_call 70; refine (within_any _ _ _ _).mono ?_; rintro e w' ⟨rfl, rfl⟩))
  go_ret
  exact ⟨rfl, rfl⟩

theorem capped_any (n : Int) (w : World) : Calls Tryz.prog 60 #[.int .i64 n] w fun e w' => e = .returned (.int .i64 (min n top1)) ∧ w = w' := by
  go_enter Tryz.func60, Tryz.ntmps60
  go_wp2
  all_goals go_ret
  all_goals refine ⟨ret_int ?_, rfl⟩
  all_goals (simp only [top1]; omega)

def hasW (size : Nat) (at' n : Int) : Bool := decide (n ≤ size) && isW at' 0 (size - n)
theorem hasWords_any (o pb po fn fc : Nat) (fa : Option Addr) (at' n : Int) (w : World) (h1 : w.cell? ⟨o, 2, none⟩ = some (.pointer (some ⟨pb, po, none⟩))) (h2 : w.cell? ⟨pb, po + 2, none⟩ = some (.slice fa fn fc)) (hn : 0 ≤ n) (hf : fn ≤ 1000000000000) :
    Calls Tryz.prog 88 #[.pointer (some ⟨o, 0, none⟩), .int .i64 at', .int .i64 n] w fun e w' => e = .returned (.bool (hasW fn at' n)) ∧ w = w' := by
  by_cases h : n ≤ (fn : Int)
  · have e1 : wrap64 ((fn : Int) - n) = (fn : Int) - n := by unfold wrap64; omega
    go_enter Tryz.func88, Tryz.ntmps88
    go_wp2_with (first | (go_at_call 70; refine (within_any _ _ _ _).mono ?_; rintro e w' ⟨rfl, rfl⟩))
    go_ret
    exact ⟨ret_bool (by simp [hasW, h]), rfl⟩
  · go_enter Tryz.func88, Tryz.ntmps88
    go_wp2
    go_ret
    exact ⟨ret_bool (by simp [hasW]; omega), rfl⟩

def callS (l : List (Int × Nat)) (n : Int) : Bool := isW n 0 ((l.length : Int) - 1) && (l.getD n.toNat (0, 0)).1 != 1
theorem mayCall_any (o : Nat) (av : Value) (l : List (Int × Nat)) (n : Int) (w : World) (h1 : w.cell? ⟨o, 0, none⟩ = some av) (h2 : AhAt w av l) (hl : l.length ≤ 1000000000000) :
    Calls Tryz.prog 90 #[.pointer (some ⟨o, 0, none⟩), .int .i64 n] w fun e w' => e = .returned (.bool (callS l n)) ∧ w = w' := by
  obtain ⟨a, cap, rfl, h2⟩ := h2
  by_cases h : isW n 0 ((l.length : Int) - 1) = true
  · have hn : 0 ≤ n ∧ n ≤ (l.length : Int) - 1 := by simpa [isW] using h
    obtain ⟨k, rfl⟩ := Int.eq_ofNat_of_zero_le hn.1
    rcases h2 with h3 | ⟨b, off, rfl, hc⟩
    · subst h3; simp at hn; omega
    obtain ⟨c1, fa, fc, c2⟩ := hc k (by omega)
    have e1 : wrap64 ((l.length : Int) - 1) = (l.length : Int) - 1 := by unfold wrap64; omega
    have i1 : (0 : Int) ≤ (k : Int) := by omega
    have i2 : (k : Int) < (l.length : Int) := by omega
    have HD : Hid (callS l k = ((l.getD k (0, 0)).1 != 1)) := (by unfold callS; rw [h]; simp : callS l k = ((l.getD k (0, 0)).1 != 1))
    generalize (l.getD k (0, 0)).1 = kd at *
    clear hc c2
    go_enter Tryz.func90, Tryz.ntmps90
    go_wp2_with (first | (go_at_call 70; refine (within_any _ _ _ _).mono ?_; rintro e w' ⟨rfl, rfl⟩))
    go_ret
    exact ⟨ret_bool (by rw [HD.out]), rfl⟩
  · have h' : isW n 0 ((l.length : Int) - 1) = false := by simpa using h
    have e1 : wrap64 ((l.length : Int) - 1) = (l.length : Int) - 1 := by unfold wrap64; omega
    have HD : Hid (callS l n = false) := (by unfold callS; rw [h']; rfl : callS l n = false)
    clear h h2
    go_enter Tryz.func90, Tryz.ntmps90
    go_wp2_with (first | (go_at_call 70; refine (within_any _ _ _ _).mono ?_; rintro e w' ⟨rfl, rfl⟩))
    go_ret
    exact ⟨ret_bool (by rw [HD.out]), rfl⟩
end Go.Proofs.YtcgbfhpmkpglkaaGreatDoor

/- usesOnly, operands, effect, ways. -/
namespace Go.Proofs.YtcgbfhpmkpglkaaGreatDoor
open Go.RowKit
attribute [local go_sem ↓] Go.wp_at_zero Go.wp_at_succ
set_option linter.unusedVariables false
set_option linter.unusedSimpArgs false

/-- The fields that an instruction does not use are 0. -/
def usesS (x : Ins) : Bool :=
  if x.d = 4 ∨ x.d = 5 ∨ x.d = 16 then true
  else if x.d = 6 ∨ x.d = 7 ∨ x.d = 13 ∨ x.d = 14 ∨ x.d = 17 ∨ x.d = 18 then (x.c == 0)
  else if x.d = 1 ∨ x.d = 2 ∨ x.d = 3 ∨ x.d = 11 ∨ x.d = 12 then (x.b == 0) && (x.c == 0)
  else if x.d = 8 ∨ x.d = 9 ∨ x.d = 10 ∨ x.d = 15 then (x.a == 0) && (x.b == 0) && (x.c == 0)
  else false

theorem dos (d : Int) : d = 1 ∨ d = 2 ∨ d = 3 ∨ d = 4 ∨ d = 5 ∨ d = 6 ∨ d = 7 ∨ d = 8 ∨ d = 9 ∨ d = 10 ∨ d = 11 ∨ d = 12 ∨ d = 13 ∨ d = 14 ∨ d = 15 ∨ d = 16 ∨ d = 17 ∨ d = 18 ∨ (d < 1 ∨ 18 < d) := by omega

theorem gr1 (w : World) (o : Obj) : w.grownBy (w.alloc o) none := gr_alloc (World.grownBy.refl _ _) _

set_option maxHeartbeats 4000000 in
theorem uses_any (x : Ins) (w : World) : Calls Tryz.prog 74 #[insV x] w fun e w' => e = .returned (.bool (usesS x)) ∧ w.grownBy w' none := by
  obtain ⟨d, a, b, c⟩ := x
  unfold insV
  dsimp only
  rcases dos d with rfl | rfl | rfl | rfl | rfl | rfl | rfl | rfl | rfl | rfl | rfl | rfl | rfl | rfl | rfl | rfl | rfl | rfl | hd
  · go_enter Tryz.func74, Tryz.ntmps74
    go_wp2
    all_goals go_ret
    all_goals exact ⟨ret_bool (by simp_all [usesS]), gr1 _ _⟩
  · go_enter Tryz.func74, Tryz.ntmps74
    go_wp2
    all_goals go_ret
    all_goals exact ⟨ret_bool (by simp_all [usesS]), gr1 _ _⟩
  · go_enter Tryz.func74, Tryz.ntmps74
    go_wp2
    all_goals go_ret
    all_goals exact ⟨ret_bool (by simp_all [usesS]), gr1 _ _⟩
  · go_enter Tryz.func74, Tryz.ntmps74
    go_wp2
    all_goals go_ret
    all_goals exact ⟨ret_bool (by simp_all [usesS]), gr1 _ _⟩
  · go_enter Tryz.func74, Tryz.ntmps74
    go_wp2
    all_goals go_ret
    all_goals exact ⟨ret_bool (by simp_all [usesS]), gr1 _ _⟩
  · go_enter Tryz.func74, Tryz.ntmps74
    go_wp2
    all_goals go_ret
    all_goals exact ⟨ret_bool (by simp_all [usesS]), gr1 _ _⟩
  · go_enter Tryz.func74, Tryz.ntmps74
    go_wp2
    all_goals go_ret
    all_goals exact ⟨ret_bool (by simp_all [usesS]), gr1 _ _⟩
  · go_enter Tryz.func74, Tryz.ntmps74
    go_wp2
    all_goals go_ret
    all_goals exact ⟨ret_bool (by simp_all [usesS]), gr1 _ _⟩
  · go_enter Tryz.func74, Tryz.ntmps74
    go_wp2
    all_goals go_ret
    all_goals exact ⟨ret_bool (by simp_all [usesS]), gr1 _ _⟩
  · go_enter Tryz.func74, Tryz.ntmps74
    go_wp2
    all_goals go_ret
    all_goals exact ⟨ret_bool (by simp_all [usesS]), gr1 _ _⟩
  · go_enter Tryz.func74, Tryz.ntmps74
    go_wp2
    all_goals go_ret
    all_goals exact ⟨ret_bool (by simp_all [usesS]), gr1 _ _⟩
  · go_enter Tryz.func74, Tryz.ntmps74
    go_wp2
    all_goals go_ret
    all_goals exact ⟨ret_bool (by simp_all [usesS]), gr1 _ _⟩
  · go_enter Tryz.func74, Tryz.ntmps74
    go_wp2
    all_goals go_ret
    all_goals exact ⟨ret_bool (by simp_all [usesS]), gr1 _ _⟩
  · go_enter Tryz.func74, Tryz.ntmps74
    go_wp2
    all_goals go_ret
    all_goals exact ⟨ret_bool (by simp_all [usesS]), gr1 _ _⟩
  · go_enter Tryz.func74, Tryz.ntmps74
    go_wp2
    all_goals go_ret
    all_goals exact ⟨ret_bool (by simp_all [usesS]), gr1 _ _⟩
  · go_enter Tryz.func74, Tryz.ntmps74
    go_wp2
    all_goals go_ret
    all_goals exact ⟨ret_bool (by simp_all [usesS]), gr1 _ _⟩
  · go_enter Tryz.func74, Tryz.ntmps74
    go_wp2
    all_goals go_ret
    all_goals exact ⟨ret_bool (by simp_all [usesS]), gr1 _ _⟩
  · go_enter Tryz.func74, Tryz.ntmps74
    go_wp2
    all_goals go_ret
    all_goals exact ⟨ret_bool (by simp_all [usesS]), gr1 _ _⟩
  · have e1 : (d == 1) = false := by simp; omega
    have e2 : (d == 2) = false := by simp; omega
    have e3 : (d == 3) = false := by simp; omega
    have e4 : (d == 4) = false := by simp; omega
    have e5 : (d == 5) = false := by simp; omega
    have e6 : (d == 6) = false := by simp; omega
    have e7 : (d == 7) = false := by simp; omega
    have e8 : (d == 8) = false := by simp; omega
    have e9 : (d == 9) = false := by simp; omega
    have e10 : (d == 10) = false := by simp; omega
    have e11 : (d == 11) = false := by simp; omega
    have e12 : (d == 12) = false := by simp; omega
    have e13 : (d == 13) = false := by simp; omega
    have e14 : (d == 14) = false := by simp; omega
    have e15 : (d == 15) = false := by simp; omega
    have e16 : (d == 16) = false := by simp; omega
    have e17 : (d == 17) = false := by simp; omega
    have e18 : (d == 18) = false := by simp; omega
    have HU : Hid (usesS ⟨d, a, b, c⟩ = false) := (by unfold usesS; dsimp only; rw [if_neg (by omega), if_neg (by omega), if_neg (by omega), if_neg (by omega)] : usesS ⟨d, a, b, c⟩ = false)
    clear hd
    go_enter Tryz.func74, Tryz.ntmps74
    go_wp2
    go_ret
    exact ⟨ret_bool (by rw [HU.out]), gr1 _ _⟩

def opersS (x : Ins) : Int := if secK x.a x.b = 0 then 1 else 2
set_option maxHeartbeats 1000000 in
theorem operands_any (x : Ins) (w : World) : Calls Tryz.prog 68 #[insV x] w fun e w' => e = .returned (.int .i64 (opersS x)) ∧ w.grownBy w' none := by
  obtain ⟨d, a, b, c⟩ := x
  unfold insV
  dsimp only
  obtain ⟨s, hs⟩ : ∃ s, secK a b = s := ⟨_, rfl⟩
  by_cases h : s = 0
  · subst h
    go_enter Tryz.func68, Tryz.ntmps68
    go_wp2_with (first | (go_at_call 81; refine (second_any _ _ _).mono ?_; rintro e w' ⟨rfl, rfl⟩; rw [hs]))
    go_ret
    exact ⟨ret_int (by simp [opersS, hs]), gr1 _ _⟩
  · go_enter Tryz.func68, Tryz.ntmps68
    go_wp2_with (first | (go_at_call 81; refine (second_any _ _ _).mono ?_; rintro e w' ⟨rfl, rfl⟩; rw [hs]))
    go_ret
    exact ⟨ret_int (by simp [opersS, hs, h]), gr1 _ _⟩

def tkS (x : Ins) : Int := if x.d = 3 ∨ x.d = 10 ∨ x.d = 12 ∨ x.d = 4 ∨ x.d = 7 ∨ x.d = 9 then 1 else if x.d = 5 then 2 else if x.d = 6 then opersS x else if x.d = 8 then 3 else 0
def gvS (x : Ins) : Int := if x.d = 1 ∨ x.d = 2 ∨ x.d = 4 ∨ x.d = 7 ∨ x.d = 6 ∨ x.d = 8 then 1 else if x.d = 9 then 2 else 0
set_option maxHeartbeats 4000000 in
theorem effect_any (x : Ins) (w : World) : Calls Tryz.prog 79 #[insV x] w fun e w' => e = .returned (.tuple #[.int .i64 (tkS x), .int .i64 (gvS x)]) ∧ w.grownBy w' none := by
  obtain ⟨d, a, b, c⟩ := x
  unfold insV
  dsimp only
  rcases dos d with rfl | rfl | rfl | rfl | rfl | rfl | rfl | rfl | rfl | rfl | rfl | rfl | rfl | rfl | rfl | rfl | rfl | rfl | hd
  · go_enter Tryz.func79, Tryz.ntmps79
    go_wp2
    go_ret2
    exact ⟨rfl, gr1 _ _⟩
  · go_enter Tryz.func79, Tryz.ntmps79
    go_wp2
    go_ret2
    exact ⟨rfl, gr1 _ _⟩
  · go_enter Tryz.func79, Tryz.ntmps79
    go_wp2
    go_ret2
    exact ⟨rfl, gr1 _ _⟩
  · go_enter Tryz.func79, Tryz.ntmps79
    go_wp2
    go_ret2
    exact ⟨rfl, gr1 _ _⟩
  · go_enter Tryz.func79, Tryz.ntmps79
    go_wp2
    go_ret2
    exact ⟨rfl, gr1 _ _⟩
  · go_enter Tryz.func79, Tryz.ntmps79
    go_wp2_with (first | (go_at_call 68; refine (operands_any ⟨6, a, b, c⟩ _).mono ?_; rintro e w1 ⟨rfl, hg1⟩))
    go_ret2
    exact ⟨rfl, (gr1 _ _).trans hg1⟩
  · go_enter Tryz.func79, Tryz.ntmps79
    go_wp2
    go_ret2
    exact ⟨rfl, gr1 _ _⟩
  · go_enter Tryz.func79, Tryz.ntmps79
    go_wp2
    go_ret2
    exact ⟨rfl, gr1 _ _⟩
  · go_enter Tryz.func79, Tryz.ntmps79
    go_wp2
    go_ret2
    exact ⟨rfl, gr1 _ _⟩
  · go_enter Tryz.func79, Tryz.ntmps79
    go_wp2
    go_ret2
    exact ⟨rfl, gr1 _ _⟩
  · go_enter Tryz.func79, Tryz.ntmps79
    go_wp2
    go_ret2
    exact ⟨rfl, gr1 _ _⟩
  · go_enter Tryz.func79, Tryz.ntmps79
    go_wp2
    go_ret2
    exact ⟨rfl, gr1 _ _⟩
  · go_enter Tryz.func79, Tryz.ntmps79
    go_wp2
    go_ret2
    exact ⟨rfl, gr1 _ _⟩
  · go_enter Tryz.func79, Tryz.ntmps79
    go_wp2
    go_ret2
    exact ⟨rfl, gr1 _ _⟩
  · go_enter Tryz.func79, Tryz.ntmps79
    go_wp2
    go_ret2
    exact ⟨rfl, gr1 _ _⟩
  · go_enter Tryz.func79, Tryz.ntmps79
    go_wp2
    go_ret2
    exact ⟨rfl, gr1 _ _⟩
  · go_enter Tryz.func79, Tryz.ntmps79
    go_wp2
    go_ret2
    exact ⟨rfl, gr1 _ _⟩
  · go_enter Tryz.func79, Tryz.ntmps79
    go_wp2
    go_ret2
    exact ⟨rfl, gr1 _ _⟩
  · have e1 : (d == 1) = false := by simp; omega
    have e2 : (d == 2) = false := by simp; omega
    have e3 : (d == 3) = false := by simp; omega
    have e4 : (d == 4) = false := by simp; omega
    have e5 : (d == 5) = false := by simp; omega
    have e6 : (d == 6) = false := by simp; omega
    have e7 : (d == 7) = false := by simp; omega
    have e8 : (d == 8) = false := by simp; omega
    have e9 : (d == 9) = false := by simp; omega
    have e10 : (d == 10) = false := by simp; omega
    have e11 : (d == 11) = false := by simp; omega
    have e12 : (d == 12) = false := by simp; omega
    have e13 : (d == 13) = false := by simp; omega
    have e14 : (d == 14) = false := by simp; omega
    have e15 : (d == 15) = false := by simp; omega
    have e16 : (d == 16) = false := by simp; omega
    have e17 : (d == 17) = false := by simp; omega
    have e18 : (d == 18) = false := by simp; omega
    have HU : Hid (tkS ⟨d, a, b, c⟩ = 0 ∧ gvS ⟨d, a, b, c⟩ = 0) := (by unfold tkS gvS; dsimp only; rw [if_neg (by omega), if_neg (by omega), if_neg (by omega), if_neg (by omega), if_neg (by omega), if_neg (by omega)]; exact ⟨rfl, rfl⟩ : tkS ⟨d, a, b, c⟩ = 0 ∧ gvS ⟨d, a, b, c⟩ = 0)
    clear hd
    go_enter Tryz.func79, Tryz.ntmps79
    go_wp2
    go_ret2
    exact ⟨by rw [HU.out.1, HU.out.2]; rfl, gr1 _ _⟩

/-- Where it may go on. -/
def wayS (i : Int) (x : Ins) : List Int := if x.d = 11 then [x.a] else if x.d = 12 then [i + 1, x.a] else if x.d = 14 then [i + 1, x.b] else [i + 1]
def FreshInts (w : World) (l : List Int) (e : Ending) (w' : World) : Prop := ∃ b, e = .returned (.slice (some ⟨b, 0, none⟩) l.length l.length) ∧ w.heap.size ≤ b ∧ w'.heap[b]? = some (.cells (intsA l) 3) ∧ w.grownBy w' none
set_option maxHeartbeats 4000000 in
theorem ways_any (i : Int) (x : Ins) (w : World) (h0 : 0 ≤ i) (h1 : i ≤ 1000000000000) : Calls Tryz.prog 80 #[.int .i64 i, insV x] w (FreshInts w (wayS i x)) := by
  obtain ⟨d, a, b, c⟩ := x
  unfold insV
  dsimp only
  have ew : wrap64 (i + 1) = i + 1 := by unfold wrap64; omega
  by_cases h11 : d = 11
  · have q1 : (d == 11) = true := by simpa using h11
    have HL : Hid (wayS i ⟨d, a, b, c⟩ = [a]) := (by unfold wayS; simp_all : wayS i ⟨d, a, b, c⟩ = [a])
    rw [HL.out]
    go_enter Tryz.func80, Tryz.ntmps80
    go_wp2
    go_ret
    exact ⟨w.heap.size + 1, rfl, by omega, hp_new (by simp) _, gr_alloc (gr1 _ _) _⟩
  by_cases h12 : d = 12
  · have q1 : (d == 11) = false := by simpa using h11
    have q2 : (d == 12) = true := by simpa using h12
    have HL : Hid (wayS i ⟨d, a, b, c⟩ = [i + 1, a]) := (by unfold wayS; simp_all : wayS i ⟨d, a, b, c⟩ = [i + 1, a])
    rw [HL.out]
    go_enter Tryz.func80, Tryz.ntmps80
    go_wp2
    go_ret
    exact ⟨w.heap.size + 1, rfl, by omega, hp_new (by simp) _, gr_alloc (gr1 _ _) _⟩
  by_cases h14 : d = 14
  · have q1 : (d == 11) = false := by simpa using h11
    have q2 : (d == 12) = false := by simpa using h12
    have q3 : (d == 14) = true := by simpa using h14
    have HL : Hid (wayS i ⟨d, a, b, c⟩ = [i + 1, b]) := (by unfold wayS; simp_all : wayS i ⟨d, a, b, c⟩ = [i + 1, b])
    rw [HL.out]
    go_enter Tryz.func80, Tryz.ntmps80
    go_wp2
    go_ret
    exact ⟨w.heap.size + 1, rfl, by omega, hp_new (by simp) _, gr_alloc (gr1 _ _) _⟩
  · have q1 : (d == 11) = false := by simpa using h11
    have q2 : (d == 12) = false := by simpa using h12
    have q3 : (d == 14) = false := by simpa using h14
    have HL : Hid (wayS i ⟨d, a, b, c⟩ = [i + 1]) := (by unfold wayS; simp_all : wayS i ⟨d, a, b, c⟩ = [i + 1])
    rw [HL.out]
    go_enter Tryz.func80, Tryz.ntmps80
    go_wp2
    go_ret
    exact ⟨w.heap.size + 1, rfl, by omega, hp_new (by simp) _, gr_alloc (gr1 _ _) _⟩
end Go.Proofs.YtcgbfhpmkpglkaaGreatDoor

/- Plain facts on numbers: what wrapping into a kind is, and that it goes along with adding, taking away and multiplying; no program in sight. -/
namespace Go.Proofs.YtcgbfhpmkpglkaaGreatDoor.Ce
open Go.RowKit

/-- What a number is, wrapped into a kind. -/
def wrapK (k n : Int) : Int :=
  if k = 1 then n % 2 else if k = 2 then (n + 32768) % 65536 - 32768 else if k = 3 then (n + 2147483648) % 4294967296 - 2147483648
  else if k = 4 then n % 65536 else if k = 5 then n % 4294967296 else 0

theorem wrapK1 (n : Int) : wrapK 1 n = n % 2 := by simp [wrapK]
theorem wrapK2 (n : Int) : wrapK 2 n = (n + 32768) % 65536 - 32768 := by simp [wrapK]
theorem wrapK3 (n : Int) : wrapK 3 n = (n + 2147483648) % 4294967296 - 2147483648 := by simp [wrapK]
theorem wrapK4 (n : Int) : wrapK 4 n = n % 65536 := by simp [wrapK]
theorem wrapK5 (n : Int) : wrapK 5 n = n % 4294967296 := by simp [wrapK]
theorem wrapK_else {k : Int} (n : Int) (h1 : k ≠ 1) (h2 : k ≠ 2) (h3 : k ≠ 3) (h4 : k ≠ 4) (h5 : k ≠ 5) : wrapK k n = 0 := by simp [wrapK, h1, h2, h3, h4, h5]

theorem wrap64_id {n : Int} (h0 : -9223372036854775808 ≤ n) (h1 : n ≤ 9223372036854775807) : wrap64 n = n := by unfold wrap64; omega

theorem i16_is (n : Int) : IntKind.i16.wrap n = (n + 32768) % 65536 - 32768 := by
  unfold IntKind.wrap
  simp only [IntKind.bits, IntKind.signed]
  simp
  split <;> omega
theorem u16_is (n : Int) : IntKind.u16.wrap n = n % 65536 := by
  unfold IntKind.wrap
  simp only [IntKind.bits, IntKind.signed]
  simp

theorem and1 (n : Int) : bits .and .i64 n 1 = n % 2 := by
  unfold bits
  have e : (BitVec.ofInt IntKind.i64.bits n &&& BitVec.ofInt IntKind.i64.bits 1).toNat = (n % 2).toNat := by
    have h1 : (BitVec.ofInt 64 1) = 1#64 := by decide
    show (BitVec.ofInt 64 n &&& BitVec.ofInt 64 1).toNat = _
    rw [h1]
    rw [BitVec.toNat_and, BitVec.toNat_ofInt]
    show ((n % ((2 ^ 64 : Nat) : Int)).toNat &&& 1) = _
    rw [Nat.and_one_is_mod]
    omega
  simp only [e]
  rw [IntWalk.i64_left]
  unfold wrap64
  omega

theorem wrapK_bd (k n : Int) : -2147483648 ≤ wrapK k n ∧ wrapK k n ≤ 4294967295 := by
  unfold wrapK; repeat' split
  all_goals omega
theorem wrapK_small (k n : Int) (h : k = 2 ∨ k = 3) : -2147483648 ≤ wrapK k n ∧ wrapK k n ≤ 2147483647 := by
  rcases h with rfl | rfl
  · rw [wrapK2]; omega
  · rw [wrapK3]; omega

theorem wrapK_idem (k n : Int) : wrapK k (wrapK k n) = wrapK k n := by
  unfold wrapK; repeat' split
  all_goals omega

theorem wrapK_eq_of_emod {k m n : Int} (h : m % 4294967296 = n % 4294967296) : wrapK k m = wrapK k n := by
  unfold wrapK; repeat' split
  all_goals omega
theorem wrapK_w64 (k n : Int) : wrapK k (wrap64 n) = wrapK k n := wrapK_eq_of_emod (by unfold wrap64; omega)

/-- Two numbers are wrapped to the same just where they are the same modulo the width. -/
theorem wrapK_mod2 (n : Int) : (wrapK 2 n) % 65536 = n % 65536 := by rw [wrapK2]; omega
theorem wrapK_mod3 (n : Int) : (wrapK 3 n) % 4294967296 = n % 4294967296 := by rw [wrapK3]; omega
theorem wrapK2_of {m n : Int} (h : m % 65536 = n % 65536) : wrapK 2 m = wrapK 2 n := by rw [wrapK2, wrapK2]; omega
theorem wrapK3_of {m n : Int} (h : m % 4294967296 = n % 4294967296) : wrapK 3 m = wrapK 3 n := by rw [wrapK3, wrapK3]; omega

theorem ring_add (k a b : Int) (h : k = 2 ∨ k = 3) : wrapK k (wrapK k a + wrapK k b) = wrapK k (a + b) := by
  rcases h with rfl | rfl
  · apply wrapK2_of; rw [Int.add_emod, wrapK_mod2, wrapK_mod2, ← Int.add_emod]
  · apply wrapK3_of; rw [Int.add_emod, wrapK_mod3, wrapK_mod3, ← Int.add_emod]
theorem ring_sub (k a b : Int) (h : k = 2 ∨ k = 3) : wrapK k (wrapK k a - wrapK k b) = wrapK k (a - b) := by
  rcases h with rfl | rfl
  · apply wrapK2_of; rw [Int.sub_emod, wrapK_mod2, wrapK_mod2, ← Int.sub_emod]
  · apply wrapK3_of; rw [Int.sub_emod, wrapK_mod3, wrapK_mod3, ← Int.sub_emod]
theorem ring_mul (k a b : Int) (h : k = 2 ∨ k = 3) : wrapK k (wrapK k a * wrapK k b) = wrapK k (a * b) := by
  rcases h with rfl | rfl
  · apply wrapK2_of; rw [Int.mul_emod, wrapK_mod2, wrapK_mod2, ← Int.mul_emod]
  · apply wrapK3_of; rw [Int.mul_emod, wrapK_mod3, wrapK_mod3, ← Int.mul_emod]
end Go.Proofs.YtcgbfhpmkpglkaaGreatDoor.Ce

/- Contracts of Wrap, isKind, Fits. -/
namespace Go.Proofs.YtcgbfhpmkpglkaaGreatDoor.Ce
open Go.RowKit

theorem ret_int {k : IntKind} {a b : Int} (h : a = b) : Ending.returned (.int k a) = .returned (.int k b) := by rw [h]
theorem ret_bool {a b : Bool} (h : a = b) : Ending.returned (.bool a) = .returned (.bool b) := by rw [h]

set_option maxHeartbeats 400000 in
theorem wrap_any (k n : Int) (w : World) :
    Calls Tryz.prog 71 #[.int .i64 k, .int .i64 n] w fun e w' => e = .returned (.int .i64 (wrapK k n)) ∧ w' = w := by
  go_enter Tryz.func71, Tryz.ntmps71
  go_wp2
  · go_ret
    have e : k = 1 := by simpa using ‹(k == 1) = true›
    exact ⟨ret_int (by rw [e, wrapK1]; exact and1 n), rfl⟩
  · go_ret
    have e : k = 2 := by simpa using ‹(k == 2) = true›
    exact ⟨ret_int (by show wrap64 (IntKind.i16.wrap n) = _; rw [e, wrapK2, i16_is, wrap64_id (by omega) (by omega)]), rfl⟩
  · go_ret
    have e : k = 3 := by simpa using ‹(k == 3) = true›
    exact ⟨ret_int (by show wrap64 (wrap32 n) = _; rw [e, wrapK3]; unfold wrap32; rw [wrap64_id (by omega) (by omega)]), rfl⟩
  · go_ret
    have e : k = 4 := by simpa using ‹(k == 4) = true›
    exact ⟨ret_int (by show wrap64 (IntKind.u16.wrap n) = _; rw [e, wrapK4, u16_is, wrap64_id (by omega) (by omega)]), rfl⟩
  · go_ret
    have e : k = 5 := by simpa using ‹(k == 5) = true›
    exact ⟨ret_int (by show n % 4294967296 = _; rw [e, wrapK5]), rfl⟩
  · go_ret
    exact ⟨ret_int (by show 0 = _; rw [wrapK_else n (by simp_all) (by simp_all) (by simp_all) (by simp_all) (by simp_all)]), rfl⟩

def isK (k : Int) : Bool := decide (1 ≤ k) && decide (k ≤ 5)

theorem isKind_any (k : Int) (w : World) :
    Calls Tryz.prog 91 #[.int .i64 k] w fun e w' => e = .returned (.bool (isK k)) ∧ w' = w := by
  by_cases h1 : 1 ≤ k
  · by_cases h2 : k ≤ 5
    · go_enter Tryz.func91, Tryz.ntmps91
      go_wp2
      go_ret
      exact ⟨ret_bool (by simp [isK, h1, h2]), rfl⟩
    · go_enter Tryz.func91, Tryz.ntmps91
      go_wp2
      go_ret
      exact ⟨ret_bool (by simp [isK, h1, h2]), rfl⟩
  · go_enter Tryz.func91, Tryz.ntmps91
    go_wp2
    go_ret
    exact ⟨ret_bool (by simp [isK]; omega), rfl⟩

def fitsK (k n : Int) : Bool := isK k && (wrapK k n == n)

end Go.Proofs.YtcgbfhpmkpglkaaGreatDoor.Ce

/- Contracts of has, compares, Result, Second. -/
namespace Go.Proofs.YtcgbfhpmkpglkaaGreatDoor.Ce
open Go.RowKit

def hasB (op k : Int) : Bool :=
  if op == 3 || op == 4 || op == 5 || op == 22 || op == 23 then (k == 2 || k == 3)
  else if op == 1 || op == 2 then ((k == 2 || k == 3) || k == 5)
  else if op == 11 || op == 12 || op == 13 || op == 14 || op == 19 || op == 20 then (((k == 2 || k == 3) || k == 5) || k == 4)
  else if op == 6 || op == 7 || op == 8 || op == 21 then (k == 1 || k == 4)
  else if op == 15 || op == 16 || op == 17 || op == 18 then k == 4
  else if op == 9 || op == 10 then isK k
  else false

set_option maxHeartbeats 1000000 in
theorem has_any (op k : Int) (w : World) :
    Calls Tryz.prog 82 #[.int .i64 op, .int .i64 k] w fun e w' => e = .returned (.bool (hasB op k)) ∧ w' = w := by
  by_cases c2 : (k == 2) = true
  · go_enter Tryz.func82, Tryz.ntmps82
    go_wp2_with (first | (go_at_call 91; refine (isKind_any _ _).mono ?_; rintro e w' ⟨rfl, rfl⟩))
    all_goals go_ret
    all_goals exact ⟨ret_bool (by simp [hasB, *]), rfl⟩
  · have c2 : (k == 2) = false := by simpa using c2
    by_cases c3 : (k == 3) = true
    · go_enter Tryz.func82, Tryz.ntmps82
      go_wp2_with (first | (go_at_call 91; refine (isKind_any _ _).mono ?_; rintro e w' ⟨rfl, rfl⟩))
      all_goals go_ret
      all_goals exact ⟨ret_bool (by simp [hasB, *]), rfl⟩
    · have c3 : (k == 3) = false := by simpa using c3
      go_enter Tryz.func82, Tryz.ntmps82
      go_wp2_with (first | (go_at_call 91; refine (isKind_any _ _).mono ?_; rintro e w' ⟨rfl, rfl⟩))
      all_goals go_ret
      all_goals exact ⟨ret_bool (by simp [hasB, *]), rfl⟩
end Go.Proofs.YtcgbfhpmkpglkaaGreatDoor.Ce

/- Contracts of compares, Result, Second, truth, holds. -/
namespace Go.Proofs.YtcgbfhpmkpglkaaGreatDoor.Ce
open Go.RowKit

def cmpB (op : Int) : Bool := decide (9 ≤ op) && decide (op ≤ 14)
theorem compares_any (op : Int) (w : World) :
    Calls Tryz.prog 92 #[.int .i64 op] w fun e w' => e = .returned (.bool (cmpB op)) ∧ w' = w := by
  by_cases h1 : 9 ≤ op
  · go_enter Tryz.func92, Tryz.ntmps92
    go_wp2
    all_goals go_ret
    all_goals exact ⟨ret_bool (by simp [cmpB]; omega), rfl⟩
  · go_enter Tryz.func92, Tryz.ntmps92
    go_wp2
    all_goals go_ret
    all_goals exact ⟨ret_bool (by simp [cmpB]; omega), rfl⟩

def resK (op k : Int) : Int := if hasB op k = true then (if cmpB op = true then 1 else k) else 0
theorem result_any (op k : Int) (w : World) :
    Calls Tryz.prog 83 #[.int .i64 op, .int .i64 k] w fun e w' => e = .returned (.int .i64 (resK op k)) ∧ w' = w := by
  by_cases h1 : hasB op k = true
  · by_cases h2 : cmpB op = true
    · go_enter Tryz.func83, Tryz.ntmps83
      go_wp2_with (first | (go_at_call 82; refine (has_any _ _ _).mono ?_; rintro e w' ⟨rfl, rfl⟩) | (go_at_call 92; refine (compares_any _ _).mono ?_; rintro e w' ⟨rfl, rfl⟩))
      go_ret
      exact ⟨ret_int (by simp [resK, h1, h2]), rfl⟩
    · have h2 : cmpB op = false := by simpa using h2
      go_enter Tryz.func83, Tryz.ntmps83
      go_wp2_with (first | (go_at_call 82; refine (has_any _ _ _).mono ?_; rintro e w' ⟨rfl, rfl⟩) | (go_at_call 92; refine (compares_any _ _).mono ?_; rintro e w' ⟨rfl, rfl⟩))
      go_ret
      exact ⟨ret_int (by simp [resK, h1, h2]), rfl⟩
  · have h1 : hasB op k = false := by simpa using h1
    go_enter Tryz.func83, Tryz.ntmps83
    go_wp2_with (first | (go_at_call 82; refine (has_any _ _ _).mono ?_; rintro e w' ⟨rfl, rfl⟩) | (go_at_call 92; refine (compares_any _ _).mono ?_; rintro e w' ⟨rfl, rfl⟩))
    go_ret
    exact ⟨ret_int (by simp [resK, h1]), rfl⟩

def secK (op k : Int) : Int :=
  if hasB op k = true then (if op == 21 || op == 22 || op == 23 then 0 else if op == 15 || op == 16 || op == 17 || op == 18 then 2 else k) else 0
set_option maxHeartbeats 400000 in
theorem second_any (op k : Int) (w : World) :
    Calls Tryz.prog 81 #[.int .i64 op, .int .i64 k] w fun e w' => e = .returned (.int .i64 (secK op k)) ∧ w' = w := by
  by_cases h1 : hasB op k = true
  · go_enter Tryz.func81, Tryz.ntmps81
    go_wp2_with (first | (go_at_call 82; refine (has_any _ _ _).mono ?_; rintro e w' ⟨rfl, rfl⟩))
    all_goals go_ret
    all_goals exact ⟨ret_int (by simp [secK, *]), rfl⟩
  · have h1 : hasB op k = false := by simpa using h1
    go_enter Tryz.func81, Tryz.ntmps81
    go_wp2_with (first | (go_at_call 82; refine (has_any _ _ _).mono ?_; rintro e w' ⟨rfl, rfl⟩))
    go_ret
    exact ⟨ret_int (by simp [secK, h1]), rfl⟩

def tru (b : Bool) : Int := if b = true then 1 else 0
theorem truth_any (b : Bool) (w : World) :
    Calls Tryz.prog 95 #[.bool b] w fun e w' => e = .returned (.int .i64 (tru b)) ∧ w' = w := by
  cases b
  · go_enter Tryz.func95, Tryz.ntmps95
    go_wp2
    go_ret
    exact ⟨rfl, rfl⟩
  · go_enter Tryz.func95, Tryz.ntmps95
    go_wp2
    go_ret
    exact ⟨rfl, rfl⟩

def holdsB (op a b : Int) : Bool :=
  if op == 9 then a == b else if op == 10 then a != b else if op == 11 then decide (a < b) else if op == 12 then decide (a ≤ b) else if op == 13 then decide (b < a) else decide (b ≤ a)
set_option maxHeartbeats 400000 in
theorem holds_any (op a b : Int) (w : World) :
    Calls Tryz.prog 96 #[.int .i64 op, .int .i64 a, .int .i64 b] w fun e w' => e = .returned (.bool (holdsB op a b)) ∧ w' = w := by
  go_enter Tryz.func96, Tryz.ntmps96
  go_wp2
  all_goals go_ret
  all_goals exact ⟨ret_bool (by simp [holdsB, *]), rfl⟩
end Go.Proofs.YtcgbfhpmkpglkaaGreatDoor.Ce

/- Contracts of reckon, mask. -/
namespace Go.Proofs.YtcgbfhpmkpglkaaGreatDoor.Ce
open Go.RowKit

def reckK (op a b : Int) : Int :=
  if op == 1 then wrap64 (a + b) else if op == 2 then wrap64 (a - b) else if op == 3 then wrap64 (a * b)
  else if op == 4 then wrap64 (a.tdiv b) else if op == 5 then a.tmod b
  else if op == 19 then (if b < a then b else a) else if op == 20 then (if a < b then b else a)
  else if op == 22 then wrap64 (-a) else (if a < wrap64 (-a) then wrap64 (-a) else a)
set_option maxHeartbeats 1000000 in
theorem reckon_any (op a b : Int) (w : World) (hb : b = 0 → (op == 4) = false ∧ (op == 5) = false) :
    Calls Tryz.prog 97 #[.int .i64 op, .int .i64 a, .int .i64 b] w fun e w' => e = .returned (.int .i64 (reckK op a b)) ∧ w' = w := by
  by_cases h0 : b = 0
  · obtain ⟨h4, h5⟩ := hb h0
    clear hb
    have H0 : Hid (b = 0) := h0
    clear h0
    go_enter Tryz.func97, Tryz.ntmps97
    go_wp2
    all_goals go_ret
    all_goals refine ⟨ret_int ?_, rfl⟩
    all_goals simp [reckK, *] <;> omega
  · clear hb
    go_enter Tryz.func97, Tryz.ntmps97
    go_wp2
    all_goals go_ret
    all_goals refine ⟨ret_int ?_, rfl⟩
    all_goals simp [reckK, *] <;> omega

def maskK (op a b : Int) : Int :=
  if op == 6 then bits BinOp.and IntKind.i64 a b else if op == 7 then bits BinOp.or IntKind.i64 a b
  else if op == 8 then bits BinOp.xor IntKind.i64 a b else bits BinOp.xor IntKind.i64 (-1) a
set_option maxHeartbeats 1000000 in
theorem mask_any (op a b : Int) (w : World) :
    Calls Tryz.prog 94 #[.int .i64 op, .int .i64 a, .int .i64 b] w fun e w' => e = .returned (.int .i64 (maskK op a b)) ∧ w' = w := by
  go_enter Tryz.func94, Tryz.ntmps94
  go_wp2
  all_goals go_ret
  all_goals refine ⟨ret_int ?_, rfl⟩
  all_goals simp [maskK, *]
end Go.Proofs.YtcgbfhpmkpglkaaGreatDoor.Ce

/- Contracts of RotateLeft16, shift, work. -/
namespace Go.Proofs.YtcgbfhpmkpglkaaGreatDoor.Ce
open Go.RowKit

theorem and15 (c : Int) : bits BinOp.and IntKind.u64 (IntKind.u64.wrap c) 15 = c % 16 := by
  have h := bits_mask .u64 64 (by decide) (fun n h0 h1 => by rw [IntKind.wrap_u64]; omega) 4 (by decide) (IntKind.u64.wrap c) (by rw [IntKind.wrap_u64]; omega) (by rw [IntKind.wrap_u64]; omega)
  have e : ((2 : Int) ^ 4 - 1) = 15 := by decide
  rw [e] at h
  rw [h, IntKind.wrap_u64]
  omega

/-- Sixteen bits gone round to the left by m places. -/
def rotM (a : Int) (m : Nat) : Int := (a * 2 ^ m) % 65536 + a / 2 ^ (16 - m)
theorem rotM_bd (a : Int) (m : Nat) (hm : m < 16) (h0 : 0 ≤ a) (h1 : a ≤ 65535) : 0 ≤ rotM a m ∧ rotM a m ≤ 65535 := by
  have hc : m = 0 ∨ m = 1 ∨ m = 2 ∨ m = 3 ∨ m = 4 ∨ m = 5 ∨ m = 6 ∨ m = 7 ∨ m = 8 ∨ m = 9 ∨ m = 10 ∨ m = 11 ∨ m = 12 ∨ m = 13 ∨ m = 14 ∨ m = 15 := by omega
  unfold rotM
  rcases hc with rfl | rfl | rfl | rfl | rfl | rfl | rfl | rfl | rfl | rfl | rfl | rfl | rfl | rfl | rfl | rfl
  all_goals simp only [Nat.sub_zero, Nat.reduceSub, Int.reducePow]
  all_goals omega

theorem rot_or (a : Int) (m : Nat) (hm : m < 16) (h0 : 0 ≤ a) (h1 : a ≤ 65535) :
    bits BinOp.or IntKind.u16 (IntKind.u16.wrap (a * 2 ^ m)) (a / 2 ^ (16 - m)) = rotM a m := by
  have hw : ∀ n : Int, 0 ≤ n → n < 2 ^ 16 → IntKind.u16.wrap n = n := fun n h0 h1 => by rw [u16_is]; omega
  have hc : m = 0 ∨ m = 1 ∨ m = 2 ∨ m = 3 ∨ m = 4 ∨ m = 5 ∨ m = 6 ∨ m = 7 ∨ m = 8 ∨ m = 9 ∨ m = 10 ∨ m = 11 ∨ m = 12 ∨ m = 13 ∨ m = 14 ∨ m = 15 := by omega
  rw [u16_is]
  unfold rotM
  rcases hc with rfl | rfl | rfl | rfl | rfl | rfl | rfl | rfl | rfl | rfl | rfl | rfl | rfl | rfl | rfl | rfl
  · exact bits_join .u16 16 (by decide) hw 0 _ _ (by omega) (by omega) (by omega) (by omega) (by omega) (by omega)
  · exact bits_join .u16 16 (by decide) hw 1 _ _ (by omega) (by omega) (by omega) (by omega) (by omega) (by omega)
  · exact bits_join .u16 16 (by decide) hw 2 _ _ (by omega) (by omega) (by omega) (by omega) (by omega) (by omega)
  · exact bits_join .u16 16 (by decide) hw 3 _ _ (by omega) (by omega) (by omega) (by omega) (by omega) (by omega)
  · exact bits_join .u16 16 (by decide) hw 4 _ _ (by omega) (by omega) (by omega) (by omega) (by omega) (by omega)
  · exact bits_join .u16 16 (by decide) hw 5 _ _ (by omega) (by omega) (by omega) (by omega) (by omega) (by omega)
  · exact bits_join .u16 16 (by decide) hw 6 _ _ (by omega) (by omega) (by omega) (by omega) (by omega) (by omega)
  · exact bits_join .u16 16 (by decide) hw 7 _ _ (by omega) (by omega) (by omega) (by omega) (by omega) (by omega)
  · exact bits_join .u16 16 (by decide) hw 8 _ _ (by omega) (by omega) (by omega) (by omega) (by omega) (by omega)
  · exact bits_join .u16 16 (by decide) hw 9 _ _ (by omega) (by omega) (by omega) (by omega) (by omega) (by omega)
  · exact bits_join .u16 16 (by decide) hw 10 _ _ (by omega) (by omega) (by omega) (by omega) (by omega) (by omega)
  · exact bits_join .u16 16 (by decide) hw 11 _ _ (by omega) (by omega) (by omega) (by omega) (by omega) (by omega)
  · exact bits_join .u16 16 (by decide) hw 12 _ _ (by omega) (by omega) (by omega) (by omega) (by omega) (by omega)
  · exact bits_join .u16 16 (by decide) hw 13 _ _ (by omega) (by omega) (by omega) (by omega) (by omega) (by omega)
  · exact bits_join .u16 16 (by decide) hw 14 _ _ (by omega) (by omega) (by omega) (by omega) (by omega) (by omega)
  · exact bits_join .u16 16 (by decide) hw 15 _ _ (by omega) (by omega) (by omega) (by omega) (by omega) (by omega)

def rotL (a c : Int) : Int := rotM a (c % 16).toNat
theorem rotL_bd (a c : Int) (h0 : 0 ≤ a) (h1 : a ≤ 65535) : 0 ≤ rotL a c ∧ rotL a c ≤ 65535 := rotM_bd a _ (by omega) h0 h1

set_option maxHeartbeats 1000000 in
theorem rot_any (a c : Int) (w : World) (ha : 0 ≤ a) (ha' : a ≤ 65535) :
    Calls Tryz.prog 98 #[.int .u16 a, .int .i64 c] w fun e w' => e = .returned (.int .u16 (rotL a c)) ∧ w' = w := by
  have e := and15 c
  go_enter Tryz.func98, Tryz.ntmps98
  go_wp2
  go_ret
  refine ⟨ret_int ?_, rfl⟩
  have h := rot_or a (c % 16).toNat (by omega) ha ha'
  have e16 : (16 - c % 16).toNat = 16 - (c % 16).toNat := by omega
  show bits BinOp.or IntKind.u16 (IntKind.u16.wrap (a * 2 ^ (c % 16).toNat)) (a / 2 ^ (16 - c % 16).toNat) = _
  rw [e16, h]; rfl

def shK (op a c : Int) : Int :=
  if op == 15 then wrap64 (a * 2 ^ min c.toNat 64) else if op == 16 then a / 2 ^ min c.toNat 64 else if op == 17 then rotL a c else rotL a (-c)
set_option maxHeartbeats 1000000 in
theorem shift_any (op a c : Int) (w : World) (ha : 0 ≤ a) (ha' : a ≤ 65535) (hc : 0 ≤ c) (hc' : c ≤ 32767) :
    Calls Tryz.prog 93 #[.int .i64 op, .int .i64 a, .int .i64 c] w fun e w' => e = .returned (.int .i64 (shK op a c)) ∧ w' = w := by
  have b1 := rotL_bd a c ha ha'
  have b2 := rotL_bd a (-c) ha ha'
  go_enter Tryz.func93, Tryz.ntmps93
  go_wp2_with (go_at_call 98; refine (rot_any _ _ _ ha ha').mono ?_; rintro e w' ⟨rfl, rfl⟩)
  all_goals go_ret
  all_goals refine ⟨ret_int ?_, rfl⟩
  all_goals simp [shK, *]
end Go.Proofs.YtcgbfhpmkpglkaaGreatDoor.Ce

/- Contracts of work, Do, Convert. -/
namespace Go.Proofs.YtcgbfhpmkpglkaaGreatDoor.Ce
open Go.RowKit

def shB (op : Int) : Bool := op == 15 || op == 16 || op == 17 || op == 18
def mkB (op : Int) : Bool := op == 6 || op == 7 || op == 8 || op == 21
def workK (op a b : Int) : Int :=
  if shB op = true then shK op a (if b < 0 then 0 else b) else if mkB op = true then maskK op a b else if cmpB op = true then tru (holdsB op a b) else reckK op a b

set_option maxHeartbeats 1000000 in
theorem work_any (op a b : Int) (w : World) (hs : shB op = true → 0 ≤ a ∧ a ≤ 65535 ∧ b ≤ 32767) (hb : b = 0 → (op == 4) = false ∧ (op == 5) = false) :
    Calls Tryz.prog 84 #[.int .i64 op, .int .i64 a, .int .i64 b] w fun e w' => e = .returned (.int .i64 (workK op a b)) ∧ w' = w := by
  by_cases h1 : shB op = true
  · obtain ⟨ha, ha', hb'⟩ := hs h1
    have ho : op = 15 ∨ op = 16 ∨ op = 17 ∨ op = 18 := by simp [shB] at h1; omega
    clear hs hb
    have H1 : Hid (shB op = true) := h1
    clear h1
    by_cases hn : b < 0
    · rcases ho with rfl | rfl | rfl | rfl
      all_goals
        go_enter Tryz.func84, Tryz.ntmps84
        go_wp2_with (go_at_call 93; refine (shift_any _ _ _ _ ha ha' (by omega) (by omega)).mono ?_; rintro e w' ⟨rfl, rfl⟩)
        go_ret
        exact ⟨ret_int (by simp [workK, H1.out, hn]), rfl⟩
    · rcases ho with rfl | rfl | rfl | rfl
      all_goals
        go_enter Tryz.func84, Tryz.ntmps84
        go_wp2_with (go_at_call 93; refine (shift_any _ _ _ _ ha ha' (by omega) (by omega)).mono ?_; rintro e w' ⟨rfl, rfl⟩)
        go_ret
        exact ⟨ret_int (by simp [workK, H1.out]; rw [if_neg (show ¬ b < 0 by omega)]), rfl⟩
  · have h1 : shB op = false := by simpa using h1
    have hx := h1
    simp only [shB, Bool.or_eq_false_iff] at hx
    obtain ⟨⟨⟨o15, o16⟩, o17⟩, o18⟩ := hx
    clear hs
    by_cases h2 : mkB op = true
    · have ho : op = 6 ∨ op = 7 ∨ op = 8 ∨ op = 21 := by simp [mkB] at h2; omega
      have H1 : Hid (shB op = false) := h1
      have H2 : Hid (mkB op = true) := h2
      clear h1 h2 hb o15 o16 o17 o18
      rcases ho with rfl | rfl | rfl | rfl
      all_goals
        go_enter Tryz.func84, Tryz.ntmps84
        go_wp2_with (go_at_call 94; refine (mask_any _ _ _ _).mono ?_; rintro e w' ⟨rfl, rfl⟩)
        go_ret
        exact ⟨ret_int (by simp [workK, H1.out, H2.out]), rfl⟩
    · have h2 : mkB op = false := by simpa using h2
      have hx := h2
      simp only [mkB, Bool.or_eq_false_iff] at hx
      obtain ⟨⟨⟨o6, o7⟩, o8⟩, o21⟩ := hx
      by_cases h3 : cmpB op = true
      · clear hb
        go_enter Tryz.func84, Tryz.ntmps84
        go_wp2_with (first | (go_at_call 92; refine (compares_any _ _).mono ?_; rintro e w' ⟨rfl, rfl⟩) | (go_at_call 96; refine (holds_any _ _ _ _).mono ?_; rintro e w' ⟨rfl, rfl⟩) | (go_at_call 95; refine (truth_any _ _).mono ?_; rintro e w' ⟨rfl, rfl⟩))
        go_ret
        exact ⟨ret_int (by simp [workK, h1, h2, h3]), rfl⟩
      · have h3 : cmpB op = false := by simpa using h3
        have HB : Hid (b = 0 → (op == 4) = false ∧ (op == 5) = false) := hb
        clear hb
        go_enter Tryz.func84, Tryz.ntmps84
        go_wp2_with (first | (go_at_call 92; refine (compares_any _ _).mono ?_; rintro e w' ⟨rfl, rfl⟩) | (go_at_call 97; refine (reckon_any _ _ _ _ HB.out).mono ?_; rintro e w' ⟨rfl, rfl⟩))
        go_ret
        exact ⟨ret_int (by simp [workK, h1, h2, h3]), rfl⟩

def zeroB (op k b : Int) : Bool := (wrapK (secK op k) b == 0) && (op == 4 || op == 5)
def doN (op k a b : Int) : Int :=
  if hasB op k = true then (if zeroB op k b = true then 0 else wrapK (resK op k) (workK op (wrapK k a) (wrapK (secK op k) b))) else 0
def doZ (op k b : Int) : Bool := hasB op k && zeroB op k b

theorem has_sh {op k : Int} (h : hasB op k = true) (hs : shB op = true) : k = 4 := by
  simp [shB] at hs
  rcases hs with ((rfl | rfl) | rfl) | rfl
  all_goals simpa [hasB] using h
theorem sec_sh {op k : Int} (h : hasB op k = true) (hs : shB op = true) : secK op k = 2 := by
  simp [shB] at hs
  rcases hs with ((rfl | rfl) | rfl) | rfl
  all_goals simp [secK, h]

set_option maxHeartbeats 1000000 in
theorem do_any (op k a b : Int) (w : World) :
    Calls Tryz.prog 69 #[.int .i64 op, .int .i64 k, .int .i64 a, .int .i64 b] w fun e w' => e = .returned (.tuple #[.int .i64 (doN op k a b), .bool (doZ op k b)]) ∧ w' = w := by
  by_cases h1 : hasB op k = true
  · by_cases h2 : (wrapK (secK op k) b == 0) = true
    · by_cases h4 : (op == 4) = true
      · go_enter Tryz.func69, Tryz.ntmps69
        go_wp2_with (first | (go_at_call 82; refine (has_any _ _ _).mono ?_; rintro e w' ⟨rfl, rfl⟩) | (go_at_call 71; refine (wrap_any _ _ _).mono ?_; rintro e w' ⟨rfl, rfl⟩) | (go_at_call 81; refine (second_any _ _ _).mono ?_; rintro e w' ⟨rfl, rfl⟩))
        go_ret2
        exact ⟨by simp [doN, doZ, zeroB, *], rfl⟩
      · have h4 : (op == 4) = false := by simpa using h4
        by_cases h5 : (op == 5) = true
        · go_enter Tryz.func69, Tryz.ntmps69
          go_wp2_with (first | (go_at_call 82; refine (has_any _ _ _).mono ?_; rintro e w' ⟨rfl, rfl⟩) | (go_at_call 71; refine (wrap_any _ _ _).mono ?_; rintro e w' ⟨rfl, rfl⟩) | (go_at_call 81; refine (second_any _ _ _).mono ?_; rintro e w' ⟨rfl, rfl⟩))
          go_ret2
          exact ⟨by simp [doN, doZ, zeroB, *], rfl⟩
        · have h5 : (op == 5) = false := by simpa using h5
          have HS : Hid (shB op = true → 0 ≤ wrapK k a ∧ wrapK k a ≤ 65535 ∧ wrapK (secK op k) b ≤ 32767) := fun hs => by
            rw [has_sh h1 hs, wrapK4]
            have e := sec_sh h1 hs
            rw [has_sh h1 hs] at e
            rw [e, wrapK2]; omega
          go_enter Tryz.func69, Tryz.ntmps69
          go_wp2_with (first | (go_at_call 82; refine (has_any _ _ _).mono ?_; rintro e w' ⟨rfl, rfl⟩) | (go_at_call 71; refine (wrap_any _ _ _).mono ?_; rintro e w' ⟨rfl, rfl⟩) | (go_at_call 81; refine (second_any _ _ _).mono ?_; rintro e w' ⟨rfl, rfl⟩) | (go_at_call 83; refine (result_any _ _ _).mono ?_; rintro e w' ⟨rfl, rfl⟩) | (go_at_call 84; refine (work_any _ _ _ _ HS.out (fun _ => ⟨h4, h5⟩)).mono ?_; rintro e w' ⟨rfl, rfl⟩))
          go_ret2
          exact ⟨by simp [doN, doZ, zeroB, *], rfl⟩
    · have h2 : (wrapK (secK op k) b == 0) = false := by simpa using h2
      have HS : Hid (shB op = true → 0 ≤ wrapK k a ∧ wrapK k a ≤ 65535 ∧ wrapK (secK op k) b ≤ 32767) := fun hs => by
        rw [has_sh h1 hs, wrapK4]
        have e := sec_sh h1 hs
        rw [has_sh h1 hs] at e
        rw [e, wrapK2]; omega
      have HZ : Hid (wrapK (secK op k) b = 0 → (op == 4) = false ∧ (op == 5) = false) := fun h => by simp [h] at h2
      go_enter Tryz.func69, Tryz.ntmps69
      go_wp2_with (first | (go_at_call 82; refine (has_any _ _ _).mono ?_; rintro e w' ⟨rfl, rfl⟩) | (go_at_call 71; refine (wrap_any _ _ _).mono ?_; rintro e w' ⟨rfl, rfl⟩) | (go_at_call 81; refine (second_any _ _ _).mono ?_; rintro e w' ⟨rfl, rfl⟩) | (go_at_call 83; refine (result_any _ _ _).mono ?_; rintro e w' ⟨rfl, rfl⟩) | (go_at_call 84; refine (work_any _ _ _ _ HS.out HZ.out).mono ?_; rintro e w' ⟨rfl, rfl⟩))
      go_ret2
      exact ⟨by simp [doN, doZ, zeroB, *], rfl⟩
  · have h1 : hasB op k = false := by simpa using h1
    go_enter Tryz.func69, Tryz.ntmps69
    go_wp2_with (first | (go_at_call 82; refine (has_any _ _ _).mono ?_; rintro e w' ⟨rfl, rfl⟩))
    go_ret2
    exact ⟨by simp [doN, doZ, *], rfl⟩
end Go.Proofs.YtcgbfhpmkpglkaaGreatDoor.Ce

/- Contracts of the document's answer: Width, Wrap, Fits, yes, Convert, and of the program's Convert. -/
namespace Go.Proofs.YtcgbfhpmkpglkaaGreatDoor.Ce
open Go.RowKit

def wideS (k : Int) : Int := if k == 1 then 2 else if k == 2 then 65536 else if k == 3 then 4294967296 else if k == 4 then 65536 else if k == 5 then 4294967296 else 0
def wideL (k : Int) : Int := if k == 1 then 0 else if k == 2 then -32768 else if k == 3 then -2147483648 else 0
set_option maxHeartbeats 400000 in
theorem width_any (k : Int) (w : World) :
    Calls Tryz.prog 61 #[.int .i64 k] w fun e w' => e = .returned (.tuple #[.int .i64 (wideS k), .int .i64 (wideL k)]) ∧ w' = w := by
  go_enter Tryz.func61, Tryz.ntmps61
  go_wp2
  all_goals go_ret2
  all_goals refine ⟨?_, rfl⟩
  all_goals simp [wideS, wideL, *]

theorem kinds (k : Int) : k = 1 ∨ k = 2 ∨ k = 3 ∨ k = 4 ∨ k = 5 ∨ (k ≠ 1 ∧ k ≠ 2 ∧ k ≠ 3 ∧ k ≠ 4 ∧ k ≠ 5) := by omega

theorem tmod_cases (n s : Int) : (0 ≤ n ∧ n.tmod s = n % s) ∨ (n < 0 ∧ n.tmod s = -((-n) % s)) := by
  rcases Int.lt_or_le n 0 with h1 | h1
  · right
    refine ⟨h1, ?_⟩
    have : n.tmod s = -((-n).tmod s) := by rw [Int.neg_tmod, Int.neg_neg]
    rw [this, Int.tmod_eq_emod_of_nonneg (by omega)]
  · left
    exact ⟨h1, Int.tmod_eq_emod_of_nonneg h1⟩

set_option maxHeartbeats 1000000 in
theorem rwrap_any (k n : Int) (w : World) :
    Calls Tryz.prog 42 #[.int .i64 k, .int .i64 n] w fun e w' => e = .returned (.int .i64 (wrapK k n)) ∧ w' = w := by
  rcases kinds k with rfl | rfl | rfl | rfl | rfl | ⟨h1, h2, h3, h4, h5⟩
  · have e1 : wideS 1 = 2 := rfl
    have e2 : wideL 1 = 0 := rfl
    have ht := tmod_cases n 2
    have HT : Hid ((0 ≤ n ∧ n.tmod 2 = n % 2) ∨ (n < 0 ∧ n.tmod 2 = -((-n) % 2))) := ht
    have hb : -2 < n.tmod 2 ∧ n.tmod 2 < 2 := by omega
    clear ht
    go_enter Tryz.func42, Tryz.ntmps42
    go_wp2_with (go_at_call 61; refine (width_any _ _).mono ?_; rintro e w' ⟨rfl, rfl⟩)
    all_goals go_ret
    all_goals refine ⟨ret_int ?_, rfl⟩
    all_goals
      have := HT.out
      rw [wrapK1]
      clear HT e1 e2
      omega
  · have e1 : wideS 2 = 65536 := rfl
    have e2 : wideL 2 = -32768 := rfl
    have ht := tmod_cases n 65536
    have HT : Hid ((0 ≤ n ∧ n.tmod 65536 = n % 65536) ∨ (n < 0 ∧ n.tmod 65536 = -((-n) % 65536))) := ht
    have hb : -65536 < n.tmod 65536 ∧ n.tmod 65536 < 65536 := by omega
    clear ht
    go_enter Tryz.func42, Tryz.ntmps42
    go_wp2_with (go_at_call 61; refine (width_any _ _).mono ?_; rintro e w' ⟨rfl, rfl⟩)
    all_goals go_ret
    all_goals refine ⟨ret_int ?_, rfl⟩
    all_goals
      have := HT.out
      rw [wrapK2]
      clear HT e1 e2
      omega
  · have e1 : wideS 3 = 4294967296 := rfl
    have e2 : wideL 3 = -2147483648 := rfl
    have ht := tmod_cases n 4294967296
    have HT : Hid ((0 ≤ n ∧ n.tmod 4294967296 = n % 4294967296) ∨ (n < 0 ∧ n.tmod 4294967296 = -((-n) % 4294967296))) := ht
    have hb : -4294967296 < n.tmod 4294967296 ∧ n.tmod 4294967296 < 4294967296 := by omega
    clear ht
    go_enter Tryz.func42, Tryz.ntmps42
    go_wp2_with (go_at_call 61; refine (width_any _ _).mono ?_; rintro e w' ⟨rfl, rfl⟩)
    all_goals go_ret
    all_goals refine ⟨ret_int ?_, rfl⟩
    all_goals
      have := HT.out
      rw [wrapK3]
      clear HT e1 e2
      omega
  · have e1 : wideS 4 = 65536 := rfl
    have e2 : wideL 4 = 0 := rfl
    have ht := tmod_cases n 65536
    have HT : Hid ((0 ≤ n ∧ n.tmod 65536 = n % 65536) ∨ (n < 0 ∧ n.tmod 65536 = -((-n) % 65536))) := ht
    have hb : -65536 < n.tmod 65536 ∧ n.tmod 65536 < 65536 := by omega
    clear ht
    go_enter Tryz.func42, Tryz.ntmps42
    go_wp2_with (go_at_call 61; refine (width_any _ _).mono ?_; rintro e w' ⟨rfl, rfl⟩)
    all_goals go_ret
    all_goals refine ⟨ret_int ?_, rfl⟩
    all_goals
      have := HT.out
      rw [wrapK4]
      clear HT e1 e2
      omega
  · have e1 : wideS 5 = 4294967296 := rfl
    have e2 : wideL 5 = 0 := rfl
    have ht := tmod_cases n 4294967296
    have HT : Hid ((0 ≤ n ∧ n.tmod 4294967296 = n % 4294967296) ∨ (n < 0 ∧ n.tmod 4294967296 = -((-n) % 4294967296))) := ht
    have hb : -4294967296 < n.tmod 4294967296 ∧ n.tmod 4294967296 < 4294967296 := by omega
    clear ht
    go_enter Tryz.func42, Tryz.ntmps42
    go_wp2_with (go_at_call 61; refine (width_any _ _).mono ?_; rintro e w' ⟨rfl, rfl⟩)
    all_goals go_ret
    all_goals refine ⟨ret_int ?_, rfl⟩
    all_goals
      have := HT.out
      rw [wrapK5]
      clear HT e1 e2
      omega
  · have e1 : wideS k = 0 := by simp [wideS, h1, h2, h3, h4, h5]
    have HW : Hid (wrapK k n = 0) := wrapK_else n h1 h2 h3 h4 h5
    clear h1 h2 h3 h4 h5
    go_enter Tryz.func42, Tryz.ntmps42
    go_wp2_with (go_at_call 61; refine (width_any _ _).mono ?_; rintro e w' ⟨rfl, rfl⟩)
    go_ret
    exact ⟨ret_int (by rw [HW.out]), rfl⟩

theorem yes_any (b : Bool) (w : World) :
    Calls Tryz.prog 28 #[.bool b] w fun e w' => e = .returned (.int .i64 (tru b)) ∧ w' = w := by
  cases b
  · go_enter Tryz.func28, Tryz.ntmps28
    go_wp2
    go_ret
    exact ⟨rfl, rfl⟩
  · go_enter Tryz.func28, Tryz.ntmps28
    go_wp2
    go_ret
    exact ⟨rfl, rfl⟩

def convK (k to n : Int) : Int := if to == 1 then tru (wrapK k n != 0) else wrapK to (wrapK k n)
theorem conv_any (k to n : Int) (w : World) :
    Calls Tryz.prog 52 #[.int .i64 k, .int .i64 to, .int .i64 n] w fun e w' => e = .returned (.int .i64 (convK k to n)) ∧ w' = w := by
  by_cases h1 : (to == 1) = true
  · by_cases h2 : (wrapK k n != 0) = true
    · go_enter Tryz.func52, Tryz.ntmps52
      go_wp2_with (go_at_call 71; refine (wrap_any _ _ _).mono ?_; rintro e w' ⟨rfl, rfl⟩)
      go_ret
      exact ⟨ret_int (by simp [convK, tru, h1, h2]), rfl⟩
    · have h2 : (wrapK k n != 0) = false := by simpa using h2
      have h3 : wrapK k n = 0 := by simpa using h2
      go_enter Tryz.func52, Tryz.ntmps52
      go_wp2_with (go_at_call 71; refine (wrap_any _ _ _).mono ?_; rintro e w' ⟨rfl, rfl⟩)
      go_ret
      exact ⟨ret_int (by simp at h1; simp [convK, tru, h1, h3, wrapK1]), rfl⟩
  · have h1 : (to == 1) = false := by simpa using h1
    go_enter Tryz.func52, Tryz.ntmps52
    go_wp2_with (go_at_call 71; refine (wrap_any _ _ _).mono ?_; rintro e w' ⟨rfl, rfl⟩)
    go_ret
    exact ⟨ret_int (by simp [convK, h1]), rfl⟩
theorem rconv_any (k to n : Int) (w : World) :
    Calls Tryz.prog 29 #[.int .i64 k, .int .i64 to, .int .i64 n] w fun e w' => e = .returned (.int .i64 (convK k to n)) ∧ w' = w := by
  by_cases h1 : (to == 1) = true
  · go_enter Tryz.func29, Tryz.ntmps29
    go_wp2_with (first | (go_at_call 42; refine (rwrap_any _ _ _).mono ?_; rintro e w' ⟨rfl, rfl⟩) | (go_at_call 28; refine (yes_any _ _).mono ?_; rintro e w' ⟨rfl, rfl⟩))
    go_ret
    exact ⟨ret_int (by simp [convK, h1]), rfl⟩
  · have h1 : (to == 1) = false := by simpa using h1
    go_enter Tryz.func29, Tryz.ntmps29
    go_wp2_with (first | (go_at_call 42; refine (rwrap_any _ _ _).mono ?_; rintro e w' ⟨rfl, rfl⟩) | (go_at_call 28; refine (yes_any _ _).mono ?_; rintro e w' ⟨rfl, rfl⟩))
    go_ret
    exact ⟨ret_int (by simp [convK, h1]), rfl⟩
end Go.Proofs.YtcgbfhpmkpglkaaGreatDoor.Ce

/- The machine: work, loadAt, storeAt, pick. -/
namespace Go.Proofs.YtcgbfhpmkpglkaaGreatDoor
open Go.RowKit
attribute [local go_sem ↓] Go.wp_at_zero Go.wp_at_succ
set_option linter.unusedVariables false
set_option linter.unusedSimpArgs false

/-- An instruction in memory. -/
structure InsAt (w : World) (tb o : Nat) (x : Ins) : Prop where
  d : w.cell? ⟨tb, o, none⟩ = some (.int .i64 x.d)
  a : w.cell? ⟨tb, o + 1, none⟩ = some (.int .i64 x.a)
  b : w.cell? ⟨tb, o + 2, none⟩ = some (.int .i64 x.b)
  c : w.cell? ⟨tb, o + 3, none⟩ = some (.int .i64 x.c)
theorem InsAt.grown {w w' : World} {tb o : Nat} {x : Ins} (h : InsAt w tb o x) (hg : w.grownBy w' none) : InsAt w' tb o x := ⟨hg.cell h.d (by simp), hg.cell h.a (by simp), hg.cell h.b (by simp), hg.cell h.c (by simp)⟩

section
variable {w : World} {B M : Nat} {pv : Value} {now : Int} {sa : Option Addr} {sc : Nat} {st : List Int} {sp fl : Int}
theorem MaC.setF (h : MaC w B M pv now sa sc st sp fl) (y : Int) : MaC (w.setCell ⟨M, 4, none⟩ (.int .i64 y)) B M pv now sa sc st sp y := by
  refine ⟨by simpa using at_set h.blk 4 (.int .i64 y), ?_, h.lo⟩
  exact World.ownsRow.kept h.own (gr_set (World.grownBy.refl w (some M)) _ _) (.inr fun e => by rw [own_sb] at e; have := (h.row M e).1; have := h.lo; omega)
theorem MaC.setS (h : MaC w B M pv now sa sc st sp fl) (y : Int) : MaC (w.setCell ⟨M, 3, none⟩ (.int .i64 y)) B M pv now sa sc st y fl := by
  refine ⟨by simpa using at_set h.blk 3 (.int .i64 y), ?_, h.lo⟩
  exact World.ownsRow.kept h.own (gr_set (World.grownBy.refl w (some M)) _ _) (.inr fun e => by rw [own_sb] at e; have := (h.row M e).1; have := h.lo; omega)
theorem chg_set (M i : Nat) (F r : Option Nat) (w : World) (v : Value) : Chg M F r w (w.setCell ⟨M, i, none⟩ v) := ⟨rfl, rfl, rfl, by simp, fun k hk hkM _ _ => Below.heap_setCell _ _ _ _ (by simpa using hkM)⟩
theorem MaC.size (h : MaC w B M pv now sa sc st sp fl) : M < w.heap.size := at_lt h.blk

theorem pop_at {x : Int} (h : MaC w B M pv now sa sc (st ++ [x]) sp fl) (hl : st.length ≤ 900000) (W : World) (hW : w.grownBy W none) :
    Calls Tryz.prog 31 #[.pointer (some ⟨M, 0, none⟩)] W fun e w' => e = .returned (.int .i64 x) ∧ MaC w' B M pv now sa sc st sp fl ∧ Chg M none (sb sa) w w' ∧ Nx w (sb sa) (sb sa) :=
  (pop_any B M pv now sa sc st sp fl x W (h.kept hW) hl).mono fun e w' ⟨h1, h2, h3, h4⟩ => ⟨h1, h2, (Chg.of_none hW).trans (Nx.refl _ _) h3, Nx.trans hW.size (Nx.refl _ _) h4⟩
theorem push_at (x : Int) (h : MaC w B M pv now sa sc st sp fl) (hl : st.length ≤ 900000) (hB : B ≤ w.heap.size) (W : World) (hW : w.grownBy W none) :
    Calls Tryz.prog 48 #[.pointer (some ⟨M, 0, none⟩), .int .i64 x] W fun e w' => e = .returned (.tuple #[]) ∧ ∃ sa' sc', MaC w' B M pv now sa' sc' (st ++ [x]) sp fl ∧ Chg M none (sb sa) w w' ∧ Nx w (sb sa) (sb sa') :=
  (push_any B M pv now sa sc st sp fl x W (h.kept hW) hl (by have := hW.size; omega)).mono fun e w' ⟨h1, sa', sc', h2, h3, h4⟩ => ⟨h1, sa', sc', h2, (Chg.of_none hW).trans (Nx.refl _ _) h3, Nx.trans hW.size (Nx.refl _ _) h4⟩
end

/-- What a step of the machine leaves: the stack, steps and faults; and where. -/
def StP (w : World) (B M : Nat) (F : Option Nat) (pv : Value) (now : Int) (r0 : Option Nat) (st' : List Int) (sp' fl' : Int) (w' : World) : Prop :=
  ∃ sa' sc', MaC w' B M pv now sa' sc' st' sp' fl' ∧ Chg M F r0 w w' ∧ Nx w r0 (sb sa')

theorem doW (op k a b : Int) (w : World) : Calls Tryz.prog 69 #[.int .i64 op, .int .i64 k, .int .i64 a, .int .i64 b] w fun e w' => e = .returned (.tuple #[.int .i64 (Ce.doN op k a b), .bool (Ce.doZ op k b)]) ∧ w = w' := (Ce.do_any op k a b w).mono fun e w' h => ⟨h.1, h.2.symm⟩
theorem convW (k to n : Int) (w : World) : Calls Tryz.prog 52 #[.int .i64 k, .int .i64 to, .int .i64 n] w fun e w' => e = .returned (.int .i64 (Ce.convK k to n)) ∧ w = w' := (Ce.conv_any k to n w).mono fun e w' h => ⟨h.1, h.2.symm⟩
theorem fault_more (fl : Int) (h0 : 0 ≤ fl) (h1 : fl ≤ 1000000000000) : IntKind.i64.wrap (fl + 1) = fl + 1 := IntWalk.i64_in _ (by omega)

set_option maxHeartbeats 4000000 in
/-- What is done last in work: a fault is counted, the number is put down. -/
theorem work_two (c w : World) (B M : Nat) (pv : Value) (now : Int) (sa : Option Addr) (sc : Nat) (r : List Int) (a b sp fl : Int) (tb o : Nat) (x : Ins) (h : MaC w B M pv now sa sc (r ++ [a] ++ [b]) sp fl) (hc : c.grownBy w none) (hcM : c.heap.size ≤ M) (hcB : c.heap.size ≤ B) (hx : InsAt c tb o x) (hop : opersS x = 2) (hl : r.length ≤ 800000) (hB : B ≤ w.heap.size) (hf0 : 0 ≤ fl) (hf1 : fl ≤ 1000000000000) :
    Calls Tryz.prog 49 #[.pointer (some ⟨M, 0, none⟩), .pointer (some ⟨tb, o, none⟩)] w fun e w' => e = .returned (.tuple #[]) ∧ StP w B M none pv now (sb sa) (r ++ [Ce.doN x.a x.b a b]) sp (if Ce.doZ x.a x.b b = true then fl + 1 else fl) w' := by
  have hrow : ∀ y, (sb sa) = some y → c.heap.size ≤ y := fun y hy => by have := (h.row y hy).1; omega
  have HM : Hid (MaC w B M pv now sa sc (r ++ [a] ++ [b]) sp fl) := h
  have HX : Hid (InsAt c tb o x) := hx
  have hxw := hx.grown hc
  obtain ⟨q0, q1, q2, q3⟩ := hxw
  have cO : Calls Tryz.prog 68 #[.agg #[.int .i64 x.d, .int .i64 x.a, .int .i64 x.b, .int .i64 x.c]] w fun e w' => e = .returned (.int .i64 2) ∧ w.grownBy w' none := (operands_any x w).mono fun e w' h => ⟨by rw [h.1, hop], h.2⟩
  clear h hx hop
  go_enter Tryz.func49, Tryz.ntmps49
  go_wp2_with fail
  refine cO.mono ?_
  rintro e w1 ⟨rfl, hg1⟩
  clear cO q0 q1 q2 q3
  go_wp2_with fail
  refine (pop_at HM.out (by simp; omega) w1 hg1).mono ?_
  rintro e w2 ⟨rfl, hm2, hc2, hn2⟩
  have hcw2 : c.grownBy w2 none := grown_chg hc hc2 hcM (fun y hy => by simp at hy) hrow
  have HM2 : Hid (MaC w2 B M pv now sa sc (r ++ [a]) sp fl) := hm2
  have HC2 : Hid (Chg M none (sb sa) w w2) := hc2
  have HN2 : Hid (Nx w (sb sa) (sb sa)) := hn2
  have hrow2 : ∀ y, (sb sa) = some y → c.heap.size ≤ y := fun y hy => by have := (hm2.row y hy).1; omega
  obtain ⟨q0, q1, q2, q3⟩ := HX.out.grown hcw2
  clear hm2 hc2 hn2 q0 q3
  go_wp2_with fail
  go_region_held3 (fun w' => w'.cell? ⟨tb, o + 1, none⟩ = some (.int .i64 x.a) ∧ w'.cell? ⟨tb, o + 2, none⟩ = some (.int .i64 x.b)) (first | (go_keep; done) | exact HK3.out) (first
    | (go_at_call 31
       refine (pop_at HM2.out (by omega) _ (gr_drew (World.grownBy.refl _ _))).mono ?_
       rintro e w3 ⟨rfl, hm3, hc3, hn3⟩
       have HM3 : Hid (MaC w3 B M pv now sa sc r sp fl) := hm3
       have HC3 : Hid (Chg M none (sb sa) w2 w3) := hc3
       have HN3 : Hid (Nx w2 (sb sa) (sb sa)) := hn3
       have hcw3 : c.grownBy w3 none := grown_chg hcw2 hc3 hcM (fun y hy => by simp at hy) hrow2
       have HK3 : Hid (w3.cell? ⟨tb, o + 1, none⟩ = some (.int .i64 x.a) ∧ w3.cell? ⟨tb, o + 2, none⟩ = some (.int .i64 x.b)) := ⟨(HX.out.grown hcw3).a, (HX.out.grown hcw3).b⟩
       clear hm3 hc3 hn3)
    | (go_at_call 69
       refine (doW _ _ _ _ _).mono ?_
       rintro e w' ⟨rfl, rfl⟩))
  have b3 := HM3.out.blk
  have d4 := at_cell b3 4
  simp at d4
  have f4 := at_frozen b3 4
  have hw4 := fault_more fl hf0 hf1
  have HCN : Hid (Chg M none (sb sa) w w3 ∧ Nx w (sb sa) (sb sa)) := ⟨HC2.out.trans HN2.out HC3.out, Nx.trans HC2.out.size HN2.out HN3.out⟩
  have hs3 : B ≤ w3.heap.size := by have := HCN.out.1.size; omega
  clear b3
  cases hz : Ce.doZ x.a x.b b with
  | false =>
    go_wp2_with fail
    refine (push_at _ HM3.out (by omega) hs3 _ (World.grownBy.refl _ _)).mono ?_
    rintro e w5 ⟨rfl, sa', sc', hm5, hc5, hn5⟩
    go_wp2
    all_goals go_end0
    all_goals exact ⟨rfl, sa', sc', by simpa using hm5, HCN.out.1.trans HCN.out.2 hc5, Nx.trans HCN.out.1.size HCN.out.2 hn5⟩
  | true =>
    go_wp2_with fail
    refine (push_at _ (HM3.out.setF (fl + 1)) (by omega) (by simpa using hs3) _ (World.grownBy.refl _ _)).mono ?_
    rintro e w5 ⟨rfl, sa', sc', hm5, hc5, hn5⟩
    go_wp2
    go_end0
    exact ⟨rfl, sa', sc', by simpa using hm5, (HCN.out.1.trans HCN.out.2 (chg_set M 4 _ _ w3 _)).trans HCN.out.2 hc5, Nx.trans HCN.out.1.size HCN.out.2 (Nx.trans (by simp) (Nx.refl _ _) hn5)⟩
end Go.Proofs.YtcgbfhpmkpglkaaGreatDoor

/- The machine: loadAt, storeAt. -/
namespace Go.Proofs.YtcgbfhpmkpglkaaGreatDoor
open Go.RowKit
attribute [local go_sem ↓] Go.wp_at_zero Go.wp_at_succ
set_option linter.unusedVariables false
set_option linter.unusedSimpArgs false

/-- The frame's block. -/
def FrAt (w : World) (F : Nat) (ar : List Int) : Prop := w.heap[F]? = some (.cells (intsA ar) 3)
theorem FrAt.chg {w w' : World} {M F : Nat} {G r : Option Nat} {ar : List Int} (h : FrAt w F ar) (k : Chg M G r w w') (hM : F ≠ M) (hG : G = none) (hr : ∀ y, r = some y → F < y) : FrAt w' F ar := by
  subst hG
  exact (k.block F (at_lt h) hM (by simp) (fun e => by have := hr F e.symm; omega)).trans h
theorem FrAt.get {w : World} {F : Nat} {ar : List Int} (h : FrAt w F ar) (i : Nat) (hi : i < ar.length) : w.cell? ⟨F, i, none⟩ = some (.int .i64 (ar.getD i 0)) := by
  rw [at_cell h]; simp [intsA, hi]
theorem FrAt.grown {w w' : World} {F : Nat} {ar : List Int} (h : FrAt w F ar) (hg : w.grownBy w' none) : FrAt w' F ar := kept hg h

set_option maxHeartbeats 4000000 in
theorem loadAt_any (c w : World) (B M F off n fc : Nat) (ar : List Int) (pv : Value) (now : Int) (sa : Option Addr) (sc : Nat) (r : List Int) (i sp fl : Int) (tb o : Nat) (x : Ins) (h : MaC w B M pv now sa sc (r ++ [i]) sp fl) (hF : FrAt w F ar) (hFM : F ≠ M) (hFB : F < B) (hc : c.grownBy w none) (hcM : c.heap.size ≤ M) (hcB : c.heap.size ≤ B) (hx : InsAt c tb o x) (hl : r.length ≤ 800000) (hB : B ≤ w.heap.size) (hf0 : 0 ≤ fl) (hf1 : fl ≤ 1000000000000)
    (ha : 0 ≤ x.a) (hab : x.a + x.b ≤ n) (hb : 0 ≤ x.b) (hn : off + n ≤ ar.length) (hn2 : n ≤ 20000) (hc1 : -4294967295 ≤ x.c) (hc2 : x.c ≤ 4294967295) :
    Calls Tryz.prog 50 #[.pointer (some ⟨M, 0, none⟩), .pointer (some ⟨tb, o, none⟩), .slice (some ⟨F, off, none⟩) n fc] w fun e w' => e = .returned (.tuple #[]) ∧ StP w B M none pv now (sb sa) (r ++ [if isW i x.c (x.c + x.b - 1) = true then ar.getD (off + (x.a + i - x.c).toNat) 0 else 0]) sp (if isW i x.c (x.c + x.b - 1) = true then fl else fl + 1) w' := by
  have hrow : ∀ y, (sb sa) = some y → c.heap.size ≤ y ∧ F < y := fun y hy => by have := (h.row y hy).1; omega
  have HM : Hid (MaC w B M pv now sa sc (r ++ [i]) sp fl) := h
  have HX : Hid (InsAt c tb o x) := hx
  have HF : Hid (FrAt w F ar) := hF
  clear h hx hF
  go_enter Tryz.func50, Tryz.ntmps50
  go_wp2_with fail
  refine (pop_at HM.out (by omega) _ (World.grownBy.refl _ _)).mono ?_
  rintro e w1 ⟨rfl, hm1, hk1, hn1⟩
  have hcw1 : c.grownBy w1 none := grown_chg hc hk1 hcM (fun y hy => by simp at hy) (fun y hy => (hrow y hy).1)
  have HM1 : Hid (MaC w1 B M pv now sa sc r sp fl) := hm1
  have HC1 : Hid (Chg M none (sb sa) w w1) := hk1
  have HF1 : Hid (FrAt w1 F ar) := HF.out.chg hk1 hFM rfl (fun y hy => (hrow y hy).2)
  have hs1 : B ≤ w1.heap.size := by have := hk1.size; omega
  obtain ⟨q0, q1, q2, q3⟩ := HX.out.grown hcw1
  have e1 : IntKind.i64.wrap (x.c + x.b) = x.c + x.b := IntWalk.i64_in _ (by omega)
  have e2 : IntKind.i64.wrap (x.c + x.b - 1) = x.c + x.b - 1 := IntWalk.i64_in _ (by omega)
  have b1 := hm1.blk
  have d4 := at_cell b1 4
  simp at d4
  have f4 := at_frozen b1 4
  have hw4 := fault_more fl hf0 hf1
  clear hm1 hk1 hn1 b1 q0
  go_wp2_with fail
  go_region_held3 (fun w' => w'.cell? ⟨tb, o + 1, none⟩ = some (.int .i64 x.a) ∧ w'.cell? ⟨tb, o + 2, none⟩ = some (.int .i64 x.b) ∧ w'.cell? ⟨tb, o + 3, none⟩ = some (.int .i64 x.c)) (go_keep) (first
    | (go_at_call 70
       refine (within_any _ _ _ _).mono ?_
       rintro e w' ⟨rfl, rfl⟩))
  have hgd : w1.grownBy w1.drew none := gr_drew (World.grownBy.refl _ _)
  cases hW : isW i x.c (x.c + x.b - 1) with
  | false =>
    go_wp2_with fail
    refine (push_at (0 : Int) ((HM1.out.kept hgd).setF (fl + 1)) (by omega) (by simpa using hs1) _ (World.grownBy.refl _ _)).mono ?_
    rintro e w5 ⟨rfl, sa', sc', hm5, hc5, hn5⟩
    go_wp2
    all_goals first | go_end0 | ((try simp only [Exit.inBlock, Exit.then]); refine bodyPost_ret (results_none rfl _ _ _) rfl ?_)
    all_goals exact ⟨rfl, sa', sc', by simpa using hm5, ((HC1.out.trans (Nx.refl _ _) (Chg.of_none hgd)).trans (Nx.refl _ _) (chg_set M 4 _ _ w1.drew _)).trans (Nx.refl _ _) hc5, Nx.trans HC1.out.size (Nx.refl _ _) (Nx.trans (by simp) (Nx.refl _ _) hn5)⟩
  | true =>
    have hW' : x.c ≤ i ∧ i ≤ x.c + x.b - 1 := by simpa [isW] using hW
    obtain ⟨j, hj⟩ : ∃ j : Nat, (j : Int) = x.a + i - x.c := ⟨(x.a + i - x.c).toNat, by omega⟩
    have hjn : j < n := by omega
    have g1 : IntKind.i64.wrap (x.a + i) = x.a + i := IntWalk.i64_in _ (by omega)
    have g2 : IntKind.i64.wrap (x.a + i - x.c) = (j : Int) := by rw [← hj]; exact IntWalk.i64_in _ (by omega)
    have i1 : (0 : Int) ≤ (j : Int) := by omega
    have i2 : (j : Int) < (n : Int) := by omega
    have q5 := HF1.out.get (off + j) (by omega)
    have ej : (x.a + i - x.c).toNat = j := by omega
    have HEJ : Hid ((x.a + i - x.c).toNat = j) := ej
    obtain ⟨y, hy⟩ : ∃ y, ar.getD (off + j) 0 = y := ⟨_, rfl⟩
    have HY : Hid (ar.getD (off + j) 0 = y) := hy
    rw [hy] at q5
    clear hj ej hW' hy
    go_wp2_with fail
    go_region_held3 (fun w' => w'.cell? ⟨tb, o + 1, none⟩ = some (.int .i64 x.a) ∧ w'.cell? ⟨tb, o + 3, none⟩ = some (.int .i64 x.c) ∧ w'.cell? ⟨F, off + j, none⟩ = some (.int .i64 y)) (first | (go_keep; done) | exact HK5.out) (first
      | (go_at_call 48
         refine (push_at y HM1.out (by omega) hs1 _ (by first | exact gr_drew (World.grownBy.refl _ _) | exact gr_drew (gr_drew (World.grownBy.refl _ _)))).mono ?_
         rintro e w5 ⟨rfl, sa', sc', hm5, hc5, hn5⟩
         have hcw5 : c.grownBy w5 none := grown_chg hcw1 hc5 hcM (fun y hy => by simp at hy) (fun y hy => (hrow y hy).1)
         have HK5 : Hid (w5.cell? ⟨tb, o + 1, none⟩ = some (.int .i64 x.a) ∧ w5.cell? ⟨tb, o + 3, none⟩ = some (.int .i64 x.c) ∧ w5.cell? ⟨F, off + j, none⟩ = some (.int .i64 y)) := ⟨(HX.out.grown hcw5).a, (HX.out.grown hcw5).c, by
           have hb := HF1.out.chg hc5 hFM rfl (fun y hy => (hrow y hy).2)
           rw [at_cell hb, ← at_cell HF1.out]; exact q5⟩))
    go_wp2
    all_goals first | go_end0 | ((try simp only [Exit.inBlock, Exit.then]); refine bodyPost_ret (results_none rfl _ _ _) rfl ?_)
    all_goals exact ⟨rfl, sa', sc', by rw [HEJ.out]; have h := hm5; rw [← HY.out] at h; exact h, HC1.out.trans (Nx.refl _ _) hc5, Nx.trans HC1.out.size (Nx.refl _ _) hn5⟩
end Go.Proofs.YtcgbfhpmkpglkaaGreatDoor

/- The machine: storeAt, fill. -/
namespace Go.Proofs.YtcgbfhpmkpglkaaGreatDoor
open Go.RowKit
attribute [local go_sem ↓] Go.wp_at_zero Go.wp_at_succ
set_option linter.unusedVariables false
set_option linter.unusedSimpArgs false

theorem FrAt.set {w : World} {F : Nat} {ar : List Int} (h : FrAt w F ar) (i : Nat) (v : Int) : FrAt (w.setCell ⟨F, i, none⟩ (.int .i64 v)) F (ar.set i v) := by
  unfold FrAt
  rw [at_set h, intsA_set]
theorem MaC.other {w : World} {B M F : Nat} {pv : Value} {now : Int} {sa : Option Addr} {sc : Nat} {st : List Int} {sp fl : Int} (h : MaC w B M pv now sa sc st sp fl) (hFM : F ≠ M) (hFB : F < B) (i : Nat) (v : Value) : MaC (w.setCell ⟨F, i, none⟩ v) B M pv now sa sc st sp fl := by
  refine ⟨by rw [Below.heap_setCell _ _ _ _ (by simpa using Ne.symm hFM)]; exact h.blk, ?_, h.lo⟩
  exact World.ownsRow.kept h.own (gr_set (World.grownBy.refl w (some F)) _ _) (.inr fun e => by rw [own_sb] at e; have := (h.row F e).1; omega)
theorem chg_frame (M F i : Nat) (r : Option Nat) (w : World) (v : Value) : Chg M (some F) r w (w.setCell ⟨F, i, none⟩ v) := ⟨rfl, rfl, rfl, by simp, fun k hk _ hF _ => Below.heap_setCell _ _ _ _ (by simpa using hF)⟩
theorem ins_lt {w : World} {tb o : Nat} {x : Ins} (h : InsAt w tb o x) : tb < w.heap.size := by
  have h1 := h.d
  cases hb : w.heap[tb]? with
  | none => simp [World.cell?, hb] at h1
  | some ob => exact at_lt hb

set_option maxHeartbeats 4000000 in
theorem storeAt_any (c w : World) (B M F off n fc : Nat) (ar : List Int) (pv : Value) (now : Int) (sa : Option Addr) (sc : Nat) (r : List Int) (i v sp fl : Int) (tb o : Nat) (x : Ins) (h : MaC w B M pv now sa sc (r ++ [i] ++ [v]) sp fl) (hF : FrAt w F ar) (hFM : F ≠ M) (hFB : F < B) (hc : c.grownBy w none) (hcM : c.heap.size ≤ M) (hcB : c.heap.size ≤ B) (hcF : c.heap.size ≤ F) (hx : InsAt c tb o x) (hl : r.length ≤ 800000) (hf0 : 0 ≤ fl) (hf1 : fl ≤ 1000000000000)
    (ha : 0 ≤ x.a) (hab : x.a + x.b ≤ n) (hb : 0 ≤ x.b) (hn : off + n ≤ ar.length) (hn2 : n ≤ 20000) (hc1 : -4294967295 ≤ x.c) (hc2 : x.c ≤ 4294967295) :
    Calls Tryz.prog 51 #[.pointer (some ⟨M, 0, none⟩), .pointer (some ⟨tb, o, none⟩), .slice (some ⟨F, off, none⟩) n fc] w fun e w' => e = .returned (.tuple #[]) ∧ StP w B M (some F) pv now (sb sa) r sp (if isW i x.c (x.c + x.b - 1) = true then fl else fl + 1) w' ∧ FrAt w' F (if isW i x.c (x.c + x.b - 1) = true then ar.set (off + (x.a + i - x.c).toNat) v else ar) := by
  have hrow : ∀ y, (sb sa) = some y → c.heap.size ≤ y ∧ F < y := fun y hy => by have := (h.row y hy).1; omega
  have HM : Hid (MaC w B M pv now sa sc (r ++ [i] ++ [v]) sp fl) := h
  have HX : Hid (InsAt c tb o x) := hx
  have HF : Hid (FrAt w F ar) := hF
  have htb : tb ≠ F := by have := ins_lt hx; omega
  clear h hx hF
  go_enter Tryz.func51, Tryz.ntmps51
  go_wp2_with fail
  refine (pop_at HM.out (by simp; omega) _ (World.grownBy.refl _ _)).mono ?_
  rintro e w0 ⟨rfl, hm0, hk0, hn0⟩
  have HM0 : Hid (MaC w0 B M pv now sa sc (r ++ [i]) sp fl) := hm0
  have HC0 : Hid (Chg M none (sb sa) w w0) := hk0
  clear hm0 hk0 hn0
  go_wp2_with fail
  refine (pop_at HM0.out (by omega) _ (World.grownBy.refl _ _)).mono ?_
  rintro e w1 ⟨rfl, hm1, hk1', hn1⟩
  have hk1 := HC0.out.trans (Nx.refl _ _) hk1'
  have hcw1 : c.grownBy w1 none := grown_chg hc hk1 hcM (fun y hy => by simp at hy) (fun y hy => (hrow y hy).1)
  have HM1 : Hid (MaC w1 B M pv now sa sc r sp fl) := hm1
  have HC1 : Hid (Chg M (some F) (sb sa) w w1) := hk1.wide
  have HF1 : Hid (FrAt w1 F ar) := HF.out.chg hk1 hFM rfl (fun y hy => (hrow y hy).2)
  obtain ⟨q0, q1, q2, q3⟩ := HX.out.grown hcw1
  have e1 : IntKind.i64.wrap (x.c + x.b) = x.c + x.b := IntWalk.i64_in _ (by omega)
  have e2 : IntKind.i64.wrap (x.c + x.b - 1) = x.c + x.b - 1 := IntWalk.i64_in _ (by omega)
  have b1 := hm1.blk
  have d4 := at_cell b1 4
  simp at d4
  have f4 := at_frozen b1 4
  have hw4 := fault_more fl hf0 hf1
  clear hm1 hk1 hk1' hn1 b1 q0
  go_wp2_with fail
  go_region_held3 (fun w' => w'.cell? ⟨tb, o + 1, none⟩ = some (.int .i64 x.a) ∧ w'.cell? ⟨tb, o + 2, none⟩ = some (.int .i64 x.b) ∧ w'.cell? ⟨tb, o + 3, none⟩ = some (.int .i64 x.c)) (go_keep) (first
    | (go_at_call 70
       refine (within_any _ _ _ _).mono ?_
       rintro e w' ⟨rfl, rfl⟩))
  have hgd : w1.grownBy w1.drew none := gr_drew (World.grownBy.refl _ _)
  cases hW : isW i x.c (x.c + x.b - 1) with
  | false =>
    go_wp2_with fail
    all_goals first | go_end0 | ((try simp only [Exit.inBlock, Exit.then]); refine bodyPost_ret (results_none rfl _ _ _) rfl ?_)
    all_goals exact ⟨rfl, ⟨sa, sc, by have h := (HM1.out.setF (fl + 1)).kept (gr_drew (World.grownBy.refl _ none)); simpa using h, (HC1.out.trans (Nx.refl _ _) (chg_set M 4 _ _ w1 _)).trans (Nx.refl _ _) (Chg.of_none (gr_drew (World.grownBy.refl _ none))), Nx.refl _ _⟩, by have h := (HF1.out.chg (chg_set M 4 none none w1 (.int .i64 (fl + 1))) hFM rfl (fun y hy => by simp at hy)).grown (gr_drew (World.grownBy.refl _ none)); simpa using h⟩
  | true =>
    have hW' : x.c ≤ i ∧ i ≤ x.c + x.b - 1 := by simpa [isW] using hW
    obtain ⟨j, hj⟩ : ∃ j : Nat, (j : Int) = x.a + i - x.c := ⟨(x.a + i - x.c).toNat, by omega⟩
    have hjn : j < n := by omega
    have g1 : IntKind.i64.wrap (x.a + i) = x.a + i := IntWalk.i64_in _ (by omega)
    have g2 : IntKind.i64.wrap (x.a + i - x.c) = (j : Int) := by rw [← hj]; exact IntWalk.i64_in _ (by omega)
    have i1 : (0 : Int) ≤ (j : Int) := by omega
    have i2 : (j : Int) < (n : Int) := by omega
    have q5 := HF1.out.get (off + j) (by omega)
    have f5 := at_frozen HF1.out (off + j)
    have ej : (x.a + i - x.c).toNat = j := by omega
    have HEJ : Hid ((x.a + i - x.c).toNat = j) := ej
    generalize ar.getD (off + j) 0 = y at q5
    clear hj ej hW'
    go_wp2_with fail
    go_region_held3 (fun w' => w'.cell? ⟨tb, o + 1, none⟩ = some (.int .i64 x.a) ∧ w'.cell? ⟨tb, o + 3, none⟩ = some (.int .i64 x.c)) (first | (go_keep; done) | exact ⟨ck_set htb (by go_keep), ck_set htb (by go_keep)⟩) (fail)
    go_wp2_with fail
    all_goals first | go_end0 | ((try simp only [Exit.inBlock, Exit.then]); refine bodyPost_ret (results_none rfl _ _ _) rfl ?_)
    all_goals exact ⟨rfl, ⟨sa, sc, (HM1.out.other hFM hFB _ _).kept (gr_drew (gr_drew (World.grownBy.refl _ none))), (HC1.out.trans (Nx.refl _ _) (chg_frame M F _ _ w1 _)).trans (Nx.refl _ _) (Chg.of_none (gr_drew (gr_drew (World.grownBy.refl _ none)))), Nx.refl _ _⟩, by rw [HEJ.out]; have h := (HF1.out.set (off + j) v).grown (gr_drew (gr_drew (World.grownBy.refl _ none))); simpa using h⟩
end Go.Proofs.YtcgbfhpmkpglkaaGreatDoor

/- The machine: fill. -/
namespace Go.Proofs.YtcgbfhpmkpglkaaGreatDoor
open Go.RowKit
attribute [local go_sem ↓] Go.wp_at_zero Go.wp_at_succ
set_option linter.unusedVariables false
set_option linter.unusedSimpArgs false

/-- The words from a place on, set to a number. -/
def filled (ar : List Int) (p k : Nat) (v : Int) : List Int := (List.range ar.length).map (fun i => if p ≤ i ∧ i < p + k then v else ar.getD i 0)
theorem filled_len (ar : List Int) (p k : Nat) (v : Int) : (filled ar p k v).length = ar.length := by simp [filled]
theorem filled_zero (ar : List Int) (p : Nat) (v : Int) : filled ar p 0 v = ar := by
  apply List.ext_getElem?
  intro i
  by_cases h : i < ar.length
  · simp [filled, h]; omega
  · simp [filled, h]
theorem filled_more (ar : List Int) (p k : Nat) (v : Int) : (filled ar p k v).set (p + k) v = filled ar p (k + 1) v := by
  apply List.ext_getElem?
  intro i
  rw [List.getElem?_set, filled_len]
  by_cases h : i < ar.length
  · by_cases e : p + k = i
    · subst e
      simp [filled, h]
    · rw [if_neg e]
      simp only [filled, List.getElem?_map, List.getElem?_range h, Option.map_some]
      have : (p ≤ i ∧ i < p + k) ↔ (p ≤ i ∧ i < p + (k + 1)) := by omega
      simp [this]
  · by_cases e : p + k = i
    · subst e
      simp [filled, h]
    · simp [filled, h, e]

set_option maxHeartbeats 4000000 in
theorem fill_any (w : World) (B M F p n fc : Nat) (ar : List Int) (pv : Value) (now : Int) (sa : Option Addr) (sc : Nat) (st : List Int) (v sp fl : Int) (h : MaC w B M pv now sa sc st sp fl) (hF : FrAt w F ar) (hFM : F ≠ M) (hFB : F < B) (hn : p + n ≤ ar.length) (hn2 : n ≤ 20000) (hs0 : 0 ≤ sp) (hs1 : sp ≤ 1000000000000) :
    Calls Tryz.prog 54 #[.pointer (some ⟨M, 0, none⟩), .slice (some ⟨F, p, none⟩) n fc, .int .i64 v] w fun e w' => e = .returned (.tuple #[]) ∧ StP w B M (some F) pv now (sb sa) st (sp + ((n : Int) - 1)) fl w' ∧ FrAt w' F (filled ar p n v) := by
  have HM : Hid (MaC w B M pv now sa sc st sp fl) := h
  have HF : Hid (FrAt w F ar) := hF
  clear h hF
  go_enter Tryz.func54, Tryz.ntmps54
  go_wp2
  go_loopg [9] n (fun gk s9 wx => ∃ (k : Nat), s9 = .int .i64 k ∧ k ≤ n ∧ gk = n - k ∧ MaC wx B M pv now sa sc st sp fl ∧ FrAt wx F (filled ar p k v) ∧ Chg M (some F) (sb sa) w wx)
  case atStart => exact ⟨0, rfl, Nat.zero_le _, by omega, HM.out, by rw [filled_zero]; exact HF.out, Chg.refl _ _ _ _⟩
  case round =>
    obtain ⟨k, rfl, hk, hgk, hm, hf, hch⟩ := hrel
    have HG : Hid (gk = n - k) := hgk
    have HM1 : Hid (MaC wr B M pv now sa sc st sp fl) := hm
    have HF1 : Hid (FrAt wr F (filled ar p k v)) := hf
    have HC1 : Hid (Chg M (some F) (sb sa) w wr) := hch
    clear hgk
    by_cases hlt : k < n
    · have q := hf.get (p + k) (by rw [filled_len]; omega)
      have f := at_frozen hf (p + k)
      generalize (filled ar p k v).getD (p + k) 0 = y at q
      have i1 : (0 : Int) ≤ (k : Int) := by omega
      have i2 : (k : Int) < (n : Int) := by omega
      clear hm hf hch
      go_wp2
      have hgl := HG.out
      go_roundg (n - (k + 1))
      all_goals first | omega | exact ⟨k + 1, by go_num, by omega, by omega, HM1.out.other hFM hFB _ _, by rw [← filled_more]; exact HF1.out.set (p + k) v, HC1.out.trans (Nx.refl _ _) (chg_frame M F _ _ _ _)⟩
    · have hk' : ¬ ((k : Int) < (n : Int)) := by omega
      have hkn : k = n := by omega
      subst hkn
      have b1 := hm.blk
      have d3 := at_cell b1 3
      simp at d3
      have f3 := at_frozen b1 3
      have e1 : IntKind.i64.wrap ((k : Int) - 1) = (k : Int) - 1 := IntWalk.i64_in _ (by omega)
      have e2 : IntKind.i64.wrap (sp + ((k : Int) - 1)) = sp + ((k : Int) - 1) := IntWalk.i64_in _ (by omega)
      clear HG b1 hm hf hch
      go_wp2
      all_goals first | go_end0 | ((try simp only [Exit.inBlock, Exit.then]); refine bodyPost_ret (results_none rfl _ _ _) rfl ?_)
      all_goals exact ⟨rfl, ⟨sa, sc, by simpa using HM1.out.setS (sp + ((k : Int) - 1)), HC1.out.trans (Nx.refl _ _) (chg_set M 3 _ _ wr _), Nx.refl _ _⟩, by have h := HF1.out.chg (chg_set M 3 none none wr (.int .i64 (sp + ((k : Int) - 1)))) hFM rfl (fun y hy => by simp at hy); simpa using h⟩
end Go.Proofs.YtcgbfhpmkpglkaaGreatDoor

/- Plain facts on numbers: what wrapping into a kind is, and that it goes along with adding, taking away and multiplying; no program in sight. -/
namespace Go.Proofs.YtcgbfhpmkpglkaaGreatDoor.Bl
open Go.RowKit

/-- What a number is, wrapped into a kind. -/
def wrapK (k n : Int) : Int :=
  if k = 1 then n % 2 else if k = 2 then (n + 32768) % 65536 - 32768 else if k = 3 then (n + 2147483648) % 4294967296 - 2147483648
  else if k = 4 then n % 65536 else if k = 5 then n % 4294967296 else 0

theorem wrapK1 (n : Int) : wrapK 1 n = n % 2 := by simp [wrapK]
theorem wrapK2 (n : Int) : wrapK 2 n = (n + 32768) % 65536 - 32768 := by simp [wrapK]
theorem wrapK3 (n : Int) : wrapK 3 n = (n + 2147483648) % 4294967296 - 2147483648 := by simp [wrapK]
theorem wrapK4 (n : Int) : wrapK 4 n = n % 65536 := by simp [wrapK]
theorem wrapK5 (n : Int) : wrapK 5 n = n % 4294967296 := by simp [wrapK]
theorem wrapK_else {k : Int} (n : Int) (h1 : k ≠ 1) (h2 : k ≠ 2) (h3 : k ≠ 3) (h4 : k ≠ 4) (h5 : k ≠ 5) : wrapK k n = 0 := by simp [wrapK, h1, h2, h3, h4, h5]

theorem wrap64_id {n : Int} (h0 : -9223372036854775808 ≤ n) (h1 : n ≤ 9223372036854775807) : wrap64 n = n := by unfold wrap64; omega

theorem i16_is (n : Int) : IntKind.i16.wrap n = (n + 32768) % 65536 - 32768 := by
  unfold IntKind.wrap
  simp only [IntKind.bits, IntKind.signed]
  simp
  split <;> omega
theorem u16_is (n : Int) : IntKind.u16.wrap n = n % 65536 := by
  unfold IntKind.wrap
  simp only [IntKind.bits, IntKind.signed]
  simp

theorem and1 (n : Int) : bits .and .i64 n 1 = n % 2 := by
  unfold bits
  have e : (BitVec.ofInt IntKind.i64.bits n &&& BitVec.ofInt IntKind.i64.bits 1).toNat = (n % 2).toNat := by
    have h1 : (BitVec.ofInt 64 1) = 1#64 := by decide
    show (BitVec.ofInt 64 n &&& BitVec.ofInt 64 1).toNat = _
    rw [h1]
    rw [BitVec.toNat_and, BitVec.toNat_ofInt]
    show ((n % ((2 ^ 64 : Nat) : Int)).toNat &&& 1) = _
    rw [Nat.and_one_is_mod]
    omega
  simp only [e]
  rw [IntWalk.i64_left]
  unfold wrap64
  omega

theorem wrapK_bd (k n : Int) : -2147483648 ≤ wrapK k n ∧ wrapK k n ≤ 4294967295 := by
  unfold wrapK; repeat' split
  all_goals omega
theorem wrapK_small (k n : Int) (h : k = 2 ∨ k = 3) : -2147483648 ≤ wrapK k n ∧ wrapK k n ≤ 2147483647 := by
  rcases h with rfl | rfl
  · rw [wrapK2]; omega
  · rw [wrapK3]; omega

theorem wrapK_idem (k n : Int) : wrapK k (wrapK k n) = wrapK k n := by
  unfold wrapK; repeat' split
  all_goals omega

theorem wrapK_eq_of_emod {k m n : Int} (h : m % 4294967296 = n % 4294967296) : wrapK k m = wrapK k n := by
  unfold wrapK; repeat' split
  all_goals omega
theorem wrapK_w64 (k n : Int) : wrapK k (wrap64 n) = wrapK k n := wrapK_eq_of_emod (by unfold wrap64; omega)

/-- Two numbers are wrapped to the same just where they are the same modulo the width. -/
theorem wrapK_mod2 (n : Int) : (wrapK 2 n) % 65536 = n % 65536 := by rw [wrapK2]; omega
theorem wrapK_mod3 (n : Int) : (wrapK 3 n) % 4294967296 = n % 4294967296 := by rw [wrapK3]; omega
theorem wrapK2_of {m n : Int} (h : m % 65536 = n % 65536) : wrapK 2 m = wrapK 2 n := by rw [wrapK2, wrapK2]; omega
theorem wrapK3_of {m n : Int} (h : m % 4294967296 = n % 4294967296) : wrapK 3 m = wrapK 3 n := by rw [wrapK3, wrapK3]; omega

theorem ring_add (k a b : Int) (h : k = 2 ∨ k = 3) : wrapK k (wrapK k a + wrapK k b) = wrapK k (a + b) := by
  rcases h with rfl | rfl
  · apply wrapK2_of; rw [Int.add_emod, wrapK_mod2, wrapK_mod2, ← Int.add_emod]
  · apply wrapK3_of; rw [Int.add_emod, wrapK_mod3, wrapK_mod3, ← Int.add_emod]
theorem ring_sub (k a b : Int) (h : k = 2 ∨ k = 3) : wrapK k (wrapK k a - wrapK k b) = wrapK k (a - b) := by
  rcases h with rfl | rfl
  · apply wrapK2_of; rw [Int.sub_emod, wrapK_mod2, wrapK_mod2, ← Int.sub_emod]
  · apply wrapK3_of; rw [Int.sub_emod, wrapK_mod3, wrapK_mod3, ← Int.sub_emod]
theorem ring_mul (k a b : Int) (h : k = 2 ∨ k = 3) : wrapK k (wrapK k a * wrapK k b) = wrapK k (a * b) := by
  rcases h with rfl | rfl
  · apply wrapK2_of; rw [Int.mul_emod, wrapK_mod2, wrapK_mod2, ← Int.mul_emod]
  · apply wrapK3_of; rw [Int.mul_emod, wrapK_mod3, wrapK_mod3, ← Int.mul_emod]
end Go.Proofs.YtcgbfhpmkpglkaaGreatDoor.Bl
