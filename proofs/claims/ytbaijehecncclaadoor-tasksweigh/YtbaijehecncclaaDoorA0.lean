/- Code as it lies in memory; the program's small functions. -/
import Derived.Test.YtbaijehecncclaaDoorC0
import Derived.Test.YtbaijehecncclaaDoorK1
import Derived.Test.YtbaijehecncclaaDoorV2
namespace Go.Proofs.YtbaijehecncclaaDoor
open Go.RowKit
attribute [local go_sem ↓] Go.wp_at_zero Go.wp_at_succ
set_option linter.unusedVariables false
set_option linter.unusedSimpArgs false

def insV (x : Ins) : Value := .agg #[.int .i64 x.d, .int .i64 x.a, .int .i64 x.b, .int .i64 x.c]

/-- A text that can be read at a slice's value. -/
def TxtAt (w : World) (v : Value) (t : List Ins) : Prop :=
  ∃ a cap, v = .slice a t.length cap ∧ (t = [] ∨ ∃ b off, a = some ⟨b, off, none⟩ ∧ ∀ i, i < t.length →
    w.cell? ⟨b, off + i * 4, none⟩ = some (.int .i64 (nth t i).d) ∧ w.cell? ⟨b, off + i * 4 + 1, none⟩ = some (.int .i64 (nth t i).a) ∧
    w.cell? ⟨b, off + i * 4 + 2, none⟩ = some (.int .i64 (nth t i).b) ∧ w.cell? ⟨b, off + i * 4 + 3, none⟩ = some (.int .i64 (nth t i).c))
theorem TxtAt.grown {w w' : World} {v : Value} {t : List Ins} (h : TxtAt w v t) (hg : w.grownBy w' none) : TxtAt w' v t := by
  obtain ⟨a, cap, rfl, h | ⟨b, off, rfl, hc⟩⟩ := h
  · exact ⟨a, cap, rfl, .inl h⟩
  · exact ⟨_, cap, rfl, .inr ⟨b, off, rfl, fun i hi => ⟨hg.cell (hc i hi).1 (by simp), hg.cell (hc i hi).2.1 (by simp), hg.cell (hc i hi).2.2.1 (by simp), hg.cell (hc i hi).2.2.2 (by simp)⟩⟩⟩

/-- Of the units ahead: their kinds, and the sizes of their frames. -/
def AhAt (w : World) (v : Value) (l : List (Int × Nat)) : Prop :=
  ∃ a cap, v = .slice a l.length cap ∧ (l = [] ∨ ∃ b off, a = some ⟨b, off, none⟩ ∧ ∀ i, i < l.length →
    w.cell? ⟨b, off + i * 5, none⟩ = some (.int .i64 (l.getD i (0, 0)).1) ∧ ∃ fa fc, w.cell? ⟨b, off + i * 5 + 2, none⟩ = some (.slice fa (l.getD i (0, 0)).2 fc))
theorem AhAt.grown {w w' : World} {v : Value} {l : List (Int × Nat)} (h : AhAt w v l) (hg : w.grownBy w' none) : AhAt w' v l := by
  obtain ⟨a, cap, rfl, h | ⟨b, off, rfl, hc⟩⟩ := h
  · exact ⟨a, cap, rfl, .inl h⟩
  · refine ⟨_, cap, rfl, .inr ⟨b, off, rfl, fun i hi => ?_⟩⟩
    obtain ⟨h1, fa, fc, h2⟩ := hc i hi
    exact ⟨hg.cell h1 (by simp), fa, fc, hg.cell h2 (by simp)⟩

def isW (n lo hi : Int) : Bool := decide (lo ≤ n) && decide (n ≤ hi)
theorem within_any (n lo hi : Int) (w : World) : Calls Tryd.prog 42 #[.int .i64 n, .int .i64 lo, .int .i64 hi] w fun e w' => e = .returned (.bool (isW n lo hi)) ∧ w = w' := by
  by_cases h : lo ≤ n
  · go_enter Tryd.func42, Tryd.ntmps42
    go_wp2
    go_ret
    exact ⟨ret_bool (by simp [isW, h]), rfl⟩
  · go_enter Tryd.func42, Tryd.ntmps42
    go_wp2
    go_ret
    exact ⟨ret_bool (by simp [isW]; omega), rfl⟩

theorem kindIs_any (n : Int) (w : World) : Calls Tryd.prog 44 #[.int .i64 n] w fun e w' => e = .returned (.bool (isK n)) ∧ w = w' := by
  go_enter Tryd.func44, Tryd.ntmps44
  go_wp2_with (first | (go_at_call 42; refine (within_any _ _ _ _).mono ?_; rintro e w' ⟨rfl, rfl⟩))
  go_ret
  exact ⟨rfl, rfl⟩

theorem capped_any (n : Int) (w : World) : Calls Tryd.prog 32 #[.int .i64 n] w fun e w' => e = .returned (.int .i64 (min n top1)) ∧ w = w' := by
  go_enter Tryd.func32, Tryd.ntmps32
  go_wp2
  all_goals go_ret
  all_goals refine ⟨ret_int ?_, rfl⟩
  all_goals (simp only [top1]; omega)

def hasW (size : Nat) (at' n : Int) : Bool := decide (n ≤ size) && isW at' 0 (size - n)
theorem hasWords_any (o pb po fn fc : Nat) (fa : Option Addr) (at' n : Int) (w : World) (h1 : w.cell? ⟨o, 2, none⟩ = some (.pointer (some ⟨pb, po, none⟩))) (h2 : w.cell? ⟨pb, po + 2, none⟩ = some (.slice fa fn fc)) (hn : 0 ≤ n) (hf : fn ≤ 1000000000000) :
    Calls Tryd.prog 41 #[.pointer (some ⟨o, 0, none⟩), .int .i64 at', .int .i64 n] w fun e w' => e = .returned (.bool (hasW fn at' n)) ∧ w = w' := by
  by_cases h : n ≤ (fn : Int)
  · have e1 : wrap64 ((fn : Int) - n) = (fn : Int) - n := by unfold wrap64; omega
    go_enter Tryd.func41, Tryd.ntmps41
    go_wp2_with (first | (go_at_call 42; refine (within_any _ _ _ _).mono ?_; rintro e w' ⟨rfl, rfl⟩))
    go_ret
    exact ⟨ret_bool (by simp [hasW, h]), rfl⟩
  · go_enter Tryd.func41, Tryd.ntmps41
    go_wp2
    go_ret
    exact ⟨ret_bool (by simp [hasW]; omega), rfl⟩

def callS (l : List (Int × Nat)) (n : Int) : Bool := isW n 0 ((l.length : Int) - 1) && (l.getD n.toNat (0, 0)).1 != 1
theorem mayCall_any (o : Nat) (av : Value) (l : List (Int × Nat)) (n : Int) (w : World) (h1 : w.cell? ⟨o, 0, none⟩ = some av) (h2 : AhAt w av l) (hl : l.length ≤ 1000000000000) :
    Calls Tryd.prog 45 #[.pointer (some ⟨o, 0, none⟩), .int .i64 n] w fun e w' => e = .returned (.bool (callS l n)) ∧ w = w' := by
  obtain ⟨a, cap, rfl, h2⟩ := h2
  by_cases h : isW n 0 ((l.length : Int) - 1) = true
  · have hn : 0 ≤ n ∧ n ≤ (l.length : Int) - 1 := by simpa [isW] using h
    obtain ⟨k, rfl⟩ := Int.eq_ofNat_of_zero_le hn.1
    rcases h2 with h3 | ⟨b, off, rfl, hc⟩
    · subst h3; simp at hn; omega
    obtain ⟨c1, fa, fc, c2⟩ := hc k (by omega)
    have e1 : wrap64 ((l.length : Int) - 1) = (l.length : Int) - 1 := by unfold wrap64; omega
    have i1 : (0 : Int) ≤ (k : Int) := by omega
    have i2 : (k : Int) < (l.length : Int) := by omega
    have HD : Hid (callS l k = ((l.getD k (0, 0)).1 != 1)) := (by unfold callS; rw [h]; simp : callS l k = ((l.getD k (0, 0)).1 != 1))
    generalize (l.getD k (0, 0)).1 = kd at *
    clear hc c2
    go_enter Tryd.func45, Tryd.ntmps45
    go_wp2_with (first | (go_at_call 42; refine (within_any _ _ _ _).mono ?_; rintro e w' ⟨rfl, rfl⟩))
    go_ret
    exact ⟨ret_bool (by rw [HD.out]), rfl⟩
  · have h' : isW n 0 ((l.length : Int) - 1) = false := by simpa using h
    have e1 : wrap64 ((l.length : Int) - 1) = (l.length : Int) - 1 := by unfold wrap64; omega
    have HD : Hid (callS l n = false) := (by unfold callS; rw [h']; rfl : callS l n = false)
    clear h h2
    go_enter Tryd.func45, Tryd.ntmps45
    go_wp2_with (first | (go_at_call 42; refine (within_any _ _ _ _).mono ?_; rintro e w' ⟨rfl, rfl⟩))
    go_ret
    exact ⟨ret_bool (by rw [HD.out]), rfl⟩
end Go.Proofs.YtbaijehecncclaaDoor
