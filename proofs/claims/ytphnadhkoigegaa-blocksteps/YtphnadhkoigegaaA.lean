/- Contracts of the program's Wrap and of the document's Width, Wrap, yes. -/
import Derived.Test.YtphnadhkoigegaaPlain
import Derived.Test.YtphnadhkoigegaaRows
import Derived.WalkSpells
import Derived.WalkLawsBesides
import Derived.Outline
namespace Go.Proofs.Ytphnadhkoigegaa
open Go.RowKit

def yesN (b : Bool) : Int := if b then 1 else 0

theorem ret_int {k : IntKind} {a b : Int} (h : a = b) : Ending.returned (.int k a) = .returned (.int k b) := by rw [h]

theorem ret_bool {a b : Bool} (h : a = b) : Ending.returned (.bool a) = .returned (.bool b) := by rw [h]

set_option maxHeartbeats 400000 in
theorem wrap_any (k n : Int) (w : World) :
    Calls Try.prog 27 #[.int .i64 k, .int .i64 n] w fun e w' => e = .returned (.int .i64 (wrapK k n)) ∧ w' = w := by
  go_enter Try.func27, Try.ntmps27
  go_wp2
  · go_ret
    have e : k = 1 := by simpa using ‹(k == 1) = true›
    exact ⟨ret_int (by rw [e, wrapK1]; exact and1 n), rfl⟩
  · go_ret
    have e : k = 2 := by simpa using ‹(k == 2) = true›
    exact ⟨ret_int (by show wrap64 (IntKind.i16.wrap n) = _; rw [e, wrapK2, i16_is, wrap64_id (by omega) (by omega)]), rfl⟩
  · go_ret
    have e : k = 3 := by simpa using ‹(k == 3) = true›
    exact ⟨ret_int (by show wrap64 (wrap32 n) = _; rw [e, wrapK3]; unfold wrap32; rw [wrap64_id (by omega) (by omega)]), rfl⟩
  · go_ret
    have e : k = 4 := by simpa using ‹(k == 4) = true›
    exact ⟨ret_int (by show wrap64 (IntKind.u16.wrap n) = _; rw [e, wrapK4, u16_is, wrap64_id (by omega) (by omega)]), rfl⟩
  · go_ret
    have e : k = 5 := by simpa using ‹(k == 5) = true›
    exact ⟨ret_int (by show n % 4294967296 = _; rw [e, wrapK5]), rfl⟩
  · go_ret
    exact ⟨ret_int (by show 0 = _; rw [wrapK_else n (by simp_all) (by simp_all) (by simp_all) (by simp_all) (by simp_all)]), rfl⟩

def wideS (k : Int) : Int := if k == 1 then 2 else if k == 2 then 65536 else if k == 3 then 4294967296 else if k == 4 then 65536 else if k == 5 then 4294967296 else 0

def wideL (k : Int) : Int := if k == 1 then 0 else if k == 2 then -32768 else if k == 3 then -2147483648 else 0

set_option maxHeartbeats 400000 in
theorem width_any (k : Int) (w : World) :
    Calls Try.prog 28 #[.int .i64 k] w fun e w' => e = .returned (.tuple #[.int .i64 (wideS k), .int .i64 (wideL k)]) ∧ w' = w := by
  go_enter Try.func28, Try.ntmps28
  go_wp2
  all_goals go_ret2
  all_goals refine ⟨?_, rfl⟩
  all_goals simp [wideS, wideL, *]

theorem kinds (k : Int) : k = 1 ∨ k = 2 ∨ k = 3 ∨ k = 4 ∨ k = 5 ∨ (k ≠ 1 ∧ k ≠ 2 ∧ k ≠ 3 ∧ k ≠ 4 ∧ k ≠ 5) := by omega

theorem tmod_cases (n s : Int) : (0 ≤ n ∧ n.tmod s = n % s) ∨ (n < 0 ∧ n.tmod s = -((-n) % s)) := by
  rcases Int.lt_or_le n 0 with h1 | h1
  · right
    refine ⟨h1, ?_⟩
    have : n.tmod s = -((-n).tmod s) := by rw [Int.neg_tmod, Int.neg_neg]
    rw [this, Int.tmod_eq_emod_of_nonneg (by omega)]
  · left
    exact ⟨h1, Int.tmod_eq_emod_of_nonneg h1⟩

set_option maxHeartbeats 1000000 in
theorem rwrap_any (k n : Int) (w : World) :
    Calls Try.prog 22 #[.int .i64 k, .int .i64 n] w fun e w' => e = .returned (.int .i64 (wrapK k n)) ∧ w' = w := by
  rcases kinds k with rfl | rfl | rfl | rfl | rfl | ⟨h1, h2, h3, h4, h5⟩
  · have e1 : wideS 1 = 2 := rfl
    have e2 : wideL 1 = 0 := rfl
    have ht := tmod_cases n 2
    have HT : Hid ((0 ≤ n ∧ n.tmod 2 = n % 2) ∨ (n < 0 ∧ n.tmod 2 = -((-n) % 2))) := ht
    have hb : -2 < n.tmod 2 ∧ n.tmod 2 < 2 := by omega
    clear ht
    go_enter Try.func22, Try.ntmps22
    go_wp2_with (go_at_call 28; refine (width_any _ _).mono ?_; rintro e w' ⟨rfl, rfl⟩)
    all_goals go_ret
    all_goals refine ⟨ret_int ?_, rfl⟩
    all_goals
      have := HT.out
      rw [wrapK1]
      clear HT e1 e2
      omega
  · have e1 : wideS 2 = 65536 := rfl
    have e2 : wideL 2 = -32768 := rfl
    have ht := tmod_cases n 65536
    have HT : Hid ((0 ≤ n ∧ n.tmod 65536 = n % 65536) ∨ (n < 0 ∧ n.tmod 65536 = -((-n) % 65536))) := ht
    have hb : -65536 < n.tmod 65536 ∧ n.tmod 65536 < 65536 := by omega
    clear ht
    go_enter Try.func22, Try.ntmps22
    go_wp2_with (go_at_call 28; refine (width_any _ _).mono ?_; rintro e w' ⟨rfl, rfl⟩)
    all_goals go_ret
    all_goals refine ⟨ret_int ?_, rfl⟩
    all_goals
      have := HT.out
      rw [wrapK2]
      clear HT e1 e2
      omega
  · have e1 : wideS 3 = 4294967296 := rfl
    have e2 : wideL 3 = -2147483648 := rfl
    have ht := tmod_cases n 4294967296
    have HT : Hid ((0 ≤ n ∧ n.tmod 4294967296 = n % 4294967296) ∨ (n < 0 ∧ n.tmod 4294967296 = -((-n) % 4294967296))) := ht
    have hb : -4294967296 < n.tmod 4294967296 ∧ n.tmod 4294967296 < 4294967296 := by omega
    clear ht
    go_enter Try.func22, Try.ntmps22
    go_wp2_with (go_at_call 28; refine (width_any _ _).mono ?_; rintro e w' ⟨rfl, rfl⟩)
    all_goals go_ret
    all_goals refine ⟨ret_int ?_, rfl⟩
    all_goals
      have := HT.out
      rw [wrapK3]
      clear HT e1 e2
      omega
  · have e1 : wideS 4 = 65536 := rfl
    have e2 : wideL 4 = 0 := rfl
    have ht := tmod_cases n 65536
    have HT : Hid ((0 ≤ n ∧ n.tmod 65536 = n % 65536) ∨ (n < 0 ∧ n.tmod 65536 = -((-n) % 65536))) := ht
    have hb : -65536 < n.tmod 65536 ∧ n.tmod 65536 < 65536 := by omega
    clear ht
    go_enter Try.func22, Try.ntmps22
    go_wp2_with (go_at_call 28; refine (width_any _ _).mono ?_; rintro e w' ⟨rfl, rfl⟩)
    all_goals go_ret
    all_goals refine ⟨ret_int ?_, rfl⟩
    all_goals
      have := HT.out
      rw [wrapK4]
      clear HT e1 e2
      omega
  · have e1 : wideS 5 = 4294967296 := rfl
    have e2 : wideL 5 = 0 := rfl
    have ht := tmod_cases n 4294967296
    have HT : Hid ((0 ≤ n ∧ n.tmod 4294967296 = n % 4294967296) ∨ (n < 0 ∧ n.tmod 4294967296 = -((-n) % 4294967296))) := ht
    have hb : -4294967296 < n.tmod 4294967296 ∧ n.tmod 4294967296 < 4294967296 := by omega
    clear ht
    go_enter Try.func22, Try.ntmps22
    go_wp2_with (go_at_call 28; refine (width_any _ _).mono ?_; rintro e w' ⟨rfl, rfl⟩)
    all_goals go_ret
    all_goals refine ⟨ret_int ?_, rfl⟩
    all_goals
      have := HT.out
      rw [wrapK5]
      clear HT e1 e2
      omega
  · have e1 : wideS k = 0 := by simp [wideS, h1, h2, h3, h4, h5]
    have HW : Hid (wrapK k n = 0) := wrapK_else n h1 h2 h3 h4 h5
    clear h1 h2 h3 h4 h5
    go_enter Try.func22, Try.ntmps22
    go_wp2_with (go_at_call 28; refine (width_any _ _).mono ?_; rintro e w' ⟨rfl, rfl⟩)
    go_ret
    exact ⟨ret_int (by rw [HW.out]), rfl⟩

theorem yes_any (b : Bool) (w : World) :
    Calls Try.prog 25 #[.bool b] w fun e w' => e = .returned (.int .i64 (yesN b)) ∧ w' = w := by
  cases b
  · go_enter Try.func25, Try.ntmps25
    go_wp2
    go_ret
    exact ⟨rfl, rfl⟩
  · go_enter Try.func25, Try.ntmps25
    go_wp2
    go_ret
    exact ⟨rfl, rfl⟩

end Go.Proofs.Ytphnadhkoigegaa
