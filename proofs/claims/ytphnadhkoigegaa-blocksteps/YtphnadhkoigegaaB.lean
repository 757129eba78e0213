/- Contracts of the small functions of package blocks: truth, word, more, less, the pins. -/
import Derived.Test.YtphnadhkoigegaaA
namespace Go.Proofs.Ytphnadhkoigegaa
open Go.RowKit

theorem truth_any (n : Int) (w : World) : Calls Try.prog 49 #[.int .i64 n] w fun e w' => e = .returned (.bool (n != 0)) ∧ w' = w := by
  go_enter Try.func49, Try.ntmps49
  go_wp2
  go_ret
  exact ⟨ret_bool (by simp), rfl⟩

theorem word_any (b : Bool) (w : World) : Calls Try.prog 50 #[.bool b] w fun e w' => e = .returned (.int .i64 (yesN b)) ∧ w' = w := by
  cases b
  · go_enter Try.func50, Try.ntmps50
    go_wp2
    go_ret
    exact ⟨ret_int rfl, rfl⟩
  · go_enter Try.func50, Try.ntmps50
    go_wp2
    go_ret
    exact ⟨ret_int rfl, rfl⟩

def moreN (n : Int) : Int := min (n + 1) 32767
def lessN (n : Int) : Int := max (n - 1) (-32768)
theorem more_any (n : Int) (w : World) (h0 : -32768 ≤ n) (h1 : n ≤ 32767) : Calls Try.prog 68 #[.int .i64 n] w fun e w' => e = .returned (.int .i64 (moreN n)) ∧ w' = w := by
  go_enter Try.func68, Try.ntmps68
  go_wp2
  all_goals go_ret
  all_goals exact ⟨ret_int (by unfold moreN; omega), rfl⟩
theorem less_any (n : Int) (w : World) (h0 : -32768 ≤ n) (h1 : n ≤ 32767) : Calls Try.prog 72 #[.int .i64 n] w fun e w' => e = .returned (.int .i64 (lessN n)) ∧ w' = w := by
  go_enter Try.func72, Try.ntmps72
  go_wp2
  all_goals go_ret
  all_goals exact ⟨ret_int (by unfold lessN; omega), rfl⟩

theorem boolPin_any (s : ByteArray) (w : World) : Calls Try.prog 54 #[.string s] w fun e w' => e = .returned (.agg #[.string s, .int .i64 1]) ∧ w' = w.alloc (.cells #[.string s, .int .i64 1] 49) := by
  go_enter Try.func54, Try.ntmps54
  go_wp2
  exact bodyPost_ret (v := .agg #[.string s, .int .i64 1]) (by simp [results, Try.results54, go_sem]) rfl ⟨rfl, rfl⟩
theorem timePin_any (s : ByteArray) (w : World) : Calls Try.prog 55 #[.string s] w fun e w' => e = .returned (.agg #[.string s, .int .i64 5]) ∧ w' = w.alloc (.cells #[.string s, .int .i64 5] 49) := by
  go_enter Try.func55, Try.ntmps55
  go_wp2
  exact bodyPost_ret (v := .agg #[.string s, .int .i64 5]) (by simp [results, Try.results55, go_sem]) rfl ⟨rfl, rfl⟩
theorem intPin_any (s : ByteArray) (w : World) : Calls Try.prog 69 #[.string s] w fun e w' => e = .returned (.agg #[.string s, .int .i64 2]) ∧ w' = w.alloc (.cells #[.string s, .int .i64 2] 49) := by
  go_enter Try.func69, Try.ntmps69
  go_wp2
  exact bodyPost_ret (v := .agg #[.string s, .int .i64 2]) (by simp [results, Try.results69, go_sem]) rfl ⟨rfl, rfl⟩

end Go.Proofs.Ytphnadhkoigegaa
