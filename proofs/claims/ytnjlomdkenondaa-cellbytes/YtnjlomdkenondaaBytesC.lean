/- The contract of sameBytes; what is owned reads as bytes. -/
import Derived.Test.YtnjlomdkenondaaBytesB
namespace Go.Proofs.Ytnjlomdkenondaa
open Go.RowKit

theorem conv_rd {w : World} {v : Value} {l : List Int} (h : rd w v l) : (convert 31 9 v).run Try.prog w = .ok (.string (strOfNums l)) w := by
  rcases h with ⟨rfl, a, cap, rfl⟩ | ⟨b, off, cap, rfl, _, _, hc⟩
  · rw [run_convert_bytes_string w 31 9 5 a 0 cap Try.underlying31 Try.underlying5 Try.underlying9]
    cases a with
    | none => simp [Conv.bytesToString]; rfl
    | some a =>
      rw [run_bytesToString w a 0 cap [] (by simp [loadCells, loadCellsFrom])]
      rfl
  · exact run_convert_bytes_arg w 31 5 Try.underlying31 Try.underlying5 b off l.length cap l rfl hc 9 Try.underlying9

theorem own_rd {w : World} {base : Nat} {v : Value} {l : List Int} (h : w.ownsRow base 5 1 v l.length (l.map (Value.int .u8))) : rd w v l := by
  rcases h.2 with ⟨rfl, h0⟩ | ⟨g, cap, cur, rfl, hb, hg, hn, hm, hs, ht⟩
  · exact .inl ⟨List.eq_nil_of_length_eq_zero h0, none, 0, rfl⟩
  · by_cases hl : l = []
    · subst hl
      exact .inl ⟨rfl, _, _, rfl⟩
    · refine .inr ⟨g, 0, cap, rfl, List.length_pos_iff.2 hl, hn, fun i hi => ?_⟩
      have := h.cellAt i (by simpa using hi)
      rw [Nat.zero_add, this]
      simp [hi]

set_option maxHeartbeats 400000 in
theorem same_any (a b : Value) (l : List Int) (w : World) (ha : rd w a l) (hb : rd w b l) :
    Calls Try.prog 21 #[a, b] w fun e w' => e = .returned (.bool true) ∧ w' = w := by
  have ca := conv_rd ha
  have cb := conv_rd hb
  clear ha hb
  go_enter Try.func21, Try.ntmps21
  go_wp2
  go_ret
  exact ⟨rfl, rfl⟩
end Go.Proofs.Ytnjlomdkenondaa
