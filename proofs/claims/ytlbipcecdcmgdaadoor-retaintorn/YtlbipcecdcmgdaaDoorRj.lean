/- Lists of bytes joined. -/
import Derived.Test.YtlbipcecdcmgdaaDoorRc
namespace Go.Proofs.YtlbipcecdcmgdaaDoor
open Go.RowKit
set_option linter.unusedVariables false
set_option linter.unusedSimpArgs false
theorem run_join_none {w : World} {g n cap c' : Nat} (hn : n ≤ cap) : (Builtin.append_ #[23, 23] 23 #[.slice (some ⟨g, 0, none⟩) n cap, .slice none 0 c']).run Tryd.prog w = .ok (.slice (some ⟨g, 0, none⟩) n cap) w := by
  obtain ⟨i0, hi, hz0, hz1, hz2⟩ := info_parts info5
  simp [Builtin.append_, run_underlying Tryd.underlying23, sizeOf, typeInfo, hi, Builtin.lenOf, Builtin.firstCells, loadCells, loadCellsFrom, storeCells, hn]

theorem run_joinZ {B : Nat} {w : World} {a a' : Option Addr} {c c' x y z : Nat} {l m : List Nat} (hx : l.length = x) (hy : m.length = y) (hz : x + y = z) (h : OwnB B w a c l) (h' : rdB w (.slice a' y c') m) (hl0 : 0 < x) (hl : z ≤ 1000000) (hB : B ≤ w.heap.size) :
    ∃ b d w', (Builtin.append_ #[23, 23] 23 #[.slice a x c, .slice a' y c']).run Tryd.prog w = .ok (.slice b z d) w' ∧ OwnB B w' b d (l ++ m) ∧ ∀ w0 : World, w0.heap.size ≤ B → w0.grownBy w none → w0.grownBy w' none := by
  subst hx hy hz
  by_cases hm : 0 < m.length
  · obtain ⟨b, d, w', h1, h2, h3⟩ := run_join h h' hm hl hB
    rw [List.length_append] at h1
    exact ⟨b, d, w', h1, h2, h3⟩
  · have hm0 : m = [] := List.length_eq_zero_iff.1 (by omega)
    subst hm0
    obtain ⟨i0, hi, hz0, hz1, hz2⟩ := info_parts info5
    cases a' with
    | none =>
      have h2 := h
      obtain ⟨_, ⟨_, h0⟩ | ⟨g, cap, cur, e, _, _, hn, _⟩⟩ := h2
      · omega
      injection e with e1 e2 e3
      subst e1 e3
      exact ⟨_, _, w, run_join_none hn, by simpa using h, fun w0 _ hg => hg⟩
    | some ad =>
      obtain ⟨v', w', r1, r2, r3, r4, r5⟩ := run_append_own_at (P := Tryd.prog) w B 23 23 5 i0 _ 1 1 Tryd.underlying23 hi hz0 hz1 hz2 rfl (by omega) _ _ _ h ad 0 c' [] rfl (fun j u hj => by simp at hj) (by simp) (by unfold maxLen; simp at hl; omega) (by simp at hl; omega) hB
      have r2' := r2
      obtain ⟨_, ⟨hx, hn⟩ | ⟨g', cap', cur, rfl, _⟩⟩ := r2'
      · omega
      · refine ⟨_, cap', w', r1, ?_, fun w0 h0 hg => grown_join hg r3 (.inr fun y hy => ?_)⟩
        · unfold OwnB
          rw [bV_app, List.length_append]
          exact r2
        · have := World.ownsRow.lt h y hy
          omega
end Go.Proofs.YtlbipcecdcmgdaaDoor
