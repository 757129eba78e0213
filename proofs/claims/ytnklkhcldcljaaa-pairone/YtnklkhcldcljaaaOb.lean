/- What happens to two sides, as it comes in. -/
import Derived.Test.YtnklkhcldcljaaaO
import Derived.Test.YtnklkhcldcljaaaT
namespace Go.Proofs.Ytnklkhcldcljaaa
open Go.ChangeShapes Go.WideShapes Go.ChangeAt Go.RowKit Go.Lib
set_option linter.unusedVariables false
set_option linter.unusedSimpArgs false
theorem cells52 : Try.prog.cellsOf 52 = 3 := by kernel_rfl
theorem len3 {α : Type} {l : List α} (h : l.length = 3) : ∃ a b c, l = [a, b, c] := by
  match l, h with
  | [a, b, c], _ => exact ⟨a, b, c, rfl⟩
theorem in_of_wf {n : Int} (h : (Lit.int .i64 n).wf = true) : in64 n := by
  simpa [Lit.wf, in64, IntKind.min, IntKind.max, IntKind.signed, IntKind.bits] using h
section
variable {H : Type} {enc : TypeId × Value → H} {w : World}
theorem ps_in {fuel : Nat} {v : Value} {x : DataW H × List MemPlace} (h : DataW.trod enc Try.prog w 0 (fun _ => true) true fuel 43 [v] = some x) : ∃ ps, BsAt w v ps ∧ (∀ x ∈ ps, in64 x.1 ∧ in64 x.2.1 ∧ in64 x.2.2) ∧ ps.length ≤ maxLen := by
  rcases Deep.open_slice Try.underlying43 h with ⟨hcs, _⟩ | ⟨a, len, cap, m, n, D, Pl, hcs, _, hl, hm, hmm, hxx, hx⟩
  · simp at hcs
    subst hcs
    exact ⟨[], ⟨_, _, rfl, .inl rfl⟩, fun _ h => by simp at h, by simp⟩
  · simp at hcs hmm
    subst hcs
    have each : ∀ i, i < len → ∃ y : Int × Int × Int, w.cell? (a.add (i * 3)) = some (.int .i64 y.1) ∧ w.cell? (a.add (i * 3 + 1)) = some (.int .i64 y.2.1) ∧ w.cell? (a.add (i * 3 + 2)) = some (.int .i64 y.2.2) ∧ in64 y.1 ∧ in64 y.2.1 ∧ in64 y.2.2 := fun i hi => by
      obtain ⟨cs', h1, h2⟩ := hx i (by omega)
      rw [cells52] at h1
      obtain ⟨_, hlen, hcell⟩ := World.cells?_some h1
      obtain ⟨xs, k, hk, hxy, _, hxl, hf⟩ := DataW.trod_struct Try.underlying52 h2
      obtain ⟨y0, y1, y2, rfl⟩ := len3 hxl
      obtain ⟨v0, v1, v2, rfl⟩ := len3 hlen
      focus
        have g0 := hf 0 _ rfl
        have g1 := hf 1 _ rfl
        have g2 := hf 2 _ rfl
        simp [cells3] at g0 g1 g2
        have e0 := hcell 0 (by omega)
        have e1 := hcell 1 (by omega)
        have e2 := hcell 2 (by omega)
        rw [Deep.add_add] at e0 e1 e2
        obtain ⟨p, hp, _, hpw⟩ := DataW.trod_int Try.underlying3 g0
        obtain ⟨k', hk', _, hkw⟩ := DataW.trod_int Try.underlying3 g1
        obtain ⟨k2, hk2, _, hkw2⟩ := DataW.trod_int Try.underlying3 g2
        simp at hp hk' hk2
        subst hp hk' hk2
        exact ⟨⟨p, k', k2⟩, by simpa using e0, by simpa using e1, by simpa using e2, in_of_wf hpw, in_of_wf hkw, in_of_wf hkw2⟩
    obtain ⟨f, hfa⟩ := @Deep.choose_lt (Int × Int × Int) ⟨(0, 0, 0)⟩ _ _ each
    refine ⟨(List.range len).map f, ⟨some a, cap, by simp, ?_⟩, fun x hx => ?_, by simp; omega⟩
    · by_cases h0 : len = 0
      · left; simp [h0]
      · right
        obtain ⟨b, off, rfl⟩ := spot_none (by simpa using (hfa 0 (by omega)).1)
        refine ⟨b, off, rfl, fun i hi => ?_⟩
        have hi' : i < len := by simpa using hi
        have hnth : ((List.range len).map f).getD i (0, 0, 0) = f i := by simp [List.getD, hi']
        have hc := hfa i hi'
        rw [addn, addn, addn] at hc
        rw [hnth]
        exact ⟨hc.1, by simpa only [Nat.add_assoc] using hc.2.1, by simpa only [Nat.add_assoc] using hc.2.2.1⟩
    · simp at hx
      obtain ⟨i, hi, rfl⟩ := hx
      exact (hfa i hi).2.2.2
end
end Go.Proofs.Ytnklkhcldcljaaa
