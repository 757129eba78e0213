/- Tasks by raw numbers that come in, opened. -/
import Derived.Test.YtholmeebkgpjjaaQ
import Derived.Test.YtholmeebkgpjjaaBa
namespace Go.Proofs.Ytholmeebkgpjjaa
open Go.ChangeShapes Go.WideShapes Go.ChangeAt Go.RowKit
set_option linter.unusedVariables false
set_option linter.unusedSimpArgs false
theorem wf_in64 {n : Int} (h : (Lit.int .i64 n).wf = true) : in64 n := bounds_i64 h
theorem cells68 : Try.prog.cellsOf 68 = 4 := by kernel_rfl
theorem len4 {α : Type} {l : List α} (h : l.length = 4) : ∃ a b c d, l = [a, b, c, d] := by
  match l, h with
  | [a, b, c, d], _ => exact ⟨a, b, c, d, rfl⟩
section
variable {H : Type} {enc : TypeId × Value → H} {w : World}
theorem ds_in {fuel : Nat} {v : Value} {x : DataW H × List MemPlace} (h : DataW.trod enc Try.prog w 0 (fun _ => true) true fuel 38 [v] = some x) : ∃ l, DsAt w v l ∧ ∀ d ∈ l, d.In := by
  rcases Deep.open_slice Try.underlying38 h with ⟨hcs, _⟩ | ⟨a, len, cap, m, n, D, Pl, hcs, _, hl, hm, hmm, hxx, hx⟩
  · simp at hcs
    subst hcs
    exact ⟨[], ⟨_, _, rfl, .inl rfl⟩, by simp⟩
  · simp at hcs hmm
    subst hcs
    have each : ∀ i, i < len → ∃ y : Dy, w.cell? (a.add (i * 4)) = some (.int .i64 y.per) ∧ w.cell? (a.add (i * 4 + 1)) = some (.int .i64 y.cost) ∧ w.cell? (a.add (i * 4 + 2)) = some (.int .i64 y.dead) ∧ w.cell? (a.add (i * 4 + 3)) = some (.int .i64 y.off) ∧ y.In := fun i hi => by
      obtain ⟨cs', h1, h2⟩ := hx i (by omega)
      rw [cells68] at h1
      obtain ⟨_, hlen, hcell⟩ := World.cells?_some h1
      obtain ⟨xs, k, hk, hxy, _, hxl, hf⟩ := DataW.trod_struct Try.underlying68 h2
      obtain ⟨y0, y1, y2, y3, rfl⟩ := len4 hxl
      obtain ⟨v0, v1, v2, v3, rfl⟩ := len4 hlen
      focus
        have g0 := hf 0 _ rfl
        have g1 := hf 1 _ rfl
        have g2 := hf 2 _ rfl
        have g3 := hf 3 _ rfl
        simp [cells3] at g0 g1 g2 g3
        have e0 := hcell 0 (by omega)
        have e1 := hcell 1 (by omega)
        have e2 := hcell 2 (by omega)
        have e3 := hcell 3 (by omega)
        rw [Deep.add_add] at e0 e1 e2 e3
        obtain ⟨p, hp, _, wp⟩ := DataW.trod_int Try.underlying3 g0
        obtain ⟨k', hk', _, wk⟩ := DataW.trod_int Try.underlying3 g1
        obtain ⟨a', ha, _, wa⟩ := DataW.trod_int Try.underlying3 g2
        obtain ⟨l', hl', _, wl⟩ := DataW.trod_int Try.underlying3 g3
        simp at hp hk' ha hl'
        subst hp hk' ha hl'
        exact ⟨⟨p, k', a', l'⟩, by simpa using e0, by simpa using e1, by simpa using e2, by simpa using e3, ⟨wf_in64 wp, wf_in64 wk, wf_in64 wa, wf_in64 wl⟩⟩
    obtain ⟨f, hfa⟩ := @Deep.choose_lt Dy ⟨dy0⟩ _ _ each
    refine ⟨(List.range len).map f, ⟨some a, cap, by simp, ?_⟩, fun s hs => ?_⟩
    rotate_left
    · obtain ⟨i, hi, rfl⟩ := List.mem_map.1 hs
      exact (hfa i (List.mem_range.1 hi)).2.2.2.2
    by_cases h0 : len = 0
    · left; simp [h0]
    · right
      obtain ⟨b, off, rfl⟩ := spot_none (by simpa using (hfa 0 (by omega)).1)
      refine ⟨b, off, rfl, fun i hi => ?_⟩
      have hi' : i < len := by simpa using hi
      have hnth : ((List.range len).map f).getD i dy0 = f i := by simp [List.getD, hi']
      have hc := hfa i hi'
      rw [addn, addn, addn, addn] at hc
      rw [hnth]
      obtain ⟨d0, d1, d2, d3, _⟩ := hc
      simpa only [Nat.add_assoc] using ⟨d0, d1, d2, d3⟩
end
end Go.Proofs.Ytholmeebkgpjjaa
