/- Lists of tasks that come in, opened. -/
import Derived.Test.YtholmeebkgpjjaaA
import Derived.Deep.Slices
import Derived.ChangeSame
import Derived.SizedLaws
import Derived.ProofKit
import Derived.OpenShut
import Derived.ShutString
import Derived.ChangeOld
import Derived.Below
namespace Go.Proofs.Ytholmeebkgpjjaa
open Go.ChangeShapes Go.WideShapes Go.ChangeAt Go.RowKit
set_option linter.unusedVariables false
set_option linter.unusedSimpArgs false
theorem cells3 : Try.prog.cellsOf 3 = 1 := by kernel_rfl
theorem cells9 : Try.prog.cellsOf 9 = 1 := by kernel_rfl
theorem cells42 : Try.prog.cellsOf 42 = 5 := by kernel_rfl
theorem bytes42 : Try.prog.bytesOf 42 = 48 := by kernel_rfl
theorem spot_none {w : World} {x : Addr} {v : Value} (h : w.cell? (x.add 0) = some v) : ∃ b off, x = ⟨b, off, none⟩ := by
  have hs := World.cell?_spot h
  obtain ⟨b, off, sp⟩ := x
  cases sp with
  | none => exact ⟨b, off, rfl⟩
  | some y => simp [Addr.add] at hs
theorem len5 {α : Type} {l : List α} (h : l.length = 5) : ∃ a b c d e, l = [a, b, c, d, e] := by
  match l, h with
  | [a, b, c, d, e], _ => exact ⟨a, b, c, d, e, rfl⟩
section
variable {H : Type} {enc : TypeId × Value → H} {w : World}
theorem ts_sized {fuel : Nat} {v : Value} {x : DataW H × List MemPlace} (h : DataW.trod enc Try.prog w 0 (fun _ => true) true fuel 22 [v] = some x) (hw : ∀ n ∈ x.1.weights Try.prog 22, n ≤ reachBytes) : ∃ l, TsAt w v l ∧ l.length * 48 ≤ 140737488351232 := by
  rcases Deep.open_slice Try.underlying22 h with ⟨hcs, _⟩ | ⟨a, len, cap, m, n, D, Pl, hcs, _, hl, hm, hmm, hxx, hx⟩
  · simp at hcs
    subst hcs
    exact ⟨[], ⟨_, _, rfl, by simp, .inl rfl⟩, by simp⟩
  · simp at hcs hmm
    subst hcs
    have hb : len * 48 ≤ 140737488351232 := by
      have := hw (len * 48 + (m - len) * 48) (by
        rw [hxx]
        simp only [DataW.weights, Try.underlying22, bytes42, List.length_map, List.length_range, List.mem_cons]
        left
        omega)
      unfold reachBytes at this
      omega
    have each : ∀ i, i < len → ∃ y : Tk, w.cell? (a.add (i * 5)) = some (.string y.name) ∧ w.cell? (a.add (i * 5 + 1)) = some (.int .i64 y.per) ∧ w.cell? (a.add (i * 5 + 2)) = some (.int .i64 y.off) ∧ w.cell? (a.add (i * 5 + 3)) = some (.int .i64 y.cost) ∧ w.cell? (a.add (i * 5 + 4)) = some (.int .i64 y.dead) := fun i hi => by
      obtain ⟨cs', h1, h2⟩ := hx i (by omega)
      rw [cells42] at h1
      obtain ⟨_, hlen, hcell⟩ := World.cells?_some h1
      obtain ⟨xs, k, hk, hxy, _, hxl, hf⟩ := DataW.trod_struct Try.underlying42 h2
      obtain ⟨y0, y1, y2, y3, y4, rfl⟩ := len5 hxl
      obtain ⟨v0, v1, v2, v3, v4, rfl⟩ := len5 hlen
      focus
        have g0 := hf 0 _ rfl
        have g1 := hf 1 _ rfl
        have g2 := hf 2 _ rfl
        have g3 := hf 3 _ rfl
        have g4 := hf 4 _ rfl
        simp [cells3, cells9] at g0 g1 g2 g3 g4
        have e0 := hcell 0 (by omega)
        have e1 := hcell 1 (by omega)
        have e2 := hcell 2 (by omega)
        have e3 := hcell 3 (by omega)
        have e4 := hcell 4 (by omega)
        rw [Deep.add_add] at e0 e1 e2 e3 e4
        obtain ⟨p, hp, _, _⟩ := DataW.trod_string Try.underlying9 g0
        obtain ⟨k', hk', _, _⟩ := DataW.trod_int Try.underlying3 g1
        obtain ⟨a', ha, _, _⟩ := DataW.trod_int Try.underlying3 g2
        obtain ⟨l', hl', _, _⟩ := DataW.trod_int Try.underlying3 g3
        obtain ⟨q', hq', _, _⟩ := DataW.trod_int Try.underlying3 g4
        simp at hp hk' ha hl' hq'
        subst hp hk' ha hl' hq'
        exact ⟨⟨p, k', a', l', q'⟩, by simpa using e0, by simpa using e1, by simpa using e2, by simpa using e3, by simpa using e4⟩
    obtain ⟨f, hfa⟩ := @Deep.choose_lt Tk ⟨tk0⟩ _ _ each
    refine ⟨(List.range len).map f, ⟨some a, cap, by simp, by simpa using hl, ?_⟩, by simpa using hb⟩
    by_cases h0 : len = 0
    · left; simp [h0]
    · right
      obtain ⟨b, off, rfl⟩ := spot_none (by simpa using (hfa 0 (by omega)).1)
      refine ⟨b, off, rfl, fun i hi => ?_⟩
      have hi' : i < len := by simpa using hi
      have hnth : ((List.range len).map f).getD i tk0 = f i := by simp [List.getD, hi']
      have hc := hfa i hi'
      rw [addn, addn, addn, addn, addn] at hc
      rw [hnth]
      simpa only [Nat.add_assoc] using hc
end
end Go.Proofs.Ytholmeebkgpjjaa
