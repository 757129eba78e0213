/- A link that comes in. -/
import Derived.Test.YtaiicehifailhaaO
import Derived.Test.YtaiicehifailhaaN
namespace Go.Proofs.Ytaiicehifailhaa
open Go.ChangeShapes Go.WideShapes Go.ChangeAt Go.RowKit Go.Lib
set_option linter.unusedVariables false
set_option linter.unusedSimpArgs false
theorem len7 {α : Type} {l : List α} (h : l.length = 7) : ∃ a b c d e f g, l = [a, b, c, d, e, f, g] := by
  match l, h with
  | [a, b, c, d, e, f, g], _ => exact ⟨a, b, c, d, e, f, g, rfl⟩
theorem array7 {α : Type} {cs : Array α} (h : cs.size = 7) : ∃ a b c d e f g, cs = #[a, b, c, d, e, f, g] := by
  obtain ⟨l⟩ := cs
  obtain ⟨a, b, c, d, e, f, g, rfl⟩ := len7 (l := l) h
  exact ⟨a, b, c, d, e, f, g, rfl⟩
theorem cells40 : Try.prog.cellsOf 40 = 7 := by kernel_rfl
theorem cells22 : Try.prog.cellsOf 22 = 1 := by kernel_rfl
theorem cells4 : Try.prog.cellsOf 4 = 1 := by kernel_rfl
section
variable {H : Type} {enc : TypeId × Value → H} {W : World}
set_option maxRecDepth 100000 in
theorem link_in {base : Nat} {v0 : Value} {d0 : DataW H} {p0 : List MemPlace} (hv : Value.okWide Try.prog W .any base 40 v0) (h0 : ∃ fuel, DataW.trod enc Try.prog W 0 (fun _ => true) true fuel 40 v0.cells.toList = some (d0, p0)) (hw : ∀ k ∈ d0.weights Try.prog 40, k ≤ reachBytes) : ∃ L s t, v0 = lkV L s t ∧ LkR W L s t ∧ L.sa.length ≤ 17592186043904 ∧ L.wo.length ≤ 17592186043904 := by
  obtain ⟨cs, rfl, hcs⟩ := okWide_struct Try.underlying40 hv
  obtain ⟨x0, x1, x2, x3, x4, x5, x6, rfl⟩ := array7 (hcs.trans cells40)
  obtain ⟨fuel, hf⟩ := h0
  obtain ⟨xs, k, hk, hxy, _, hxl, hff⟩ := DataW.trod_struct Try.underlying40 hf
  obtain ⟨y0, y1, y2, y3, y4, y5, y6, rfl⟩ := len7 hxl
  have g0 := hff 0 _ rfl
  have g1 := hff 1 _ rfl
  have g2 := hff 2 _ rfl
  have g3 := hff 3 _ rfl
  have g4 := hff 4 _ rfl
  have g5 := hff 5 _ rfl
  have g6 := hff 6 _ rfl
  simp [cells3, cells4, cells22, Value.cells] at g0 g1 g2 g3 g4 g5 g6
  simp only [Prod.mk.injEq] at hxy
  obtain ⟨n0, e0, _, _⟩ := DataW.trod_int Try.underlying3 g0
  obtain ⟨n1, e1, _, _⟩ := DataW.trod_int Try.underlying3 g1
  obtain ⟨n4, e4, _, _⟩ := DataW.trod_int Try.underlying3 g4
  obtain ⟨n5, e5, _, _⟩ := DataW.trod_int Try.underlying3 g5
  obtain ⟨n6, e6, _⟩ := DataW.trod_bool Try.underlying4 g6
  simp at e0 e1 e4 e5 e6
  subst e0 e1 e4 e5 e6
  have hw2 : ∀ k ∈ y2.1.weights Try.prog 22, k ≤ reachBytes := fun k hk => hw k (by
    rw [hxy.1]
    simp only [DataW.weights, Try.underlying40]
    simp [DataW.weightsEach]
    simp [hk])
  have hw3 : ∀ k ∈ y3.1.weights Try.prog 22, k ≤ reachBytes := fun k hk => hw k (by
    rw [hxy.1]
    simp only [DataW.weights, Try.underlying40]
    simp [DataW.weightsEach]
    simp [hk])
  obtain ⟨l2, r2, b2⟩ := rd_sized g2 hw2
  obtain ⟨l3, r3, b3⟩ := rd_sized g3 hw3
  exact ⟨⟨n0, n1, l2, l3, n4, n5, n6⟩, x2, x3, rfl, ⟨r2, r3⟩, b2, b3⟩
end
end Go.Proofs.Ytaiicehifailhaa
