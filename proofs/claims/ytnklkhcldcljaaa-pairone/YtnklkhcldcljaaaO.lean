/- A side, a beat that come in. -/
import Derived.Test.YtnklkhcldcljaaaA
namespace Go.Proofs.Ytnklkhcldcljaaa
open Go.ChangeShapes Go.WideShapes Go.ChangeAt Go.RowKit Go.Lib
set_option linter.unusedVariables false
set_option linter.unusedSimpArgs false
theorem len4 {α : Type} {l : List α} (h : l.length = 4) : ∃ a b c d, l = [a, b, c, d] := by
  match l, h with
  | [a, b, c, d], _ => exact ⟨a, b, c, d, rfl⟩
theorem array4 {α : Type} {cs : Array α} (h : cs.size = 4) : ∃ a b c d, cs = #[a, b, c, d] := by
  obtain ⟨l⟩ := cs
  obtain ⟨a, b, c, d, rfl⟩ := len4 (l := l) h
  exact ⟨a, b, c, d, rfl⟩
theorem cells24 : Try.prog.cellsOf 24 = 7 := by kernel_rfl
theorem cells32 : Try.prog.cellsOf 32 = 4 := by kernel_rfl
section
variable {H : Type} {enc : TypeId × Value → H} {W : World}
set_option maxRecDepth 100000 in
theorem side_in {base : Nat} {v0 : Value} {d0 : DataW H} {p0 : List MemPlace} (hv : Value.okWide Try.prog W .any base 24 v0) (h0 : ∃ fuel, DataW.trod enc Try.prog W 0 (fun _ => true) true fuel 24 v0.cells.toList = some (d0, p0)) (hw : ∀ k ∈ d0.weights Try.prog 24, k ≤ reachBytes) : ∃ L v, v0 = sdV L v ∧ rd W v L.im ∧ L.im.length ≤ 17592186043904 := by
  obtain ⟨cs, rfl, hcs⟩ := okWide_struct Try.underlying24 hv
  obtain ⟨x0, x1, x2, x3, x4, x5, x6, rfl⟩ := array7 (hcs.trans cells24)
  obtain ⟨fuel, hf⟩ := h0
  obtain ⟨xs, k, hk, hxy, _, hxl, hff⟩ := DataW.trod_struct Try.underlying24 hf
  obtain ⟨y0, y1, y2, y3, y4, y5, y6, rfl⟩ := len7 hxl
  have g0 := hff 0 _ rfl
  have g1 := hff 1 _ rfl
  have g2 := hff 2 _ rfl
  have g3 := hff 3 _ rfl
  have g4 := hff 4 _ rfl
  have g5 := hff 5 _ rfl
  have g6 := hff 6 _ rfl
  simp [cells3, cells4, cells22, Value.cells] at g0 g1 g2 g3 g4 g5 g6
  simp only [Prod.mk.injEq] at hxy
  obtain ⟨n0, e0, _, _⟩ := DataW.trod_int Try.underlying3 g0
  obtain ⟨n1, e1, _⟩ := DataW.trod_bool Try.underlying4 g1
  obtain ⟨n2, e2, _, _⟩ := DataW.trod_int Try.underlying3 g2
  obtain ⟨n3, e3, _, _⟩ := DataW.trod_int Try.underlying3 g3
  obtain ⟨n5, e5, _, _⟩ := DataW.trod_int Try.underlying3 g5
  obtain ⟨n6, e6, _, _⟩ := DataW.trod_int Try.underlying3 g6
  simp at e0 e1 e2 e3 e5 e6
  subst e0 e1 e2 e3 e5 e6
  have hw4 : ∀ k ∈ y4.1.weights Try.prog 22, k ≤ reachBytes := fun k hk => hw k (by
    rw [hxy.1]
    simp only [DataW.weights, Try.underlying24]
    simp [DataW.weightsEach]
    simp [hk])
  obtain ⟨l4, r4, b4⟩ := rd_sized g4 hw4
  exact ⟨⟨n0, n1, n2, n3, l4, n5, n6⟩, x4, rfl, r4, b4⟩
set_option maxRecDepth 100000 in
theorem beat_in {base : Nat} {v0 : Value} {d0 : DataW H} {p0 : List MemPlace} (hv : Value.okWide Try.prog W .any base 32 v0) (h0 : ∃ fuel, DataW.trod enc Try.prog W 0 (fun _ => true) true fuel 32 v0.cells.toList = some (d0, p0)) (hw : ∀ k ∈ d0.weights Try.prog 32, k ≤ reachBytes) : ∃ B v, v0 = btV B v ∧ rd W v B.im ∧ B.im.length ≤ 17592186043904 := by
  obtain ⟨cs, rfl, hcs⟩ := okWide_struct Try.underlying32 hv
  obtain ⟨x0, x1, x2, x3, rfl⟩ := array4 (hcs.trans cells32)
  obtain ⟨fuel, hf⟩ := h0
  obtain ⟨xs, k, hk, hxy, _, hxl, hff⟩ := DataW.trod_struct Try.underlying32 hf
  obtain ⟨y0, y1, y2, y3, rfl⟩ := len4 hxl
  have g0 := hff 0 _ rfl
  have g1 := hff 1 _ rfl
  have g2 := hff 2 _ rfl
  have g3 := hff 3 _ rfl
  simp [cells3, cells4, cells22, Value.cells] at g0 g1 g2 g3
  simp only [Prod.mk.injEq] at hxy
  obtain ⟨n0, e0, _, _⟩ := DataW.trod_int Try.underlying3 g0
  obtain ⟨n1, e1, _, _⟩ := DataW.trod_int Try.underlying3 g1
  obtain ⟨n2, e2, _, _⟩ := DataW.trod_int Try.underlying3 g2
  simp at e0 e1 e2
  subst e0 e1 e2
  have hw3 : ∀ k ∈ y3.1.weights Try.prog 22, k ≤ reachBytes := fun k hk => hw k (by
    rw [hxy.1]
    simp only [DataW.weights, Try.underlying32]
    simp [DataW.weightsEach]
    simp [hk])
  obtain ⟨l3, r3, b3⟩ := rd_sized g3 hw3
  exact ⟨⟨n0, n1, n2, l3⟩, x3, rfl, r3, b3⟩
end
end Go.Proofs.Ytnklkhcldcljaaa
