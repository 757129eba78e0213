/- What comes in: the table that is laid, code, a frame. -/
import Derived.Test.YtbaijehecncclaaDoorO1
import Derived.Test.YtbaijehecncclaaDoorTie
import Derived.Test.YtbaijehecncclaaDoorCards
import Derived.PinnedBridge
import Derived.Lib.LaidTab
import Derived.Lay
import Derived.LaidOnce
import Derived.SevenTiedAt
import Derived.Below
import Derived.Stop.Joined
import Derived.Lib.SmallJoins
namespace Go.Proofs.YtbaijehecncclaaDoor
open Go.ChangeShapes Go.WideShapes Go.ChangeAt Go.RowKit Go.Lib
set_option linter.unusedVariables false
set_option linter.unusedSimpArgs false

def laidL : List (String × DataW Unit) := [("plantwright/code.standards", Rows.laid_plantwright_code_standards)]

theorem bytes_eq {s : ByteArray} {l : List UInt8} (h : s.data.toList = l) : s = { data := l.toArray } := by
  subst h
  simp
set_option maxRecDepth 100000 in
theorem stds_of_laid {W : World} (h : laidMetH Tryd.prog laidL W) : Stds W := by
  rw [MakeChecks.laidMetH_plain _ _ _ (by kernel_rfl)] at h
  obtain ⟨g', t', cs, fuel, p, hg', ht', hvar, hd⟩ := (show VarReads Tryd.prog W "plantwright/code.standards" Rows.laid_plantwright_code_standards from Lib.laidMet.reads h (.head _))
  have hg : Tryd.prog.globalNamed "plantwright/code.standards" = some 0 := by kernel_rfl
  have hty : (Tryd.prog.globals[0]?).map (·.type) = some 90 := by kernel_rfl
  obtain rfl := Option.some.inj (hg.symm.trans hg')
  obtain rfl := Option.some.inj (hty.symm.trans ht')
  have c9 : Tryd.prog.cellsOf 9 = 1 := by kernel_rfl
  obtain ⟨xs, m, _, hx, hl, hxl, hf⟩ := DataW.trod_array Tryd.underlying90 hd
  have hx1 : xs.map (·.1) = [.lit (.string [116, 111, 110]), .lit (.string [116, 111, 102]), .lit (.string [116, 112]), .lit (.string [99, 116, 117]), .lit (.string [99, 116, 100]), .lit (.string [99, 116, 117, 100]), .lit (.string [114, 95, 116, 114, 105, 103]), .lit (.string [102, 95, 116, 114, 105, 103]), .lit (.string [115, 114]), .lit (.string [114, 115]), .lit (.string [114, 97, 109, 112]), .lit (.string [104, 121, 115, 116])] := by
    have := congrArg Prod.fst hx
    simp only [Rows.laid_plantwright_code_standards, DataW.agg.injEq] at this
    exact this.symm
  have key : ∀ k (l : List UInt8), k < 12 → (xs.map (·.1))[k]? = some (.lit (.string l)) → W.cell? ⟨0, k, none⟩ = some (.string { data := l.toArray }) := fun k l hk hl' => by
    have h1 := hf k hk
    rw [c9, Nat.mul_one] at h1
    rw [List.getElem?_map] at hl'
    obtain ⟨y, hy, hy1⟩ := Option.map_eq_some_iff.1 hl'
    rw [hy] at h1
    obtain ⟨s, hs1, hs2, _⟩ := DataW.trod_string Tryd.underlying9 h1
    have hs3 : s.data.toList = l := by
      rw [hs2] at hy1
      simpa using hy1
    rw [World.var?_cell hg hvar k]
    have hk2 : cs.toList[k]? = some (.string s) := by
      have h2 : (cs.toList.drop k)[0]? = ((cs.toList.drop k).take 1)[0]? := by simp
      rw [hs1] at h2
      simpa using h2
    rw [← Array.getElem?_toList, hk2, bytes_eq hs3]
  intro k hk
  have h12 : k = 0 ∨ k = 1 ∨ k = 2 ∨ k = 3 ∨ k = 4 ∨ k = 5 ∨ k = 6 ∨ k = 7 ∨ k = 8 ∨ k = 9 ∨ k = 10 ∨ k = 11 := by omega
  rcases h12 with rfl | rfl | rfl | rfl | rfl | rfl | rfl | rfl | rfl | rfl | rfl | rfl <;> exact key _ _ (by omega) (by rw [hx1]; rfl)

theorem array1 {α : Type} {cs : Array α} (h : cs.size = 1) : ∃ c0, cs = #[c0] := by
  obtain ⟨l⟩ := cs
  match l, h with
  | [c0], _ => exact ⟨c0, rfl⟩
theorem cells24 : Tryd.prog.cellsOf 24 = 1 := by kernel_rfl
theorem all_laidOut : laidOutB Tryd.prog = true := by kernel_rfl
theorem all_own : ownKnob Tryd.prog.godebug = none := by kernel_rfl

section
variable {H : Type} {enc : TypeId × Value → H} {W : World}
set_option maxRecDepth 100000 in
theorem code_in {base : Nat} {v0 : Value} {d0 : DataW H} {p0 : List MemPlace} (hv : Value.okWide Tryd.prog W .any base 24 v0) (h0 : ∃ fuel, DataW.trod enc Tryd.prog W 0 (fun _ => true) true fuel 24 v0.cells.toList = some (d0, p0)) (hw : ∀ k ∈ d0.weights Tryd.prog 24, k ≤ reachBytes) : ∃ x, v0 = .agg #[x] ∧ ∃ ps, CdP W x ps ∧ BdP ps := by
  obtain ⟨cs, rfl, hcs⟩ := okWide_struct Tryd.underlying24 hv
  obtain ⟨c0, rfl⟩ := array1 (hcs.trans cells24)
  obtain ⟨fuel, hf⟩ := h0
  obtain ⟨y0, n, hx, _, hy⟩ := trod_struct1 Tryd.underlying24 hf
  simp only [Prod.mk.injEq] at hx
  have hy' : DataW.trod enc Tryd.prog W 0 (fun _ => true) true n 22 [c0] = some y0 := by simpa [Value.cells, cells22] using hy
  have hw' : ∀ k ∈ y0.1.weights Tryd.prog 22, k ≤ reachBytes := fun k hk => hw k (by
    rw [hx.1]
    simp only [DataW.weights, Tryd.underlying24]
    simp [DataW.weightsEach]
    exact hk)
  obtain ⟨l, h1, h2⟩ := cd_sized hy' hw'
  exact ⟨c0, rfl, l, h1, h2⟩
end
end Go.Proofs.YtbaijehecncclaaDoor
