/- What comes in: lists of numbers, bytes, the variable that is laid. -/
import Derived.Test.YtlbipcecdcmgdaaDoorR
import Derived.Test.YtlbipcecdcmgdaaDoorTie
import Derived.Test.YtlbipcecdcmgdaaDoorCards
import Derived.Deep.Slices
import Derived.ChangeSame
import Derived.SizedLaws
import Derived.ProofKit
import Derived.ShutString
import Derived.ChangeOld
import Derived.PinnedBridge
import Derived.Lib.LaidTab
import Derived.Lay
import Derived.LaidOnce
import Derived.SevenTiedAt
import Derived.Below
import Derived.Stop.Joined
import Derived.Lib.SmallJoins
namespace Go.Proofs.YtlbipcecdcmgdaaDoor
open Go.ChangeShapes Go.WideShapes Go.ChangeAt Go.RowKit Go.Lib
set_option linter.unusedVariables false
set_option linter.unusedSimpArgs false
theorem bytes3 : Tryd.prog.bytesOf 3 = 8 := by kernel_rfl
theorem bytes5 : Tryd.prog.bytesOf 5 = 1 := by kernel_rfl
theorem cells3 : Tryd.prog.cellsOf 3 = 1 := by kernel_rfl
theorem spot_none {w : World} {x : Addr} {v : Value} (h : w.cell? (x.add 0) = some v) : ∃ b off, x = ⟨b, off, none⟩ := by
  have hs := World.cell?_spot h
  obtain ⟨b, off, sp⟩ := x
  cases sp with
  | none => exact ⟨b, off, rfl⟩
  | some y => simp [Addr.add] at hs


section
variable {H : Type} {enc : TypeId × Value → H} {w : World}
theorem rd_sized {fuel : Nat} {v : Value} {x : DataW H × List MemPlace} (h : DataW.trod enc Tryd.prog w 0 (fun _ => true) true fuel 22 [v] = some x) (hw : ∀ n ∈ x.1.weights Tryd.prog 22, n ≤ reachBytes) : ∃ l, rd w v l ∧ l.length ≤ 17592186043904 := by
  rcases open_ints Tryd.underlying22 Tryd.underlying3 cells3 h with ⟨hcs, _⟩ | ⟨a, len, cap, zs, hcs, _, hl, hm, hz, hx, hcell, hwz⟩
  · simp at hcs
    subst hcs
    exact ⟨[], ⟨_, _, rfl, .inl rfl⟩, by simp⟩
  · simp at hcs hz
    subst hcs
    have hlen : (zs.take len).length = len := by simp; omega
    have hb : len ≤ 17592186043904 := by
      have := hw ((zs.take len).length * 8 + (zs.drop len).length * 8) (by
        rw [hx]
        simp only [DataW.weights, Tryd.underlying22, bytes3, lits, List.length_map, List.mem_cons]
        left
        omega)
      unfold reachBytes at this
      omega
    refine ⟨zs.take len, ⟨a, cap, by rw [hlen], ?_⟩, by rw [hlen]; exact hb⟩
    by_cases h0 : len = 0
    · left
      simp [h0]
    · right
      obtain ⟨b, off, rfl⟩ := spot_none (hcell 0 (by omega))
      refine ⟨b, off, rfl, fun i hi => ?_⟩
      have hi' : i < len := by rw [hlen] at hi; exact hi
      have hc := hcell i (by omega)
      rw [addn] at hc
      rw [hc]
      have e : (zs.take len).getD i 0 = zs.getD i 0 := by
        simp [List.getD, hi']
      rw [e]


theorem rdB_sized {fuel : Nat} {v : Value} {x : DataW H × List MemPlace} (h : DataW.trod enc Tryd.prog w 0 (fun _ => true) true fuel 23 [v] = some x) (hw : ∀ n ∈ x.1.weights Tryd.prog 23, n ≤ reachBytes) : ∃ l, rdB w v l ∧ isB l ∧ l.length ≤ 140737488351232 := by
  rcases open_ints Tryd.underlying23 Tryd.underlying5 c5 h with ⟨hcs, _⟩ | ⟨a, len, cap, zs, hcs, _, hl, hm, hz, hx, hcell, hwz⟩
  · simp at hcs
    subst hcs
    exact ⟨[], ⟨_, _, rfl, by simp, .inl rfl⟩, fun _ h => by simp at h, by simp⟩
  · simp at hcs hz
    subst hcs
    have hlen : ((zs.take len).map Int.toNat).length = len := by simp; omega
    have hb : len ≤ 140737488351232 := by
      have := hw ((zs.take len).length * 1 + (zs.drop len).length * 1) (by
        rw [hx]
        simp only [DataW.weights, Tryd.underlying23, bytes5, lits, List.length_map, List.mem_cons]
        left
        omega)
      simp at this
      unfold reachBytes at this
      omega
    have hby : ∀ z ∈ zs, 0 ≤ z ∧ z ≤ 255 := fun z hz => by
      have := hwz z hz
      simpa [Lit.wf, IntKind.min, IntKind.max, IntKind.signed, IntKind.bits] using this
    refine ⟨(zs.take len).map Int.toNat, ⟨a, cap, by rw [hlen], by omega, ?_⟩, ?_, by rw [hlen]; exact hb⟩
    · by_cases h0 : len = 0
      · left
        simp [h0]
      · right
        obtain ⟨b, off, rfl⟩ := spot_none (hcell 0 (by omega))
        refine ⟨b, off, rfl, fun i hi => ?_⟩
        have hi' : i < len := by rw [hlen] at hi; exact hi
        have hc := hcell i (by omega)
        rw [addn] at hc
        rw [hc]
        have hiz : i < zs.length := by omega
        have e : ((zs.take len).map Int.toNat).getD i 0 = zs[i].toNat := by
          simp [List.getD, hi', hiz]
        have e2 : zs.getD i 0 = zs[i] := by simp [List.getD, hiz]
        have := (hby zs[i] (List.getElem_mem _)).1
        rw [e, e2]
        congr 2
        omega
    · intro y hy
      rw [List.mem_map] at hy
      obtain ⟨z, hz, rfl⟩ := hy
      have := hby z (List.mem_of_mem_take hz)
      omega
end
def laidL : List (String × DataW Unit) := [("plantwright/retain.begin", Rows.laid_plantwright_retain_begin)]
theorem all_laidOut : laidOutB Tryd.prog = true := by kernel_rfl
theorem all_own : ownKnob Tryd.prog.godebug = none := by kernel_rfl
set_option maxRecDepth 100000 in
theorem beg_of_laid {W : World} (h : laidMetH Tryd.prog laidL W) : Beg W := by
  rw [MakeChecks.laidMetH_plain _ _ _ (by kernel_rfl)] at h
  obtain ⟨g', t', cs, fuel, p, hg', ht', hvar, hd⟩ := (show VarReads Tryd.prog W "plantwright/retain.begin" Rows.laid_plantwright_retain_begin from Lib.laidMet.reads h (.head _))
  have hg : Tryd.prog.globalNamed "plantwright/retain.begin" = some 0 := by kernel_rfl
  have hty : (Tryd.prog.globals[0]?).map (·.type) = some 68 := by kernel_rfl
  obtain rfl := Option.some.inj (hg.symm.trans hg')
  obtain rfl := Option.some.inj (hty.symm.trans ht')
  obtain ⟨xs, m, _, hx, hl, hxl, hf⟩ := DataW.trod_array Tryd.underlying68 hd
  have hx1 : xs.map (·.1) = [.lit (.int .u8 80), .lit (.int .u8 87), .lit (.int .u8 82), .lit (.int .u8 49)] := by
    have := congrArg Prod.fst hx
    simp only [Rows.laid_plantwright_retain_begin, DataW.agg.injEq] at this
    exact this.symm
  have key : ∀ k (z : Int), k < 4 → (xs.map (·.1))[k]? = some (.lit (.int .u8 z)) → W.cell? ⟨0, k, none⟩ = some (.int .u8 z) := fun k z hk hl' => by
    have h1 := hf k hk
    rw [c5, Nat.mul_one] at h1
    rw [List.getElem?_map] at hl'
    obtain ⟨y, hy, hy1⟩ := Option.map_eq_some_iff.1 hl'
    rw [hy] at h1
    obtain ⟨s, hs1, hs2, _⟩ := DataW.trod_int Tryd.underlying5 h1
    have hs3 : s = z := by
      rw [hs2] at hy1
      simpa using hy1
    subst hs3
    rw [World.var?_cell hg hvar k]
    have hk2 : cs.toList[k]? = some (.int .u8 s) := by
      have h2 : (cs.toList.drop k)[0]? = ((cs.toList.drop k).take 1)[0]? := by simp
      rw [hs1] at h2
      simpa using h2
    rw [← Array.getElem?_toList, hk2]
  exact ⟨key 0 _ (by omega) (by rw [hx1]; rfl), key 1 _ (by omega) (by rw [hx1]; rfl), key 2 _ (by omega) (by rw [hx1]; rfl), key 3 _ (by omega) (by rw [hx1]; rfl)⟩
end Go.Proofs.YtlbipcecdcmgdaaDoor
