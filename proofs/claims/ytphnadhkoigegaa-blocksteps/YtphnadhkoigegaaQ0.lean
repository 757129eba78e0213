/- Lists of calls and of waits that come in, cell by cell. -/
import Derived.Test.YtphnadhkoigegaaRows
import Derived.Test.YtphnadhkoigegaaJ
import Derived.WalkKit
import Derived.ProofKit
import Derived.OpenShut
import Derived.ShutString
import Derived.ChangeOld
import Derived.Below
import Derived.Deep.SlicePairs
namespace Go.Proofs.Ytphnadhkoigegaa
open Go.ChangeShapes Go.WideShapes Go.ChangeAt Go.RowKit
set_option linter.unusedVariables false
set_option linter.unusedSimpArgs false

theorem cells36 : Try.prog.cellsOf 36 = 2 := by kernel_rfl
theorem cells44 : Try.prog.cellsOf 44 = 2 := by kernel_rfl
theorem cells31 : Try.prog.cellsOf 31 = 1 := by kernel_rfl
theorem cells3 : Try.prog.cellsOf 3 = 1 := by kernel_rfl
theorem cells4 : Try.prog.cellsOf 4 = 1 := by kernel_rfl

/-- A list of calls that came in. -/
def CallsAt (w : World) (a : Option Addr) (len : Nat) : Prop :=
  len = 0 ∨ ∃ (b off : Nat) (V : Nat → Value) (Li : Nat → List Int) (T : Nat → Int), a = some ⟨b, off, none⟩ ∧ len ≤ 9223372036854775807 ∧ (∀ i, i < len → w.cell? ⟨b, off + i * 2, none⟩ = some (V i)) ∧ (∀ i, i < len → rd w (V i) (Li i)) ∧ (∀ i, i < len → w.cell? ⟨b, off + i * 2 + 1, none⟩ = some (.int .i64 (T i)))
/-- A list of waits that came in. -/
def WaitsAt (w : World) (a : Option Addr) (len : Nat) : Prop :=
  len = 0 ∨ ∃ (b off : Nat) (O : Nat → Bool) (D : Nat → Int), a = some ⟨b, off, none⟩ ∧ len ≤ 9223372036854775807 ∧ (∀ i, i < len → w.cell? ⟨b, off + i * 2, none⟩ = some (.bool (O i))) ∧ (∀ i, i < len → w.cell? ⟨b, off + i * 2 + 1, none⟩ = some (.int .i64 (D i)))

def intOf : Value → Int
  | .int _ n => n
  | _ => 0
def boolOf : Value → Bool
  | .bool b => b
  | _ => false

theorem add_none (b off k : Nat) : (⟨b, off, none⟩ : Addr).add k = ⟨b, off + k, none⟩ := by unfold Addr.add; split <;> simp_all
theorem spot_none {w : World} {x : Addr} {v : Value} (h : w.cell? (x.add 0) = some v) : ∃ b off, x = ⟨b, off, none⟩ := by
  have hs := World.cell?_spot h
  obtain ⟨b, off, sp⟩ := x
  cases sp with
  | none => exact ⟨b, off, rfl⟩
  | some y => simp [Addr.add] at hs

section
variable {H : Type} {enc : TypeId × Value → H} {w : World}

/-- A list of integers that came in, as the blocks' Step takes one. -/
theorem rd_opened {fuel : Nat} {v : Value} {x : DataW H × List MemPlace} (h : DataW.trod enc Try.prog w 0 (fun _ => true) true fuel 31 [v] = some x) : ∃ l, rd w v l := by
  rcases open_ints Try.underlying31 Try.underlying3 cells3 h with ⟨hcs, _⟩ | ⟨a, len, cap, zs, hcs, _, hl, hm, hz, _, hcell, hwz⟩
  · simp at hcs
    subst hcs
    exact ⟨[], _, _, rfl, .inl rfl⟩
  · simp at hcs hz
    subst hcs
    have hlen : (zs.take len).length = len := by simp; omega
    refine ⟨zs.take len, a, cap, by rw [hlen], ?_⟩
    by_cases h0 : len = 0
    · left
      simp [h0]
    · right
      obtain ⟨b, off, rfl⟩ := spot_none (hcell 0 (by omega))
      refine ⟨b, off, rfl, fun i hi => ?_⟩
      have hi' : i < len := by rw [hlen] at hi; exact hi
      have hc := hcell i (by omega)
      rw [add_none] at hc
      rw [hc]
      have e : (zs.take len).getD i 0 = zs.getD i 0 := by
        simp [List.getD, hi']
      rw [e]

open Classical in
theorem calls_opened {fuel : Nat} {a : Option Addr} {len cap : Nat} {x : DataW H × List MemPlace} (h : DataW.trod enc Try.prog w 0 (fun _ => true) true fuel 32 [.slice a len cap] = some x) : CallsAt w a len := by
  rcases Deep.open_slice_pairs Try.underlying32 Try.underlying36 cells36 rfl rfl cells31 cells3 h with ⟨hcs, _⟩ | ⟨y, len', cap', m, n, V0, V1, D0, D1, P0, P1, hcs, _, hl, hm, hmm, _, hx⟩
  · simp at hcs
    exact .inl hcs.2.1
  · simp at hcs hmm
    obtain ⟨rfl, rfl, rfl⟩ := hcs
    by_cases h0 : len = 0
    · exact .inl h0
    · right
      obtain ⟨b, off, rfl⟩ := spot_none (hx 0 (by omega)).1
      have hrd : ∀ i, i < len → ∃ l, rd w (V0 i) l := fun i hi => rd_opened (hx i (by omega)).2.2.1
      refine ⟨b, off, V0, fun i => if h : ∃ l, rd w (V0 i) l then Classical.choose h else [], fun i => intOf (V1 i), rfl, by unfold maxLen at hm; omega, fun i hi => ?_, fun i hi => ?_, fun i hi => ?_⟩
      · have h := (hx i (by omega)).1
        rw [add_none] at h
        exact h
      · simp only
        rw [dif_pos (hrd i hi)]
        exact Classical.choose_spec (hrd i hi)
      · have h := (hx i (by omega)).2.1
        obtain ⟨k, hk, _, _⟩ := DataW.trod_int Try.underlying3 (hx i (by omega)).2.2.2
        simp at hk
        rw [add_none] at h
        rw [← Nat.add_assoc] at h
        rw [h]
        simp [intOf, boolOf, hk]

theorem waits_opened {fuel : Nat} {a : Option Addr} {len cap : Nat} {x : DataW H × List MemPlace} (h : DataW.trod enc Try.prog w 0 (fun _ => true) true fuel 42 [.slice a len cap] = some x) : WaitsAt w a len := by
  rcases Deep.open_slice_pairs Try.underlying42 Try.underlying44 cells44 rfl rfl cells4 cells3 h with ⟨hcs, _⟩ | ⟨y, len', cap', m, n, V0, V1, D0, D1, P0, P1, hcs, _, hl, hm, hmm, _, hx⟩
  · simp at hcs
    exact .inl hcs.2.1
  · simp at hcs hmm
    obtain ⟨rfl, rfl, rfl⟩ := hcs
    by_cases h0 : len = 0
    · exact .inl h0
    · right
      obtain ⟨b, off, rfl⟩ := spot_none (hx 0 (by omega)).1
      refine ⟨b, off, fun i => boolOf (V0 i), fun i => intOf (V1 i), rfl, by unfold maxLen at hm; omega, fun i hi => ?_, fun i hi => ?_⟩
      · have h := (hx i (by omega)).1
        obtain ⟨k, hk, _⟩ := DataW.trod_bool Try.underlying4 (hx i (by omega)).2.2.1
        simp at hk
        rw [add_none] at h
        rw [h]
        simp [intOf, boolOf, hk]
      · have h := (hx i (by omega)).2.1
        obtain ⟨k, hk, _, _⟩ := DataW.trod_int Try.underlying3 (hx i (by omega)).2.2.2
        simp at hk
        rw [add_none] at h
        rw [← Nat.add_assoc] at h
        rw [h]
        simp [intOf, boolOf, hk]
end
end Go.Proofs.Ytphnadhkoigegaa
