/- Lists of calls that come in, cell by cell, with the form's own bound on what is read. -/
import Derived.Test.YtphnadhkoigegaaQ0
import Derived.SizedLaws
namespace Go.Proofs.Ytphnadhkoigegaa
open Go.ChangeShapes Go.WideShapes Go.ChangeAt Go.RowKit
set_option linter.unusedVariables false
set_option linter.unusedSimpArgs false

theorem bytes3 : Try.prog.bytesOf 3 = 8 := by kernel_rfl
theorem bytes36 : Try.prog.bytesOf 36 = 32 := by kernel_rfl

/-- A list of calls that came in, bounded. -/
def SizedCalls (w : World) (a : Option Addr) (len : Nat) : Prop :=
  len = 0 ∨ ∃ (b off : Nat) (V : Nat → Value) (Li : Nat → List Int) (T : Nat → Int), a = some ⟨b, off, none⟩ ∧ len ≤ 9223372036854775000 ∧ (∀ i, i < len → w.cell? ⟨b, off + i * 2, none⟩ = some (V i)) ∧ (∀ i, i < len → rd w (V i) (Li i)) ∧ (∀ i, i < len → (Li i).length ≤ 17592186043904) ∧ (∀ i, i < len → w.cell? ⟨b, off + i * 2 + 1, none⟩ = some (.int .i64 (T i)))

section
variable {H : Type} {enc : TypeId × Value → H} {w : World}

theorem weights_mem_all {P : Program} {e : TypeId} {d : DataW H} : ∀ {ds : List (DataW H)}, d ∈ ds → ∀ n ∈ d.weights P e, n ∈ DataW.weightsAll P e ds
  | x :: r, hd, n, hn => by
    simp only [DataW.weightsAll, List.mem_append]
    rcases List.mem_cons.1 hd with rfl | hd
    · exact .inl hn
    · exact .inr (weights_mem_all hd n hn)
  | [], hd, _, _ => by simp at hd

theorem rd_sized {fuel : Nat} {v : Value} {x : DataW H × List MemPlace} (h : DataW.trod enc Try.prog w 0 (fun _ => true) true fuel 31 [v] = some x) (hw : ∀ n ∈ x.1.weights Try.prog 31, n ≤ reachBytes) : ∃ l, rd w v l ∧ l.length ≤ 17592186043904 := by
  rcases open_ints Try.underlying31 Try.underlying3 cells3 h with ⟨hcs, _⟩ | ⟨a, len, cap, zs, hcs, _, hl, hm, hz, hx, hcell, hwz⟩
  · simp at hcs
    subst hcs
    exact ⟨[], ⟨_, _, rfl, .inl rfl⟩, by simp⟩
  · simp at hcs hz
    subst hcs
    have hlen : (zs.take len).length = len := by simp; omega
    have hb : len ≤ 17592186043904 := by
      have := hw ((zs.take len).length * 8 + (zs.drop len).length * 8) (by
        rw [hx]
        simp only [DataW.weights, Try.underlying31, bytes3, lits, List.length_map, List.mem_cons]
        left
        omega)
      unfold reachBytes at this
      omega
    refine ⟨zs.take len, ⟨a, cap, by rw [hlen], ?_⟩, by rw [hlen]; exact hb⟩
    by_cases h0 : len = 0
    · left
      simp [h0]
    · right
      obtain ⟨b, off, rfl⟩ := spot_none (hcell 0 (by omega))
      refine ⟨b, off, rfl, fun i hi => ?_⟩
      have hi' : i < len := by rw [hlen] at hi; exact hi
      have hc := hcell i (by omega)
      rw [add_none] at hc
      rw [hc]
      have e : (zs.take len).getD i 0 = zs.getD i 0 := by
        simp [List.getD, hi']
      rw [e]

open Classical in
theorem calls_sized {fuel : Nat} {a : Option Addr} {len cap : Nat} {x : DataW H × List MemPlace} (h : DataW.trod enc Try.prog w 0 (fun _ => true) true fuel 32 [.slice a len cap] = some x) (hw : ∀ n ∈ x.1.weights Try.prog 32, n ≤ reachBytes) : SizedCalls w a len := by
  rcases Deep.open_slice_pairs Try.underlying32 Try.underlying36 cells36 rfl rfl cells31 cells3 h with ⟨hcs, _⟩ | ⟨y, len', cap', m, n, V0, V1, D0, D1, P0, P1, hcs, _, hl, hm, hmm, hxx, hx⟩
  · simp at hcs
    exact .inl hcs.2.1
  · simp at hcs hmm
    obtain ⟨rfl, rfl, rfl⟩ := hcs
    by_cases h0 : len = 0
    · exact .inl h0
    · right
      obtain ⟨b, off, rfl⟩ := spot_none (hx 0 (by omega)).1
      have hlb : len ≤ 9223372036854775000 := by
        have := hw (len * 32 + (m - len) * 32) (by
          rw [hxx]
          simp only [DataW.weights, Try.underlying32, bytes36, List.length_map, List.length_range, List.mem_cons]
          left
          omega)
        unfold reachBytes at this
        omega
      have hwi : ∀ i, i < len → ∀ k ∈ (D0 i).weights Try.prog 31, k ≤ reachBytes := fun i hi k hk => hw k (by
        rw [hxx]
        simp only [DataW.weights, Try.underlying32, List.mem_cons, List.mem_append]
        right; left
        refine weights_mem_all (d := .agg [D0 i, D1 i]) (List.mem_map.2 ⟨i, List.mem_range.2 hi, rfl⟩) k ?_
        simp only [DataW.weights, Try.underlying36]
        simp [DataW.weightsEach]
        exact .inl hk)
      have hrd : ∀ i, i < len → ∃ l, rd w (V0 i) l ∧ l.length ≤ 17592186043904 := fun i hi => rd_sized (hx i (by omega)).2.2.1 (hwi i hi)
      refine ⟨b, off, V0, fun i => if h : ∃ l, rd w (V0 i) l ∧ l.length ≤ 17592186043904 then Classical.choose h else [], fun i => intOf (V1 i), rfl, hlb, fun i hi => ?_, fun i hi => ?_, fun i hi => ?_, fun i hi => ?_⟩
      · have h := (hx i (by omega)).1
        rw [add_none] at h
        exact h
      · simp only
        rw [dif_pos (hrd i hi)]
        exact (Classical.choose_spec (hrd i hi)).1
      · simp only
        rw [dif_pos (hrd i hi)]
        exact (Classical.choose_spec (hrd i hi)).2
      · have h := (hx i (by omega)).2.1
        obtain ⟨k, hk, _, _⟩ := DataW.trod_int Try.underlying3 (hx i (by omega)).2.2.2
        simp at hk
        rw [add_none] at h
        rw [← Nat.add_assoc] at h
        rw [h]
        simp [intOf, hk]
end
end Go.Proofs.Ytphnadhkoigegaa
