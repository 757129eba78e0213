/- What comes in: ballots, what is told. -/
import Derived.Test.YtefekafpmnaeoaaO
import Derived.Test.YtefekafpmnaeoaaAd
namespace Go.Proofs.Ytefekafpmnaeoaa
open Go.ChangeShapes Go.WideShapes Go.ChangeAt Go.RowKit Go.Lib
set_option linter.unusedVariables false
set_option linter.unusedSimpArgs false

theorem in_of_wf {n : Int} (h : (Lit.int .i64 n).wf = true) : in64 n := by
  simpa [Lit.wf, in64, IntKind.min, IntKind.max, IntKind.signed, IntKind.bits] using h
theorem bytes62 : Try.prog.bytesOf 62 = 32 := by kernel_rfl
theorem cells62 : Try.prog.cellsOf 62 = 2 := by kernel_rfl
theorem bytes47 : Try.prog.bytesOf 47 = 32 := by kernel_rfl
theorem cells47 : Try.prog.cellsOf 47 = 2 := by kernel_rfl
section
variable {H : Type} {enc : TypeId × Value → H} {w : World}
theorem rdW_sized {fuel : Nat} {v : Value} {x : DataW H × List MemPlace} (h : DataW.trod enc Try.prog w 0 (fun _ => true) true fuel 26 [v] = some x) (hw : ∀ n ∈ x.1.weights Try.prog 26, n ≤ reachBytes) : ∃ l, rd w v l ∧ (∀ x ∈ l, in64 x) ∧ l.length ≤ 17592186043904 := by
  rcases open_ints Try.underlying26 Try.underlying3 cells3 h with ⟨hcs, _⟩ | ⟨a, len, cap, zs, hcs, _, hl, hm, hz, hx, hcell, hwz⟩
  · simp at hcs
    subst hcs
    exact ⟨[], ⟨_, _, rfl, .inl rfl⟩, fun _ h => by simp at h, by simp⟩
  · simp at hcs hz
    subst hcs
    have hlen : (zs.take len).length = len := by simp; omega
    have hb : len ≤ 17592186043904 := by
      have := hw ((zs.take len).length * 8 + (zs.drop len).length * 8) (by
        rw [hx]
        simp only [DataW.weights, Try.underlying26, bytes3, lits, List.length_map, List.mem_cons]
        left
        omega)
      unfold reachBytes at this
      omega
    refine ⟨zs.take len, ⟨a, cap, by rw [hlen], ?_⟩, fun x hx => in_of_wf (hwz x (List.mem_of_mem_take hx)), by rw [hlen]; exact hb⟩
    by_cases h0 : len = 0
    · left
      simp [h0]
    · right
      obtain ⟨b, off, rfl⟩ := spot_none (hcell 0 (by omega))
      refine ⟨b, off, rfl, fun i hi => ?_⟩
      have hi' : i < len := by rw [hlen] at hi; exact hi
      have hc := hcell i (by omega)
      rw [addn] at hc
      rw [hc]
      have e : (zs.take len).getD i 0 = zs.getD i 0 := by
        simp [List.getD, hi']
      rw [e]




theorem ballots_in {fuel : Nat} {v : Value} {x : DataW H × List MemPlace} (h : DataW.trod enc Try.prog w 0 (fun _ => true) true fuel 42 [v] = some x) (hw : ∀ n ∈ x.1.weights Try.prog 42, n ≤ reachBytes) : ∃ l, rdVs w v l ∧ (∀ b ∈ l, in64 b.1 ∧ ∀ x ∈ b.2, in64 x) ∧ OkL l := by
  rcases Deep.open_slice Try.underlying42 h with ⟨hcs, _⟩ | ⟨a, len, cap, m, n, D, Pl, hcs, _, hl, hm, hmm, hxx, hx⟩
  · simp at hcs
    subst hcs
    exact ⟨[], ⟨_, _, rfl, .inl rfl⟩, fun _ h => by simp at h, ⟨by simp, fun _ h => by simp at h⟩⟩
  · simp at hcs hmm
    subst hcs
    have hb : len ≤ 4398046510976 := by
      have := hw (((List.range len).map D).length * 32 + ((List.range (m - len)).map fun j => D (len + j)).length * 32) (by
        rw [hxx]
        simp only [DataW.weights, Try.underlying42, bytes62, List.mem_cons]
        left
        omega)
      simp at this
      unfold reachBytes at this
      omega
    have each : ∀ i, i < len → ∃ y : Value × Int × List Int, w.cell? (a.add (i * 2)) = some (.int .i64 y.2.1) ∧ w.cell? (a.add (i * 2 + 1)) = some y.1 ∧ rd w y.1 y.2.2 ∧ in64 y.2.1 ∧ (∀ x ∈ y.2.2, in64 x) ∧ y.2.2.length ≤ 17592186043904 := fun i hi => by
      obtain ⟨cs', h1, h2⟩ := hx i (by omega)
      rw [cells62] at h1
      obtain ⟨_, hlen, hcell⟩ := World.cells?_some h1
      obtain ⟨xs, k, hk, hxy, _, hxl, hf⟩ := DataW.trod_struct Try.underlying62 h2
      obtain ⟨y0, y1, rfl⟩ := len2 hxl
      obtain ⟨v0, v1, rfl⟩ := len2 hlen
      focus
        have g0 := hf 0 _ rfl
        have g1 := hf 1 _ rfl
        simp [cells3, cells26] at g0 g1
        have e0 := hcell 0 (by omega)
        have e1 := hcell 1 (by omega)
        rw [Deep.add_add] at e0 e1
        obtain ⟨p, hp, _, hpw⟩ := DataW.trod_int Try.underlying3 g0
        simp at hp
        subst hp
        have hD : D i = _ := congrArg Prod.fst hxy
        obtain ⟨of, r1, r3, r2⟩ := rdW_sized g1 (fun k hk => hw k (by
          rw [hxx]
          simp only [DataW.weights, Try.underlying42, List.mem_cons, List.mem_append]
          right; left
          refine weights_mem_all (d := D i) (by simp; exact ⟨i, hi, rfl⟩) k ?_
          rw [hD]
          simp only [DataW.weights, Try.underlying62]
          simp [DataW.weightsEach]
          simp [hk]))
        exact ⟨⟨v1, p, of⟩, by simpa using e0, by simpa using e1, r1, in_of_wf hpw, r3, r2⟩
    obtain ⟨f, hfa⟩ := @Deep.choose_lt (Value × Int × List Int) ⟨(undef, 0, [])⟩ _ _ each
    refine ⟨(List.range len).map (fun i => (f i).2), ⟨some a, cap, by simp, ?_⟩, fun x hx => ?_, ⟨by simp; omega, fun x hx => ?_⟩⟩
    · by_cases h0 : len = 0
      · left; simp [h0]
      · right
        obtain ⟨b, off, rfl⟩ := spot_none (by simpa using (hfa 0 (by omega)).1)
        refine ⟨b, off, rfl, fun i hi => ?_⟩
        have hi' : i < len := by simpa using hi
        have hnth : ((List.range len).map (fun i => (f i).2)).getD i (0, []) = (f i).2 := by simp [List.getD, hi']
        have hc := hfa i hi'
        rw [addn, addn] at hc
        rw [hnth]
        exact ⟨(f i).1, hc.1, by simpa only [Nat.add_assoc] using hc.2.1, hc.2.2.1⟩
    · simp at hx
      obtain ⟨i, hi, rfl⟩ := hx
      exact ⟨(hfa i hi).2.2.2.1, (hfa i hi).2.2.2.2.1⟩
    · simp at hx
      obtain ⟨i, hi, rfl⟩ := hx
      exact (hfa i hi).2.2.2.2.2
theorem tolds_in {fuel : Nat} {v : Value} {x : DataW H × List MemPlace} (h : DataW.trod enc Try.prog w 0 (fun _ => true) true fuel 43 [v] = some x) (hw : ∀ n ∈ x.1.weights Try.prog 43, n ≤ reachBytes) : ∃ l, rdTs w v l ∧ (∀ b ∈ l, (∀ x ∈ b.1, in64 x) ∧ b.1.length ≤ 17592186043904) ∧ l.length ≤ 17592186043904 := by
  rcases Deep.open_slice Try.underlying43 h with ⟨hcs, _⟩ | ⟨a, len, cap, m, n, D, Pl, hcs, _, hl, hm, hmm, hxx, hx⟩
  · simp at hcs
    subst hcs
    exact ⟨[], ⟨_, _, rfl, .inl rfl⟩, fun _ h => by simp at h, by simp⟩
  · simp at hcs hmm
    subst hcs
    have hb : len ≤ 4398046510976 := by
      have := hw (((List.range len).map D).length * 32 + ((List.range (m - len)).map fun j => D (len + j)).length * 32) (by
        rw [hxx]
        simp only [DataW.weights, Try.underlying43, bytes47, List.mem_cons]
        left
        omega)
      simp at this
      unfold reachBytes at this
      omega
    have each : ∀ i, i < len → ∃ y : Value × List Int × Bool, w.cell? (a.add (i * 2)) = some y.1 ∧ w.cell? (a.add (i * 2 + 1)) = some (.bool y.2.2) ∧ rd w y.1 y.2.1 ∧ (∀ x ∈ y.2.1, in64 x) ∧ y.2.1.length ≤ 17592186043904 := fun i hi => by
      obtain ⟨cs', h1, h2⟩ := hx i (by omega)
      rw [cells47] at h1
      obtain ⟨_, hlen, hcell⟩ := World.cells?_some h1
      obtain ⟨xs, k, hk, hxy, _, hxl, hf⟩ := DataW.trod_struct Try.underlying47 h2
      obtain ⟨y0, y1, rfl⟩ := len2 hxl
      obtain ⟨v0, v1, rfl⟩ := len2 hlen
      focus
        have g0 := hf 0 _ rfl
        have g1 := hf 1 _ rfl
        simp [cells4, cells26] at g0 g1
        have e0 := hcell 0 (by omega)
        have e1 := hcell 1 (by omega)
        rw [Deep.add_add] at e0 e1
        obtain ⟨p, hp, _⟩ := DataW.trod_bool Try.underlying4 g1
        simp at hp
        subst hp
        have hD : D i = _ := congrArg Prod.fst hxy
        obtain ⟨of, r1, r3, r2⟩ := rdW_sized g0 (fun k hk => hw k (by
          rw [hxx]
          simp only [DataW.weights, Try.underlying43, List.mem_cons, List.mem_append]
          right; left
          refine weights_mem_all (d := D i) (by simp; exact ⟨i, hi, rfl⟩) k ?_
          rw [hD]
          simp only [DataW.weights, Try.underlying47]
          simp [DataW.weightsEach]
          simp [hk]))
        exact ⟨⟨v0, of, p⟩, by simpa using e0, by simpa using e1, r1, r3, r2⟩
    obtain ⟨f, hfa⟩ := @Deep.choose_lt (Value × List Int × Bool) ⟨(undef, [], false)⟩ _ _ each
    refine ⟨(List.range len).map (fun i => (f i).2), ⟨some a, cap, by simp, ?_⟩, fun x hx => ?_, by simp; omega⟩
    · by_cases h0 : len = 0
      · left; simp [h0]
      · right
        obtain ⟨b, off, rfl⟩ := spot_none (by simpa using (hfa 0 (by omega)).1)
        refine ⟨b, off, rfl, fun i hi => ?_⟩
        have hi' : i < len := by simpa using hi
        have hnth : ((List.range len).map (fun i => (f i).2)).getD i ([], false) = (f i).2 := by simp [List.getD, hi']
        have hc := hfa i hi'
        rw [addn, addn] at hc
        rw [hnth]
        exact ⟨(f i).1, hc.1, by simpa only [Nat.add_assoc] using hc.2.1, hc.2.2.1⟩
    · simp at hx
      obtain ⟨i, hi, rfl⟩ := hx
      exact (hfa i hi).2.2.2
end
end Go.Proofs.Ytefekafpmnaeoaa
