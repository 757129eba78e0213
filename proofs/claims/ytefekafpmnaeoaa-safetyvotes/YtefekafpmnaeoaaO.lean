/- What comes in: lists of numbers, votes. -/
import Derived.Test.YtefekafpmnaeoaaM
import Derived.Deep.Slices
import Derived.ChangeSame
import Derived.SizedLaws
import Derived.ProofKit
import Derived.ShutString
import Derived.ChangeOld
import Derived.Below
import Derived.Stop.Joined
import Derived.Lib.SmallJoins
namespace Go.Proofs.Ytefekafpmnaeoaa
open Go.ChangeShapes Go.WideShapes Go.ChangeAt Go.RowKit Go.Lib
set_option linter.unusedVariables false
set_option linter.unusedSimpArgs false

theorem bytes3 : Try.prog.bytesOf 3 = 8 := by kernel_rfl
theorem cells3 : Try.prog.cellsOf 3 = 1 := by kernel_rfl
theorem spot_none {w : World} {x : Addr} {v : Value} (h : w.cell? (x.add 0) = some v) : ∃ b off, x = ⟨b, off, none⟩ := by
  have hs := World.cell?_spot h
  obtain ⟨b, off, sp⟩ := x
  cases sp with
  | none => exact ⟨b, off, rfl⟩
  | some y => simp [Addr.add] at hs



theorem bytes50 : Try.prog.bytesOf 50 = 32 := by kernel_rfl
theorem cells50 : Try.prog.cellsOf 50 = 2 := by kernel_rfl
theorem cells26 : Try.prog.cellsOf 26 = 1 := by kernel_rfl
theorem cells22 : Try.prog.cellsOf 22 = 1 := by kernel_rfl
theorem cells24 : Try.prog.cellsOf 24 = 3 := by kernel_rfl
theorem cells28 : Try.prog.cellsOf 28 = 4 := by kernel_rfl
theorem cells4 : Try.prog.cellsOf 4 = 1 := by kernel_rfl
theorem len2 {α : Type} {l : List α} (h : l.length = 2) : ∃ a b, l = [a, b] := by
  match l, h with
  | [a, b], _ => exact ⟨a, b, rfl⟩
theorem len3 {α : Type} {l : List α} (h : l.length = 3) : ∃ a b c, l = [a, b, c] := by
  match l, h with
  | [a, b, c], _ => exact ⟨a, b, c, rfl⟩
theorem len4 {α : Type} {l : List α} (h : l.length = 4) : ∃ a b c d, l = [a, b, c, d] := by
  match l, h with
  | [a, b, c, d], _ => exact ⟨a, b, c, d, rfl⟩
theorem array3 {α : Type} {cs : Array α} (h : cs.size = 3) : ∃ a b c, cs = #[a, b, c] := by
  obtain ⟨l⟩ := cs
  obtain ⟨a, b, c, rfl⟩ := len3 (l := l) h
  exact ⟨a, b, c, rfl⟩
theorem array4 {α : Type} {cs : Array α} (h : cs.size = 4) : ∃ a b c d, cs = #[a, b, c, d] := by
  obtain ⟨l⟩ := cs
  obtain ⟨a, b, c, d, rfl⟩ := len4 (l := l) h
  exact ⟨a, b, c, d, rfl⟩
section
variable {H : Type} {enc : TypeId × Value → H} {w : World}
theorem weights_mem_all {P : Program} {e : TypeId} {d : DataW H} : ∀ {ds : List (DataW H)}, d ∈ ds → ∀ n ∈ d.weights P e, n ∈ DataW.weightsAll P e ds
  | x :: r, hd, n, hn => by
    simp only [DataW.weightsAll, List.mem_append]
    rcases List.mem_cons.1 hd with rfl | hd
    · exact .inl hn
    · exact .inr (weights_mem_all hd n hn)
  | [], hd, _, _ => by simp at hd

theorem rd_sized {fuel : Nat} {v : Value} {x : DataW H × List MemPlace} (h : DataW.trod enc Try.prog w 0 (fun _ => true) true fuel 26 [v] = some x) (hw : ∀ n ∈ x.1.weights Try.prog 26, n ≤ reachBytes) : ∃ l, rd w v l ∧ l.length ≤ 17592186043904 := by
  rcases open_ints Try.underlying26 Try.underlying3 cells3 h with ⟨hcs, _⟩ | ⟨a, len, cap, zs, hcs, _, hl, hm, hz, hx, hcell, hwz⟩
  · simp at hcs
    subst hcs
    exact ⟨[], ⟨_, _, rfl, .inl rfl⟩, by simp⟩
  · simp at hcs hz
    subst hcs
    have hlen : (zs.take len).length = len := by simp; omega
    have hb : len ≤ 17592186043904 := by
      have := hw ((zs.take len).length * 8 + (zs.drop len).length * 8) (by
        rw [hx]
        simp only [DataW.weights, Try.underlying26, bytes3, lits, List.length_map, List.mem_cons]
        left
        omega)
      unfold reachBytes at this
      omega
    refine ⟨zs.take len, ⟨a, cap, by rw [hlen], ?_⟩, by rw [hlen]; exact hb⟩
    by_cases h0 : len = 0
    · left
      simp [h0]
    · right
      obtain ⟨b, off, rfl⟩ := spot_none (hcell 0 (by omega))
      refine ⟨b, off, rfl, fun i hi => ?_⟩
      have hi' : i < len := by rw [hlen] at hi; exact hi
      have hc := hcell i (by omega)
      rw [addn] at hc
      rw [hc]
      have e : (zs.take len).getD i 0 = zs.getD i 0 := by
        simp [List.getD, hi']
      rw [e]



theorem votes_in {fuel : Nat} {v : Value} {x : DataW H × List MemPlace} (h : DataW.trod enc Try.prog w 0 (fun _ => true) true fuel 22 [v] = some x) (hw : ∀ n ∈ x.1.weights Try.prog 22, n ≤ reachBytes) : ∃ l, rdVs w v l ∧ OkL l ∧ l.length ≤ 4398046510976 := by
  rcases Deep.open_slice Try.underlying22 h with ⟨hcs, _⟩ | ⟨a, len, cap, m, n, D, Pl, hcs, _, hl, hm, hmm, hxx, hx⟩
  · simp at hcs
    subst hcs
    exact ⟨[], ⟨_, _, rfl, .inl rfl⟩, ⟨by simp, fun _ h => by simp at h⟩, by simp⟩
  · simp at hcs hmm
    subst hcs
    have hb : len ≤ 4398046510976 := by
      have := hw (((List.range len).map D).length * 32 + ((List.range (m - len)).map fun j => D (len + j)).length * 32) (by
        rw [hxx]
        simp only [DataW.weights, Try.underlying22, bytes50, List.mem_cons]
        left
        omega)
      simp at this
      unfold reachBytes at this
      omega
    have each : ∀ i, i < len → ∃ y : Value × Int × List Int, w.cell? (a.add (i * 2)) = some (.int .i64 y.2.1) ∧ w.cell? (a.add (i * 2 + 1)) = some y.1 ∧ rd w y.1 y.2.2 ∧ y.2.2.length ≤ 17592186043904 := fun i hi => by
      obtain ⟨cs', h1, h2⟩ := hx i (by omega)
      rw [cells50] at h1
      obtain ⟨_, hlen, hcell⟩ := World.cells?_some h1
      obtain ⟨xs, k, hk, hxy, _, hxl, hf⟩ := DataW.trod_struct Try.underlying50 h2
      obtain ⟨y0, y1, rfl⟩ := len2 hxl
      obtain ⟨v0, v1, rfl⟩ := len2 hlen
      focus
        have g0 := hf 0 _ rfl
        have g1 := hf 1 _ rfl
        simp [cells3, cells26] at g0 g1
        have e0 := hcell 0 (by omega)
        have e1 := hcell 1 (by omega)
        rw [Deep.add_add] at e0 e1
        obtain ⟨p, hp, _, hpw⟩ := DataW.trod_int Try.underlying3 g0
        simp at hp
        subst hp
        have hD : D i = _ := congrArg Prod.fst hxy
        obtain ⟨of, r1, r2⟩ := rd_sized g1 (fun k hk => hw k (by
          rw [hxx]
          simp only [DataW.weights, Try.underlying22, List.mem_cons, List.mem_append]
          right; left
          refine weights_mem_all (d := D i) (by simp; exact ⟨i, hi, rfl⟩) k ?_
          rw [hD]
          simp only [DataW.weights, Try.underlying50]
          simp [DataW.weightsEach]
          simp [hk]))
        exact ⟨⟨v1, p, of⟩, by simpa using e0, by simpa using e1, r1, r2⟩
    obtain ⟨f, hfa⟩ := @Deep.choose_lt (Value × Int × List Int) ⟨(undef, 0, [])⟩ _ _ each
    refine ⟨(List.range len).map (fun i => (f i).2), ⟨some a, cap, by simp, ?_⟩, ⟨by simp; omega, fun x hx => ?_⟩, by simpa using hb⟩
    · by_cases h0 : len = 0
      · left; simp [h0]
      · right
        obtain ⟨b, off, rfl⟩ := spot_none (by simpa using (hfa 0 (by omega)).1)
        refine ⟨b, off, rfl, fun i hi => ?_⟩
        have hi' : i < len := by simpa using hi
        have hnth : ((List.range len).map (fun i => (f i).2)).getD i (0, []) = (f i).2 := by simp [List.getD, hi']
        have hc := hfa i hi'
        rw [addn, addn] at hc
        rw [hnth]
        exact ⟨(f i).1, hc.1, by simpa only [Nat.add_assoc] using hc.2.1, hc.2.2.1⟩
    · simp at hx
      obtain ⟨i, hi, rfl⟩ := hx
      exact (hfa i hi).2.2.2
set_option maxRecDepth 100000 in
theorem guard_in {base : Nat} {v0 : Value} {d0 : DataW H} {p0 : List MemPlace} (hv : Value.okWide Try.prog w .any base 24 v0) (h0 : ∃ fuel, DataW.trod enc Try.prog w 0 (fun _ => true) true fuel 24 v0.cells.toList = some (d0, p0)) (hw : ∀ k ∈ d0.weights Try.prog 24, k ≤ reachBytes) : ∃ se de v l, v0 = .agg #[.int .i64 se, .int .i64 de, v] ∧ rdVs w v l ∧ OkL l ∧ l.length ≤ 4398046510976 := by
  obtain ⟨cs, rfl, hcs⟩ := okWide_struct Try.underlying24 hv
  obtain ⟨x0, x1, x2, rfl⟩ := array3 (hcs.trans cells24)
  obtain ⟨fuel, hf⟩ := h0
  obtain ⟨xs, k, hk, hxy, _, hxl, hff⟩ := DataW.trod_struct Try.underlying24 hf
  obtain ⟨y0, y1, y2, rfl⟩ := len3 hxl
  have g0 := hff 0 _ rfl
  have g1 := hff 1 _ rfl
  have g2 := hff 2 _ rfl
  simp [cells3, cells22, Value.cells] at g0 g1 g2
  simp only [Prod.mk.injEq] at hxy
  obtain ⟨n0, e0, _, _⟩ := DataW.trod_int Try.underlying3 g0
  obtain ⟨n1, e1, _, _⟩ := DataW.trod_int Try.underlying3 g1
  simp at e0 e1
  subst e0 e1
  obtain ⟨l, r1, r2, r3⟩ := votes_in g2 (fun k hk => hw k (by
    rw [hxy.1]
    simp only [DataW.weights, Try.underlying24]
    simp [DataW.weightsEach]
    simp [hk]))
  exact ⟨n0, n1, x2, l, rfl, r1, r2, r3⟩
set_option maxRecDepth 100000 in
theorem trip_in {base : Nat} {v0 : Value} {d0 : DataW H} {p0 : List MemPlace} (hv : Value.okWide Try.prog w .any base 28 v0) (h0 : ∃ fuel, DataW.trod enc Try.prog w 0 (fun _ => true) true fuel 28 v0.cells.toList = some (d0, p0)) (hw : ∀ k ∈ d0.weights Try.prog 28, k ≤ reachBytes) : ∃ T s, v0 = trV T s ∧ rd w s T.h ∧ T.h.length ≤ 17592186043904 := by
  obtain ⟨cs, rfl, hcs⟩ := okWide_struct Try.underlying28 hv
  obtain ⟨x0, x1, x2, x3, rfl⟩ := array4 (hcs.trans cells28)
  obtain ⟨fuel, hf⟩ := h0
  obtain ⟨xs, k, hk, hxy, _, hxl, hff⟩ := DataW.trod_struct Try.underlying28 hf
  obtain ⟨y0, y1, y2, y3, rfl⟩ := len4 hxl
  have g0 := hff 0 _ rfl
  have g1 := hff 1 _ rfl
  have g2 := hff 2 _ rfl
  have g3 := hff 3 _ rfl
  simp [cells3, cells4, cells26, Value.cells] at g0 g1 g2 g3
  simp only [Prod.mk.injEq] at hxy
  obtain ⟨n0, e0, _⟩ := DataW.trod_bool Try.underlying4 g0
  obtain ⟨n1, e1, _, _⟩ := DataW.trod_int Try.underlying3 g1
  obtain ⟨n3, e3, _⟩ := DataW.trod_bool Try.underlying4 g3
  simp at e0 e1 e3
  subst e0 e1 e3
  obtain ⟨l, r1, r2⟩ := rd_sized g2 (fun k hk => hw k (by
    rw [hxy.1]
    simp only [DataW.weights, Try.underlying28]
    simp [DataW.weightsEach]
    simp [hk]))
  exact ⟨⟨n0, n1, l, n3⟩, x2, rfl, r1, r2⟩
end
theorem all_laidOut : laidOutB Try.prog = true := by kernel_rfl
theorem all_own : ownKnob Try.prog.godebug = none := by kernel_rfl
end Go.Proofs.Ytefekafpmnaeoaa
