/- What comes in: units by value, lists of numbers. -/
import Derived.Test.YtmkgobmlpmjocaaM
import Derived.Deep.Slices
import Derived.ChangeSame
import Derived.SizedLaws
import Derived.ProofKit
import Derived.ShutString
import Derived.ChangeOld
import Derived.Below
import Derived.Stop.Joined
import Derived.Lib.SmallJoins
namespace Go.Proofs.Ytmkgobmlpmjocaa
open Go.ChangeShapes Go.WideShapes Go.ChangeAt Go.RowKit Go.Lib
set_option linter.unusedVariables false
set_option linter.unusedSimpArgs false

theorem bytes3 : Try.prog.bytesOf 3 = 8 := by kernel_rfl
theorem bytes54 : Try.prog.bytesOf 54 = 32 := by kernel_rfl
theorem bytes50 : Try.prog.bytesOf 50 = 56 := by kernel_rfl
theorem bytes27 : Try.prog.bytesOf 27 = 96 := by kernel_rfl
theorem cells4 : Try.prog.cellsOf 4 = 1 := by kernel_rfl
theorem cells52 : Try.prog.cellsOf 52 = 1 := by kernel_rfl
theorem cells48 : Try.prog.cellsOf 48 = 1 := by kernel_rfl
theorem cells22 : Try.prog.cellsOf 22 = 1 := by kernel_rfl
theorem cells23 : Try.prog.cellsOf 23 = 1 := by kernel_rfl
theorem cells24 : Try.prog.cellsOf 24 = 1 := by kernel_rfl
theorem cells25 : Try.prog.cellsOf 25 = 1 := by kernel_rfl
theorem cells34 : Try.prog.cellsOf 34 = 1 := by kernel_rfl
theorem cells54 : Try.prog.cellsOf 54 = 4 := by kernel_rfl
theorem cells50 : Try.prog.cellsOf 50 = 6 := by kernel_rfl
theorem cells27 : Try.prog.cellsOf 27 = 5 := by kernel_rfl

theorem spot_none {w : World} {x : Addr} {v : Value} (h : w.cell? (x.add 0) = some v) : ∃ b off, x = ⟨b, off, none⟩ := by
  have hs := World.cell?_spot h
  obtain ⟨b, off, sp⟩ := x
  cases sp with
  | none => exact ⟨b, off, rfl⟩
  | some y => simp [Addr.add] at hs

theorem len4 {α : Type} {l : List α} (h : l.length = 4) : ∃ a b c d, l = [a, b, c, d] := by
  match l, h with
  | [a, b, c, d], _ => exact ⟨a, b, c, d, rfl⟩
theorem len5 {α : Type} {l : List α} (h : l.length = 5) : ∃ a b c d e, l = [a, b, c, d, e] := by
  match l, h with
  | [a, b, c, d, e], _ => exact ⟨a, b, c, d, e, rfl⟩
theorem len6 {α : Type} {l : List α} (h : l.length = 6) : ∃ a b c d e f, l = [a, b, c, d, e, f] := by
  match l, h with
  | [a, b, c, d, e, f], _ => exact ⟨a, b, c, d, e, f, rfl⟩

section
variable {H : Type} {enc : TypeId × Value → H} {w : World}

theorem weights_mem_all {P : Program} {e : TypeId} {d : DataW H} : ∀ {ds : List (DataW H)}, d ∈ ds → ∀ n ∈ d.weights P e, n ∈ DataW.weightsAll P e ds
  | x :: r, hd, n, hn => by
    simp only [DataW.weightsAll, List.mem_append]
    rcases List.mem_cons.1 hd with rfl | hd
    · exact .inl hn
    · exact .inr (weights_mem_all hd n hn)
  | [], hd, _, _ => by simp at hd

theorem rd_sized {fuel : Nat} {v : Value} {x : DataW H × List MemPlace} (h : DataW.trod enc Try.prog w 0 (fun _ => true) true fuel 23 [v] = some x) (hw : ∀ n ∈ x.1.weights Try.prog 23, n ≤ reachBytes) : ∃ a l cap, v = .slice a l.length cap ∧ rd w v l ∧ l.length ≤ cap ∧ l.length ≤ 17592186043904 := by
  rcases open_ints Try.underlying23 Try.underlying3 cells3 h with ⟨hcs, _⟩ | ⟨a, len, cap, zs, hcs, _, hl, hm, hz, hx, hcell, hwz⟩
  · simp at hcs
    subst hcs
    exact ⟨none, [], 0, rfl, ⟨_, _, rfl, .inl rfl⟩, by simp, by simp⟩
  · simp at hcs hz
    subst hcs
    have hlen : (zs.take len).length = len := by simp; omega
    have hb : len ≤ 17592186043904 := by
      have := hw ((zs.take len).length * 8 + (zs.drop len).length * 8) (by
        rw [hx]
        simp only [DataW.weights, Try.underlying23, bytes3, lits, List.length_map, List.mem_cons]
        left
        omega)
      unfold reachBytes at this
      omega
    refine ⟨a, zs.take len, cap, by rw [hlen], ⟨a, cap, by rw [hlen], ?_⟩, by rw [hlen]; omega, by rw [hlen]; exact hb⟩
    by_cases h0 : len = 0
    · left
      simp [h0]
    · right
      obtain ⟨b, off, rfl⟩ := spot_none (hcell 0 (by omega))
      refine ⟨b, off, rfl, fun i hi => ?_⟩
      have hi' : i < len := by rw [hlen] at hi; exact hi
      have hc := hcell i (by omega)
      rw [addn] at hc
      rw [hc]
      have e : (zs.take len).getD i 0 = zs.getD i 0 := by
        simp [List.getD, hi']
      rw [e]

theorem txt_sized {fuel : Nat} {v : Value} {x : DataW H × List MemPlace} (h : DataW.trod enc Try.prog w 0 (fun _ => true) true fuel 25 [v] = some x) (hw : ∀ n ∈ x.1.weights Try.prog 25, n ≤ reachBytes) : ∃ l, TxtAt w v l ∧ l.length * 32 ≤ 140737488351232 := by
  rcases Deep.open_slice Try.underlying25 h with ⟨hcs, _⟩ | ⟨a, len, cap, m, n, D, Pl, hcs, _, hl, hm, hmm, hxx, hx⟩
  · simp at hcs
    subst hcs
    exact ⟨[], ⟨_, _, rfl, .inl rfl⟩, by simp⟩
  · simp at hcs hmm
    subst hcs
    have hb : len * 32 ≤ 140737488351232 := by
      have := hw (len * 32 + (m - len) * 32) (by
        rw [hxx]
        simp only [DataW.weights, Try.underlying25, bytes54, List.length_map, List.length_range, List.mem_cons]
        left
        omega)
      unfold reachBytes at this
      omega
    have each : ∀ i, i < len → ∃ y : Ins, w.cell? (a.add (i * 4)) = some (.int .i64 y.d) ∧ w.cell? (a.add (i * 4 + 1)) = some (.int .i64 y.a) ∧ w.cell? (a.add (i * 4 + 2)) = some (.int .i64 y.b) ∧ w.cell? (a.add (i * 4 + 3)) = some (.int .i64 y.c) := fun i hi => by
      obtain ⟨cs', h1, h2⟩ := hx i (by omega)
      rw [cells54] at h1
      obtain ⟨_, hlen, hcell⟩ := World.cells?_some h1
      obtain ⟨xs, k, hk, hxy, _, hxl, hf⟩ := DataW.trod_struct Try.underlying54 h2
      obtain ⟨y0, y1, y2, y3, rfl⟩ := len4 hxl
      obtain ⟨v0, v1, v2, v3, rfl⟩ := len4 hlen
      focus
        have g0 := hf 0 _ rfl
        have g1 := hf 1 _ rfl
        have g2 := hf 2 _ rfl
        have g3 := hf 3 _ rfl
        simp [cells3, cells52] at g0 g1 g2 g3
        have e0 := hcell 0 (by omega)
        have e1 := hcell 1 (by omega)
        have e2 := hcell 2 (by omega)
        have e3 := hcell 3 (by omega)
        rw [Deep.add_add] at e0 e1 e2 e3
        obtain ⟨d, hd, _, _⟩ := DataW.trod_int Try.underlying52 g0
        obtain ⟨a', ha, _, _⟩ := DataW.trod_int Try.underlying3 g1
        obtain ⟨b', hb', _, _⟩ := DataW.trod_int Try.underlying3 g2
        obtain ⟨c', hc', _, _⟩ := DataW.trod_int Try.underlying3 g3
        simp at hd ha hb' hc'
        subst hd ha hb' hc'
        exact ⟨⟨d, a', b', c'⟩, by simpa using e0, by simpa using e1, by simpa using e2, by simpa using e3⟩
    obtain ⟨f, hfa⟩ := @Deep.choose_lt Ins ⟨⟨0, 0, 0, 0⟩⟩ _ _ each
    refine ⟨(List.range len).map f, ⟨some a, cap, by simp, ?_⟩, by simpa using hb⟩
    by_cases h0 : len = 0
    · left; simp [h0]
    · right
      obtain ⟨b, off, rfl⟩ := spot_none (by simpa using (hfa 0 (by omega)).1)
      refine ⟨b, off, rfl, fun i hi => ?_⟩
      have hi' : i < len := by simpa using hi
      have hnth : nth ((List.range len).map f) i = f i := by simp [nth, hi']
      have hc := hfa i hi'
      rw [addn, addn, addn, addn] at hc
      rw [hnth]
      simpa only [Nat.add_assoc] using hc

theorem slt_sized {fuel : Nat} {v : Value} {x : DataW H × List MemPlace} (h : DataW.trod enc Try.prog w 0 (fun _ => true) true fuel 24 [v] = some x) (hw : ∀ n ∈ x.1.weights Try.prog 24, n ≤ reachBytes) : ∃ l, SlAt w v l ∧ (∀ s ∈ l, WfS s) ∧ l.length * 56 ≤ 140737488351232 := by
  rcases Deep.open_slice Try.underlying24 h with ⟨hcs, _⟩ | ⟨a, len, cap, m, n, D, Pl, hcs, _, hl, hm, hmm, hxx, hx⟩
  · simp at hcs
    subst hcs
    exact ⟨[], ⟨_, _, rfl, .inl rfl⟩, by simp, by simp⟩
  · simp at hcs hmm
    subst hcs
    have hb : len * 56 ≤ 140737488351232 := by
      have := hw (len * 56 + (m - len) * 56) (by
        rw [hxx]
        simp only [DataW.weights, Try.underlying24, bytes50, List.length_map, List.length_range, List.mem_cons]
        left
        omega)
      unfold reachBytes at this
      omega
    have each : ∀ i, i < len → ∃ y : Slt, w.cell? (a.add (i * 6)) = some (.string y.path) ∧ w.cell? (a.add (i * 6 + 1)) = some (.int .i64 y.kind) ∧ w.cell? (a.add (i * 6 + 2)) = some (.int .i64 y.at') ∧ w.cell? (a.add (i * 6 + 3)) = some (.int .i64 y.len) ∧ w.cell? (a.add (i * 6 + 4)) = some (.bool y.keep) ∧ w.cell? (a.add (i * 6 + 5)) = some (.int .i64 y.role) ∧ WfS y := fun i hi => by
      obtain ⟨cs', h1, h2⟩ := hx i (by omega)
      rw [cells50] at h1
      obtain ⟨_, hlen, hcell⟩ := World.cells?_some h1
      obtain ⟨xs, k, hk, hxy, _, hxl, hf⟩ := DataW.trod_struct Try.underlying50 h2
      obtain ⟨y0, y1, y2, y3, y4, y5, rfl⟩ := len6 hxl
      obtain ⟨v0, v1, v2, v3, v4, v5, rfl⟩ := len6 hlen
      focus
        have g0 := hf 0 _ rfl
        have g1 := hf 1 _ rfl
        have g2 := hf 2 _ rfl
        have g3 := hf 3 _ rfl
        have g4 := hf 4 _ rfl
        have g5 := hf 5 _ rfl
        simp [cells3, cells4, cells9, cells47, cells48] at g0 g1 g2 g3 g4 g5
        have e0 := hcell 0 (by omega)
        have e1 := hcell 1 (by omega)
        have e2 := hcell 2 (by omega)
        have e3 := hcell 3 (by omega)
        have e4 := hcell 4 (by omega)
        have e5 := hcell 5 (by omega)
        rw [Deep.add_add] at e0 e1 e2 e3 e4 e5
        obtain ⟨p, hp, _, wp⟩ := DataW.trod_string Try.underlying9 g0
        obtain ⟨k', hk', _, wk⟩ := DataW.trod_int Try.underlying47 g1
        obtain ⟨a', ha, _, wa⟩ := DataW.trod_int Try.underlying3 g2
        obtain ⟨l', hl', _, wl⟩ := DataW.trod_int Try.underlying3 g3
        obtain ⟨q', hq', _⟩ := DataW.trod_bool Try.underlying4 g4
        obtain ⟨r', hr', _, _⟩ := DataW.trod_int Try.underlying48 g5
        simp at hp hk' ha hl' hq' hr'
        subst hp hk' ha hl' hq' hr'
        exact ⟨⟨p, k', a', l', q', r'⟩, by simpa using e0, by simpa using e1, by simpa using e2, by simpa using e3, by simpa using e4, by simpa using e5, ⟨wp, wk, wl, wa⟩⟩
    obtain ⟨f, hfa⟩ := @Deep.choose_lt Slt ⟨slt0⟩ _ _ each
    refine ⟨(List.range len).map f, ⟨some a, cap, by simp, ?_⟩, fun s hs => ?_, by simpa using hb⟩
    rotate_left
    · obtain ⟨i, hi, rfl⟩ := List.mem_map.1 hs
      exact (hfa i (List.mem_range.1 hi)).2.2.2.2.2.2
    by_cases h0 : len = 0
    · left; simp [h0]
    · right
      obtain ⟨b, off, rfl⟩ := spot_none (by simpa using (hfa 0 (by omega)).1)
      refine ⟨b, off, rfl, fun i hi => ?_⟩
      have hi' : i < len := by simpa using hi
      have hnth : ((List.range len).map f).getD i slt0 = f i := by simp [List.getD, hi']
      have hc := hfa i hi'
      rw [addn, addn, addn, addn, addn, addn] at hc
      rw [hnth]
      obtain ⟨d0, d1, d2, d3, d4, d5, _⟩ := hc
      simpa only [Nat.add_assoc] using ⟨d0, d1, d2, d3, d4, d5⟩
theorem array5 {α : Type} {cs : Array α} (h : cs.size = 5) : ∃ a b c d e, cs = #[a, b, c, d, e] := by
  obtain ⟨l⟩ := cs
  obtain ⟨a, b, c, d, e, rfl⟩ := len5 (l := l) h
  exact ⟨a, b, c, d, e, rfl⟩
set_option maxRecDepth 100000 in
theorem unit_in {base : Nat} {v0 : Value} {d0 : DataW H} {p0 : List MemPlace} (hv : Value.okWide Try.prog w .any base 27 v0) (h0 : ∃ fuel, DataW.trod enc Try.prog w 0 (fun _ => true) true fuel 27 v0.cells.toList = some (d0, p0)) (hw : ∀ k ∈ d0.weights Try.prog 27, k ≤ reachBytes) :
    ∃ k nm fa fc sv tv fs sl tx, v0 = pV k nm (.slice fa (List.length fs) fc) sv tv ∧ rd w (.slice fa fs.length fc) fs ∧ SlAt w sv sl ∧ TxtAt w tv tx ∧ (∀ s ∈ sl, WfS s) ∧ fs.length ≤ 17592186043904 ∧ sl.length * 56 ≤ 140737488351232 ∧ tx.length * 32 ≤ 140737488351232 := by
  obtain ⟨cs, rfl, hcs⟩ := okWide_struct Try.underlying27 hv
  obtain ⟨x0, x1, x2, x3, x4, rfl⟩ := array5 (hcs.trans cells27)
  obtain ⟨fuel, hf⟩ := h0
  obtain ⟨xs, k, hk, hxy, _, hxl, hff⟩ := DataW.trod_struct Try.underlying27 hf
  obtain ⟨y0, y1, y2, y3, y4, rfl⟩ := len5 hxl
  have g0 := hff 0 _ rfl
  have g1 := hff 1 _ rfl
  have g2 := hff 2 _ rfl
  have g3 := hff 3 _ rfl
  have g4 := hff 4 _ rfl
  simp [cells3, cells9, cells22, cells23, cells24, cells25, Value.cells] at g0 g1 g2 g3 g4
  simp only [Prod.mk.injEq] at hxy
  have wt : ∀ k, k ∈ y2.1.weights Try.prog 23 ∨ k ∈ y3.1.weights Try.prog 24 ∨ k ∈ y4.1.weights Try.prog 25 → k ≤ reachBytes := fun k hk => hw k (by
    rw [hxy.1]
    simp only [DataW.weights, Try.underlying27]
    simp [DataW.weightsEach]
    rcases hk with h | h | h
    · exact .inr (.inr (.inl h))
    · exact .inr (.inr (.inr (.inl h)))
    · exact .inr (.inr (.inr (.inr h))))
  obtain ⟨k', hk', _, _⟩ := DataW.trod_int Try.underlying22 g0
  obtain ⟨s', hs', _, _⟩ := DataW.trod_string Try.underlying9 g1
  obtain ⟨fa, fs, fc, e1, r1, _, b1⟩ := rd_sized g2 (fun k hk => wt k (.inl hk))
  obtain ⟨sl, r2, w2, b2⟩ := slt_sized g3 (fun k hk => wt k (.inr (.inl hk)))
  obtain ⟨tx, r3, b3⟩ := txt_sized g4 (fun k hk => wt k (.inr (.inr hk)))
  simp at hk' hs'
  subst hk' hs' e1
  exact ⟨k', s', fa, fc, x3, x4, fs, sl, tx, rfl, r1, r2, r3, w2, b1, b2, b3⟩
end
theorem all_laidOut : laidOutB Try.prog = true := by kernel_rfl
theorem all_own : ownKnob Try.prog.godebug = none := by kernel_rfl
end Go.Proofs.Ytmkgobmlpmjocaa
