/- What comes in, opened: words, texts, slots, units. -/
import Derived.Test.YtbaijehecncclaaDoorS0
import Derived.Deep.Slices
import Derived.ChangeSame
import Derived.SizedLaws
import Derived.ProofKit
import Derived.OpenShut
import Derived.ShutString
import Derived.ChangeOld
namespace Go.Proofs.YtbaijehecncclaaDoor
open Go.ChangeShapes Go.WideShapes Go.ChangeAt Go.RowKit
set_option linter.unusedVariables false
set_option linter.unusedSimpArgs false

structure BdP (ps : List Pr) : Prop where
  n : ps.length * 96 ≤ 140737488351232
  fs : ∀ i, i < ps.length → (ps.getD i pr0).fs.length ≤ 17592186043904
  sl : ∀ i, i < ps.length → (ps.getD i pr0).sl.length * 56 ≤ 140737488351232
  tx : ∀ i, i < ps.length → (ps.getD i pr0).tx.length * 32 ≤ 140737488351232

theorem bytes3 : Tryd.prog.bytesOf 3 = 8 := by kernel_rfl
theorem bytes40 : Tryd.prog.bytesOf 47 = 32 := by kernel_rfl
theorem bytes62 : Tryd.prog.bytesOf 151 = 56 := by kernel_rfl
theorem bytes44 : Tryd.prog.bytesOf 40 = 96 := by kernel_rfl
theorem cells3 : Tryd.prog.cellsOf 3 = 1 := by kernel_rfl
theorem cells4 : Tryd.prog.cellsOf 4 = 1 := by kernel_rfl
theorem cells9 : Tryd.prog.cellsOf 9 = 1 := by kernel_rfl
theorem cells38 : Tryd.prog.cellsOf 45 = 1 := by kernel_rfl
theorem cells59 : Tryd.prog.cellsOf 56 = 1 := by kernel_rfl
theorem cells60 : Tryd.prog.cellsOf 149 = 1 := by kernel_rfl
theorem cells37 : Tryd.prog.cellsOf 36 = 1 := by kernel_rfl
theorem cells25 : Tryd.prog.cellsOf 29 = 1 := by kernel_rfl
theorem cells42 : Tryd.prog.cellsOf 37 = 1 := by kernel_rfl
theorem cells41 : Tryd.prog.cellsOf 38 = 1 := by kernel_rfl
theorem cells22 : Tryd.prog.cellsOf 22 = 1 := by kernel_rfl
theorem cells40 : Tryd.prog.cellsOf 47 = 4 := by kernel_rfl
theorem cells62 : Tryd.prog.cellsOf 151 = 6 := by kernel_rfl
theorem cells44 : Tryd.prog.cellsOf 40 = 5 := by kernel_rfl

theorem spot_none {w : World} {x : Addr} {v : Value} (h : w.cell? (x.add 0) = some v) : ∃ b off, x = ⟨b, off, none⟩ := by
  have hs := World.cell?_spot h
  obtain ⟨b, off, sp⟩ := x
  cases sp with
  | none => exact ⟨b, off, rfl⟩
  | some y => simp [Addr.add] at hs

theorem len4 {α : Type} {l : List α} (h : l.length = 4) : ∃ a b c d, l = [a, b, c, d] := by
  match l, h with
  | [a, b, c, d], _ => exact ⟨a, b, c, d, rfl⟩
theorem len5 {α : Type} {l : List α} (h : l.length = 5) : ∃ a b c d e, l = [a, b, c, d, e] := by
  match l, h with
  | [a, b, c, d, e], _ => exact ⟨a, b, c, d, e, rfl⟩
theorem len6 {α : Type} {l : List α} (h : l.length = 6) : ∃ a b c d e f, l = [a, b, c, d, e, f] := by
  match l, h with
  | [a, b, c, d, e, f], _ => exact ⟨a, b, c, d, e, f, rfl⟩

section
variable {H : Type} {enc : TypeId × Value → H} {w : World}

theorem weights_mem_all {P : Program} {e : TypeId} {d : DataW H} : ∀ {ds : List (DataW H)}, d ∈ ds → ∀ n ∈ d.weights P e, n ∈ DataW.weightsAll P e ds
  | x :: r, hd, n, hn => by
    simp only [DataW.weightsAll, List.mem_append]
    rcases List.mem_cons.1 hd with rfl | hd
    · exact .inl hn
    · exact .inr (weights_mem_all hd n hn)
  | [], hd, _, _ => by simp at hd

theorem rd_sized {fuel : Nat} {v : Value} {x : DataW H × List MemPlace} (h : DataW.trod enc Tryd.prog w 0 (fun _ => true) true fuel 29 [v] = some x) (hw : ∀ n ∈ x.1.weights Tryd.prog 29, n ≤ reachBytes) : ∃ l, rd w v l ∧ l.length ≤ 17592186043904 := by
  rcases open_ints Tryd.underlying29 Tryd.underlying3 cells3 h with ⟨hcs, _⟩ | ⟨a, len, cap, zs, hcs, _, hl, hm, hz, hx, hcell, hwz⟩
  · simp at hcs
    subst hcs
    exact ⟨[], ⟨_, _, rfl, .inl rfl⟩, by simp⟩
  · simp at hcs hz
    subst hcs
    have hlen : (zs.take len).length = len := by simp; omega
    have hb : len ≤ 17592186043904 := by
      have := hw ((zs.take len).length * 8 + (zs.drop len).length * 8) (by
        rw [hx]
        simp only [DataW.weights, Tryd.underlying29, bytes3, lits, List.length_map, List.mem_cons]
        left
        omega)
      unfold reachBytes at this
      omega
    refine ⟨zs.take len, ⟨a, cap, by rw [hlen], ?_⟩, by rw [hlen]; exact hb⟩
    by_cases h0 : len = 0
    · left
      simp [h0]
    · right
      obtain ⟨b, off, rfl⟩ := spot_none (hcell 0 (by omega))
      refine ⟨b, off, rfl, fun i hi => ?_⟩
      have hi' : i < len := by rw [hlen] at hi; exact hi
      have hc := hcell i (by omega)
      rw [addn] at hc
      rw [hc]
      have e : (zs.take len).getD i 0 = zs.getD i 0 := by
        simp [List.getD, hi']
      rw [e]

theorem txt_sized {fuel : Nat} {v : Value} {x : DataW H × List MemPlace} (h : DataW.trod enc Tryd.prog w 0 (fun _ => true) true fuel 38 [v] = some x) (hw : ∀ n ∈ x.1.weights Tryd.prog 38, n ≤ reachBytes) : ∃ l, TxtAt w v l ∧ l.length * 32 ≤ 140737488351232 := by
  rcases Deep.open_slice Tryd.underlying38 h with ⟨hcs, _⟩ | ⟨a, len, cap, m, n, D, Pl, hcs, _, hl, hm, hmm, hxx, hx⟩
  · simp at hcs
    subst hcs
    exact ⟨[], ⟨_, _, rfl, .inl rfl⟩, by simp⟩
  · simp at hcs hmm
    subst hcs
    have hb : len * 32 ≤ 140737488351232 := by
      have := hw (len * 32 + (m - len) * 32) (by
        rw [hxx]
        simp only [DataW.weights, Tryd.underlying38, bytes40, List.length_map, List.length_range, List.mem_cons]
        left
        omega)
      unfold reachBytes at this
      omega
    have each : ∀ i, i < len → ∃ y : Ins, w.cell? (a.add (i * 4)) = some (.int .i64 y.d) ∧ w.cell? (a.add (i * 4 + 1)) = some (.int .i64 y.a) ∧ w.cell? (a.add (i * 4 + 2)) = some (.int .i64 y.b) ∧ w.cell? (a.add (i * 4 + 3)) = some (.int .i64 y.c) := fun i hi => by
      obtain ⟨cs', h1, h2⟩ := hx i (by omega)
      rw [cells40] at h1
      obtain ⟨_, hlen, hcell⟩ := World.cells?_some h1
      obtain ⟨xs, k, hk, hxy, _, hxl, hf⟩ := DataW.trod_struct Tryd.underlying47 h2
      obtain ⟨y0, y1, y2, y3, rfl⟩ := len4 hxl
      obtain ⟨v0, v1, v2, v3, rfl⟩ := len4 hlen
      focus
        have g0 := hf 0 _ rfl
        have g1 := hf 1 _ rfl
        have g2 := hf 2 _ rfl
        have g3 := hf 3 _ rfl
        simp [cells3, cells38] at g0 g1 g2 g3
        have e0 := hcell 0 (by omega)
        have e1 := hcell 1 (by omega)
        have e2 := hcell 2 (by omega)
        have e3 := hcell 3 (by omega)
        rw [Deep.add_add] at e0 e1 e2 e3
        obtain ⟨d, hd, _, _⟩ := DataW.trod_int Tryd.underlying45 g0
        obtain ⟨a', ha, _, _⟩ := DataW.trod_int Tryd.underlying3 g1
        obtain ⟨b', hb', _, _⟩ := DataW.trod_int Tryd.underlying3 g2
        obtain ⟨c', hc', _, _⟩ := DataW.trod_int Tryd.underlying3 g3
        simp at hd ha hb' hc'
        subst hd ha hb' hc'
        exact ⟨⟨d, a', b', c'⟩, by simpa using e0, by simpa using e1, by simpa using e2, by simpa using e3⟩
    obtain ⟨f, hfa⟩ := @Deep.choose_lt Ins ⟨⟨0, 0, 0, 0⟩⟩ _ _ each
    refine ⟨(List.range len).map f, ⟨some a, cap, by simp, ?_⟩, by simpa using hb⟩
    by_cases h0 : len = 0
    · left; simp [h0]
    · right
      obtain ⟨b, off, rfl⟩ := spot_none (by simpa using (hfa 0 (by omega)).1)
      refine ⟨b, off, rfl, fun i hi => ?_⟩
      have hi' : i < len := by simpa using hi
      have hnth : nth ((List.range len).map f) i = f i := by simp [nth, hi']
      have hc := hfa i hi'
      rw [addn, addn, addn, addn] at hc
      rw [hnth]
      simpa only [Nat.add_assoc] using hc

theorem slt_sized {fuel : Nat} {v : Value} {x : DataW H × List MemPlace} (h : DataW.trod enc Tryd.prog w 0 (fun _ => true) true fuel 37 [v] = some x) (hw : ∀ n ∈ x.1.weights Tryd.prog 37, n ≤ reachBytes) : ∃ l, SlAt w v l ∧ l.length * 56 ≤ 140737488351232 := by
  rcases Deep.open_slice Tryd.underlying37 h with ⟨hcs, _⟩ | ⟨a, len, cap, m, n, D, Pl, hcs, _, hl, hm, hmm, hxx, hx⟩
  · simp at hcs
    subst hcs
    exact ⟨[], ⟨_, _, rfl, .inl rfl⟩, by simp⟩
  · simp at hcs hmm
    subst hcs
    have hb : len * 56 ≤ 140737488351232 := by
      have := hw (len * 56 + (m - len) * 56) (by
        rw [hxx]
        simp only [DataW.weights, Tryd.underlying37, bytes62, List.length_map, List.length_range, List.mem_cons]
        left
        omega)
      unfold reachBytes at this
      omega
    have each : ∀ i, i < len → ∃ y : Slt, w.cell? (a.add (i * 6)) = some (.string y.path) ∧ w.cell? (a.add (i * 6 + 1)) = some (.int .i64 y.kind) ∧ w.cell? (a.add (i * 6 + 2)) = some (.int .i64 y.at') ∧ w.cell? (a.add (i * 6 + 3)) = some (.int .i64 y.len) ∧ w.cell? (a.add (i * 6 + 4)) = some (.bool y.keep) ∧ w.cell? (a.add (i * 6 + 5)) = some (.int .i64 y.role) := fun i hi => by
      obtain ⟨cs', h1, h2⟩ := hx i (by omega)
      rw [cells62] at h1
      obtain ⟨_, hlen, hcell⟩ := World.cells?_some h1
      obtain ⟨xs, k, hk, hxy, _, hxl, hf⟩ := DataW.trod_struct Tryd.underlying151 h2
      obtain ⟨y0, y1, y2, y3, y4, y5, rfl⟩ := len6 hxl
      obtain ⟨v0, v1, v2, v3, v4, v5, rfl⟩ := len6 hlen
      focus
        have g0 := hf 0 _ rfl
        have g1 := hf 1 _ rfl
        have g2 := hf 2 _ rfl
        have g3 := hf 3 _ rfl
        have g4 := hf 4 _ rfl
        have g5 := hf 5 _ rfl
        simp [cells3, cells4, cells9, cells59, cells60] at g0 g1 g2 g3 g4 g5
        have e0 := hcell 0 (by omega)
        have e1 := hcell 1 (by omega)
        have e2 := hcell 2 (by omega)
        have e3 := hcell 3 (by omega)
        have e4 := hcell 4 (by omega)
        have e5 := hcell 5 (by omega)
        rw [Deep.add_add] at e0 e1 e2 e3 e4 e5
        obtain ⟨p, hp, _, _⟩ := DataW.trod_string Tryd.underlying9 g0
        obtain ⟨k', hk', _, _⟩ := DataW.trod_int Tryd.underlying56 g1
        obtain ⟨a', ha, _, _⟩ := DataW.trod_int Tryd.underlying3 g2
        obtain ⟨l', hl', _, _⟩ := DataW.trod_int Tryd.underlying3 g3
        obtain ⟨q', hq', _⟩ := DataW.trod_bool Tryd.underlying4 g4
        obtain ⟨r', hr', _, _⟩ := DataW.trod_int Tryd.underlying149 g5
        simp at hp hk' ha hl' hq' hr'
        subst hp hk' ha hl' hq' hr'
        exact ⟨⟨p, k', a', l', q', r'⟩, by simpa using e0, by simpa using e1, by simpa using e2, by simpa using e3, by simpa using e4, by simpa using e5⟩
    obtain ⟨f, hfa⟩ := @Deep.choose_lt Slt ⟨slt0⟩ _ _ each
    refine ⟨(List.range len).map f, ⟨some a, cap, by simp, ?_⟩, by simpa using hb⟩
    by_cases h0 : len = 0
    · left; simp [h0]
    · right
      obtain ⟨b, off, rfl⟩ := spot_none (by simpa using (hfa 0 (by omega)).1)
      refine ⟨b, off, rfl, fun i hi => ?_⟩
      have hi' : i < len := by simpa using hi
      have hnth : ((List.range len).map f).getD i slt0 = f i := by simp [List.getD, hi']
      have hc := hfa i hi'
      rw [addn, addn, addn, addn, addn, addn] at hc
      rw [hnth]
      simpa only [Nat.add_assoc] using hc

theorem cd_sized {fuel : Nat} {v : Value} {x : DataW H × List MemPlace} (h : DataW.trod enc Tryd.prog w 0 (fun _ => true) true fuel 22 [v] = some x) (hw : ∀ n ∈ x.1.weights Tryd.prog 22, n ≤ reachBytes) : ∃ l, CdP w v l ∧ BdP l := by
  rcases Deep.open_slice Tryd.underlying22 h with ⟨hcs, _⟩ | ⟨a, len, cap, m, n, D, Pl, hcs, _, hl, hm, hmm, hxx, hx⟩
  · simp at hcs
    subst hcs
    exact ⟨[], ⟨_, _, rfl, by simp, .inl rfl⟩, ⟨by simp, by simp, by simp, by simp⟩⟩
  · simp at hcs hmm
    subst hcs
    have hb : len * 96 ≤ 140737488351232 := by
      have := hw (len * 96 + (m - len) * 96) (by
        rw [hxx]
        simp only [DataW.weights, Tryd.underlying22, bytes44, List.length_map, List.length_range, List.mem_cons]
        left
        omega)
      unfold reachBytes at this
      omega
    have each : ∀ i, i < len → ∃ y : Pr × Value × Value × Value, w.cell? (a.add (i * 5)) = some (.int .i64 y.1.k) ∧ w.cell? (a.add (i * 5 + 1)) = some (.string y.1.nm) ∧ w.cell? (a.add (i * 5 + 2)) = some y.2.1 ∧ w.cell? (a.add (i * 5 + 3)) = some y.2.2.1 ∧ w.cell? (a.add (i * 5 + 4)) = some y.2.2.2 ∧
        rd w y.2.1 y.1.fs ∧ SlAt w y.2.2.1 y.1.sl ∧ TxtAt w y.2.2.2 y.1.tx ∧ y.1.fs.length ≤ 17592186043904 ∧ y.1.sl.length * 56 ≤ 140737488351232 ∧ y.1.tx.length * 32 ≤ 140737488351232 := fun i hi => by
      obtain ⟨cs', h1, h2⟩ := hx i (by omega)
      have hwi : ∀ k ∈ (D i).weights Tryd.prog 40, k ≤ reachBytes := fun k hk => hw k (by
        rw [hxx]
        simp only [DataW.weights, Tryd.underlying22, List.mem_cons, List.mem_append]
        right; left
        exact weights_mem_all (d := D i) (List.mem_map.2 ⟨i, List.mem_range.2 hi, rfl⟩) k hk)
      rw [cells44] at h1
      obtain ⟨_, hlen, hcell⟩ := World.cells?_some h1
      obtain ⟨xs, k, hk, hxy, _, hxl, hf⟩ := DataW.trod_struct Tryd.underlying40 h2
      obtain ⟨y0, y1, y2, y3, y4, rfl⟩ := len5 hxl
      obtain ⟨v0, v1, v2, v3, v4, rfl⟩ := len5 hlen
      focus
        have g0 := hf 0 _ rfl
        have g1 := hf 1 _ rfl
        have g2 := hf 2 _ rfl
        have g3 := hf 3 _ rfl
        have g4 := hf 4 _ rfl
        simp [cells37, cells9, cells25, cells42, cells41] at g0 g1 g2 g3 g4
        have e0 := hcell 0 (by omega)
        have e1 := hcell 1 (by omega)
        have e2 := hcell 2 (by omega)
        have e3 := hcell 3 (by omega)
        have e4 := hcell 4 (by omega)
        rw [Deep.add_add] at e0 e1 e2 e3 e4
        simp only [Prod.mk.injEq] at hxy
        have hD := hxy.1
        have wt : ∀ k, k ∈ y2.1.weights Tryd.prog 29 ∨ k ∈ y3.1.weights Tryd.prog 37 ∨ k ∈ y4.1.weights Tryd.prog 38 → k ≤ reachBytes := fun k hk => hwi k (by
          rw [hD]
          simp only [DataW.weights, Tryd.underlying40]
          simp [DataW.weightsEach]
          rcases hk with h | h | h
          · exact .inr (.inr (.inl h))
          · exact .inr (.inr (.inr (.inl h)))
          · exact .inr (.inr (.inr (.inr h))))
        obtain ⟨k', hk', _, _⟩ := DataW.trod_int Tryd.underlying36 g0
        obtain ⟨s', hs', _, _⟩ := DataW.trod_string Tryd.underlying9 g1
        obtain ⟨fs, r1, b1⟩ := rd_sized g2 (fun k hk => wt k (.inl hk))
        obtain ⟨sl, r2, b2⟩ := slt_sized g3 (fun k hk => wt k (.inr (.inl hk)))
        obtain ⟨tx, r3, b3⟩ := txt_sized g4 (fun k hk => wt k (.inr (.inr hk)))
        simp at hk' hs'
        subst hk' hs'
        exact ⟨(⟨k', s', fs, sl, tx⟩, v2, v3, v4), by simpa using e0, by simpa using e1, by simpa using e2, by simpa using e3, by simpa using e4, r1, r2, r3, b1, b2, b3⟩
    obtain ⟨f, hfa⟩ := @Deep.choose_lt (Pr × Value × Value × Value) ⟨(pr0, .slice none 0 0, .slice none 0 0, .slice none 0 0)⟩ _ _ each
    have hget : ∀ i, i < len → ((List.range len).map (fun i => (f i).1)).getD i pr0 = (f i).1 := fun i hi => by simp [List.getD, hi]
    refine ⟨(List.range len).map (fun i => (f i).1), ⟨some a, cap, by simp, by simpa using hl, ?_⟩, ⟨by simpa using hb, fun i hi => ?_, fun i hi => ?_, fun i hi => ?_⟩⟩
    · by_cases h0 : len = 0
      · left; simp [h0]
      · right
        obtain ⟨b, off, rfl⟩ := spot_none (by simpa using (hfa 0 (by omega)).1)
        refine ⟨b, off, rfl, fun i hi => ?_⟩
        have hi' : i < len := by simpa using hi
        obtain ⟨c0, c1, c2, c3, c4, r1, r2, r3, _⟩ := hfa i hi'
        rw [addn] at c0 c1 c2 c3 c4
        rw [hget i hi']
        exact ⟨_, _, _, c0, by simpa only [Nat.add_assoc] using c1, by simpa only [Nat.add_assoc] using c2, by simpa only [Nat.add_assoc] using c3, by simpa only [Nat.add_assoc] using c4, r1, r2, r3⟩
    · have hi' : i < len := by simpa using hi
      rw [hget i hi']; exact (hfa i hi').2.2.2.2.2.2.2.2.1
    · have hi' : i < len := by simpa using hi
      rw [hget i hi']; exact (hfa i hi').2.2.2.2.2.2.2.2.2.1
    · have hi' : i < len := by simpa using hi
      rw [hget i hi']; exact (hfa i hi').2.2.2.2.2.2.2.2.2.2
end
end Go.Proofs.YtbaijehecncclaaDoor
