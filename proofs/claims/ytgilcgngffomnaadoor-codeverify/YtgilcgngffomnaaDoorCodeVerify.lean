/- PROVED: whatever the code, CodeVerify returns true: code.Verify answers what the document's Verify answers, twice the same, and neither changes what it was given nor keeps it. Conditions: the package-level table that the row lists holds what the program's text lays (the card ties that). -/
import Derived.Test.YtgilcgngffomnaaDoorW3
import Derived.Test.YtgilcgngffomnaaDoorG4
import Derived.Test.YtgilcgngffomnaaDoorG2
import Derived.Test.YtgilcgngffomnaaDoorW0
import Derived.Deep.Slices
import Derived.ChangeSame
import Derived.SizedLaws
import Derived.ProofKit
import Derived.OpenShut
import Derived.ShutString
import Derived.ChangeOld
import Derived.Test.YtgilcgngffomnaaDoorTie
import Derived.Test.YtgilcgngffomnaaDoorCards
import Derived.PinnedBridge
import Derived.Lib.LaidTab
import Derived.Lay
import Derived.LaidOnce
import Derived.SevenTiedAt
import Derived.Below
import Derived.Stop.Joined
import Derived.Lib.SmallJoins
namespace Go.Proofs.YtgilcgngffomnaaDoor
open Go.ChangeShapes Go.WideShapes Go.ChangeAt Go.RowKit
set_option linter.unusedVariables false
set_option linter.unusedSimpArgs false

theorem bytes3 : Tryd.prog.bytesOf 3 = 8 := by kernel_rfl
theorem bytes47 : Tryd.prog.bytesOf 47 = 32 := by kernel_rfl
theorem bytes60 : Tryd.prog.bytesOf 60 = 56 := by kernel_rfl
theorem bytes40 : Tryd.prog.bytesOf 40 = 96 := by kernel_rfl
theorem cells3 : Tryd.prog.cellsOf 3 = 1 := by kernel_rfl
theorem cells4 : Tryd.prog.cellsOf 4 = 1 := by kernel_rfl
theorem cells9 : Tryd.prog.cellsOf 9 = 1 := by kernel_rfl
theorem cells45 : Tryd.prog.cellsOf 45 = 1 := by kernel_rfl
theorem cells57 : Tryd.prog.cellsOf 57 = 1 := by kernel_rfl
theorem cells58 : Tryd.prog.cellsOf 58 = 1 := by kernel_rfl
theorem cells36 : Tryd.prog.cellsOf 36 = 1 := by kernel_rfl
theorem cells25 : Tryd.prog.cellsOf 25 = 1 := by kernel_rfl
theorem cells37 : Tryd.prog.cellsOf 37 = 1 := by kernel_rfl
theorem cells38 : Tryd.prog.cellsOf 38 = 1 := by kernel_rfl
theorem cells22 : Tryd.prog.cellsOf 22 = 1 := by kernel_rfl
theorem cells47 : Tryd.prog.cellsOf 47 = 4 := by kernel_rfl
theorem cells60 : Tryd.prog.cellsOf 60 = 6 := by kernel_rfl
theorem cells40 : Tryd.prog.cellsOf 40 = 5 := by kernel_rfl

theorem spot_none {w : World} {x : Addr} {v : Value} (h : w.cell? (x.add 0) = some v) : ∃ b off, x = ⟨b, off, none⟩ := by
  have hs := World.cell?_spot h
  obtain ⟨b, off, sp⟩ := x
  cases sp with
  | none => exact ⟨b, off, rfl⟩
  | some y => simp [Addr.add] at hs

theorem len4 {α : Type} {l : List α} (h : l.length = 4) : ∃ a b c d, l = [a, b, c, d] := by
  match l, h with
  | [a, b, c, d], _ => exact ⟨a, b, c, d, rfl⟩
theorem len5 {α : Type} {l : List α} (h : l.length = 5) : ∃ a b c d e, l = [a, b, c, d, e] := by
  match l, h with
  | [a, b, c, d, e], _ => exact ⟨a, b, c, d, e, rfl⟩
theorem len6 {α : Type} {l : List α} (h : l.length = 6) : ∃ a b c d e f, l = [a, b, c, d, e, f] := by
  match l, h with
  | [a, b, c, d, e, f], _ => exact ⟨a, b, c, d, e, f, rfl⟩

section
variable {H : Type} {enc : TypeId × Value → H} {w : World}

theorem weights_mem_all {P : Program} {e : TypeId} {d : DataW H} : ∀ {ds : List (DataW H)}, d ∈ ds → ∀ n ∈ d.weights P e, n ∈ DataW.weightsAll P e ds
  | x :: r, hd, n, hn => by
    simp only [DataW.weightsAll, List.mem_append]
    rcases List.mem_cons.1 hd with rfl | hd
    · exact .inl hn
    · exact .inr (weights_mem_all hd n hn)
  | [], hd, _, _ => by simp at hd

theorem rd_sized {fuel : Nat} {v : Value} {x : DataW H × List MemPlace} (h : DataW.trod enc Tryd.prog w 0 (fun _ => true) true fuel 25 [v] = some x) (hw : ∀ n ∈ x.1.weights Tryd.prog 25, n ≤ reachBytes) : ∃ l, rd w v l ∧ l.length ≤ 17592186043904 := by
  rcases open_ints Tryd.underlying25 Tryd.underlying3 cells3 h with ⟨hcs, _⟩ | ⟨a, len, cap, zs, hcs, _, hl, hm, hz, hx, hcell, hwz⟩
  · simp at hcs
    subst hcs
    exact ⟨[], ⟨_, _, rfl, .inl rfl⟩, by simp⟩
  · simp at hcs hz
    subst hcs
    have hlen : (zs.take len).length = len := by simp; omega
    have hb : len ≤ 17592186043904 := by
      have := hw ((zs.take len).length * 8 + (zs.drop len).length * 8) (by
        rw [hx]
        simp only [DataW.weights, Tryd.underlying25, bytes3, lits, List.length_map, List.mem_cons]
        left
        omega)
      unfold reachBytes at this
      omega
    refine ⟨zs.take len, ⟨a, cap, by rw [hlen], ?_⟩, by rw [hlen]; exact hb⟩
    by_cases h0 : len = 0
    · left
      simp [h0]
    · right
      obtain ⟨b, off, rfl⟩ := spot_none (hcell 0 (by omega))
      refine ⟨b, off, rfl, fun i hi => ?_⟩
      have hi' : i < len := by rw [hlen] at hi; exact hi
      have hc := hcell i (by omega)
      rw [addn] at hc
      rw [hc]
      have e : (zs.take len).getD i 0 = zs.getD i 0 := by
        simp [List.getD, hi']
      rw [e]

theorem txt_sized {fuel : Nat} {v : Value} {x : DataW H × List MemPlace} (h : DataW.trod enc Tryd.prog w 0 (fun _ => true) true fuel 38 [v] = some x) (hw : ∀ n ∈ x.1.weights Tryd.prog 38, n ≤ reachBytes) : ∃ l, TxtAt w v l ∧ l.length * 32 ≤ 140737488351232 := by
  rcases Deep.open_slice Tryd.underlying38 h with ⟨hcs, _⟩ | ⟨a, len, cap, m, n, D, Pl, hcs, _, hl, hm, hmm, hxx, hx⟩
  · simp at hcs
    subst hcs
    exact ⟨[], ⟨_, _, rfl, .inl rfl⟩, by simp⟩
  · simp at hcs hmm
    subst hcs
    have hb : len * 32 ≤ 140737488351232 := by
      have := hw (len * 32 + (m - len) * 32) (by
        rw [hxx]
        simp only [DataW.weights, Tryd.underlying38, bytes47, List.length_map, List.length_range, List.mem_cons]
        left
        omega)
      unfold reachBytes at this
      omega
    have each : ∀ i, i < len → ∃ y : Ins, w.cell? (a.add (i * 4)) = some (.int .i64 y.d) ∧ w.cell? (a.add (i * 4 + 1)) = some (.int .i64 y.a) ∧ w.cell? (a.add (i * 4 + 2)) = some (.int .i64 y.b) ∧ w.cell? (a.add (i * 4 + 3)) = some (.int .i64 y.c) := fun i hi => by
      obtain ⟨cs', h1, h2⟩ := hx i (by omega)
      rw [cells47] at h1
      obtain ⟨_, hlen, hcell⟩ := World.cells?_some h1
      obtain ⟨xs, k, hk, hxy, _, hxl, hf⟩ := DataW.trod_struct Tryd.underlying47 h2
      obtain ⟨y0, y1, y2, y3, rfl⟩ := len4 hxl
      obtain ⟨v0, v1, v2, v3, rfl⟩ := len4 hlen
      focus
        have g0 := hf 0 _ rfl
        have g1 := hf 1 _ rfl
        have g2 := hf 2 _ rfl
        have g3 := hf 3 _ rfl
        simp [cells3, cells45] at g0 g1 g2 g3
        have e0 := hcell 0 (by omega)
        have e1 := hcell 1 (by omega)
        have e2 := hcell 2 (by omega)
        have e3 := hcell 3 (by omega)
        rw [Deep.add_add] at e0 e1 e2 e3
        obtain ⟨d, hd, _, _⟩ := DataW.trod_int Tryd.underlying45 g0
        obtain ⟨a', ha, _, _⟩ := DataW.trod_int Tryd.underlying3 g1
        obtain ⟨b', hb', _, _⟩ := DataW.trod_int Tryd.underlying3 g2
        obtain ⟨c', hc', _, _⟩ := DataW.trod_int Tryd.underlying3 g3
        simp at hd ha hb' hc'
        subst hd ha hb' hc'
        exact ⟨⟨d, a', b', c'⟩, by simpa using e0, by simpa using e1, by simpa using e2, by simpa using e3⟩
    obtain ⟨f, hfa⟩ := @Deep.choose_lt Ins ⟨⟨0, 0, 0, 0⟩⟩ _ _ each
    refine ⟨(List.range len).map f, ⟨some a, cap, by simp, ?_⟩, by simpa using hb⟩
    by_cases h0 : len = 0
    · left; simp [h0]
    · right
      obtain ⟨b, off, rfl⟩ := spot_none (by simpa using (hfa 0 (by omega)).1)
      refine ⟨b, off, rfl, fun i hi => ?_⟩
      have hi' : i < len := by simpa using hi
      have hnth : nth ((List.range len).map f) i = f i := by simp [nth, hi']
      have hc := hfa i hi'
      rw [addn, addn, addn, addn] at hc
      rw [hnth]
      simpa only [Nat.add_assoc] using hc

theorem slt_sized {fuel : Nat} {v : Value} {x : DataW H × List MemPlace} (h : DataW.trod enc Tryd.prog w 0 (fun _ => true) true fuel 37 [v] = some x) (hw : ∀ n ∈ x.1.weights Tryd.prog 37, n ≤ reachBytes) : ∃ l, SlAt w v l ∧ l.length * 56 ≤ 140737488351232 := by
  rcases Deep.open_slice Tryd.underlying37 h with ⟨hcs, _⟩ | ⟨a, len, cap, m, n, D, Pl, hcs, _, hl, hm, hmm, hxx, hx⟩
  · simp at hcs
    subst hcs
    exact ⟨[], ⟨_, _, rfl, .inl rfl⟩, by simp⟩
  · simp at hcs hmm
    subst hcs
    have hb : len * 56 ≤ 140737488351232 := by
      have := hw (len * 56 + (m - len) * 56) (by
        rw [hxx]
        simp only [DataW.weights, Tryd.underlying37, bytes60, List.length_map, List.length_range, List.mem_cons]
        left
        omega)
      unfold reachBytes at this
      omega
    have each : ∀ i, i < len → ∃ y : Slt, w.cell? (a.add (i * 6)) = some (.string y.path) ∧ w.cell? (a.add (i * 6 + 1)) = some (.int .i64 y.kind) ∧ w.cell? (a.add (i * 6 + 2)) = some (.int .i64 y.at') ∧ w.cell? (a.add (i * 6 + 3)) = some (.int .i64 y.len) ∧ w.cell? (a.add (i * 6 + 4)) = some (.bool y.keep) ∧ w.cell? (a.add (i * 6 + 5)) = some (.int .i64 y.role) := fun i hi => by
      obtain ⟨cs', h1, h2⟩ := hx i (by omega)
      rw [cells60] at h1
      obtain ⟨_, hlen, hcell⟩ := World.cells?_some h1
      obtain ⟨xs, k, hk, hxy, _, hxl, hf⟩ := DataW.trod_struct Tryd.underlying60 h2
      obtain ⟨y0, y1, y2, y3, y4, y5, rfl⟩ := len6 hxl
      obtain ⟨v0, v1, v2, v3, v4, v5, rfl⟩ := len6 hlen
      focus
        have g0 := hf 0 _ rfl
        have g1 := hf 1 _ rfl
        have g2 := hf 2 _ rfl
        have g3 := hf 3 _ rfl
        have g4 := hf 4 _ rfl
        have g5 := hf 5 _ rfl
        simp [cells3, cells4, cells9, cells57, cells58] at g0 g1 g2 g3 g4 g5
        have e0 := hcell 0 (by omega)
        have e1 := hcell 1 (by omega)
        have e2 := hcell 2 (by omega)
        have e3 := hcell 3 (by omega)
        have e4 := hcell 4 (by omega)
        have e5 := hcell 5 (by omega)
        rw [Deep.add_add] at e0 e1 e2 e3 e4 e5
        obtain ⟨p, hp, _, _⟩ := DataW.trod_string Tryd.underlying9 g0
        obtain ⟨k', hk', _, _⟩ := DataW.trod_int Tryd.underlying57 g1
        obtain ⟨a', ha, _, _⟩ := DataW.trod_int Tryd.underlying3 g2
        obtain ⟨l', hl', _, _⟩ := DataW.trod_int Tryd.underlying3 g3
        obtain ⟨q', hq', _⟩ := DataW.trod_bool Tryd.underlying4 g4
        obtain ⟨r', hr', _, _⟩ := DataW.trod_int Tryd.underlying58 g5
        simp at hp hk' ha hl' hq' hr'
        subst hp hk' ha hl' hq' hr'
        exact ⟨⟨p, k', a', l', q', r'⟩, by simpa using e0, by simpa using e1, by simpa using e2, by simpa using e3, by simpa using e4, by simpa using e5⟩
    obtain ⟨f, hfa⟩ := @Deep.choose_lt Slt ⟨slt0⟩ _ _ each
    refine ⟨(List.range len).map f, ⟨some a, cap, by simp, ?_⟩, by simpa using hb⟩
    by_cases h0 : len = 0
    · left; simp [h0]
    · right
      obtain ⟨b, off, rfl⟩ := spot_none (by simpa using (hfa 0 (by omega)).1)
      refine ⟨b, off, rfl, fun i hi => ?_⟩
      have hi' : i < len := by simpa using hi
      have hnth : ((List.range len).map f).getD i slt0 = f i := by simp [List.getD, hi']
      have hc := hfa i hi'
      rw [addn, addn, addn, addn, addn, addn] at hc
      rw [hnth]
      simpa only [Nat.add_assoc] using hc

theorem cd_sized {fuel : Nat} {v : Value} {x : DataW H × List MemPlace} (h : DataW.trod enc Tryd.prog w 0 (fun _ => true) true fuel 22 [v] = some x) (hw : ∀ n ∈ x.1.weights Tryd.prog 22, n ≤ reachBytes) : ∃ l, CdP w v l ∧ BdP l := by
  rcases Deep.open_slice Tryd.underlying22 h with ⟨hcs, _⟩ | ⟨a, len, cap, m, n, D, Pl, hcs, _, hl, hm, hmm, hxx, hx⟩
  · simp at hcs
    subst hcs
    exact ⟨[], ⟨_, _, rfl, by simp, .inl rfl⟩, ⟨by simp, by simp, by simp, by simp⟩⟩
  · simp at hcs hmm
    subst hcs
    have hb : len * 96 ≤ 140737488351232 := by
      have := hw (len * 96 + (m - len) * 96) (by
        rw [hxx]
        simp only [DataW.weights, Tryd.underlying22, bytes40, List.length_map, List.length_range, List.mem_cons]
        left
        omega)
      unfold reachBytes at this
      omega
    have each : ∀ i, i < len → ∃ y : Pr × Value × Value × Value, w.cell? (a.add (i * 5)) = some (.int .i64 y.1.k) ∧ w.cell? (a.add (i * 5 + 1)) = some (.string y.1.nm) ∧ w.cell? (a.add (i * 5 + 2)) = some y.2.1 ∧ w.cell? (a.add (i * 5 + 3)) = some y.2.2.1 ∧ w.cell? (a.add (i * 5 + 4)) = some y.2.2.2 ∧
        rd w y.2.1 y.1.fs ∧ SlAt w y.2.2.1 y.1.sl ∧ TxtAt w y.2.2.2 y.1.tx ∧ y.1.fs.length ≤ 17592186043904 ∧ y.1.sl.length * 56 ≤ 140737488351232 ∧ y.1.tx.length * 32 ≤ 140737488351232 := fun i hi => by
      obtain ⟨cs', h1, h2⟩ := hx i (by omega)
      have hwi : ∀ k ∈ (D i).weights Tryd.prog 40, k ≤ reachBytes := fun k hk => hw k (by
        rw [hxx]
        simp only [DataW.weights, Tryd.underlying22, List.mem_cons, List.mem_append]
        right; left
        exact weights_mem_all (d := D i) (List.mem_map.2 ⟨i, List.mem_range.2 hi, rfl⟩) k hk)
      rw [cells40] at h1
      obtain ⟨_, hlen, hcell⟩ := World.cells?_some h1
      obtain ⟨xs, k, hk, hxy, _, hxl, hf⟩ := DataW.trod_struct Tryd.underlying40 h2
      obtain ⟨y0, y1, y2, y3, y4, rfl⟩ := len5 hxl
      obtain ⟨v0, v1, v2, v3, v4, rfl⟩ := len5 hlen
      focus
        have g0 := hf 0 _ rfl
        have g1 := hf 1 _ rfl
        have g2 := hf 2 _ rfl
        have g3 := hf 3 _ rfl
        have g4 := hf 4 _ rfl
        simp [cells36, cells9, cells25, cells37, cells38] at g0 g1 g2 g3 g4
        have e0 := hcell 0 (by omega)
        have e1 := hcell 1 (by omega)
        have e2 := hcell 2 (by omega)
        have e3 := hcell 3 (by omega)
        have e4 := hcell 4 (by omega)
        rw [Deep.add_add] at e0 e1 e2 e3 e4
        simp only [Prod.mk.injEq] at hxy
        have hD := hxy.1
        have wt : ∀ k, k ∈ y2.1.weights Tryd.prog 25 ∨ k ∈ y3.1.weights Tryd.prog 37 ∨ k ∈ y4.1.weights Tryd.prog 38 → k ≤ reachBytes := fun k hk => hwi k (by
          rw [hD]
          simp only [DataW.weights, Tryd.underlying40]
          simp [DataW.weightsEach]
          rcases hk with h | h | h
          · exact .inr (.inr (.inl h))
          · exact .inr (.inr (.inr (.inl h)))
          · exact .inr (.inr (.inr (.inr h))))
        obtain ⟨k', hk', _, _⟩ := DataW.trod_int Tryd.underlying36 g0
        obtain ⟨s', hs', _, _⟩ := DataW.trod_string Tryd.underlying9 g1
        obtain ⟨fs, r1, b1⟩ := rd_sized g2 (fun k hk => wt k (.inl hk))
        obtain ⟨sl, r2, b2⟩ := slt_sized g3 (fun k hk => wt k (.inr (.inl hk)))
        obtain ⟨tx, r3, b3⟩ := txt_sized g4 (fun k hk => wt k (.inr (.inr hk)))
        simp at hk' hs'
        subst hk' hs'
        exact ⟨(⟨k', s', fs, sl, tx⟩, v2, v3, v4), by simpa using e0, by simpa using e1, by simpa using e2, by simpa using e3, by simpa using e4, r1, r2, r3, b1, b2, b3⟩
    obtain ⟨f, hfa⟩ := @Deep.choose_lt (Pr × Value × Value × Value) ⟨(pr0, .slice none 0 0, .slice none 0 0, .slice none 0 0)⟩ _ _ each
    have hget : ∀ i, i < len → ((List.range len).map (fun i => (f i).1)).getD i pr0 = (f i).1 := fun i hi => by simp [List.getD, hi]
    refine ⟨(List.range len).map (fun i => (f i).1), ⟨some a, cap, by simp, by simpa using hl, ?_⟩, ⟨by simpa using hb, fun i hi => ?_, fun i hi => ?_, fun i hi => ?_⟩⟩
    · by_cases h0 : len = 0
      · left; simp [h0]
      · right
        obtain ⟨b, off, rfl⟩ := spot_none (by simpa using (hfa 0 (by omega)).1)
        refine ⟨b, off, rfl, fun i hi => ?_⟩
        have hi' : i < len := by simpa using hi
        obtain ⟨c0, c1, c2, c3, c4, r1, r2, r3, _⟩ := hfa i hi'
        rw [addn] at c0 c1 c2 c3 c4
        rw [hget i hi']
        exact ⟨_, _, _, c0, by simpa only [Nat.add_assoc] using c1, by simpa only [Nat.add_assoc] using c2, by simpa only [Nat.add_assoc] using c3, by simpa only [Nat.add_assoc] using c4, r1, r2, r3⟩
    · have hi' : i < len := by simpa using hi
      rw [hget i hi']; exact (hfa i hi').2.2.2.2.2.2.2.2.1
    · have hi' : i < len := by simpa using hi
      rw [hget i hi']; exact (hfa i hi').2.2.2.2.2.2.2.2.2.1
    · have hi' : i < len := by simpa using hi
      rw [hget i hi']; exact (hfa i hi').2.2.2.2.2.2.2.2.2.2
end
end Go.Proofs.YtgilcgngffomnaaDoor
namespace Go.Proofs.YtgilcgngffomnaaDoor
open Go.RowKit
attribute [local go_sem ↓] Go.wp_at_zero Go.wp_at_succ
set_option linter.unusedVariables false
set_option linter.unusedSimpArgs false

theorem CpAt.less {w : World} {B B' : Nat} {x : Option Nat} {u : Un} (h : CpAt w B x u) (hb : B' ≤ B) : CpAt w B' x u := by
  obtain ⟨c, f1, f2, f3, f4, f5⟩ := h.first
  obtain ⟨g, cap, m1, m2, m3, m4, m5, m6⟩ := h.mark
  refine ⟨⟨c, f1, f2, by omega, f4, f5⟩, h.slots, fun y hy => ?_, h.text, ⟨g, cap, m1, m2, m3, by omega, m5, m6⟩⟩
  obtain ⟨h1, h2, h3⟩ := h.sown y hy
  exact ⟨by omega, h2, h3⟩

set_option maxRecDepth 10000 in
set_option maxHeartbeats 4000000 in
theorem law_any (cv : Value) (ps : List Pr) (w : World) (hC : CdP w cv ps) (hB : BdP ps) (hS : Stds w) :
    Calls Tryd.prog 3 #[.agg #[cv]] w fun e w' => e = .returned (.bool true) ∧ w.grownBy w' none := by
  have HC : Hid (CdP w cv ps) := hC
  have HBD : Hid (BdP ps) := hB
  have HS : Hid (Stds w) := hS
  have hl : ps.length ≤ 1000000000000000 := by have := hB.n; omega
  have HL : Hid ((verR (Classical.propDecidable, ()) ps).1.length ≤ 16) := verR_len ps
  obtain ⟨ca, cc, rfl, _⟩ := hC
  clear hB hS
  obtain ⟨n, hn⟩ : ∃ n, ps.length = n := ⟨_, rfl⟩
  have cR : ∀ W, w.grownBy W none → Calls Tryd.prog 4 #[.agg #[.slice ca n cc]] W (VerPost W (verR (Classical.propDecidable, ()) ps)) := fun W hW => by
    have := rverify_any rstack_any _ ps W (HC.out.grown hW) hl
    rw [hn] at this
    exact this
  have cC : ∀ W, w.grownBy W none → Calls Tryd.prog 5 #[.agg #[.slice ca n cc]] W fun e w' => ∃ v us, e = .returned (.agg #[v]) ∧ CopyAt w' (W.heap.size + 2) v us ∧ us.map Un.p = ps ∧ W.grownBy w' none := fun W hW => by
    have := copy_any _ ps W (HC.out.grown hW) HBD.out
    rw [hn] at this
    exact this
  have HCN : Hid (CdP w (.slice ca n cc) ps) := by have := HC.out; rw [hn] at this; exact this
  rw [hn] at HC ⊢
  clear hn hl
  obtain ⟨l, fc, fu, hR⟩ : ∃ l fc fu, verR (Classical.propDecidable, ()) ps = (l, fc, fu) := ⟨_, _, _, rfl⟩
  have HRR : Hid (verR (Classical.propDecidable, ()) ps = (l, fc, fu)) := hR
  have HLL : Hid (l.length ≤ 16) := by have := HL.out; rw [hR] at this; exact this
  rw [hR] at cR
  clear hR HL
  obtain ⟨H, hH⟩ : ∃ H, w.heap.size = H := ⟨_, rfl⟩
  go_enter Tryd.func3, Tryd.ntmps3
  go_wp2_with fail
  refine (cR _ (gr1 _ _)).mono ?_
  rintro e w1 ⟨wv, rfl, hown1, hg1⟩
  have hgw1 : w.grownBy w1 none := (gr1 _ _).trans hg1
  have hbx1 : w1.heap[H]? = some (.cells #[.slice ca n cc] 24) := kept hg1 (hp_new hH.symm _)
  have HBX1 : Hid (w1.heap[H]? = some (.cells #[.slice ca n cc] 24)) := hbx1
  have z1 := at_cell hbx1 0
  simp at z1
  have z1a : ∀ o : Obj, (w1.alloc o).cell? ⟨H, 0, none⟩ = some (.slice ca n cc) := fun o => (gr1 w1 o).cell z1 (by simp)
  have HO1 : Hid (OwnV (H + 1) w1 wv l) := by have := hown1; rw [show (w.alloc (.cells #[.slice ca n cc] 24)).heap.size = H + 1 by simp [hH]] at this; exact this
  clear hown1 hbx1 hg1 cR
  go_wp2_with fail
  refine (cC _ (gr_alloc hgw1 _)).mono ?_
  rintro e w2 ⟨v, us, rfl, hcp, hup, hg2⟩
  obtain ⟨ha, hc2, rfl, hcap2, _⟩ := hcp.cells
  obtain ⟨m, hm⟩ : ∃ m, us.length = m := ⟨_, rfl⟩
  have hg12 : w1.grownBy w2 none := (gr1 _ _).trans hg2
  have hgw2 : w.grownBy w2 none := hgw1.trans hg12
  have HF2 : Hid (w2.heap[w1.heap.size]? = some (.cells #[.int .i64 fc, .int .i64 fu, .int .i64 0] 28)) := kept hg2 (heap_alloc_new _ _)
  have HBX2 : Hid (w2.heap[H]? = some (.cells #[.slice ca n cc] 24)) := kept hg12 HBX1.out
  have HCP2 : Hid (CopyAt w2 (w1.heap.size + 1) (.slice ha m hc2) us) := by
    rw [hm] at hcp
    exact ⟨own_less hcp.1 (by simp), fun i hi => (hcp.2 i hi).less (by simp)⟩
  have HUP : Hid (us.map Un.p = ps) := hup
  rw [hm] at *
  clear hcp hm hup
  have cV : ∀ W, w2.grownBy W none → Calls Tryd.prog 6 #[.agg #[.slice ha m hc2]] W (VerPost W (l, fc, fu)) := fun W hW => by
    have h := (CopyAt.kept HCP2.out hW (fun y hy => by simp at hy)).cd
    rw [HUP.out] at h
    have := verify_any _ ps W h (HS.out.grown (hgw2.trans hW)) (by have := HBD.out.n; omega)
    rw [HRR.out] at this
    exact this
  clear z1 z1a hg2 cC
  go_wp2_with fail
  refine (cV _ (gr1 _ _)).mono ?_
  rintro e w3 ⟨av, rfl, hown3, hg3⟩
  have hg23 : w2.grownBy w3 none := (gr1 _ _).trans hg3
  have hbx3 : w3.heap[w2.heap.size]? = some (.cells #[.slice ha m hc2] 24) := kept hg3 (heap_alloc_new _ _)
  have HH3 : Hid (w3.heap[w2.heap.size]? = some (.cells #[.slice ha m hc2] 24)) := hbx3
  have y3 := at_cell hbx3 0
  simp at y3
  have y3a : ∀ o : Obj, (w3.alloc o).cell? ⟨w2.heap.size, 0, none⟩ = some (.slice ha m hc2) := fun o => (gr1 w3 o).cell y3 (by simp)
  have HO3 : Hid (OwnV (w2.heap.size + 1) w3 av l) := by have := hown3; rw [show (w2.alloc (.cells #[.slice ha m hc2] 24)).heap.size = w2.heap.size + 1 by simp] at this; exact this
  clear hown3 hbx3 hg3
  go_wp2_with fail
  refine (cV _ (hg23.trans (gr1 _ _))).mono ?_
  rintro e w4 ⟨bv, rfl, hown4, hg4⟩
  have hg34 : w3.grownBy w4 none := (gr1 _ _).trans hg4
  have hgw4 : w.grownBy w4 none := (hgw2.trans hg23).trans hg34
  have HO4 : Hid (OwnV (w3.heap.size + 1) w4 bv l) := by have := hown4; rw [show (w3.alloc (.cells #[.int .i64 fc, .int .i64 fu, .int .i64 0] 28)).heap.size = w3.heap.size + 1 by simp] at this; exact this
  have k7 : w4.heap[w3.heap.size]? = some (.cells #[.int .i64 fc, .int .i64 fu, .int .i64 0] 28) := kept hg4 (heap_alloc_new _ _)
  have k4 : w4.heap[w1.heap.size]? = some (.cells #[.int .i64 fc, .int .i64 fu, .int .i64 0] 28) := kept (hg23.trans hg34) HF2.out
  have c70 := fun o => (gr1 w4 o).cell (at_cell k7 0) (by simp)
  have c71 := fun o => (gr1 w4 o).cell (at_cell k7 1) (by simp)
  have c72 := fun o => (gr1 w4 o).cell (at_cell k7 2) (by simp)
  have c40 := fun o => (gr1 w4 o).cell (at_cell k4 0) (by simp)
  have c41 := fun o => (gr1 w4 o).cell (at_cell k4 1) (by simp)
  have c42 := fun o => (gr1 w4 o).cell (at_cell k4 2) (by simp)
  have s1 := hgw1.size
  have s2 := hg12.size
  have s3 := hg23.size
  have s4 := hg34.size
  have l3 := at_lt HH3.out
  have l7 := at_lt k7
  clear hown4 hg4 y3 y3a cV k7 k4
  have cI : ∀ W, w4.grownBy W none → Calls Tryd.prog 7 #[av, wv] W fun e w' => e = .returned (.bool true) ∧ W.grownBy w' none := fun W hW => sameInts_yes av wv l W (HO3.out.keptN (hg34.trans hW)).rd (HO1.out.keptN (hg12.trans (hg23.trans (hg34.trans hW)))).rd (by have := HLL.out; omega)
  have cS : ∀ W, w4.grownBy W none → Calls Tryd.prog 8 #[.agg #[.slice ha m hc2], .agg #[.slice ca n cc]] W fun e w' => e = .returned (.bool true) ∧ W.grownBy w' none := fun W hW => by
    have h := (CopyAt.kept HCP2.out (hg23.trans (hg34.trans hW)) (fun y hy => by simp at hy)).cd
    rw [HUP.out] at h
    exact same_any _ _ ps W h (HCN.out.grown (hgw4.trans hW)) HBD.out
  have cP : ∀ W, w4.grownBy W none → Calls Tryd.prog 9 #[.agg #[.slice ha m hc2]] W fun e w' => e = .returned (.bool true) ∧ W.grownBy w' none := fun W hW => spare_any _ _ us W (CopyAt.kept HCP2.out (hg23.trans (hg34.trans hW)) (fun y hy => by simp at hy)) (by rw [HUP.out]; exact HBD.out)
  go_wp2_with fail
  refine (cI _ (gr1 _ _)).mono ?_
  rintro e w6 ⟨rfl, hg6⟩
  have hg46 : w4.grownBy w6 none := (gr1 _ _).trans hg6
  have x6 : w6.cell? ⟨w2.heap.size, 0, none⟩ = some (.slice ha m hc2) := by have := at_cell (kept (hg34.trans hg46) HH3.out) 0; simpa using this
  have b6 : w6.cell? ⟨H, 0, none⟩ = some (.slice ca n cc) := by have := at_cell (kept (hg23.trans (hg34.trans hg46)) HBX2.out) 0; simpa using this
  clear hg6 c70 c71 c72 c40 c41 c42
  go_wp2_with fail
  refine (cS _ hg46).mono ?_
  rintro e w7 ⟨rfl, hg7⟩
  have x7 := hg7.cell x6 (by simp)
  go_wp2_with fail
  refine (cP _ (hg46.trans hg7)).mono ?_
  rintro e w8 ⟨rfl, hg8⟩
  have hg48 : w4.grownBy w8 none := (hg46.trans hg7).trans hg8
  have cO := over_any (w2.heap.size + 1) av l (-71) w8 (by have := HLL.out; omega) (HO3.out.keptN (hg34.trans hg48))
  clear cI cS cP x6 b6 x7 hg7 hg8 hg46
  go_wp2_with fail
  refine cO.mono ?_
  rintro e w9 ⟨rfl, hg9⟩
  have hav : ∀ y, av.ownBlock = some y → w2.heap.size + 1 ≤ y ∧ y < w3.heap.size := fun y hy => World.ownsRow.lt HO3.out y hy
  have HGW9 : Hid (w.grownBy w9 none) := grown_join (hgw4.trans hg48) hg9 (.inr fun y hy => by have := hav y hy; omega)
  have HG19 : Hid (w1.grownBy w9 none) := grown_join (hg12.trans (hg23.trans (hg34.trans hg48))) hg9 (.inr fun y hy => by have := hav y hy; omega)
  have HG29 : Hid (w2.grownBy w9 none) := grown_join (hg23.trans (hg34.trans hg48)) hg9 (.inr fun y hy => by have := hav y hy; omega)
  have HG39 : Hid (w3.grownBy w9 av.ownBlock) := grown_join (gr_any (hg34.trans hg48)) hg9 (.inl rfl)
  have HG49 : Hid (w4.grownBy w9 av.ownBlock) := grown_join (gr_any hg48) hg9 (.inl rfl)
  have HB9 : Hid (OwnV (w3.heap.size + 1) w9 bv l) := HO4.out.kept HG49.out (by
    cases hb : bv.ownBlock with
    | none => exact .inl rfl
    | some y =>
      right
      intro e
      have h1 := (World.ownsRow.lt HO4.out y hb).1
      have h2 := (hav y e.symm).2
      omega)
  have HX9 : Hid (w9.heap[w2.heap.size]? = some (.cells #[.slice ha m hc2] 24)) := (HG39.out.block w2.heap.size l3 (fun e => by have := (hav _ e.symm).1; omega)).trans HH3.out
  have cI : Calls Tryd.prog 7 #[bv, wv] w9 fun e w' => e = .returned (.bool true) ∧ w9.grownBy w' none := sameInts_yes bv wv l w9 HB9.out.rd (HO1.out.keptN HG19.out).rd (by have := HLL.out; omega)
  have cS : ∀ W, w9.grownBy W none → Calls Tryd.prog 8 #[.agg #[.slice ha m hc2], .agg #[.slice ca n cc]] W fun e w' => e = .returned (.bool true) ∧ W.grownBy w' none := fun W hW => by
    have h := (CopyAt.kept HCP2.out (HG29.out.trans hW) (fun y hy => by simp at hy)).cd
    rw [HUP.out] at h
    exact same_any _ _ ps W h (HCN.out.grown (HGW9.out.trans hW)) HBD.out
  have cP : ∀ W, w9.grownBy W none → Calls Tryd.prog 9 #[.agg #[.slice ha m hc2]] W fun e w' => e = .returned (.bool true) ∧ W.grownBy w' none := fun W hW => spare_any _ _ us W (CopyAt.kept HCP2.out (HG29.out.trans hW) (fun y hy => by simp at hy)) (by rw [HUP.out]; exact HBD.out)
  clear cO hg9 hg48 hav
  go_wp2_with fail
  refine cI.mono ?_
  rintro e w10 ⟨rfl, hg10⟩
  have x10 : w10.cell? ⟨w2.heap.size, 0, none⟩ = some (.slice ha m hc2) := by have := at_cell (kept hg10 HX9.out) 0; simpa using this
  have b10 : w10.cell? ⟨H, 0, none⟩ = some (.slice ca n cc) := by have := at_cell (kept hg10 (kept HG29.out HBX2.out)) 0; simpa using this
  go_wp2_with fail
  refine (cS _ hg10).mono ?_
  rintro e w11 ⟨rfl, hg11⟩
  have x11 := hg11.cell x10 (by simp)
  go_wp2_with fail
  refine (cP _ (hg10.trans hg11)).mono ?_
  rintro e w12 ⟨rfl, hg12'⟩
  go_wp2
  go_ret
  exact ⟨rfl, HGW9.out.trans ((hg10.trans hg11).trans hg12')⟩
end Go.Proofs.YtgilcgngffomnaaDoor
namespace Go.Proofs.YtgilcgngffomnaaDoor
open Go.ChangeShapes Go.WideShapes Go.ChangeAt Go.RowKit Go.Lib
set_option linter.unusedVariables false

def laidL : List (String × DataW Unit) := [("plantwright/code.standards", Rows.laid_plantwright_code_standards)]

theorem bytes_eq {s : ByteArray} {l : List UInt8} (h : s.data.toList = l) : s = { data := l.toArray } := by
  subst h
  simp
set_option maxRecDepth 100000 in
theorem stds_of_laid {W : World} (h : laidMetH Tryd.prog laidL W) : Stds W := by
  rw [MakeChecks.laidMetH_plain _ _ _ (by kernel_rfl)] at h
  obtain ⟨g', t', cs, fuel, p, hg', ht', hvar, hd⟩ := (show VarReads Tryd.prog W "plantwright/code.standards" Rows.laid_plantwright_code_standards from Lib.laidMet.reads h (.head _))
  have hg : Tryd.prog.globalNamed "plantwright/code.standards" = some 0 := by kernel_rfl
  have hty : (Tryd.prog.globals[0]?).map (·.type) = some 96 := by kernel_rfl
  obtain rfl := Option.some.inj (hg.symm.trans hg')
  obtain rfl := Option.some.inj (hty.symm.trans ht')
  have c9 : Tryd.prog.cellsOf 9 = 1 := by kernel_rfl
  obtain ⟨xs, m, _, hx, hl, hxl, hf⟩ := DataW.trod_array Tryd.underlying96 hd
  have hx1 : xs.map (·.1) = [.lit (.string [116, 111, 110]), .lit (.string [116, 111, 102]), .lit (.string [116, 112]), .lit (.string [99, 116, 117]), .lit (.string [99, 116, 100]), .lit (.string [99, 116, 117, 100]), .lit (.string [114, 95, 116, 114, 105, 103]), .lit (.string [102, 95, 116, 114, 105, 103]), .lit (.string [115, 114]), .lit (.string [114, 115]), .lit (.string [114, 97, 109, 112]), .lit (.string [104, 121, 115, 116])] := by
    have := congrArg Prod.fst hx
    simp only [Rows.laid_plantwright_code_standards, DataW.agg.injEq] at this
    exact this.symm
  have key : ∀ k (l : List UInt8), k < 12 → (xs.map (·.1))[k]? = some (.lit (.string l)) → W.cell? ⟨0, k, none⟩ = some (.string { data := l.toArray }) := fun k l hk hl' => by
    have h1 := hf k hk
    rw [c9, Nat.mul_one] at h1
    rw [List.getElem?_map] at hl'
    obtain ⟨y, hy, hy1⟩ := Option.map_eq_some_iff.1 hl'
    rw [hy] at h1
    obtain ⟨s, hs1, hs2, _⟩ := DataW.trod_string Tryd.underlying9 h1
    have hs3 : s.data.toList = l := by
      rw [hs2] at hy1
      simpa using hy1
    rw [World.var?_cell hg hvar k]
    have hk2 : cs.toList[k]? = some (.string s) := by
      have h2 : (cs.toList.drop k)[0]? = ((cs.toList.drop k).take 1)[0]? := by simp
      rw [hs1] at h2
      simpa using h2
    rw [← Array.getElem?_toList, hk2, bytes_eq hs3]
  intro k hk
  have h12 : k = 0 ∨ k = 1 ∨ k = 2 ∨ k = 3 ∨ k = 4 ∨ k = 5 ∨ k = 6 ∨ k = 7 ∨ k = 8 ∨ k = 9 ∨ k = 10 ∨ k = 11 := by omega
  rcases h12 with rfl | rfl | rfl | rfl | rfl | rfl | rfl | rfl | rfl | rfl | rfl | rfl <;> exact key _ _ (by omega) (by rw [hx1]; rfl)

theorem array1 {α : Type} {cs : Array α} (h : cs.size = 1) : ∃ c0, cs = #[c0] := by
  obtain ⟨l⟩ := cs
  match l, h with
  | [c0], _ => exact ⟨c0, rfl⟩
theorem cells24 : Tryd.prog.cellsOf 24 = 1 := by kernel_rfl
theorem verify_own : ownKnob Tryd.prog.godebug = none := by kernel_rfl
theorem verify_laidOut : laidOutB Tryd.prog = true := by kernel_rfl
set_option maxRecDepth 100000 in
theorem verify_lifted (os : Os) (started : os.Started) (H : Type) (enc : TypeId × Value → H) :
    ReturnsInHanded {} Tryd.checked os 3 .any (fun w args => (Rows.codeVerifySpec.pre enc Tryd.prog Tryd.f3 [] false w args ∧ laidMetH Tryd.prog laidL w) ∧ sizedMet enc Tryd.prog Tryd.f3 (OpenSpec.ofChange Rows.codeVerifySpec) false w args)
      (Rows.codeVerifySpec.post enc Tryd.prog Tryd.f3 false true false false) := by
  refine returnsInHanded_of_change_and (C := Tryd.checked) (X := fun w _ => laidMetH Tryd.prog laidL w) (fun _ _ _ hh h => h.of_heap hh) verify_own started (by kernel_rfl) Tryd.func3
    (ChangeSpec.witness_shaped (enc := enc) (C := Tryd.checked) (os := os) (X := fun w _ => laidMetH Tryd.prog laidL w) false (World.laidAll Tryd.prog os laidL) #[.agg #[.slice none 0 0]] 8 (World.laidAll_os _ _ _)
      (World.shaped_of_ZipB (by kernel_rfl) (by kernel_rfl)) (by kernel_rfl) (by kernel_rfl) (by kernel_rfl)
      (by rw [MakeChecks.laidMetH_plain _ _ _ (by kernel_rfl)]; exact laidMet_laidAll _ (by kernel_rfl) (by kernel_rfl))) ?_
  intro W base args ds gs before hval0 hW _ hsz0 hL _
  have hsz : (DataW.weightsEach Tryd.prog (Tryd.f3.params.toList ++ Rows.codeVerifySpec.plain.varTypes Tryd.prog) (ds ++ gs)).all (· ≤ reachBytes) = true := hsz0
  have hval : ∀ (j : Nat) t v, Tryd.f3.params[j]? = some t → args[j]? = some v → Value.okWide Tryd.prog W .any base t v := hval0
  have hW' := hW
  obtain ⟨p, q, hA0, hV, rfl, _, _⟩ := hW
  have hA : DataW.TrodAll enc Tryd.prog W 0 (fun _ => true) true Tryd.f3.params.toList args.toList ds p := hA0
  rw [Tryd.params3] at hA hval hsz
  obtain ⟨v0, vs0, d0, ds0, p0, q0, hargs, rfl, rfl, h0, r0⟩ := trodAll_cons hA
  obtain ⟨rfl, rfl, rfl⟩ := trodAll_nil r0
  obtain rfl : args = #[v0] := by cases args; simp_all
  obtain ⟨rfl, rfl⟩ := trodVars_none hV
  have k0 := h0
  have lt0 : ∀ x ∈ p0, x.block < W.heap.size := by obtain ⟨m, hm⟩ := k0; exact DataW.trod_lt m _ _ _ hm
  obtain ⟨x, hx0, ps, hC, hBd⟩ : ∃ x, v0 = .agg #[x] ∧ ∃ ps, CdP W x ps ∧ BdP ps := by
    obtain ⟨cs, rfl, hcs⟩ := okWide_struct Tryd.underlying24 (hval 0 24 v0 rfl rfl)
    obtain ⟨c0, rfl⟩ := array1 (hcs.trans cells24)
    obtain ⟨fuel, hf⟩ := h0
    obtain ⟨y0, n, hx, _, hy⟩ := trod_struct1 Tryd.underlying24 hf
    simp only [Prod.mk.injEq] at hx
    have hy' : DataW.trod enc Tryd.prog W 0 (fun _ => true) true n 22 [c0] = some y0 := by simpa [Value.cells, cells22] using hy
    have hw : ∀ k ∈ y0.1.weights Tryd.prog 22, k ≤ reachBytes := fun k hk => by
      have := List.all_eq_true.1 hsz k (DataW.weights_mem_each (j := 0) (t := 24) (d := d0) rfl rfl k (by
        rw [hx.1]
        simp only [DataW.weights, Tryd.underlying24]
        simp [DataW.weightsEach]
        exact hk))
      simpa using this
    obtain ⟨l, h1, h2⟩ := cd_sized hy' hw
    exact ⟨c0, rfl, l, h1, h2⟩
  subst hx0
  clear hA0 hval0
  simp only [List.append_nil] at hW'
  refine (law_any x ps W hC hBd (stds_of_laid hL)).mono fun e W' ⟨he, hg⟩ => ?_
  subst he
  have bel : Below W.heap.size W W' := below_gr hg
  exact ⟨_, rfl, _, _, _, [], _, [], hW', trodAll_mk1 (shut_bool Tryd.underlying4 _), (trodAll_cons_mk (Below.trod verify_laidOut (by kernel_rfl) (of_decide_eq_true (by kernel_rfl)) k0 bel lt0) trodAll_mk0), rfl, bel.frame _, fun h => by cases h⟩

theorem verify_over : Rows.CodeVerifySaid :=
  OpenClaim.holds_of_wide 3 Tryd.f3 rfl rfl rfl rfl rfl rfl rfl ⟨rfl, rfl, rfl, rfl, rfl⟩ rfl rfl rfl rfl rfl (by kernel_rfl) Tryd.func3 (by kernel_rfl)
    (of_decide_eq_true (by kernel_rfl)) (by unfold Func.isWrapper; first | (rw [if_pos (by decide +kernel)]; kernel_rfl) | (rw [if_neg (by decide +kernel)]; exact ⟨rfl, rfl⟩))
    (fun os started H enc _ => verify_lifted os started H enc)

theorem codeVerify_proved : Rows.CodeVerifyCardSaid :=
  Claim7.holds_tied_plain_at .later [] [.data] true (true, "f68e1b6e582f278f16462bc4c5a989cbc15f3b79ff4b8e9d4ad45b01978af65c") false
    verify_over (fun _ h => by cases h) (by kernel_rfl) (fun _ h => by cases h) codeVerify_row_tie rfl ⟨rfl, rfl⟩ (by kernel_rfl) rfl
    (fun f fn hf hfn => by
      obtain rfl : f = 3 := Option.some.inj ((show Tryd.prog.funcNamed "plantwright/plantwrightlaw.CodeVerify" = some 3 by kernel_rfl).symm.trans hf) |>.symm
      obtain rfl : fn = Tryd.f3 := (Option.some.inj (Tryd.func3.symm.trans hfn)).symm
      exact ⟨by kernel_rfl, fun j t ht => by
        rw [Tryd.params3] at ht
        have hm : t ∈ [24] := by simpa using Array.mem_of_getElem? ht
        have hall : ([24].all fun u => !Tryd.prog.wantsStandIn u) = true := by kernel_rfl
        exact (show Tryd.prog.wantsStandIn t = false by simpa using List.all_eq_true.1 hall t hm)⟩)
    (by kernel_rfl)
#print axioms codeVerify_proved
end Go.Proofs.YtgilcgngffomnaaDoor
