/- over: what came out, written over; units as rows of cells; copied units. -/
import Derived.Test.YtgilcgngffomnaaDoorS0
import Derived.Test.YtgilcgngffomnaaDoorT5
namespace Go.Proofs.YtgilcgngffomnaaDoor
open Go.RowKit
attribute [local go_sem ↓] Go.wp_at_zero Go.wp_at_succ
set_option linter.unusedVariables false
set_option linter.unusedSimpArgs false

theorem OwnV.store {B : Nat} {w : World} {g cap : Nat} {l : List Int} (h : OwnV B w (.slice (some ⟨g, 0, none⟩) l.length cap) l) (k : Nat) (x : Int) :
    OwnV B (w.setCell ⟨g, k, none⟩ (.int .i64 x)) (.slice (some ⟨g, 0, none⟩) l.length cap) (l.set k x) := by
  obtain ⟨h1, h2 | ⟨g', cap', cur, e, hb, hc, hn, hm, hs, ht⟩⟩ := h
  · simp at h2
  · simp at e
    obtain ⟨rfl, rfl⟩ := e
    refine ⟨by simp, .inr ⟨g, cap, cur.setIfInBounds k (.int .i64 x), by simp, hb, at_set hc k _, by simpa using hn, hm, by simpa using hs, ?_⟩⟩
    rw [List.length_set, Array.toList_setIfInBounds, List.take_set, ht, List.map_set]
theorem OwnV.frozen {B : Nat} {w : World} {g cap : Nat} {l : List Int} (h : OwnV B w (.slice (some ⟨g, 0, none⟩) l.length cap) l) (k : Nat) : w.frozen? ⟨g, k, none⟩ = false := by
  obtain ⟨h1, h2 | ⟨g', cap', cur, e, hb, hc, hn, hm, hs, ht⟩⟩ := h
  · simp at h2
  · simp at e
    obtain ⟨rfl, rfl⟩ := e
    exact at_frozen hc k
theorem OwnV.get {B : Nat} {w : World} {g cap : Nat} {l : List Int} (h : OwnV B w (.slice (some ⟨g, 0, none⟩) l.length cap) l) (i : Nat) (hi : i < l.length) : w.cell? ⟨g, i, none⟩ = some (.int .i64 (l.getD i 0)) := by
  rw [World.ownsRow.cellAt h i (by omega)]
  simp [hi]
theorem OwnV.mine {B : Nat} {w wx : World} {g cap : Nat} {l : List Int} (h : OwnV B wx (.slice (some ⟨g, 0, none⟩) l.length cap) l) (hg : w.grownBy wx (some g)) : Mine 3 1 g w wx (.slice (some ⟨g, 0, none⟩) l.length cap) l.length := by
  obtain ⟨h1, h2 | ⟨g', cap', cur, e, hb, hc, hn, hm, hs, ht⟩⟩ := h
  · simp at h2
  · simp at e
    obtain ⟨rfl, rfl⟩ := e
    exact ⟨_, ⟨h1, .inr ⟨g, cap, cur, rfl, Nat.zero_le _, hc, hn, hm, hs, ht⟩⟩, .inl rfl, hg⟩

set_option maxHeartbeats 2000000 in
theorem over_own (B g cap : Nat) (l : List Int) (z : Int) (w : World) (hl : l.length ≤ 900) (h : OwnV B w (.slice (some ⟨g, 0, none⟩) l.length cap) l) :
    Calls Tryd.prog 10 #[.slice (some ⟨g, 0, none⟩) l.length cap, .int .i64 z] w fun e w' => e = .returned (.tuple #[]) ∧ w.grownBy w' (some g) := by
  obtain ⟨n, hn⟩ : ∃ n, l.length = n := ⟨_, rfl⟩
  have HO : Hid (OwnV B w (.slice (some ⟨g, 0, none⟩) n cap) l) := by rw [← hn]; exact h
  have HN : Hid (l.length = n) := hn
  rw [hn] at hl ⊢
  clear h hn
  go_enter Tryd.func10, Tryd.ntmps10
  go_wp2
  go_loopg [4] n (fun gk s4 wx => ∃ (k : Nat) (ar : List Int), s4 = .int .i64 k ∧ k ≤ n ∧ gk = n - k ∧ ar.length = n ∧ OwnV B wx (.slice (some ⟨g, 0, none⟩) ar.length cap) ar ∧ w.grownBy wx (some g))
  case atStart => exact ⟨0, l, rfl, Nat.zero_le _, by omega, HN.out, by rw [HN.out]; exact HO.out, World.grownBy.refl _ _⟩
  case round =>
    obtain ⟨k, ar, rfl, hk, hgk, has, har, hgr⟩ := hrel
    have HG : Hid (gk = n - k) := hgk
    have HA : Hid (OwnV B wr (.slice (some ⟨g, 0, none⟩) ar.length cap) ar) := har
    have HS : Hid (ar.length = n) := has
    clear hgk
    by_cases hlt : k < n
    · have q0 := har.get k (by omega)
      have f0 := har.frozen k
      clear har has
      have i1 : (0 : Int) ≤ (k : Int) := by omega
      have i2 : (k : Int) < (n : Int) := by omega
      go_wp2
      have hgl := HG.out
      go_roundg (n - (k + 1))
      all_goals first | omega | exact ⟨k + 1, ar.set k z, by go_num, by omega, by omega, by simp [HS.out], by rw [List.length_set]; exact HA.out.store k z, gr_set hgr _ _⟩
    · have hk' : ¬ ((k : Int) < (n : Int)) := by omega
      have HM : Hid (Mine 3 1 g w wr (.slice (some ⟨g, 0, none⟩) n cap) n) := by have := HA.out.mine hgr; rw [HS.out] at this; exact this
      clear har HG
      go_wp2
      go_loopg [0, 5] 20 (fun gk s0 s5 wx => ∃ (j m : Nat), s5 = .int .i64 j ∧ j ≤ 20 ∧ gk = 20 - j ∧ Mine 3 1 g w wx s0 m ∧ m ≤ 900 + j)
      case atStart => exact ⟨0, n, rfl, Nat.zero_le _, by omega, HM.out, by omega⟩
      case round =>
        obtain ⟨j, m, rfl, hj, hgj, hmine, hm⟩ := hrel
        have HG : Hid (_ = _) := hgj
        clear hgj
        by_cases hlt : j < 20
        · obtain ⟨i0, hi, hz0, hz1, hz2⟩ := info_parts info3
          obtain ⟨v', w', hrun, hmine'⟩ := mine_more Tryd.underlying25 hi hz0 hz1 hz2 rfl (by omega) hmine [.int .i64 z] rfl (by simp [Value.oneCell']) (by omega) (by omega)
          have HRUN : Hid (_ = _) := hrun
          have HM : Hid (Mine 3 1 g w w' v' (m + 1)) := hmine'
          clear hmine hrun hmine' hi hz0 hz1 hz2
          have j2 : (j : Int) < 20 := by omega
          go_wp2_with (first | (at_builtin; refine wpList_append_run rfl _ _ 25 rfl _ _ v' w' rfl rfl HRUN.out ?_))
          have hgl := HG.out
          go_roundg (20 - (j + 1))
          all_goals first | omega | exact ⟨j + 1, m + 1, by go_num, by omega, by omega, HM.out, by omega⟩
        · have hj' : ¬ ((j : Int) < 20) := by omega
          obtain ⟨_, _, _, hg⟩ := hmine
          go_wp2
          go_end0
          exact ⟨rfl, hg⟩

set_option maxHeartbeats 2000000 in
theorem over_nil (z : Int) (w : World) : Calls Tryd.prog 10 #[.slice none 0 0, .int .i64 z] w fun e w' => e = .returned (.tuple #[]) ∧ w.grownBy w' none := by
  obtain ⟨i0, hi, hz0, hz1, hz2⟩ := info_parts info3
  go_enter Tryd.func10, Tryd.ntmps10
  go_wp2
  refine wp_loop_rounds 1 ?_
  rw [rounds_succ]
  go_wp2
  go_loopg [0, 5] 20 (fun gk s0 s5 wx => ∃ (j m : Nat) (xs : List Value), s5 = .int .i64 j ∧ j ≤ 20 ∧ gk = 20 - j ∧ wx.ownsRow w.heap.size 3 1 s0 m xs ∧ m ≤ j ∧ w.grownBy wx none)
  case atStart => exact ⟨0, 0, [], rfl, Nat.zero_le _, by omega, World.ownsRow_nil _ _ _ _, by omega, World.grownBy.refl _ _⟩
  case round =>
    obtain ⟨j, m, xs, rfl, hj, hgj, hown, hm, hgr⟩ := hrel
    have HG : Hid (_ = _) := hgj
    clear hgj
    by_cases hlt : j < 20
    · obtain ⟨v', w', r1, r2, r3, _, r5⟩ := run_append_own_at (P := Tryd.prog) (wr.alloc (.cells #[.int .i64 z] 3)) w.heap.size 25 25 3 i0 _ 1 8 Tryd.underlying25 hi hz0 hz1 hz2 rfl (by omega) _ m xs (hown.alloc _) ⟨wr.heap.size, 0, none⟩ 1 1 [.int .i64 z] rfl
        (fun j u hj => by
          rw [addn, at_cell (heap_alloc_new wr _) _]
          simpa using hj)
        (by simp [Value.oneCell']) (by unfold maxLen; omega) (by omega) (by have := hgr.size; simp; omega)
      have hgr' : w.grownBy w' none := grown_join (gr_alloc hgr _) r3 (.inr fun x hx => (hown.lt x hx).1)
      have HRUN : Hid (_ = _) := r1
      have HO : Hid (World.ownsRow w' w.heap.size 3 1 v' (m + 1) _) := r2
      clear hown r1 r2 r3 r5 hi hz0 hz1 hz2
      have j2 : (j : Int) < 20 := by omega
      go_wp2_with (first | (at_builtin; refine wpList_append_run rfl _ _ 25 rfl _ _ v' w' rfl rfl HRUN.out ?_))
      have hgl := HG.out
      go_roundg (20 - (j + 1))
      all_goals first | omega | exact ⟨j + 1, m + 1, _, by go_num, by omega, by omega, HO.out, by omega, hgr'⟩
    · have hj' : ¬ ((j : Int) < 20) := by omega
      clear hi hz0 hz1 hz2
      go_wp2
      go_end0
      exact ⟨rfl, hgr⟩
/-- over, whatever list of one's own. -/
theorem over_any (B : Nat) (v : Value) (l : List Int) (z : Int) (w : World) (hl : l.length ≤ 900) (h : OwnV B w v l) :
    Calls Tryd.prog 10 #[v, .int .i64 z] w fun e w' => e = .returned (.tuple #[]) ∧ w.grownBy w' v.ownBlock := by
  have h' := h
  obtain ⟨_, ⟨rfl, hn⟩ | ⟨g, cap, cur, rfl, _⟩⟩ := h'
  · exact over_nil z w
  · exact over_own B g cap l z w hl h

theorem verS_len (ps : List Pr) : ∀ m k (b : List Int), (verS (Classical.propDecidable, ()) ps m k b).1.length ≤ b.length + m
  | 0, k, b => by simp [verS]
  | m + 1, k, b => by
    simp only [verS]
    split
    · have := verS_len ps m (k + 1) (b ++ [(unitS (Classical.propDecidable, ()) ps k b).1])
      simp at this
      omega
    · simp
theorem verR_len (ps : List Pr) : (verR (Classical.propDecidable, ()) ps).1.length ≤ 16 := by
  unfold verR
  split
  · simp
  · have := verS_len ps ps.length 0 []
    simp at this
    omega

/-- A copied unit: what it is, and its three lists. -/
structure Un where
  p : Pr
  fv : Value
  sv : Value
  tv : Value
def un0 : Un := ⟨pr0, .slice none 0 0, .slice none 0 0, .slice none 0 0⟩
def rowU (u : Un) : List Value := [.int .i64 u.p.k, .string u.p.nm, u.fv, u.sv, u.tv]
def rowsU (us : List Un) : List Value := us.flatMap rowU
theorem rowsU_more (us : List Un) (u : Un) : rowsU (us ++ [u]) = rowsU us ++ rowU u := by simp [rowsU]
theorem rowsU_get : ∀ (us : List Un) (i : Nat), i < us.length → (rowsU us)[i * 5]? = some (.int .i64 (us.getD i un0).p.k) ∧ (rowsU us)[i * 5 + 1]? = some (.string (us.getD i un0).p.nm) ∧ (rowsU us)[i * 5 + 2]? = some (us.getD i un0).fv ∧ (rowsU us)[i * 5 + 3]? = some (us.getD i un0).sv ∧ (rowsU us)[i * 5 + 4]? = some (us.getD i un0).tv
  | [], i, h => by simp at h
  | u :: us, 0, _ => by simp [rowsU, rowU]
  | u :: us, i + 1, h => by
    have := rowsU_get us i (by simpa using h)
    have e : ∀ j, (rowsU (u :: us))[(i + 1) * 5 + j]? = (rowsU us)[i * 5 + j]? := fun j => by
      have e1 : rowsU (u :: us) = rowU u ++ rowsU us := by simp [rowsU]
      rw [e1, List.getElem?_append_right (by simp [rowU]; omega)]
      congr 1
      simp [rowU]
      omega
    refine ⟨?_, ?_, ?_, ?_, ?_⟩
    · have := (e 0).trans this.1; simpa using this
    · rw [e]; simpa using this.2.1
    · rw [e]; simpa using this.2.2.1
    · rw [e]; simpa using this.2.2.2.1
    · rw [e]; simpa using this.2.2.2.2

theorem cell_lt {w : World} {b i : Nat} {v : Value} (h : w.cell? ⟨b, i, none⟩ = some v) : b < w.heap.size := by
  cases hb : w.heap[b]? with
  | none => simp [World.cell?, hb] at h
  | some o => exact at_lt hb
/-- A copied unit in memory; block x is another's. -/
structure CpAt (w : World) (B : Nat) (x : Option Nat) (u : Un) : Prop where
  first : ∃ c, u.fv = .slice (some ⟨c, 0, none⟩) u.p.fs.length (u.p.fs.length + 5) ∧ RoomAt w c u.p.fs ∧ B ≤ c ∧ c < w.heap.size ∧ x ≠ some c
  slots : SlAt w u.sv u.p.sl
  sown : ∀ y, u.sv.ownBlock = some y → B ≤ y ∧ y < w.heap.size ∧ x ≠ some y
  text : TxtAt w u.tv u.p.tx
  mark : ∃ g cap, u.tv = .slice (some ⟨g, 0, none⟩) u.p.tx.length cap ∧ u.p.tx.length + 1 ≤ cap ∧ w.cell? ⟨g, u.p.tx.length * 4 + 1, none⟩ = some (.int .i64 (-9)) ∧ B ≤ g ∧ g < w.heap.size ∧ x ≠ some g
theorem SlAt.but {w w' : World} {v : Value} {l : List Slt} {r : Option Nat} (h : SlAt w v l) (hg : w.grownBy w' r) (hne : ∀ y, v.ownBlock = some y → r ≠ some y) : SlAt w' v l := by
  obtain ⟨a, cap, rfl, h | ⟨b, off, rfl, hc⟩⟩ := h
  · exact ⟨a, cap, rfl, .inl h⟩
  · have hb : r ≠ some b := hne b rfl
    refine ⟨_, cap, rfl, .inr ⟨b, off, rfl, fun i hi => ?_⟩⟩
    obtain ⟨h0, h1, h2, h3, h4, h5⟩ := hc i hi
    exact ⟨hg.cell h0 (Ne.symm hb), hg.cell h1 (Ne.symm hb), hg.cell h2 (Ne.symm hb), hg.cell h3 (Ne.symm hb), hg.cell h4 (Ne.symm hb), hg.cell h5 (Ne.symm hb)⟩
theorem TxtAt.but {w w' : World} {v : Value} {t : List Ins} {r : Option Nat} (h : TxtAt w v t) (hg : w.grownBy w' r) (hne : ∀ y, v.ownBlock = some y → r ≠ some y) : TxtAt w' v t := by
  obtain ⟨a, cap, rfl, h | ⟨b, off, rfl, hc⟩⟩ := h
  · exact ⟨a, cap, rfl, .inl h⟩
  · have hb : r ≠ some b := hne b rfl
    exact ⟨_, cap, rfl, .inr ⟨b, off, rfl, fun i hi => ⟨hg.cell (hc i hi).1 (Ne.symm hb), hg.cell (hc i hi).2.1 (Ne.symm hb), hg.cell (hc i hi).2.2.1 (Ne.symm hb), hg.cell (hc i hi).2.2.2 (Ne.symm hb)⟩⟩⟩
theorem RoomAt.butO {w w' : World} {c : Nat} {l : List Int} {r : Option Nat} (h : RoomAt w c l) (hg : w.grownBy w' r) (hne : r ≠ some c) : RoomAt w' c l := by
  obtain ⟨ar, h1, h2⟩ := h
  exact ⟨ar, (hg.block c (at_lt h1) (Ne.symm hne)).trans h1, h2⟩
/-- It stays what it is while others write, into a row r that is not its own. -/
theorem CpAt.but {w w' : World} {B : Nat} {x x' r : Option Nat} {u : Un} (h : CpAt w B x u) (hg : w.grownBy w' r) (hr : r = none ∨ r = x ∨ ∀ y, r = some y → y < B ∨ w.heap.size ≤ y) (hx : x' = x ∨ ∀ y, x' = some y → y < B ∨ w.heap.size ≤ y) : CpAt w' B x' u := by
  have hne : ∀ y, B ≤ y → y < w.heap.size → x ≠ some y → r ≠ some y := fun y h1 h2 h3 e => by
    rcases hr with h | h | h
    · rw [h] at e; simp at e
    · exact h3 (h ▸ e)
    · rcases h y e with h | h <;> omega
  have hnx : ∀ y, B ≤ y → y < w.heap.size → x ≠ some y → x' ≠ some y := fun y h1 h2 h3 e => by
    rcases hx with h | h
    · exact h3 (h ▸ e)
    · rcases h y e with h | h <;> omega
  have hs := hg.size
  obtain ⟨c, f1, f2, f3, f4, f5⟩ := h.first
  obtain ⟨g, cap, m1, m2, m3, m4, m5, m6⟩ := h.mark
  refine ⟨⟨c, f1, f2.butO hg (hne c f3 f4 f5), f3, by omega, hnx c f3 f4 f5⟩, h.slots.but hg (fun y hy => ?_), (fun y hy => ?_), h.text.but hg (fun y hy => ?_), ⟨g, cap, m1, m2, hg.cell m3 (Ne.symm (hne g m4 m5 m6)), m4, by omega, hnx g m4 m5 m6⟩⟩
  · obtain ⟨a1, a2, a3⟩ := h.sown y hy
    exact hne y a1 a2 a3
  · obtain ⟨a1, a2, a3⟩ := h.sown y hy
    exact ⟨a1, by omega, hnx y a1 a2 a3⟩
  · rw [m1] at hy
    simp [Value.ownBlock] at hy
    subst hy
    exact hne g m4 m5 m6
/-- A copied code. -/
def CopyAt (w : World) (B : Nat) (v : Value) (us : List Un) : Prop := w.ownsRow B 40 5 v us.length (rowsU us) ∧ ∀ i, i < us.length → CpAt w B v.ownBlock (us.getD i un0)
theorem CopyAt.kept {w w' : World} {B : Nat} {v : Value} {us : List Un} {r : Option Nat} (h : CopyAt w B v us) (hg : w.grownBy w' r) (hr : ∀ y, r = some y → y < B ∨ w.heap.size ≤ y) : CopyAt w' B v us := by
  refine ⟨World.ownsRow.kept h.1 hg ?_, fun i hi => (h.2 i hi).but hg (.inr (.inr hr)) (.inl rfl)⟩
  cases hv : v.ownBlock with
  | none => exact .inl rfl
  | some y =>
    right
    intro e
    obtain ⟨h1, h2⟩ := World.ownsRow.lt h.1 y hv
    rcases hr y e.symm with h3 | h3 <;> omega
theorem CopyAt.cells {w : World} {B : Nat} {v : Value} {us : List Un} (h : CopyAt w B v us) : ∃ a cap, v = .slice a us.length cap ∧ us.length ≤ cap ∧ (us = [] ∨ ∃ b, a = some ⟨b, 0, none⟩ ∧ ∀ i, i < us.length →
    w.cell? ⟨b, i * 5, none⟩ = some (.int .i64 (us.getD i un0).p.k) ∧ w.cell? ⟨b, i * 5 + 1, none⟩ = some (.string (us.getD i un0).p.nm) ∧ w.cell? ⟨b, i * 5 + 2, none⟩ = some (us.getD i un0).fv ∧ w.cell? ⟨b, i * 5 + 3, none⟩ = some (us.getD i un0).sv ∧ w.cell? ⟨b, i * 5 + 4, none⟩ = some (us.getD i un0).tv) := by
  obtain ⟨h1, h2⟩ := h
  have h1' := h1
  obtain ⟨_, ⟨rfl, hn⟩ | ⟨g, cap, cur, rfl, hb, hc, hn, hm, hs, ht⟩⟩ := h1
  · exact ⟨none, 0, by rw [hn], by omega, .inl (List.length_eq_zero_iff.1 hn)⟩
  · refine ⟨_, cap, rfl, hn, .inr ⟨g, rfl, fun i hi => ?_⟩⟩
    obtain ⟨r0, r1, r2, r3, r4⟩ := rowsU_get us i hi
    have key : ∀ j u, (rowsU us)[j]? = some u → w.cell? ⟨g, j, none⟩ = some u := fun j u hj => by
      have := World.ownsRow.cells h1' rfl j u hj
      rw [addn, Nat.zero_add] at this
      exact this
    exact ⟨key _ _ r0, key _ _ r1, key _ _ r2, key _ _ r3, key _ _ r4⟩
theorem CopyAt.cd {w : World} {B : Nat} {v : Value} {us : List Un} (h : CopyAt w B v us) : CdP w v (us.map Un.p) := by
  obtain ⟨a, cap, rfl, hn, hc⟩ := h.cells
  refine ⟨a, cap, by simp, by simpa using hn, ?_⟩
  rcases hc with rfl | ⟨b, rfl, hc⟩
  · exact .inl rfl
  · refine .inr ⟨b, 0, rfl, fun i hi => ?_⟩
    have hi' : i < us.length := by simpa using hi
    obtain ⟨c0, c1, c2, c3, c4⟩ := hc i hi'
    have hu := h.2 i hi'
    have e : (us.map Un.p).getD i pr0 = (us.getD i un0).p := by simp [List.getD, hi']
    rw [e, Nat.zero_add]
    refine ⟨_, _, _, c0, c1, c2, c3, c4, ?_, hu.slots, hu.text⟩
    obtain ⟨c, f1, f2, _⟩ := hu.first
    rw [f1]
    exact f2.rd
/-- Units whose lists are not too long (the form's own reach). -/
structure BdP (ps : List Pr) : Prop where
  n : ps.length * 96 ≤ 140737488351232
  fs : ∀ i, i < ps.length → (ps.getD i pr0).fs.length ≤ 17592186043904
  sl : ∀ i, i < ps.length → (ps.getD i pr0).sl.length * 56 ≤ 140737488351232
  tx : ∀ i, i < ps.length → (ps.getD i pr0).tx.length * 32 ≤ 140737488351232

end Go.Proofs.YtgilcgngffomnaaDoor
