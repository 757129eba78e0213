/- samePaths, sameCarried, overPaths. -/
import Derived.Test.YtmkgobmlpmjocaaX
import Derived.Test.YtmkgobmlpmjocaaCo
namespace Go.Proofs.Ytmkgobmlpmjocaa
open Go.RowKit
attribute [local go_sem ↓] Go.wp_at_zero Go.wp_at_succ
set_option linter.unusedVariables false
set_option linter.unusedSimpArgs false

/-- Texts that can be read at a slice's value. -/
def rdP (w : World) (v : Value) (l : List ByteArray) : Prop :=
  ∃ a cap, v = .slice a l.length cap ∧ (l = [] ∨ ∃ b off, a = some ⟨b, off, none⟩ ∧ ∀ i, i < l.length → w.cell? ⟨b, off + i, none⟩ = some (.string (l.getD i ByteArray.empty)))
theorem OwnP.rd {B : Nat} {w : World} {a : Option Addr} {c : Nat} {l : List ByteArray} (h : OwnP B w a c l) : rdP w (.slice a l.length c) l := by
  have h' := h
  obtain ⟨_, ⟨h1, h2⟩ | ⟨g, cap, cur, h1, hb, hc, hn, hm, hs, ht⟩⟩ := h
  · exact ⟨a, c, rfl, .inl (List.length_eq_zero_iff.1 h2)⟩
  · simp at h1
    obtain ⟨rfl, rfl⟩ := h1
    refine ⟨_, _, rfl, .inr ⟨g, 0, rfl, fun i hi => ?_⟩⟩
    have := World.ownsRow.cellAt h' i (by omega)
    rw [Nat.zero_add, this]
    simp [hi]
theorem rdP_grown {w w' : World} {v : Value} {l : List ByteArray} (h : rdP w v l) (hg : w.grownBy w' none) : rdP w' v l := by
  obtain ⟨a, cap, rfl, h | ⟨b, off, rfl, hc⟩⟩ := h
  · exact ⟨a, cap, rfl, .inl h⟩
  · exact ⟨_, cap, rfl, .inr ⟨b, off, rfl, fun i hi => hg.cell (hc i hi) (by simp)⟩⟩

theorem samePaths_yes (v u : Value) (l : List ByteArray) (w : World) (hv : rdP w v l) (hu : rdP w u l) (hb : l.length ≤ 20000) :
    Calls Try.prog 20 #[v, u] w fun e w' => e = .returned (.bool true) ∧ w.grownBy w' none := by
  obtain ⟨a, cap, rfl, ha⟩ := hv
  obtain ⟨a', cap', rfl, ha'⟩ := hu
  have HA : Hid (l = [] ∨ ∃ b off, a = some ⟨b, off, none⟩ ∧ ∀ i, i < l.length → w.cell? ⟨b, off + i, none⟩ = some (.string (l.getD i ByteArray.empty))) := ha
  have HA' : Hid (l = [] ∨ ∃ b off, a' = some ⟨b, off, none⟩ ∧ ∀ i, i < l.length → w.cell? ⟨b, off + i, none⟩ = some (.string (l.getD i ByteArray.empty))) := ha'
  clear ha ha'
  obtain ⟨n, hn⟩ : ∃ n, l.length = n := ⟨_, rfl⟩
  have HN : Hid (l.length = n) := hn
  rw [hn] at hb ⊢
  clear hn
  go_enter Try.func20, Try.ntmps20
  go_wp2
  go_loopg [5] n (fun gk s5 wx => ∃ k : Nat, s5 = .int .i64 k ∧ k ≤ n ∧ gk = n - k ∧ w.grownBy wx none)
  case atStart => exact ⟨0, rfl, Nat.zero_le _, by omega, World.grownBy.refl _ _⟩
  case round =>
    obtain ⟨k, rfl, hk, hgk, hgr⟩ := hrel
    have HG : Hid (gk = n - k) := hgk
    clear hgk
    by_cases hlt : k < n
    · have hkl : k < l.length := by rw [HN.out]; exact hlt
      rcases HA.out with h | ⟨b, off, rfl, hc⟩
      · subst h; simp at hkl
      rcases HA'.out with h | ⟨b', off', rfl, hc'⟩
      · subst h; simp at hkl
      have q0 := hgr.cell (hc k hkl) (by simp)
      have q1 := hgr.cell (hc' k hkl) (by simp)
      clear hc hc'
      generalize l.getD k ByteArray.empty = x at q0 q1
      have i1 : (0 : Int) ≤ (k : Int) := by omega
      have i2 : (k : Int) < (n : Int) := by omega
      go_wp2
      go_region_held3 (fun w' => w'.cell? ⟨b, off + k, none⟩ = some (.string x) ∧ w'.cell? ⟨b', off' + k, none⟩ = some (.string x)) (go_keep) (fail)
      go_wp2
      have hgl := HG.out
      go_roundg (n - (k + 1))
      all_goals first | omega | exact ⟨k + 1, by go_num, by omega, by omega, gr_drew hgr⟩
    · have hk' : ¬ ((k : Int) < (n : Int)) := by omega
      go_wp2
      go_ret
      exact ⟨rfl, hgr⟩

/-- Three lists that can be read. -/
def rdC (w : World) (v : Value) (F : List Int) (L H : List ByteArray) : Prop := ∃ f l h, v = .agg #[f, l, h] ∧ rd w f F ∧ rdP w l L ∧ rdP w h H
theorem rdC_grown {w w' : World} {v : Value} {F : List Int} {L H : List ByteArray} (h : rdC w v F L H) (hg : w.grownBy w' none) : rdC w' v F L H := by
  obtain ⟨f, l, h', rfl, h1, h2, h3⟩ := h
  exact ⟨f, l, h', rfl, rd_grown h1 hg, rdP_grown h2 hg, rdP_grown h3 hg⟩

set_option maxHeartbeats 1000000 in
theorem sameCarried_yes (v u : Value) (F : List Int) (L H : List ByteArray) (w : World) (hv : rdC w v F L H) (hu : rdC w u F L H) (b1 : F.length ≤ 20000) (b2 : L.length ≤ 20000) (b3 : H.length ≤ 20000) :
    Calls Try.prog 7 #[v, u] w fun e w' => e = .returned (.bool true) ∧ w.grownBy w' none := by
  obtain ⟨f, l, h, rfl, h1, h2, h3⟩ := hv
  obtain ⟨f', l', h', rfl, h1', h2', h3'⟩ := hu
  have c1 : ∀ W, w.grownBy W none → Calls Try.prog 10 #[f, f'] W fun e w' => e = .returned (.bool true) ∧ W.grownBy w' none := fun W hW => sameInts_yes f f' F W (rd_grown h1 hW) (rd_grown h1' hW) (by omega)
  have c2 : ∀ W, w.grownBy W none → Calls Try.prog 20 #[l, l'] W fun e w' => e = .returned (.bool true) ∧ W.grownBy w' none := fun W hW => samePaths_yes l l' L W (rdP_grown h2 hW) (rdP_grown h2' hW) b2
  have c3 : ∀ W, w.grownBy W none → Calls Try.prog 20 #[h, h'] W fun e w' => e = .returned (.bool true) ∧ W.grownBy w' none := fun W hW => samePaths_yes h h' H W (rdP_grown h3 hW) (rdP_grown h3' hW) b3
  obtain ⟨a1, p1, rfl, _⟩ := h1
  obtain ⟨a2, p2, rfl, _⟩ := h2
  obtain ⟨a3, p3, rfl, _⟩ := h3
  obtain ⟨a4, p4, rfl, _⟩ := h1'
  obtain ⟨a5, p5, rfl, _⟩ := h2'
  obtain ⟨a6, p6, rfl, _⟩ := h3'
  rename_i z1 z2 z3 z4 z5 z6
  clear z1 z2 z3 z4 z5 z6
  generalize F.length = nF at *
  generalize L.length = nL at *
  generalize H.length = nH at *
  obtain ⟨p, hp⟩ : ∃ p, w.heap.size = p := ⟨_, rfl⟩
  generalize hw0 : (w.alloc (.cells #[.slice a1 nF p1, .slice a2 nL p2, .slice a3 nH p3] 30)).alloc (.cells #[.slice a4 nF p4, .slice a5 nL p5, .slice a6 nH p6] 30) = w0
  have hg0 : w.grownBy w0 none := by rw [← hw0]; exact gr_alloc (gr1 _ _) _
  have B0 : Hid (w0.heap[p]? = some (.cells #[.slice a1 nF p1, .slice a2 nL p2, .slice a3 nH p3] 30)) := by rw [← hw0, hp_old (by simp; omega)]; exact hp_new hp.symm _
  have B1 : Hid (w0.heap[p + 1]? = some (.cells #[.slice a4 nF p4, .slice a5 nL p5, .slice a6 nH p6] 30)) := by rw [← hw0]; exact hp_new (by simp; omega) _
  have x0 := at_cell B0.out 0
  have y0 := at_cell B1.out 0
  simp at x0 y0
  go_enter Try.func7, Try.ntmps7
  go_wp2_with fail
  refine (c1 _ hg0).mono ?_
  rintro e w1 ⟨rfl, hg1⟩
  have x1 := at_cell (kept hg1 B0.out) 1
  have y1 := at_cell (kept hg1 B1.out) 1
  simp at x1 y1
  go_wp2_with fail
  refine (c2 _ (hg0.trans hg1)).mono ?_
  rintro e w2 ⟨rfl, hg2⟩
  have x2 := at_cell (kept (hg1.trans hg2) B0.out) 2
  have y2 := at_cell (kept (hg1.trans hg2) B1.out) 2
  simp at x2 y2
  go_wp2_with fail
  refine (c3 _ (hg0.trans (hg1.trans hg2))).mono ?_
  rintro e w3 ⟨rfl, hg3⟩
  go_wp2_with fail
  go_ret
  exact ⟨rfl, hg0.trans (hg1.trans (hg2.trans hg3))⟩

def overB : ByteArray := { data := #[111, 118, 101, 114] }
theorem OwnP.store {B : Nat} {w : World} {g cap : Nat} {l : List ByteArray} (h : OwnP B w (some ⟨g, 0, none⟩) cap l) (k : Nat) (x : ByteArray) :
    OwnP B (w.setCell ⟨g, k, none⟩ (.string x)) (some ⟨g, 0, none⟩) cap (l.set k x) := by
  obtain ⟨h1, h2 | ⟨g', cap', cur, e, hb, hc, hn, hm, hs, ht⟩⟩ := h
  · simp at h2
  · simp at e
    obtain ⟨rfl, rfl⟩ := e
    refine ⟨by simp, .inr ⟨g, cap, cur.setIfInBounds k (.string x), by simp, hb, at_set hc k _, by simpa using hn, hm, by simpa using hs, ?_⟩⟩
    rw [List.length_set, Array.toList_setIfInBounds, List.take_set, ht, List.map_set]
theorem OwnP.frozen {B : Nat} {w : World} {g cap : Nat} {l : List ByteArray} (h : OwnP B w (some ⟨g, 0, none⟩) cap l) (k : Nat) : w.frozen? ⟨g, k, none⟩ = false := by
  obtain ⟨h1, h2 | ⟨g', cap', cur, e, hb, hc, hn, hm, hs, ht⟩⟩ := h
  · simp at h2
  · simp at e
    obtain ⟨rfl, rfl⟩ := e
    exact at_frozen hc k
theorem OwnP.get {B : Nat} {w : World} {g cap : Nat} {l : List ByteArray} (h : OwnP B w (some ⟨g, 0, none⟩) cap l) (i : Nat) (hi : i < l.length) : w.cell? ⟨g, i, none⟩ = some (.string (l.getD i ByteArray.empty)) := by
  rw [World.ownsRow.cellAt h i (by omega)]
  simp [hi]
/-- Two texts more. -/
theorem OwnP.two {B : Nat} {w : World} {a : Option Addr} {c : Nat} {l : List ByteArray} (h : OwnP B w a c l) (x y : ByteArray) (hl : l.length ≤ 1000000) (hB : B ≤ w.heap.size) :
    ∃ v' w', (Builtin.append_ #[28, 28] 28 #[.slice a l.length c, .slice (some ⟨w.heap.size, 0, none⟩) 2 2]).run Try.prog (w.alloc (.cells #[.string x, .string y] 9)) = .ok v' w' ∧ w.grownBy w' (Value.slice a l.length c).ownBlock := by
  obtain ⟨i0, hi, hz0, hz1, hz2⟩ := info_parts info9
  obtain ⟨v', w', r1, r2, r3, _, r5⟩ := run_append_own_at (P := Try.prog) (w.alloc (.cells #[.string x, .string y] 9)) B 28 28 9 i0 _ 1 16 Try.underlying28 hi hz0 hz1 hz2 rfl (by omega) _ l.length (l.map Value.string) (World.ownsRow.alloc h _) ⟨w.heap.size, 0, none⟩ 2 2 [.string x, .string y] rfl
    (fun j u hj => by
      rw [addn, at_cell (heap_alloc_new w _) _]
      simpa using hj)
    (by simp [Value.oneCell']) (by unfold maxLen; omega) (by omega) (by simp; omega)
  exact ⟨v', w', r1, grown_join (World.grownBy_alloc w _ _) r3 (.inl rfl)⟩

set_option maxHeartbeats 1000000 in
theorem overPaths_own (B g cap : Nat) (l : List ByteArray) (w : World) (hl : l.length ≤ 20000) (hB : B ≤ w.heap.size) (h : OwnP B w (some ⟨g, 0, none⟩) cap l) :
    Calls Try.prog 12 #[.slice (some ⟨g, 0, none⟩) l.length cap] w fun e w' => e = .returned (.tuple #[]) ∧ w.grownBy w' (some g) := by
  obtain ⟨n, hn⟩ : ∃ n, l.length = n := ⟨_, rfl⟩
  have HO : Hid (OwnP B w (some ⟨g, 0, none⟩) cap l) := h
  have HN : Hid (l.length = n) := hn
  rw [hn] at hl ⊢
  clear h hn
  go_enter Try.func12, Try.ntmps12
  go_wp2
  go_loopg [2] n (fun gk s2 wx => ∃ (k : Nat) (ar : List ByteArray), s2 = .int .i64 k ∧ k ≤ n ∧ gk = n - k ∧ ar.length = n ∧ OwnP B wx (some ⟨g, 0, none⟩) cap ar ∧ w.grownBy wx (some g))
  case atStart => exact ⟨0, l, rfl, Nat.zero_le _, by omega, HN.out, HO.out, World.grownBy.refl _ _⟩
  case round =>
    obtain ⟨k, ar, rfl, hk, hgk, has, har, hgr⟩ := hrel
    have HG : Hid (gk = n - k) := hgk
    have HA : Hid (OwnP B wr (some ⟨g, 0, none⟩) cap ar) := har
    have HS : Hid (ar.length = n) := has
    clear hgk
    by_cases hlt : k < n
    · have q0 := har.get k (by omega)
      have f0 := har.frozen k
      clear har has
      have i1 : (0 : Int) ≤ (k : Int) := by omega
      have i2 : (k : Int) < (n : Int) := by omega
      go_wp2
      have hgl := HG.out
      go_roundg (n - (k + 1))
      all_goals first | omega | exact ⟨k + 1, ar.set k _, by go_num, by omega, by omega, by simp [HS.out], HA.out.store k _, gr_set hgr _ _⟩
    · have hk' : ¬ ((k : Int) < (n : Int)) := by omega
      obtain ⟨v', w', hrun, hg⟩ := har.two overB overB (by omega) (Nat.le_trans hB hgr.size)
      rw [HS.out] at hrun hg
      have HRUN : Hid (_ = _) := hrun
      have HGG : Hid (wr.grownBy w' (some g)) := hg
      clear har HG hrun hg
      go_wp2_with (first | (at_builtin; refine wpList_append_run rfl _ _ 28 rfl _ _ v' w' rfl rfl HRUN.out ?_))
      go_end0
      exact ⟨rfl, grown_join hgr HGG.out (.inl rfl)⟩
set_option maxHeartbeats 1000000 in
theorem overPaths_nil (w : World) : Calls Try.prog 12 #[.slice none 0 0] w fun e w' => e = .returned (.tuple #[]) ∧ w.grownBy w' none := by
  obtain ⟨v', w', hrun, hg⟩ := (OwnP.nil w.heap.size w).two overB overB (by simp) (Nat.le_refl _)
  have HRUN : Hid (_ = _) := hrun
  have HGG : Hid (w.grownBy w' none) := hg
  clear hrun hg
  go_enter Try.func12, Try.ntmps12
  go_wp2
  refine wp_loop_rounds 1 ?_
  rw [rounds_succ]
  go_wp2_with (first | (at_builtin; refine wpList_append_run rfl _ _ 28 rfl _ _ v' w' rfl rfl HRUN.out ?_))
  go_end0
  exact ⟨rfl, HGG.out⟩
theorem overPaths_any (B : Nat) (a : Option Addr) (c : Nat) (l : List ByteArray) (w : World) (hl : l.length ≤ 20000) (hB : B ≤ w.heap.size) (h : OwnP B w a c l) :
    Calls Try.prog 12 #[.slice a l.length c] w fun e w' => e = .returned (.tuple #[]) ∧ w.grownBy w' (Value.slice a l.length c).ownBlock := by
  have h' := h
  obtain ⟨_, ⟨h1, hn⟩ | ⟨g, cap, cur, h1, _⟩⟩ := h'
  · simp at h1
    obtain ⟨rfl, h2, rfl⟩ := h1
    rw [h2]
    exact overPaths_nil w
  · simp at h1
    obtain ⟨rfl, rfl⟩ := h1
    exact overPaths_own B g _ l w hl hB h
end Go.Proofs.Ytmkgobmlpmjocaa
