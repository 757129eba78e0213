/- Texts put together: BlF5, BlJ, BlK, BlG, BlI, BlE, BlH1. -/
import Derived.Test.YtcgbfhpmkpglkaaGreatDoorQ04
import Derived.OpenShut
/- Contract of wrapped, for 5 pins. -/
namespace Go.Proofs.YtcgbfhpmkpglkaaGreatDoor.Bl
open Go.RowKit
attribute [local go_sem ↓] Go.wp_at_zero Go.wp_at_succ

theorem make5 (w : World) : (Instr.makeSlice 25 (.int .i64 5) (.int .i64 5)).run Tryz.prog w = .ok (.slice (some ⟨w.heap.size, 0, none⟩) 5 5) (w.alloc (.cells #[.int .i64 0, .int .i64 0, .int .i64 0, .int .i64 0, .int .i64 0] 3)) := by kernel_rfl

set_option maxHeartbeats 1000000 in
theorem wrappedNo5 (v0 : Option Addr) (a : Option Addr) (len cap : Nat) (w : World) (hne : ((len : Int) == 5) = false) :
    Calls Tryz.prog 87 #[.slice v0 5 5, .slice a len cap] w fun e w' => e = .returned (.slice (some ⟨w.heap.size, 0, none⟩) 5 5) ∧ w'.heap[w.heap.size]? = some (.cells #[.int .i64 0, .int .i64 0, .int .i64 0, .int .i64 0, .int .i64 0] 3) ∧ w.grownBy w' none := by
  have hmk := make5
  go_enter Tryz.func87, Tryz.ntmps87
  go_wp2
  go_ret
  exact ⟨rfl, heap_alloc_new _ _, gr_alloc (World.grownBy.refl _ _) _⟩

set_option maxHeartbeats 4000000 in
theorem wrappedYes5 (g b off cap : Nat) (s0 s1 s2 s3 s4 : ByteArray) (k0 k1 k2 k3 k4 x0 x1 x2 x3 x4 : Int) (w : World) (hg : w.heap[g]? = some (.cells #[.string s0, .int .i64 k0, .string s1, .int .i64 k1, .string s2, .int .i64 k2, .string s3, .int .i64 k3, .string s4, .int .i64 k4] 113))
    (c0 : w.cell? ⟨b, off + 0, none⟩ = some (.int .i64 x0)) (c1 : w.cell? ⟨b, off + 1, none⟩ = some (.int .i64 x1)) (c2 : w.cell? ⟨b, off + 2, none⟩ = some (.int .i64 x2)) (c3 : w.cell? ⟨b, off + 3, none⟩ = some (.int .i64 x3)) (c4 : w.cell? ⟨b, off + 4, none⟩ = some (.int .i64 x4)) :
    Calls Tryz.prog 87 #[.slice (some ⟨g, 0, none⟩) 5 5, .slice (some ⟨b, off, none⟩) 5 cap] w fun e w' => e = .returned (.slice (some ⟨w.heap.size, 0, none⟩) 5 5) ∧ w'.heap[w.heap.size]? = some (.cells #[.int .i64 (wrapK k0 x0), .int .i64 (wrapK k1 x1), .int .i64 (wrapK k2 x2), .int .i64 (wrapK k3 x3), .int .i64 (wrapK k4 x4)] 3) ∧ w.grownBy w' none := by
  have hmk := make5
  have hgl := at_lt hg
  have hbl : b < w.heap.size := World.block_lt_of_cell? w _ c0
  have hgl1 : g < w.heap.size + 1 := by omega
  have hbl1 : b < w.heap.size + 1 := by omega
  have hgl2 : g < w.heap.size + 1 + 1 := by omega
  have hbl2 : b < w.heap.size + 1 + 1 := by omega
  have hgl3 : g < w.heap.size + 1 + 1 + 1 := by omega
  have hbl3 : b < w.heap.size + 1 + 1 + 1 := by omega
  have hgl4 : g < w.heap.size + 1 + 1 + 1 + 1 := by omega
  have hbl4 : b < w.heap.size + 1 + 1 + 1 + 1 := by omega
  have hgl5 : g < w.heap.size + 1 + 1 + 1 + 1 + 1 := by omega
  have hbl5 : b < w.heap.size + 1 + 1 + 1 + 1 + 1 := by omega
  have hwl1 : w.heap.size < w.heap.size + 1 := by omega
  have hwl2 : w.heap.size < w.heap.size + 1 + 1 := by omega
  have hwl3 : w.heap.size < w.heap.size + 1 + 1 + 1 := by omega
  have hwl4 : w.heap.size < w.heap.size + 1 + 1 + 1 + 1 := by omega
  have hwl5 : w.heap.size < w.heap.size + 1 + 1 + 1 + 1 + 1 := by omega
  have g0 := at_cell hg 0
  have g1 := at_cell hg 1
  have g2 := at_cell hg 2
  have g3 := at_cell hg 3
  have g4 := at_cell hg 4
  have g5 := at_cell hg 5
  have g6 := at_cell hg 6
  have g7 := at_cell hg 7
  have g8 := at_cell hg 8
  have g9 := at_cell hg 9
  simp at g0 g1 g2 g3 g4 g5 g6 g7 g8 g9
  clear hg
  simp only [Nat.add_zero] at c0
  go_enter Tryz.func87, Tryz.ntmps87
  go_wp2
  refine wp_loop_rounds 6 ?_
  rw [rounds_succ]
  go_wp2
  go_region_held3 (fun w' => w'.cell? ⟨b, off, none⟩ = some (.int .i64 x0) ∧ w'.cell? ⟨w.heap.size + 1, 1, none⟩ = some (.int .i64 k0)) (refine ⟨?_, ?_⟩ <;> (repeat (first | assumption | with_reducible refine ck_drew ?_ | exact ck_new (by first | rfl | simp) rfl | refine ck_old (by first | omega | (simp; omega) | simp) ?_))) (first | (go_at_call 71; refine (wrap_any _ _ _).mono ?_; rintro e w' ⟨rfl, rfl⟩))
  go_wp2
  rw [rounds_succ]
  go_wp2
  go_region_held3 (fun w' => w'.cell? ⟨b, off + 1, none⟩ = some (.int .i64 x1) ∧ w'.cell? ⟨w.heap.size + 2, 1, none⟩ = some (.int .i64 k1)) (refine ⟨?_, ?_⟩ <;> (repeat (first | assumption | with_reducible refine ck_drew ?_ | exact ck_new (by first | rfl | simp) rfl | refine ck_old (by first | omega | (simp; omega) | simp) ?_))) (first | (go_at_call 71; refine (wrap_any _ _ _).mono ?_; rintro e w' ⟨rfl, rfl⟩))
  go_wp2
  rw [rounds_succ]
  go_wp2
  go_region_held3 (fun w' => w'.cell? ⟨b, off + 2, none⟩ = some (.int .i64 x2) ∧ w'.cell? ⟨w.heap.size + 3, 1, none⟩ = some (.int .i64 k2)) (refine ⟨?_, ?_⟩ <;> (repeat (first | assumption | with_reducible refine ck_drew ?_ | exact ck_new (by first | rfl | simp) rfl | refine ck_old (by first | omega | (simp; omega) | simp) ?_))) (first | (go_at_call 71; refine (wrap_any _ _ _).mono ?_; rintro e w' ⟨rfl, rfl⟩))
  go_wp2
  rw [rounds_succ]
  go_wp2
  go_region_held3 (fun w' => w'.cell? ⟨b, off + 3, none⟩ = some (.int .i64 x3) ∧ w'.cell? ⟨w.heap.size + 4, 1, none⟩ = some (.int .i64 k3)) (refine ⟨?_, ?_⟩ <;> (repeat (first | assumption | with_reducible refine ck_drew ?_ | exact ck_new (by first | rfl | simp) rfl | refine ck_old (by first | omega | (simp; omega) | simp) ?_))) (first | (go_at_call 71; refine (wrap_any _ _ _).mono ?_; rintro e w' ⟨rfl, rfl⟩))
  go_wp2
  rw [rounds_succ]
  go_wp2
  go_region_held3 (fun w' => w'.cell? ⟨b, off + 4, none⟩ = some (.int .i64 x4) ∧ w'.cell? ⟨w.heap.size + 5, 1, none⟩ = some (.int .i64 k4)) (refine ⟨?_, ?_⟩ <;> (repeat (first | assumption | with_reducible refine ck_drew ?_ | exact ck_new (by first | rfl | simp) rfl | refine ck_old (by first | omega | (simp; omega) | simp) ?_))) (first | (go_at_call 71; refine (wrap_any _ _ _).mono ?_; rintro e w' ⟨rfl, rfl⟩))
  go_wp2
  rw [rounds_succ]
  go_wp2
  go_ret
  refine ⟨rfl, ?_, gr_drew (gr_drew (gr_drew (gr_drew (gr_drew (gr_alloc (gr_alloc (gr_alloc (gr_alloc (gr_alloc (gr_alloc (World.grownBy.refl _ _) _) _) _) _) _) _)))))⟩
  rw [hp_drew, hp_drew, hp_drew, hp_drew, hp_drew]
  repeat (first | exact hp_new rfl _ | refine (hp_old (by first | omega | (simp; done) | (simp; omega)) _).trans ?_)
end Go.Proofs.YtcgbfhpmkpglkaaGreatDoor.Bl

/- wrapped, for every list of one to five pins. -/
namespace Go.Proofs.YtcgbfhpmkpglkaaGreatDoor.Bl
open Go.RowKit

/-- A list of numbers that can be read at a slice's value. -/
def rd (w : World) (v : Value) (l : List Int) : Prop :=
  ∃ a cap, v = .slice a l.length cap ∧ (l = [] ∨ ∃ b off, a = some ⟨b, off, none⟩ ∧ ∀ i, i < l.length → w.cell? ⟨b, off + i, none⟩ = some (.int .i64 (l.getD i 0)))

def kindsOf (I : List (ByteArray × Int)) : List Int := I.map (·.2)
def wrapL (ks l : List Int) : List Int := if l.length = ks.length then List.zipWith wrapK ks l else List.replicate ks.length 0
def intsA (l : List Int) : Array Value := (l.map (Value.int .i64)).toArray

def WrapPost (n : Nat) (L : List Int) (w : World) (e : Ending) (w' : World) : Prop :=
  e = .returned (.slice (some ⟨w.heap.size, 0, none⟩) n n) ∧ w'.heap[w.heap.size]? = some (.cells (intsA L) 3) ∧ w.grownBy w' none

theorem rd_at {w : World} {v : Value} {l : List Int} (h : rd w v l) (hl : 0 < l.length) : ∃ b off cap, v = .slice (some ⟨b, off, none⟩) l.length cap ∧ ∀ i, i < l.length → w.cell? ⟨b, off + i, none⟩ = some (.int .i64 (l.getD i 0)) := by
  obtain ⟨a, cap, rfl, h | ⟨b, off, rfl, hc⟩⟩ := h
  · subst h; simp at hl
  · exact ⟨b, off, cap, rfl, hc⟩

theorem wrapL_no {ks l : List Int} (h : l.length ≠ ks.length) : wrapL ks l = List.replicate ks.length 0 := by simp [wrapL, h]

theorem wrapped_all (I : List (ByteArray × Int)) (hI : I.length = 1 ∨ I.length = 2 ∨ I.length = 3 ∨ I.length = 4 ∨ I.length = 5) (g : Nat) (v : Value) (l : List Int) (w : World) (hg : w.heap[g]? = some (.cells (pinArr I) 113)) (hr : rd w v l) :
    Calls Tryz.prog 87 #[.slice (some ⟨g, 0, none⟩) I.length I.length, v] w (WrapPost I.length (wrapL (kindsOf I) l) w) := by
  by_cases hl : l.length = I.length
  · obtain ⟨b, off, cap, rfl, hc⟩ := rd_at hr (by omega)
    rcases hI with h | h | h | h | h
    · match I, h, l, hl with
      | [(s0, k0)], _, [x0], _ => exact wrappedYes1 g b off cap s0 k0 x0 w hg (hc 0 (by simp))
    · match I, h, l, hl with
      | [(s0, k0), (s1, k1)], _, [x0, x1], _ => exact wrappedYes2 g b off cap s0 s1 k0 k1 x0 x1 w hg (hc 0 (by simp)) (hc 1 (by simp))
    · match I, h, l, hl with
      | [(s0, k0), (s1, k1), (s2, k2)], _, [x0, x1, x2], _ => exact wrappedYes3 g b off cap s0 s1 s2 k0 k1 k2 x0 x1 x2 w hg (hc 0 (by simp)) (hc 1 (by simp)) (hc 2 (by simp))
    · match I, h, l, hl with
      | [(s0, k0), (s1, k1), (s2, k2), (s3, k3)], _, [x0, x1, x2, x3], _ => exact wrappedYes4 g b off cap s0 s1 s2 s3 k0 k1 k2 k3 x0 x1 x2 x3 w hg (hc 0 (by simp)) (hc 1 (by simp)) (hc 2 (by simp)) (hc 3 (by simp))
    · match I, h, l, hl with
      | [(s0, k0), (s1, k1), (s2, k2), (s3, k3), (s4, k4)], _, [x0, x1, x2, x3, x4], _ => exact wrappedYes5 g b off cap s0 s1 s2 s3 s4 k0 k1 k2 k3 k4 x0 x1 x2 x3 x4 w hg (hc 0 (by simp)) (hc 1 (by simp)) (hc 2 (by simp)) (hc 3 (by simp)) (hc 4 (by simp))
  · rw [wrapL_no (by simpa [kindsOf] using hl)]
    obtain ⟨a, cap, rfl, _⟩ := hr
    have hk : (kindsOf I).length = I.length := by simp [kindsOf]
    rw [hk]
    rcases hI with h | h | h | h | h <;> rw [h]
    · exact wrappedNo1 _ _ _ _ _ (by simp; omega)
    · exact wrappedNo2 _ _ _ _ _ (by simp; omega)
    · exact wrappedNo3 _ _ _ _ _ (by simp; omega)
    · exact wrappedNo4 _ _ _ _ _ (by simp; omega)
    · exact wrappedNo5 _ _ _ _ _ (by simp; omega)
end Go.Proofs.YtcgbfhpmkpglkaaGreatDoor.Bl

/- Step, for whatever block. -/
namespace Go.Proofs.YtcgbfhpmkpglkaaGreatDoor.Bl
open Go.RowKit
attribute [local go_sem ↓] Go.wp_at_zero Go.wp_at_succ

theorem kept {w w' : World} {k : Nat} {o : Obj} (hg : w.grownBy w' none) (h : w.heap[k]? = some o) : w'.heap[k]? = some o := (hg.block k (at_lt h) (by simp)).trans h
theorem keptBut {w w' : World} {k p : Nat} {o : Obj} (hg : w.grownBy w' (some p)) (h : w.heap[k]? = some o) (hne : k ≠ p) : w'.heap[k]? = some o := (hg.block k (at_lt h) (by simpa using hne)).trans h

theorem wrap_keep (k n : Int) (w : World) : Calls Tryz.prog 71 #[.int .i64 k, .int .i64 n] w fun e w' => e = .returned (.int .i64 (wrapK k n)) ∧ w = w' := (wrap_any k n w).mono fun _ _ h => ⟨h.1, h.2.symm⟩

theorem rd_grown {w w' : World} {v : Value} {l : List Int} (h : rd w v l) (hg : w.grownBy w' none) : rd w' v l := by
  obtain ⟨a, cap, rfl, h | ⟨b, off, rfl, hc⟩⟩ := h
  · exact ⟨a, cap, rfl, .inl h⟩
  · exact ⟨_, cap, rfl, .inr ⟨b, off, rfl, fun i hi => hg.cell (hc i hi) (by simp)⟩⟩

set_option maxHeartbeats 1000000 in
theorem step_gen (nm : ByteArray) (P T fS fL fT fV : Nat) (z : Array Value) (I O S : List (ByteArray × Int)) (A : List Int → Array Value) (F : List Int → List Int → Int → List Int × List Int) (vs vi : Value) (l li : List Int) (now : Int) (w : World)
    (hI : I.length = 1 ∨ I.length = 2 ∨ I.length = 3 ∨ I.length = 4 ∨ I.length = 5) (hS : S.length = 1 ∨ S.length = 2 ∨ S.length = 3 ∨ S.length = 4 ∨ S.length = 5)
    (hnamed : ∀ w, Calls Tryz.prog 86 #[.string nm] w fun e w' => e = .returned (.tuple #[.iface P (.pointer (some ⟨w.heap.size, 0, none⟩)), .bool true]) ∧ w' = w.alloc (.cells z T))
    (hmS : ∀ (p : Nat) (w : World), (method 309 P (.pointer (some ⟨p, 0, none⟩)) "plantwright/blocks.shape").run Tryz.prog w = .ok (fS, .pointer (some ⟨p, 0, none⟩)) w)
    (hmL : ∀ (p : Nat) (w : World), (method 309 P (.pointer (some ⟨p, 0, none⟩)) "plantwright/blocks.load").run Tryz.prog w = .ok (fL, .pointer (some ⟨p, 0, none⟩)) w)
    (hmT : ∀ (p : Nat) (w : World), (method 309 P (.pointer (some ⟨p, 0, none⟩)) "plantwright/blocks.step").run Tryz.prog w = .ok (fT, .pointer (some ⟨p, 0, none⟩)) w)
    (hmV : ∀ (p : Nat) (w : World), (method 309 P (.pointer (some ⟨p, 0, none⟩)) "plantwright/blocks.save").run Tryz.prog w = .ok (fV, .pointer (some ⟨p, 0, none⟩)) w)
    (hnL : ∀ (p : Nat) (w : World), (nilAhead 309 P (.pointer (some ⟨p, 0, none⟩)) "plantwright/blocks.load").run Tryz.prog w = .ok (some false) w)
    (hnT : ∀ (p : Nat) (w : World), (nilAhead 309 P (.pointer (some ⟨p, 0, none⟩)) "plantwright/blocks.step").run Tryz.prog w = .ok (some false) w)
    (hcS : ∀ (args : Array Value) (w : World), (callFunc fS args).run Tryz.prog w = .ok (.enter fS args) w)
    (hcL : ∀ (args : Array Value) (w : World), (callFunc fL args).run Tryz.prog w = .ok (.enter fL args) w)
    (hcT : ∀ (args : Array Value) (w : World), (callFunc fT args).run Tryz.prog w = .ok (.enter fT args) w)
    (hcV : ∀ (args : Array Value) (w : World), (callFunc fV args).run Tryz.prog w = .ok (.enter fV args) w)
    (hshape : ∀ (p : Nat) (w : World), Calls Tryz.prog fS #[.pointer (some ⟨p, 0, none⟩)] w fun e w' => ∃ v, e = .returned v ∧ Shp w w' v I O S ∧ w.grownBy w' none)
    (hload : ∀ (p b : Nat) (w : World), w.heap[p]? = some (.cells z T) → w.heap[b]? = some (.cells (intsA (wrapL (kindsOf S) l)) 3) → p ≠ b → Calls Tryz.prog fL #[.pointer (some ⟨p, 0, none⟩), .slice (some ⟨b, 0, none⟩) S.length S.length] w fun e w' => e = .returned (.tuple #[]) ∧ w'.heap[p]? = some (.cells (A (wrapL (kindsOf S) l)) T) ∧ w.grownBy w' (some p))
    (hstep : ∀ (p b : Nat) (w : World), w.heap[p]? = some (.cells (A (wrapL (kindsOf S) l)) T) → w.heap[b]? = some (.cells (intsA (wrapL (kindsOf I) li)) 3) → p ≠ b → Calls Tryz.prog fT #[.pointer (some ⟨p, 0, none⟩), .slice (some ⟨b, 0, none⟩) I.length I.length, .int .i64 (wrapK 5 now)] w fun e w' => e = .returned (.slice (some ⟨w.heap.size, 0, none⟩) O.length O.length) ∧ w'.heap[w.heap.size]? = some (.cells (intsA (F (wrapL (kindsOf S) l) (wrapL (kindsOf I) li) (wrapK 5 now)).2) 3) ∧ w'.heap[p]? = some (.cells (A (F (wrapL (kindsOf S) l) (wrapL (kindsOf I) li) (wrapK 5 now)).1) T) ∧ w.grownBy w' (some p))
    (hsave : ∀ (p : Nat) (w : World), w.heap[p]? = some (.cells (A (F (wrapL (kindsOf S) l) (wrapL (kindsOf I) li) (wrapK 5 now)).1) T) → Calls Tryz.prog fV #[.pointer (some ⟨p, 0, none⟩)] w fun e w' => e = .returned (.slice (some ⟨w.heap.size, 0, none⟩) S.length S.length) ∧ w'.heap[w.heap.size]? = some (.cells (intsA (F (wrapL (kindsOf S) l) (wrapL (kindsOf I) li) (wrapK 5 now)).1) 3) ∧ w.grownBy w' none)
    (hr : rd w vs l) (hri : rd w vi li) :
    Calls Tryz.prog 73 #[.string nm, vs, vi, .int .i64 now] w fun e w' => ∃ c1 c2, e = .returned (.tuple #[.slice (some ⟨c1, 0, none⟩) S.length S.length, .slice (some ⟨c2, 0, none⟩) O.length O.length]) ∧ w.heap.size ≤ c1 ∧ w.heap.size ≤ c2 ∧ c1 ≠ c2 ∧ w'.heap[c1]? = some (.cells (intsA (F (wrapL (kindsOf S) l) (wrapL (kindsOf I) li) (wrapK 5 now)).1) 3) ∧ w'.heap[c2]? = some (.cells (intsA (F (wrapL (kindsOf S) l) (wrapL (kindsOf I) li) (wrapK 5 now)).2) 3) ∧ w.grownBy w' none := by
  go_enter Tryz.func73, Tryz.ntmps73
  go_wp2_with (first | (go_at_call 86; refine (hnamed _).mono ?_; rintro e w' ⟨rfl, rfl⟩))
  refine (hshape _ _).mono ?_
  rintro e w1 ⟨v, rfl, ⟨b1, b2, b3, rfl, hb1, hb2, hb3, n12, n13, n23, hB1, hB2, hB3⟩, hg1⟩
  simp at hb1 hb3
  have hp1 : w1.heap[w.heap.size]? = some (.cells z T) := kept hg1 (heap_alloc_new _ _)
  have hgw : w.grownBy w1 none := (gr_alloc (World.grownBy.refl w none) _).trans hg1
  have hpl : w.heap.size < w1.heap.size := at_lt hp1
  have hl1 := at_lt hB1
  have hl3 := at_lt hB3
  have hp2 : (w1.alloc (Obj.cells #[.slice (some ⟨b1, 0, none⟩) I.length I.length, .slice (some ⟨b2, 0, none⟩) O.length O.length, .slice (some ⟨b3, 0, none⟩) S.length S.length] 100)).heap[w.heap.size]? = some (.cells z T) := (hp_old hpl _).trans hp1
  have hX : (w1.alloc (Obj.cells #[.slice (some ⟨b1, 0, none⟩) I.length I.length, .slice (some ⟨b2, 0, none⟩) O.length O.length, .slice (some ⟨b3, 0, none⟩) S.length S.length] 100)).heap[w1.heap.size]? = some (.cells #[.slice (some ⟨b1, 0, none⟩) I.length I.length, .slice (some ⟨b2, 0, none⟩) O.length O.length, .slice (some ⟨b3, 0, none⟩) S.length S.length] 100) := heap_alloc_new _ _
  have hY1 : (w1.alloc (Obj.cells #[.slice (some ⟨b1, 0, none⟩) I.length I.length, .slice (some ⟨b2, 0, none⟩) O.length O.length, .slice (some ⟨b3, 0, none⟩) S.length S.length] 100)).heap[b1]? = some (.cells (pinArr I) 113) := (hp_old hl1 _).trans hB1
  have hY3 : (w1.alloc (Obj.cells #[.slice (some ⟨b1, 0, none⟩) I.length I.length, .slice (some ⟨b2, 0, none⟩) O.length O.length, .slice (some ⟨b3, 0, none⟩) S.length S.length] 100)).heap[b3]? = some (.cells (pinArr S) 113) := (hp_old hl3 _).trans hB3
  have hgx : w.grownBy (w1.alloc (Obj.cells #[.slice (some ⟨b1, 0, none⟩) I.length I.length, .slice (some ⟨b2, 0, none⟩) O.length O.length, .slice (some ⟨b3, 0, none⟩) S.length S.length] 100)) none := gr_alloc hgw _
  have hc2 := at_cell hX 2
  simp only [List.getElem?_toArray, List.getElem?_cons_succ, List.getElem?_cons_zero] at hc2
  go_wp2
  go_region_held3 (fun w' => w'.cell? ⟨w1.heap.size, 2, none⟩ = some (.slice (some ⟨b3, 0, none⟩) S.length S.length)) (((repeat with_reducible refine ck_drew ?_); assumption))
    (first
      | (go_at_call 87; go_must (refine (wrapped_all S hS b3 vs l _ ?_ ?_).mono ?_); (exact hY3); go_must (exact rd_grown hr (gr_drew hgx)); go_must (rintro e w2 ⟨rfl, hW2, hg2⟩); have hc3 := at_cell (kept hg2 ((hp_drew _ _).trans hX)) 2; go_must (simp only [List.getElem?_toArray, List.getElem?_cons_succ, List.getElem?_cons_zero] at hc3))
      | (with_reducible refine (hload _ _ _ ?_ ?_ ?_).mono ?_; (exact kept hg2 ((hp_drew _ _).trans hp2)); (exact Eq.trans (congrArg (fun k => w2.heap[k]?) (by simp)) hW2); (omega); rintro e w3 ⟨rfl, hp3, hg3⟩; have hX3 := keptBut hg3 (kept hg2 ((hp_drew _ _).trans hX)) (by omega); have hc4 := at_cell hX3 2; simp only [List.getElem?_toArray, List.getElem?_cons_succ, List.getElem?_cons_zero] at hc4))
  · have hg13 : w.grownBy w3 none := ((gr_drew hgx).trans hg2).andThen hg3 (fun j hj => by simp at hj; omega)
    have hY13 := keptBut hg3 (kept hg2 ((hp_drew _ _).trans hY1)) (by omega)
    have hx3 := at_lt hX3
    have hc5 := at_cell hX3 0
    simp only [List.getElem?_toArray, List.getElem?_cons_zero] at hc5
    clear hc2 hc3 hc4 hW2 hY3 hX hp2 hY1
    go_wp2
    go_region_held3 (fun w' => w'.cell? ⟨w1.heap.size, 0, none⟩ = some (.slice (some ⟨b1, 0, none⟩) I.length I.length)) (((repeat with_reducible refine ck_drew ?_); assumption))
      (first
        | (go_at_call 87; go_must (refine (wrapped_all I hI b1 vi li _ ?_ ?_).mono ?_); (exact (hp_drew _ _).trans hY13); (exact rd_grown hri (gr_drew hg13)); (rintro e w4 ⟨rfl, hW4, hg4⟩); have hc6 := at_cell (kept hg4 ((hp_drew _ _).trans hX3)) 0; go_must (simp only [List.getElem?_toArray, List.getElem?_cons_zero] at hc6))
        | (go_at_call 71; refine (wrap_keep _ _ _).mono ?_; rintro e w' ⟨rfl, rfl⟩)
        | (with_reducible refine (hstep _ _ _ ?_ ?_ ?_).mono ?_; (exact kept hg4 ((hp_drew _ _).trans hp3)); (exact Eq.trans (congrArg (fun k => w4.heap[k]?) (by simp)) hW4); (omega); rintro e w5 ⟨rfl, hO5, hp5, hg5⟩; have hX5 := keptBut hg5 (kept hg4 ((hp_drew _ _).trans hX3)) (by omega); have hc7 := at_cell hX5 0; simp only [List.getElem?_toArray, List.getElem?_cons_zero] at hc7))
    all_goals go_wp2
    all_goals
      refine (hsave _ _ hp5).mono ?_
      rintro e w6 ⟨rfl, hS6, hg6⟩
      have hg15 : w.grownBy w5 none := ((gr_drew hg13).trans hg4).andThen hg5 (fun j hj => by simp at hj; omega)
      have s4 : w.heap.size ≤ w4.heap.size := ((gr_drew hg13).trans hg4).size
      have s5 := at_lt hO5
      go_wp2
      go_ret2
      exact ⟨_, _, rfl, by omega, by omega, by omega, hS6, kept hg6 hO5, hg15.trans hg6⟩
  · have hg13 : w.grownBy w3 none := ((gr_drew hgx).trans hg2).andThen hg3 (fun j hj => by simp at hj; omega)
    have hY13 := keptBut hg3 (kept hg2 ((hp_drew _ _).trans hY1)) (by omega)
    have hx3 := at_lt hX3
    have hc5 := at_cell hX3 0
    simp only [List.getElem?_toArray, List.getElem?_cons_zero] at hc5
    clear hc2 hc3 hc4 hW2 hY3 hX hp2 hY1
    go_wp2
    go_region_held3 (fun w' => w'.cell? ⟨w1.heap.size, 0, none⟩ = some (.slice (some ⟨b1, 0, none⟩) I.length I.length)) (((repeat with_reducible refine ck_drew ?_); assumption))
      (first
        | (go_at_call 87; go_must (refine (wrapped_all I hI b1 vi li _ ?_ ?_).mono ?_); (exact (hp_drew _ _).trans hY13); (exact rd_grown hri (gr_drew hg13)); (rintro e w4 ⟨rfl, hW4, hg4⟩); have hc6 := at_cell (kept hg4 ((hp_drew _ _).trans hX3)) 0; go_must (simp only [List.getElem?_toArray, List.getElem?_cons_zero] at hc6))
        | (go_at_call 71; refine (wrap_keep _ _ _).mono ?_; rintro e w' ⟨rfl, rfl⟩)
        | (with_reducible refine (hstep _ _ _ ?_ ?_ ?_).mono ?_; (exact kept hg4 ((hp_drew _ _).trans hp3)); (exact Eq.trans (congrArg (fun k => w4.heap[k]?) (by simp)) hW4); (omega); rintro e w5 ⟨rfl, hO5, hp5, hg5⟩; have hX5 := keptBut hg5 (kept hg4 ((hp_drew _ _).trans hX3)) (by omega); have hc7 := at_cell hX5 0; simp only [List.getElem?_toArray, List.getElem?_cons_zero] at hc7))
    all_goals go_wp2
    all_goals
      refine (hsave _ _ hp5).mono ?_
      rintro e w6 ⟨rfl, hS6, hg6⟩
      have hg15 : w.grownBy w5 none := ((gr_drew hg13).trans hg4).andThen hg5 (fun j hj => by simp at hj; omega)
      have s4 : w.heap.size ≤ w4.heap.size := ((gr_drew hg13).trans hg4).size
      have s5 := at_lt hO5
      go_wp2
      go_ret2
      exact ⟨_, _, rfl, by omega, by omega, by omega, hS6, kept hg6 hO5, hg15.trans hg6⟩
end Go.Proofs.YtcgbfhpmkpglkaaGreatDoor.Bl

/- What the timers share: start, stop, over, outs. -/
namespace Go.Proofs.YtcgbfhpmkpglkaaGreatDoor.Bl
open Go.RowKit
attribute [local go_sem ↓] Go.wp_at_zero Go.wp_at_succ

theorem start_any (p : Nat) (n : Int) (u0 u1 : Value) (w : World) (d0 : w.cell? ⟨p, 0, none⟩ = some u0) (d1 : w.cell? ⟨p, 1, none⟩ = some u1) (f0 : w.frozen? ⟨p, 0, none⟩ = false) (f1 : w.frozen? ⟨p, 1, none⟩ = false) :
    Calls Tryz.prog 129 #[.pointer (some ⟨p, 0, none⟩), .int .i64 n] w fun e w' => e = .returned (.tuple #[]) ∧ w' = (w.setCell ⟨p, 0, none⟩ (.bool true)).setCell ⟨p, 1, none⟩ (.int .i64 n) := by
  go_enter Tryz.func129, Tryz.ntmps129
  go_wp2
  go_end0
  exact ⟨rfl, rfl⟩
theorem stop_any (p : Nat) (u0 u1 : Value) (w : World) (d0 : w.cell? ⟨p, 0, none⟩ = some u0) (d1 : w.cell? ⟨p, 1, none⟩ = some u1) (f0 : w.frozen? ⟨p, 0, none⟩ = false) (f1 : w.frozen? ⟨p, 1, none⟩ = false) :
    Calls Tryz.prog 118 #[.pointer (some ⟨p, 0, none⟩)] w fun e w' => e = .returned (.tuple #[]) ∧ w' = (w.setCell ⟨p, 0, none⟩ (.bool false)).setCell ⟨p, 1, none⟩ (.int .i64 0) := by
  go_enter Tryz.func118, Tryz.ntmps118
  go_wp2
  go_end0
  exact ⟨rfl, rfl⟩

/-- How long it is since. -/
def goneN (now since : Int) : Int := wrapK 5 (now - since)
theorem over_any (p : Nat) (s pt now : Int) (u3 : Value) (w : World) (d1 : w.cell? ⟨p, 1, none⟩ = some (.int .i64 s)) (d3 : w.cell? ⟨p, 3, none⟩ = some u3) (f3 : w.frozen? ⟨p, 3, none⟩ = false)
    (hs0 : 0 ≤ s) (hs1 : s ≤ 4294967295) (hn0 : 0 ≤ now) (hn1 : now ≤ 4294967295) :
    Calls Tryz.prog 123 #[.pointer (some ⟨p, 0, none⟩), .int .i64 pt, .int .i64 now] w fun e w' => e = .returned (.bool (decide (pt ≤ goneN now s))) ∧ w' = w.setCell ⟨p, 3, none⟩ (.int .i64 (min (goneN now s) pt)) := by
  obtain ⟨g, hg⟩ : ∃ g, goneN now s = g := ⟨_, rfl⟩
  have hg' : wrapK 5 (now - s) = g := hg
  rw [hg]
  clear hg
  by_cases h : pt ≤ g
  · have e1 : decide (pt ≤ g) = true := by simpa using h
    have HM : Hid (min g pt = pt) := by show min g pt = pt; omega
    rw [e1, HM.out]
    go_enter Tryz.func123, Tryz.ntmps123
    go_wp2_with (go_at_call 71; refine (wrap_any _ _ _).mono ?_; rintro e w' ⟨rfl, rfl⟩)
    all_goals go_ret
    all_goals refine ⟨rfl, ?_⟩
    all_goals (first | rfl | (have e : g = pt := by omega); rw [e])
  · have e1 : decide (pt ≤ g) = false := by simpa using h
    have HM : Hid (min g pt = g) := by show min g pt = g; omega
    rw [e1, HM.out]
    go_enter Tryz.func123, Tryz.ntmps123
    go_wp2_with (go_at_call 71; refine (wrap_any _ _ _).mono ?_; rintro e w' ⟨rfl, rfl⟩)
    all_goals go_ret
    all_goals refine ⟨rfl, ?_⟩
    all_goals (first | rfl | (have e : g = pt := by omega); rw [e])

theorem outs_any (p : Nat) (q : Bool) (a : Int) (w : World) (d3 : w.cell? ⟨p, 3, none⟩ = some (.int .i64 a)) :
    Calls Tryz.prog 122 #[.pointer (some ⟨p, 0, none⟩), .bool q] w fun e w' => e = .returned (.slice (some ⟨w.heap.size, 0, none⟩) 2 2) ∧ w' = (w.alloc (.cells #[.int .i64 (yesN q), .int .i64 a] 3)).drew := by
  have hlt : p < w.heap.size := World.block_lt_of_cell? w _ d3
  go_enter Tryz.func122, Tryz.ntmps122
  go_wp2
  go_region_held3 (fun w' => w'.cell? ⟨p, 3, none⟩ = some (.int .i64 a)) (go_keep) (first | (go_at_call 120; refine (word_any _ _).mono ?_; rintro e w' ⟨rfl, rfl⟩))
  all_goals go_wp2
  all_goals go_ret
  all_goals exact ⟨rfl, rfl⟩
end Go.Proofs.YtcgbfhpmkpglkaaGreatDoor.Bl

/- The twelve blocks as plain functions. -/
namespace Go.Proofs.YtcgbfhpmkpglkaaGreatDoor.Bl
open Go.RowKit

def A4 : List Int → Array Value
  | [a, b, c, d] => #[.bool (a != 0), .int .i64 b, .bool (c != 0), .int .i64 d]
  | _ => #[]
def A2 : List Int → Array Value
  | [a, b] => #[.bool (a != 0), .int .i64 b]
  | _ => #[]
def A3 : List Int → Array Value
  | [a, b, c] => #[.bool (a != 0), .bool (b != 0), .int .i64 c]
  | _ => #[]
def A1 : List Int → Array Value
  | [a] => #[.bool (a != 0)]
  | _ => #[]
def A1i : List Int → Array Value
  | [a] => #[.int .i64 a]
  | _ => #[]

def tonF : List Int → List Int → Int → List Int × List Int
  | [r, s, m, a], [i, pt], now =>
    if i = 0 then ([0, 0, 0, 0], [0, 0])
    else if r = 0 then ([1, now, yesN (decide (pt ≤ goneN now now)), min (goneN now now) pt], [yesN (decide (pt ≤ goneN now now)), min (goneN now now) pt])
    else if m = 0 then ([1, s, yesN (decide (pt ≤ goneN now s)), min (goneN now s) pt], [yesN (decide (pt ≤ goneN now s)), min (goneN now s) pt])
    else ([1, s, 1, a], [1, a])
  | _, _, _ => ([], [])
/-- A timer that runs out. -/
def outF (on now s pt : Int) : List Int × List Int :=
  if pt ≤ goneN now s then ([0, 0, on, min (goneN now s) pt], [0, min (goneN now s) pt]) else ([1, s, on, min (goneN now s) pt], [1, min (goneN now s) pt])
def tofF : List Int → List Int → Int → List Int × List Int
  | [r, s, m, a], [i, pt], now =>
    if i = 0 then
      if m = 0 then ([r, s, 0, a], [0, a])
      else if pt ≤ goneN now (if r = 0 then now else s) then ([0, 0, 0, min (goneN now (if r = 0 then now else s)) pt], [0, min (goneN now (if r = 0 then now else s)) pt])
      else ([1, if r = 0 then now else s, 1, min (goneN now (if r = 0 then now else s)) pt], [1, min (goneN now (if r = 0 then now else s)) pt])
    else ([0, 0, 1, 0], [1, 0])
  | _, _, _ => ([], [])
def tpF : List Int → List Int → Int → List Int × List Int
  | [r, s, m, a], [i, pt], now =>
    if r = 0 then
      if i = 0 then ([0, s, 0, 0], [0, 0])
      else if m = 0 then outF 1 now now pt
      else ([0, s, 1, a], [0, a])
    else outF i now s pt
  | _, _, _ => ([], [])
def ctuF : List Int → List Int → Int → List Int × List Int
  | [p, n], [c, r, pv], _ =>
    if r = 0 then
      if c = 0 then ([c, n], [yesN (decide (pv ≤ n)), n])
      else if p = 0 then ([c, moreN n], [yesN (decide (pv ≤ moreN n)), moreN n])
      else ([c, n], [yesN (decide (pv ≤ n)), n])
    else ([c, 0], [yesN (decide (pv ≤ 0)), 0])
  | _, _, _ => ([], [])
def ctdF : List Int → List Int → Int → List Int × List Int
  | [p, n], [c, r, pv], _ =>
    if r = 0 then
      if c = 0 then ([c, n], [yesN (decide (n ≤ 0)), n])
      else if p = 0 then ([c, lessN n], [yesN (decide (lessN n ≤ 0)), lessN n])
      else ([c, n], [yesN (decide (n ≤ 0)), n])
    else ([c, pv], [yesN (decide (pv ≤ 0)), pv])
  | _, _, _ => ([], [])
def udN (u d n cu cd : Int) : Int :=
  if cu = 0 then (if cd = 0 then n else if d = 0 then lessN n else n)
  else if u = 0 then (if cd = 0 then moreN n else if d = 0 then n else moreN n)
  else (if cd = 0 then n else if d = 0 then lessN n else n)
def ctudF : List Int → List Int → Int → List Int × List Int
  | [u, d, n], [cu, cd, r, ld, pv], _ =>
    if r = 0 then
      if ld = 0 then ([cu, cd, udN u d n cu cd], [yesN (decide (pv ≤ udN u d n cu cd)), yesN (decide (udN u d n cu cd ≤ 0)), udN u d n cu cd])
      else ([cu, cd, pv], [1, yesN (decide (pv ≤ 0)), pv])
    else ([cu, cd, 0], [yesN (decide (pv ≤ 0)), 1, 0])
  | _, _, _ => ([], [])
def rtrigF : List Int → List Int → Int → List Int × List Int
  | [p], [c], _ => ([c], [if c = 0 then 0 else if p = 0 then 1 else 0])
  | _, _, _ => ([], [])
def ftrigF : List Int → List Int → Int → List Int × List Int
  | [p], [c], _ => ([c], [if c = 0 then (if p = 0 then 0 else 1) else 0])
  | _, _, _ => ([], [])
def srN (o s r : Int) : Int := if s = 0 then (if o = 0 then 0 else if r = 0 then 1 else 0) else 1
def srF : List Int → List Int → Int → List Int × List Int
  | [o], [s, r], _ => ([srN o s r], [srN o s r])
  | _, _, _ => ([], [])
def rsN (o s r : Int) : Int := if r = 0 then (if s = 0 then (if o = 0 then 0 else 1) else 1) else 0
def rsF : List Int → List Int → Int → List Int × List Int
  | [o], [s, r], _ => ([rsN o s r], [rsN o s r])
  | _, _, _ => ([], [])
def rampN (a x k : Int) : Int := if k < 0 then a else if x - a < -k then a - k else if x - a ≤ k then x else a + k
def rampF : List Int → List Int → Int → List Int × List Int
  | [a], [x, k], _ => ([rampN a x k], [rampN a x k])
  | _, _, _ => ([], [])
def hystN (o x hi lo : Int) : Int := if hi ≤ x then 1 else if x ≤ lo then 0 else o
def hystF : List Int → List Int → Int → List Int × List Int
  | [o], [x, hi, lo], _ => ([hystN o x hi lo], [hystN o x hi lo])
  | _, _, _ => ([], [])

theorem wrapK_zero (k : Int) : wrapK k 0 = 0 := by unfold wrapK; repeat' split
                                                   all_goals omega
theorem form1 (k0 : Int) (l : List Int) : ∃ a, wrapL [k0] l = [wrapK k0 a] := by
  unfold wrapL
  by_cases h : l.length = [k0].length
  · rw [if_pos h]
    match l, h with
    | [a], _ => exact ⟨a, rfl⟩
  · rw [if_neg h]
    exact ⟨0, by simp [wrapK_zero]⟩
theorem form2 (k0 k1 : Int) (l : List Int) : ∃ a b, wrapL [k0, k1] l = [wrapK k0 a, wrapK k1 b] := by
  unfold wrapL
  by_cases h : l.length = [k0, k1].length
  · rw [if_pos h]
    match l, h with
    | [a, b], _ => exact ⟨a, b, rfl⟩
  · rw [if_neg h]
    exact ⟨0, 0, by simp [wrapK_zero, List.replicate]⟩
theorem form3 (k0 k1 k2 : Int) (l : List Int) : ∃ a b c, wrapL [k0, k1, k2] l = [wrapK k0 a, wrapK k1 b, wrapK k2 c] := by
  unfold wrapL
  by_cases h : l.length = [k0, k1, k2].length
  · rw [if_pos h]
    match l, h with
    | [a, b, c], _ => exact ⟨a, b, c, rfl⟩
  · rw [if_neg h]
    exact ⟨0, 0, 0, by simp [wrapK_zero, List.replicate]⟩
theorem form4 (k0 k1 k2 k3 : Int) (l : List Int) : ∃ a b c d, wrapL [k0, k1, k2, k3] l = [wrapK k0 a, wrapK k1 b, wrapK k2 c, wrapK k3 d] := by
  unfold wrapL
  by_cases h : l.length = [k0, k1, k2, k3].length
  · rw [if_pos h]
    match l, h with
    | [a, b, c, d], _ => exact ⟨a, b, c, d, rfl⟩
  · rw [if_neg h]
    exact ⟨0, 0, 0, 0, by simp [wrapK_zero, List.replicate]⟩
theorem form5 (k0 k1 k2 k3 k4 : Int) (l : List Int) : ∃ a b c d e, wrapL [k0, k1, k2, k3, k4] l = [wrapK k0 a, wrapK k1 b, wrapK k2 c, wrapK k3 d, wrapK k4 e] := by
  unfold wrapL
  by_cases h : l.length = [k0, k1, k2, k3, k4].length
  · rw [if_pos h]
    match l, h with
    | [a, b, c, d, e], _ => exact ⟨a, b, c, d, e, rfl⟩
  · rw [if_neg h]
    exact ⟨0, 0, 0, 0, 0, by simp [wrapK_zero, List.replicate]⟩
/-- What a wrapped number is, under a new name. -/
theorem bit_form (a : Int) : ∃ x, wrapK 1 a = x ∧ (x = 0 ∨ x = 1) := ⟨_, rfl, by rw [wrapK1]; omega⟩
theorem int_form (a : Int) : ∃ x, wrapK 2 a = x ∧ -32768 ≤ x ∧ x ≤ 32767 := ⟨_, rfl, by rw [wrapK2]; omega⟩
theorem tim_form (a : Int) : ∃ x, wrapK 5 a = x ∧ 0 ≤ x ∧ x ≤ 4294967295 := ⟨_, rfl, by rw [wrapK5]; omega⟩

theorem bitK (a : Int) : wrapK 1 a = 0 ∨ wrapK 1 a = 1 := by rw [wrapK1]; omega
theorem intK (a : Int) : -32768 ≤ wrapK 2 a ∧ wrapK 2 a ≤ 32767 := by rw [wrapK2]; omega
theorem timK (a : Int) : 0 ≤ wrapK 5 a ∧ wrapK 5 a ≤ 4294967295 := by rw [wrapK5]; omega

def StepPost (n m : Nat) (R : List Int × List Int) (w : World) (e : Ending) (w' : World) : Prop :=
  ∃ c1 c2, e = .returned (.tuple #[.slice (some ⟨c1, 0, none⟩) n n, .slice (some ⟨c2, 0, none⟩) m m]) ∧ w.heap.size ≤ c1 ∧ w.heap.size ≤ c2 ∧ c1 ≠ c2 ∧ w'.heap[c1]? = some (.cells (intsA R.1) 3) ∧ w'.heap[c2]? = some (.cells (intsA R.2) 3) ∧ w.grownBy w' none
/-- What is asked of Step at one name. -/
def StepC (nm : ByteArray) (n m : Nat) (kS kI : List Int) (F : List Int → List Int → Int → List Int × List Int) : Prop :=
  ∀ (vs vi : Value) (l li : List Int) (now : Int) (w : World), rd w vs l → rd w vi li → Calls Tryz.prog 73 #[.string nm, vs, vi, .int .i64 now] w (StepPost n m (F (wrapL kS l) (wrapL kI li) (wrapK 5 now)) w)

theorem yesN_ne (b : Bool) : (yesN b != 0) = b := by cases b <;> rfl
theorem yes_bit {x : Int} (h : x = 0 ∨ x = 1) : yesN (x != 0) = x := by rcases h with rfl | rfl <;> rfl
theorem bit_yes (b : Bool) : yesN b = 0 ∨ yesN b = 1 := by cases b <;> simp [yesN]
end Go.Proofs.YtcgbfhpmkpglkaaGreatDoor.Bl

/- Contract of named. -/
namespace Go.Proofs.YtcgbfhpmkpglkaaGreatDoor.Bl
open Go.RowKit

def tonName : ByteArray := { data := #[116, 111, 110] }
theorem named_ton (w : World) : Calls Tryz.prog 86 #[.string tonName] w fun e w' => e = .returned (.tuple #[.iface 143 (.pointer (some ⟨w.heap.size, 0, none⟩)), .bool true]) ∧ w' = w.alloc (.cells #[.bool false, .int .i64 0, .bool false, .int .i64 0] 147) := by
  unfold tonName
  go_enter Tryz.func86, Tryz.ntmps86
  go_wp2
  go_ret2
  exact ⟨rfl, rfl⟩

def tofName : ByteArray := { data := #[116, 111, 102] }
theorem named_tof (w : World) : Calls Tryz.prog 86 #[.string tofName] w fun e w' => e = .returned (.tuple #[.iface 148 (.pointer (some ⟨w.heap.size, 0, none⟩)), .bool true]) ∧ w' = w.alloc (.cells #[.bool false, .int .i64 0, .bool false, .int .i64 0] 149) := by
  unfold tofName
  go_enter Tryz.func86, Tryz.ntmps86
  go_wp2
  go_ret2
  exact ⟨rfl, rfl⟩

def tpName : ByteArray := { data := #[116, 112] }
theorem named_tp (w : World) : Calls Tryz.prog 86 #[.string tpName] w fun e w' => e = .returned (.tuple #[.iface 150 (.pointer (some ⟨w.heap.size, 0, none⟩)), .bool true]) ∧ w' = w.alloc (.cells #[.bool false, .int .i64 0, .bool false, .int .i64 0] 151) := by
  unfold tpName
  go_enter Tryz.func86, Tryz.ntmps86
  go_wp2
  go_ret2
  exact ⟨rfl, rfl⟩

def ctuName : ByteArray := { data := #[99, 116, 117] }
theorem named_ctu (w : World) : Calls Tryz.prog 86 #[.string ctuName] w fun e w' => e = .returned (.tuple #[.iface 152 (.pointer (some ⟨w.heap.size, 0, none⟩)), .bool true]) ∧ w' = w.alloc (.cells #[.bool false, .int .i64 0] 156) := by
  unfold ctuName
  go_enter Tryz.func86, Tryz.ntmps86
  go_wp2
  go_ret2
  exact ⟨rfl, rfl⟩

def ctdName : ByteArray := { data := #[99, 116, 100] }
theorem named_ctd (w : World) : Calls Tryz.prog 86 #[.string ctdName] w fun e w' => e = .returned (.tuple #[.iface 157 (.pointer (some ⟨w.heap.size, 0, none⟩)), .bool true]) ∧ w' = w.alloc (.cells #[.bool false, .int .i64 0] 158) := by
  unfold ctdName
  go_enter Tryz.func86, Tryz.ntmps86
  go_wp2
  go_ret2
  exact ⟨rfl, rfl⟩

def ctudName : ByteArray := { data := #[99, 116, 117, 100] }
theorem named_ctud (w : World) : Calls Tryz.prog 86 #[.string ctudName] w fun e w' => e = .returned (.tuple #[.iface 159 (.pointer (some ⟨w.heap.size, 0, none⟩)), .bool true]) ∧ w' = w.alloc (.cells #[.bool false, .bool false, .int .i64 0] 161) := by
  unfold ctudName
  go_enter Tryz.func86, Tryz.ntmps86
  go_wp2
  go_ret2
  exact ⟨rfl, rfl⟩

def rtrigName : ByteArray := { data := #[114, 95, 116, 114, 105, 103] }
theorem named_rtrig (w : World) : Calls Tryz.prog 86 #[.string rtrigName] w fun e w' => e = .returned (.tuple #[.iface 162 (.pointer (some ⟨w.heap.size, 0, none⟩)), .bool true]) ∧ w' = w.alloc (.cells #[.bool false] 166) := by
  unfold rtrigName
  go_enter Tryz.func86, Tryz.ntmps86
  go_wp2
  go_ret2
  exact ⟨rfl, rfl⟩

def ftrigName : ByteArray := { data := #[102, 95, 116, 114, 105, 103] }
theorem named_ftrig (w : World) : Calls Tryz.prog 86 #[.string ftrigName] w fun e w' => e = .returned (.tuple #[.iface 167 (.pointer (some ⟨w.heap.size, 0, none⟩)), .bool true]) ∧ w' = w.alloc (.cells #[.bool false] 168) := by
  unfold ftrigName
  go_enter Tryz.func86, Tryz.ntmps86
  go_wp2
  go_ret2
  exact ⟨rfl, rfl⟩

def srName : ByteArray := { data := #[115, 114] }
theorem named_sr (w : World) : Calls Tryz.prog 86 #[.string srName] w fun e w' => e = .returned (.tuple #[.iface 169 (.pointer (some ⟨w.heap.size, 0, none⟩)), .bool true]) ∧ w' = w.alloc (.cells #[.bool false] 173) := by
  unfold srName
  go_enter Tryz.func86, Tryz.ntmps86
  go_wp2
  go_ret2
  exact ⟨rfl, rfl⟩

def rsName : ByteArray := { data := #[114, 115] }
theorem named_rs (w : World) : Calls Tryz.prog 86 #[.string rsName] w fun e w' => e = .returned (.tuple #[.iface 174 (.pointer (some ⟨w.heap.size, 0, none⟩)), .bool true]) ∧ w' = w.alloc (.cells #[.bool false] 175) := by
  unfold rsName
  go_enter Tryz.func86, Tryz.ntmps86
  go_wp2
  go_ret2
  exact ⟨rfl, rfl⟩

def rampName : ByteArray := { data := #[114, 97, 109, 112] }
theorem named_ramp (w : World) : Calls Tryz.prog 86 #[.string rampName] w fun e w' => e = .returned (.tuple #[.iface 176 (.pointer (some ⟨w.heap.size, 0, none⟩)), .bool true]) ∧ w' = w.alloc (.cells #[.int .i64 0] 178) := by
  unfold rampName
  go_enter Tryz.func86, Tryz.ntmps86
  go_wp2
  go_ret2
  exact ⟨rfl, rfl⟩

def hystName : ByteArray := { data := #[104, 121, 115, 116] }
theorem named_hyst (w : World) : Calls Tryz.prog 86 #[.string hystName] w fun e w' => e = .returned (.tuple #[.iface 179 (.pointer (some ⟨w.heap.size, 0, none⟩)), .bool true]) ∧ w' = w.alloc (.cells #[.bool false] 180) := by
  unfold hystName
  go_enter Tryz.func86, Tryz.ntmps86
  go_wp2
  go_ret2
  exact ⟨rfl, rfl⟩

theorem named_else (s : ByteArray) (w : World) (h0 : (s.toList == [116, 111, 110]) = false) (h1 : (s.toList == [116, 111, 102]) = false) (h2 : (s.toList == [116, 112]) = false) (h3 : (s.toList == [99, 116, 117]) = false) (h4 : (s.toList == [99, 116, 100]) = false) (h5 : (s.toList == [99, 116, 117, 100]) = false) (h6 : (s.toList == [114, 95, 116, 114, 105, 103]) = false) (h7 : (s.toList == [102, 95, 116, 114, 105, 103]) = false) (h8 : (s.toList == [115, 114]) = false) (h9 : (s.toList == [114, 115]) = false) (h10 : (s.toList == [114, 97, 109, 112]) = false) (h11 : (s.toList == [104, 121, 115, 116]) = false) :
    Calls Tryz.prog 86 #[.string s] w fun e w' => e = .returned (.tuple #[.nilIface, .bool false]) ∧ w' = w := by
  go_enter Tryz.func86, Tryz.ntmps86
  go_wp2
  all_goals go_ret2
  all_goals exact ⟨rfl, rfl⟩

end Go.Proofs.YtcgbfhpmkpglkaaGreatDoor.Bl

/- ton: its step. -/
namespace Go.Proofs.YtcgbfhpmkpglkaaGreatDoor.Bl
open Go.RowKit
attribute [local go_sem ↓] Go.wp_at_zero Go.wp_at_succ
set_option linter.unusedVariables false

set_option maxHeartbeats 1000000 in
theorem ton_1 (p b T : Nat) (r m : Bool) (s a i0 pt now : Int) (w : World) (hp : w.heap[p]? = some (.cells #[.bool r, .int .i64 s, .bool m, .int .i64 a] T)) (hb : w.heap[b]? = some (.cells #[.int .i64 i0, .int .i64 pt] 3)) (hne : p ≠ b) (h0 : (i0 != 0) = false) :
    Calls Tryz.prog 117 #[.pointer (some ⟨p, 0, none⟩), .slice (some ⟨b, 0, none⟩) 2 2, .int .i64 now] w fun e w' => e = .returned (.slice (some ⟨w.heap.size, 0, none⟩) 2 2) ∧ w'.heap[w.heap.size]? = some (.cells #[.int .i64 0, .int .i64 0] 3) ∧ w'.heap[p]? = some (.cells #[.bool false, .int .i64 0, .bool false, .int .i64 0] T) ∧ w.grownBy w' (some p) := by
  have hpl := at_lt hp
  have c0 := at_cell hb 0
  have c1 := at_cell hb 1
  have d0 := at_cell hp 0
  have f0 := at_frozen hp 0
  have d1 := at_cell hp 1
  have f1 := at_frozen hp 1
  have d2 := at_cell hp 2
  have f2 := at_frozen hp 2
  have d3 := at_cell hp 3
  have f3 := at_frozen hp 3
  simp at c0 c1 d0 d1 d2 d3
  go_enter Tryz.func117, Tryz.ntmps117
  go_wp2_with (first | (go_at_call 119; refine (truth_any _ _).mono ?_; rintro e w' ⟨rfl, rfl⟩) | (go_at_call 122; refine (outs_any p _ 0 _ ?_).mono ?_; (focus ((repeat (first | with_reducible refine ck_drew ?_ | with_reducible refine ck_old (by first | with_reducible assumption | (simp; assumption)) ?_)); (first | go_cell_look | (simp [*]; done) | go_cell))); rintro e w' ⟨rfl, rfl⟩))
  all_goals go_ret
  all_goals refine ⟨rfl, ?_, ?_, ?_⟩
  · repeat (with_reducible refine (hp_drew _ _).trans ?_)
    exact hp_new (by simp) _
  · repeat (with_reducible refine (hp_drew _ _).trans ?_)
    refine (hp_old (by first | with_reducible exact hpl | (simp; exact hpl)) _).trans ?_
    repeat (with_reducible refine (hp_drew _ _).trans ?_)
    apply Eq.trans
    · repeat (first | with_reducible exact hp | apply at_set)
    · simp
  · repeat (first | with_reducible exact World.grownBy.refl _ _ | with_reducible apply gr_set | with_reducible apply gr_alloc | with_reducible apply gr_drew)

set_option maxHeartbeats 1000000 in
theorem ton_2 (p b T : Nat) (s a i0 pt now : Int) (w : World) (hp : w.heap[p]? = some (.cells #[.bool true, .int .i64 s, .bool true, .int .i64 a] T)) (hb : w.heap[b]? = some (.cells #[.int .i64 i0, .int .i64 pt] 3)) (hne : p ≠ b) (h0 : (i0 != 0) = true) :
    Calls Tryz.prog 117 #[.pointer (some ⟨p, 0, none⟩), .slice (some ⟨b, 0, none⟩) 2 2, .int .i64 now] w fun e w' => e = .returned (.slice (some ⟨w.heap.size, 0, none⟩) 2 2) ∧ w'.heap[w.heap.size]? = some (.cells #[.int .i64 1, .int .i64 a] 3) ∧ w'.heap[p]? = some (.cells #[.bool true, .int .i64 s, .bool true, .int .i64 a] T) ∧ w.grownBy w' (some p) := by
  have hpl := at_lt hp
  have c0 := at_cell hb 0
  have c1 := at_cell hb 1
  have d0 := at_cell hp 0
  have f0 := at_frozen hp 0
  have d1 := at_cell hp 1
  have f1 := at_frozen hp 1
  have d2 := at_cell hp 2
  have f2 := at_frozen hp 2
  have d3 := at_cell hp 3
  have f3 := at_frozen hp 3
  simp at c0 c1 d0 d1 d2 d3
  go_enter Tryz.func117, Tryz.ntmps117
  go_wp2_with (first | (go_at_call 119; refine (truth_any _ _).mono ?_; rintro e w' ⟨rfl, rfl⟩))
  go_region_held3 (fun w' => w'.cell? ⟨p, 2, none⟩ = some (.bool true)) ((focus ((repeat (first | with_reducible refine ck_drew ?_ | with_reducible refine ck_old (by first | with_reducible assumption | (simp; assumption)) ?_)); (first | go_cell_look | (simp [*]; done) | go_cell)))) (first | (go_at_call 122; refine (outs_any p _ a _ ?_).mono ?_; (focus ((repeat (first | with_reducible refine ck_drew ?_ | with_reducible refine ck_old (by first | with_reducible assumption | (simp; assumption)) ?_)); (first | go_cell_look | (simp [*]; done) | go_cell))); rintro e w' ⟨rfl, rfl⟩))
  go_wp2
  all_goals go_ret
  all_goals refine ⟨rfl, ?_, ?_, ?_⟩
  · repeat (with_reducible refine (hp_drew _ _).trans ?_)
    exact hp_new (by simp) _
  · repeat (with_reducible refine (hp_drew _ _).trans ?_)
    refine (hp_old (by first | with_reducible exact hpl | (simp; exact hpl)) _).trans ?_
    repeat (with_reducible refine (hp_drew _ _).trans ?_)
    apply Eq.trans
    · repeat (first | with_reducible exact hp | apply at_set)
    · simp
  · repeat (first | with_reducible exact World.grownBy.refl _ _ | with_reducible apply gr_set | with_reducible apply gr_alloc | with_reducible apply gr_drew)

set_option maxHeartbeats 1000000 in
theorem ton_3 (p b T : Nat) (s a i0 pt now : Int) (w : World) (hp : w.heap[p]? = some (.cells #[.bool true, .int .i64 s, .bool false, .int .i64 a] T)) (hb : w.heap[b]? = some (.cells #[.int .i64 i0, .int .i64 pt] 3)) (hne : p ≠ b) (h0 : (i0 != 0) = true) (hs0 : 0 ≤ s) (hs1 : s ≤ 4294967295) (hn0 : 0 ≤ now) (hn1 : now ≤ 4294967295) :
    Calls Tryz.prog 117 #[.pointer (some ⟨p, 0, none⟩), .slice (some ⟨b, 0, none⟩) 2 2, .int .i64 now] w fun e w' => e = .returned (.slice (some ⟨w.heap.size, 0, none⟩) 2 2) ∧ w'.heap[w.heap.size]? = some (.cells #[.int .i64 (yesN (decide (pt ≤ goneN now s))), .int .i64 (min (goneN now s) pt)] 3) ∧ w'.heap[p]? = some (.cells #[.bool true, .int .i64 s, .bool (decide (pt ≤ goneN now s)), .int .i64 (min (goneN now s) pt)] T) ∧ w.grownBy w' (some p) := by
  have hpl := at_lt hp
  have c0 := at_cell hb 0
  have c1 := at_cell hb 1
  have d0 := at_cell hp 0
  have f0 := at_frozen hp 0
  have d1 := at_cell hp 1
  have f1 := at_frozen hp 1
  have d2 := at_cell hp 2
  have f2 := at_frozen hp 2
  have d3 := at_cell hp 3
  have f3 := at_frozen hp 3
  simp at c0 c1 d0 d1 d2 d3
  obtain ⟨g, hg⟩ : ∃ g, goneN now s = g := ⟨_, rfl⟩
  rw [hg]
  obtain ⟨q, hq⟩ : ∃ q, decide (pt ≤ g) = q := ⟨_, rfl⟩
  obtain ⟨t, ht⟩ : ∃ t, min g pt = t := ⟨_, rfl⟩
  rw [hq, ht]
  go_enter Tryz.func117, Tryz.ntmps117
  go_wp2_with (first | (go_at_call 119; refine (truth_any _ _).mono ?_; rintro e w' ⟨rfl, rfl⟩))
  go_region_held3 (fun w' => w'.cell? ⟨b, 1, none⟩ = some (.int .i64 pt)) ((focus ((repeat (first | with_reducible refine ck_drew ?_ | with_reducible refine ck_old (by first | with_reducible assumption | (simp; assumption)) ?_)); (first | go_cell_look | (simp [*]; done) | go_cell)))) (first | (go_at_call 123; refine (over_any p s _ _ (.int .i64 a) _ ?_ ?_ ?_ hs0 hs1 hn0 hn1).mono ?_; (focus ((repeat (first | with_reducible refine ck_drew ?_ | with_reducible refine ck_old (by first | with_reducible assumption | (simp; assumption)) ?_)); (first | go_cell_look | (simp [*]; done) | go_cell))); (focus ((repeat (first | with_reducible refine ck_drew ?_ | with_reducible refine ck_old (by first | with_reducible assumption | (simp; assumption)) ?_)); (first | go_cell_look | (simp [*]; done) | go_cell))); (focus (first | (simp [*]; done) | (go_simp; done))); rintro e w' ⟨rfl, rfl⟩))
  go_wp2
  go_region_held3 (fun w' => w'.cell? ⟨p, 2, none⟩ = some (.bool q)) ((focus ((repeat (first | with_reducible refine ck_drew ?_ | with_reducible refine ck_old (by first | with_reducible assumption | (simp; assumption)) ?_)); (first | go_cell_look | (simp [*]; done) | go_cell)))) (first | (go_at_call 122; refine (outs_any p _ t _ ?_).mono ?_; (focus ((repeat (first | with_reducible refine ck_drew ?_ | with_reducible refine ck_old (by first | with_reducible assumption | (simp; assumption)) ?_)); (first | go_cell_look | (simp [*]; done) | go_cell))); rintro e w' ⟨rfl, rfl⟩))
  go_wp2
  all_goals go_ret
  all_goals refine ⟨rfl, ?_, ?_, ?_⟩
  · repeat (with_reducible refine (hp_drew _ _).trans ?_)
    exact hp_new (by simp) _
  · repeat (with_reducible refine (hp_drew _ _).trans ?_)
    refine (hp_old (by first | with_reducible exact hpl | (simp; exact hpl)) _).trans ?_
    repeat (with_reducible refine (hp_drew _ _).trans ?_)
    apply Eq.trans
    · repeat (first | with_reducible exact hp | apply at_set)
    · simp
  · repeat (first | with_reducible exact World.grownBy.refl _ _ | with_reducible apply gr_set | with_reducible apply gr_alloc | with_reducible apply gr_drew)

set_option maxHeartbeats 1000000 in
theorem ton_4 (p b T : Nat) (m : Bool) (s a i0 pt now : Int) (w : World) (hp : w.heap[p]? = some (.cells #[.bool false, .int .i64 s, .bool m, .int .i64 a] T)) (hb : w.heap[b]? = some (.cells #[.int .i64 i0, .int .i64 pt] 3)) (hne : p ≠ b) (h0 : (i0 != 0) = true) (hn0 : 0 ≤ now) (hn1 : now ≤ 4294967295) :
    Calls Tryz.prog 117 #[.pointer (some ⟨p, 0, none⟩), .slice (some ⟨b, 0, none⟩) 2 2, .int .i64 now] w fun e w' => e = .returned (.slice (some ⟨w.heap.size, 0, none⟩) 2 2) ∧ w'.heap[w.heap.size]? = some (.cells #[.int .i64 (yesN (decide (pt ≤ goneN now now))), .int .i64 (min (goneN now now) pt)] 3) ∧ w'.heap[p]? = some (.cells #[.bool true, .int .i64 now, .bool (decide (pt ≤ goneN now now)), .int .i64 (min (goneN now now) pt)] T) ∧ w.grownBy w' (some p) := by
  have hpl := at_lt hp
  have c0 := at_cell hb 0
  have c1 := at_cell hb 1
  have d0 := at_cell hp 0
  have f0 := at_frozen hp 0
  have d1 := at_cell hp 1
  have f1 := at_frozen hp 1
  have d2 := at_cell hp 2
  have f2 := at_frozen hp 2
  have d3 := at_cell hp 3
  have f3 := at_frozen hp 3
  simp at c0 c1 d0 d1 d2 d3
  obtain ⟨g, hg⟩ : ∃ g, goneN now now = g := ⟨_, rfl⟩
  rw [hg]
  obtain ⟨q, hq⟩ : ∃ q, decide (pt ≤ g) = q := ⟨_, rfl⟩
  obtain ⟨t, ht⟩ : ∃ t, min g pt = t := ⟨_, rfl⟩
  rw [hq, ht]
  go_enter Tryz.func117, Tryz.ntmps117
  go_wp2_with (first | (go_at_call 119; refine (truth_any _ _).mono ?_; rintro e w' ⟨rfl, rfl⟩))
  go_region_held3 (fun w' => w'.cell? ⟨b, 1, none⟩ = some (.int .i64 pt)) ((focus ((repeat (first | with_reducible refine ck_drew ?_ | with_reducible refine ck_old (by first | with_reducible assumption | (simp; assumption)) ?_)); (first | go_cell_look | (simp [*]; done) | go_cell)))) (first | (go_at_call 123; refine (over_any p now _ _ (.int .i64 0) _ ?_ ?_ ?_ hn0 hn1 hn0 hn1).mono ?_; (focus ((repeat (first | with_reducible refine ck_drew ?_ | with_reducible refine ck_old (by first | with_reducible assumption | (simp; assumption)) ?_)); (first | go_cell_look | (simp [*]; done) | go_cell))); (focus ((repeat (first | with_reducible refine ck_drew ?_ | with_reducible refine ck_old (by first | with_reducible assumption | (simp; assumption)) ?_)); (first | go_cell_look | (simp [*]; done) | go_cell))); (focus (first | (simp [*]; done) | (go_simp; done))); rintro e w' ⟨rfl, rfl⟩))
  go_wp2
  go_region_held3 (fun w' => w'.cell? ⟨p, 2, none⟩ = some (.bool q)) ((focus ((repeat (first | with_reducible refine ck_drew ?_ | with_reducible refine ck_old (by first | with_reducible assumption | (simp; assumption)) ?_)); (first | go_cell_look | (simp [*]; done) | go_cell)))) (first | (go_at_call 122; refine (outs_any p _ t _ ?_).mono ?_; (focus ((repeat (first | with_reducible refine ck_drew ?_ | with_reducible refine ck_old (by first | with_reducible assumption | (simp; assumption)) ?_)); (first | go_cell_look | (simp [*]; done) | go_cell))); rintro e w' ⟨rfl, rfl⟩))
  go_wp2
  all_goals go_ret
  all_goals refine ⟨rfl, ?_, ?_, ?_⟩
  · repeat (with_reducible refine (hp_drew _ _).trans ?_)
    exact hp_new (by simp) _
  · repeat (with_reducible refine (hp_drew _ _).trans ?_)
    refine (hp_old (by first | with_reducible exact hpl | (simp; exact hpl)) _).trans ?_
    repeat (with_reducible refine (hp_drew _ _).trans ?_)
    apply Eq.trans
    · repeat (first | with_reducible exact hp | apply at_set)
    · simp
  · repeat (first | with_reducible exact World.grownBy.refl _ _ | with_reducible apply gr_set | with_reducible apply gr_alloc | with_reducible apply gr_drew)

end Go.Proofs.YtcgbfhpmkpglkaaGreatDoor.Bl
