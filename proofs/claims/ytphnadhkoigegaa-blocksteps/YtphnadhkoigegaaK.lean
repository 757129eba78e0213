/- Step, for whatever block. -/
import Derived.Test.YtphnadhkoigegaaJ
import Derived.OpenShut
namespace Go.Proofs.Ytphnadhkoigegaa
open Go.RowKit
attribute [local go_sem ↓] Go.wp_at_zero Go.wp_at_succ

theorem kept {w w' : World} {k : Nat} {o : Obj} (hg : w.grownBy w' none) (h : w.heap[k]? = some o) : w'.heap[k]? = some o := (hg.block k (at_lt h) (by simp)).trans h
theorem keptBut {w w' : World} {k p : Nat} {o : Obj} (hg : w.grownBy w' (some p)) (h : w.heap[k]? = some o) (hne : k ≠ p) : w'.heap[k]? = some o := (hg.block k (at_lt h) (by simpa using hne)).trans h

theorem wrap_keep (k n : Int) (w : World) : Calls Try.prog 27 #[.int .i64 k, .int .i64 n] w fun e w' => e = .returned (.int .i64 (wrapK k n)) ∧ w = w' := (wrap_any k n w).mono fun _ _ h => ⟨h.1, h.2.symm⟩

theorem rd_grown {w w' : World} {v : Value} {l : List Int} (h : rd w v l) (hg : w.grownBy w' none) : rd w' v l := by
  obtain ⟨a, cap, rfl, h | ⟨b, off, rfl, hc⟩⟩ := h
  · exact ⟨a, cap, rfl, .inl h⟩
  · exact ⟨_, cap, rfl, .inr ⟨b, off, rfl, fun i hi => hg.cell (hc i hi) (by simp)⟩⟩

set_option maxHeartbeats 1000000 in
theorem step_gen (nm : ByteArray) (P T fS fL fT fV : Nat) (z : Array Value) (I O S : List (ByteArray × Int)) (A : List Int → Array Value) (F : List Int → List Int → Int → List Int × List Int) (vs vi : Value) (l li : List Int) (now : Int) (w : World)
    (hI : I.length = 1 ∨ I.length = 2 ∨ I.length = 3 ∨ I.length = 4 ∨ I.length = 5) (hS : S.length = 1 ∨ S.length = 2 ∨ S.length = 3 ∨ S.length = 4 ∨ S.length = 5)
    (hnamed : ∀ w, Calls Try.prog 20 #[.string nm] w fun e w' => e = .returned (.tuple #[.iface P (.pointer (some ⟨w.heap.size, 0, none⟩)), .bool true]) ∧ w' = w.alloc (.cells z T))
    (hmS : ∀ (p : Nat) (w : World), (method 239 P (.pointer (some ⟨p, 0, none⟩)) "plantwright/blocks.shape").run Try.prog w = .ok (fS, .pointer (some ⟨p, 0, none⟩)) w)
    (hmL : ∀ (p : Nat) (w : World), (method 239 P (.pointer (some ⟨p, 0, none⟩)) "plantwright/blocks.load").run Try.prog w = .ok (fL, .pointer (some ⟨p, 0, none⟩)) w)
    (hmT : ∀ (p : Nat) (w : World), (method 239 P (.pointer (some ⟨p, 0, none⟩)) "plantwright/blocks.step").run Try.prog w = .ok (fT, .pointer (some ⟨p, 0, none⟩)) w)
    (hmV : ∀ (p : Nat) (w : World), (method 239 P (.pointer (some ⟨p, 0, none⟩)) "plantwright/blocks.save").run Try.prog w = .ok (fV, .pointer (some ⟨p, 0, none⟩)) w)
    (hnL : ∀ (p : Nat) (w : World), (nilAhead 239 P (.pointer (some ⟨p, 0, none⟩)) "plantwright/blocks.load").run Try.prog w = .ok (some false) w)
    (hnT : ∀ (p : Nat) (w : World), (nilAhead 239 P (.pointer (some ⟨p, 0, none⟩)) "plantwright/blocks.step").run Try.prog w = .ok (some false) w)
    (hcS : ∀ (args : Array Value) (w : World), (callFunc fS args).run Try.prog w = .ok (.enter fS args) w)
    (hcL : ∀ (args : Array Value) (w : World), (callFunc fL args).run Try.prog w = .ok (.enter fL args) w)
    (hcT : ∀ (args : Array Value) (w : World), (callFunc fT args).run Try.prog w = .ok (.enter fT args) w)
    (hcV : ∀ (args : Array Value) (w : World), (callFunc fV args).run Try.prog w = .ok (.enter fV args) w)
    (hshape : ∀ (p : Nat) (w : World), Calls Try.prog fS #[.pointer (some ⟨p, 0, none⟩)] w fun e w' => ∃ v, e = .returned v ∧ Shp w w' v I O S ∧ w.grownBy w' none)
    (hload : ∀ (p b : Nat) (w : World), w.heap[p]? = some (.cells z T) → w.heap[b]? = some (.cells (intsA (wrapL (kindsOf S) l)) 3) → p ≠ b → Calls Try.prog fL #[.pointer (some ⟨p, 0, none⟩), .slice (some ⟨b, 0, none⟩) S.length S.length] w fun e w' => e = .returned (.tuple #[]) ∧ w'.heap[p]? = some (.cells (A (wrapL (kindsOf S) l)) T) ∧ w.grownBy w' (some p))
    (hstep : ∀ (p b : Nat) (w : World), w.heap[p]? = some (.cells (A (wrapL (kindsOf S) l)) T) → w.heap[b]? = some (.cells (intsA (wrapL (kindsOf I) li)) 3) → p ≠ b → Calls Try.prog fT #[.pointer (some ⟨p, 0, none⟩), .slice (some ⟨b, 0, none⟩) I.length I.length, .int .i64 (wrapK 5 now)] w fun e w' => e = .returned (.slice (some ⟨w.heap.size, 0, none⟩) O.length O.length) ∧ w'.heap[w.heap.size]? = some (.cells (intsA (F (wrapL (kindsOf S) l) (wrapL (kindsOf I) li) (wrapK 5 now)).2) 3) ∧ w'.heap[p]? = some (.cells (A (F (wrapL (kindsOf S) l) (wrapL (kindsOf I) li) (wrapK 5 now)).1) T) ∧ w.grownBy w' (some p))
    (hsave : ∀ (p : Nat) (w : World), w.heap[p]? = some (.cells (A (F (wrapL (kindsOf S) l) (wrapL (kindsOf I) li) (wrapK 5 now)).1) T) → Calls Try.prog fV #[.pointer (some ⟨p, 0, none⟩)] w fun e w' => e = .returned (.slice (some ⟨w.heap.size, 0, none⟩) S.length S.length) ∧ w'.heap[w.heap.size]? = some (.cells (intsA (F (wrapL (kindsOf S) l) (wrapL (kindsOf I) li) (wrapK 5 now)).1) 3) ∧ w.grownBy w' none)
    (hr : rd w vs l) (hri : rd w vi li) :
    Calls Try.prog 15 #[.string nm, vs, vi, .int .i64 now] w fun e w' => ∃ c1 c2, e = .returned (.tuple #[.slice (some ⟨c1, 0, none⟩) S.length S.length, .slice (some ⟨c2, 0, none⟩) O.length O.length]) ∧ w.heap.size ≤ c1 ∧ w.heap.size ≤ c2 ∧ c1 ≠ c2 ∧ w'.heap[c1]? = some (.cells (intsA (F (wrapL (kindsOf S) l) (wrapL (kindsOf I) li) (wrapK 5 now)).1) 3) ∧ w'.heap[c2]? = some (.cells (intsA (F (wrapL (kindsOf S) l) (wrapL (kindsOf I) li) (wrapK 5 now)).2) 3) ∧ w.grownBy w' none := by
  go_enter Try.func15, Try.ntmps15
  go_wp2_with (first | (go_at_call 20; refine (hnamed _).mono ?_; rintro e w' ⟨rfl, rfl⟩))
  refine (hshape _ _).mono ?_
  rintro e w1 ⟨v, rfl, ⟨b1, b2, b3, rfl, hb1, hb2, hb3, n12, n13, n23, hB1, hB2, hB3⟩, hg1⟩
  simp at hb1 hb3
  have hp1 : w1.heap[w.heap.size]? = some (.cells z T) := kept hg1 (heap_alloc_new _ _)
  have hgw : w.grownBy w1 none := (gr_alloc (World.grownBy.refl w none) _).trans hg1
  have hpl : w.heap.size < w1.heap.size := at_lt hp1
  have hl1 := at_lt hB1
  have hl3 := at_lt hB3
  have hp2 : (w1.alloc (Obj.cells #[.slice (some ⟨b1, 0, none⟩) I.length I.length, .slice (some ⟨b2, 0, none⟩) O.length O.length, .slice (some ⟨b3, 0, none⟩) S.length S.length] 24)).heap[w.heap.size]? = some (.cells z T) := (hp_old hpl _).trans hp1
  have hX : (w1.alloc (Obj.cells #[.slice (some ⟨b1, 0, none⟩) I.length I.length, .slice (some ⟨b2, 0, none⟩) O.length O.length, .slice (some ⟨b3, 0, none⟩) S.length S.length] 24)).heap[w1.heap.size]? = some (.cells #[.slice (some ⟨b1, 0, none⟩) I.length I.length, .slice (some ⟨b2, 0, none⟩) O.length O.length, .slice (some ⟨b3, 0, none⟩) S.length S.length] 24) := heap_alloc_new _ _
  have hY1 : (w1.alloc (Obj.cells #[.slice (some ⟨b1, 0, none⟩) I.length I.length, .slice (some ⟨b2, 0, none⟩) O.length O.length, .slice (some ⟨b3, 0, none⟩) S.length S.length] 24)).heap[b1]? = some (.cells (pinArr I) 49) := (hp_old hl1 _).trans hB1
  have hY3 : (w1.alloc (Obj.cells #[.slice (some ⟨b1, 0, none⟩) I.length I.length, .slice (some ⟨b2, 0, none⟩) O.length O.length, .slice (some ⟨b3, 0, none⟩) S.length S.length] 24)).heap[b3]? = some (.cells (pinArr S) 49) := (hp_old hl3 _).trans hB3
  have hgx : w.grownBy (w1.alloc (Obj.cells #[.slice (some ⟨b1, 0, none⟩) I.length I.length, .slice (some ⟨b2, 0, none⟩) O.length O.length, .slice (some ⟨b3, 0, none⟩) S.length S.length] 24)) none := gr_alloc hgw _
  have hc2 := at_cell hX 2
  simp only [List.getElem?_toArray, List.getElem?_cons_succ, List.getElem?_cons_zero] at hc2
  go_wp2
  go_region_held3 (fun w' => w'.cell? ⟨w1.heap.size, 2, none⟩ = some (.slice (some ⟨b3, 0, none⟩) S.length S.length)) (((repeat with_reducible refine ck_drew ?_); assumption))
    (first
      | (go_at_call 26; go_must (refine (wrapped_all S hS b3 vs l _ ?_ ?_).mono ?_); (exact hY3); go_must (exact rd_grown hr (gr_drew hgx)); go_must (rintro e w2 ⟨rfl, hW2, hg2⟩); have hc3 := at_cell (kept hg2 ((hp_drew _ _).trans hX)) 2; go_must (simp only [List.getElem?_toArray, List.getElem?_cons_succ, List.getElem?_cons_zero] at hc3))
      | (with_reducible refine (hload _ _ _ ?_ ?_ ?_).mono ?_; (exact kept hg2 ((hp_drew _ _).trans hp2)); (exact Eq.trans (congrArg (fun k => w2.heap[k]?) (by simp)) hW2); (omega); rintro e w3 ⟨rfl, hp3, hg3⟩; have hX3 := keptBut hg3 (kept hg2 ((hp_drew _ _).trans hX)) (by omega); have hc4 := at_cell hX3 2; simp only [List.getElem?_toArray, List.getElem?_cons_succ, List.getElem?_cons_zero] at hc4))
  · have hg13 : w.grownBy w3 none := ((gr_drew hgx).trans hg2).andThen hg3 (fun j hj => by simp at hj; omega)
    have hY13 := keptBut hg3 (kept hg2 ((hp_drew _ _).trans hY1)) (by omega)
    have hx3 := at_lt hX3
    have hc5 := at_cell hX3 0
    simp only [List.getElem?_toArray, List.getElem?_cons_zero] at hc5
    clear hc2 hc3 hc4 hW2 hY3 hX hp2 hY1
    go_wp2
    go_region_held3 (fun w' => w'.cell? ⟨w1.heap.size, 0, none⟩ = some (.slice (some ⟨b1, 0, none⟩) I.length I.length)) (((repeat with_reducible refine ck_drew ?_); assumption))
      (first
        | (go_at_call 26; go_must (refine (wrapped_all I hI b1 vi li _ ?_ ?_).mono ?_); (exact (hp_drew _ _).trans hY13); (exact rd_grown hri (gr_drew hg13)); (rintro e w4 ⟨rfl, hW4, hg4⟩); have hc6 := at_cell (kept hg4 ((hp_drew _ _).trans hX3)) 0; go_must (simp only [List.getElem?_toArray, List.getElem?_cons_zero] at hc6))
        | (go_at_call 27; refine (wrap_keep _ _ _).mono ?_; rintro e w' ⟨rfl, rfl⟩)
        | (with_reducible refine (hstep _ _ _ ?_ ?_ ?_).mono ?_; (exact kept hg4 ((hp_drew _ _).trans hp3)); (exact Eq.trans (congrArg (fun k => w4.heap[k]?) (by simp)) hW4); (omega); rintro e w5 ⟨rfl, hO5, hp5, hg5⟩; have hX5 := keptBut hg5 (kept hg4 ((hp_drew _ _).trans hX3)) (by omega); have hc7 := at_cell hX5 0; simp only [List.getElem?_toArray, List.getElem?_cons_zero] at hc7))
    all_goals go_wp2
    all_goals
      refine (hsave _ _ hp5).mono ?_
      rintro e w6 ⟨rfl, hS6, hg6⟩
      have hg15 : w.grownBy w5 none := ((gr_drew hg13).trans hg4).andThen hg5 (fun j hj => by simp at hj; omega)
      have s4 : w.heap.size ≤ w4.heap.size := ((gr_drew hg13).trans hg4).size
      have s5 := at_lt hO5
      go_wp2
      go_ret2
      exact ⟨_, _, rfl, by omega, by omega, by omega, hS6, kept hg6 hO5, hg15.trans hg6⟩
  · have hg13 : w.grownBy w3 none := ((gr_drew hgx).trans hg2).andThen hg3 (fun j hj => by simp at hj; omega)
    have hY13 := keptBut hg3 (kept hg2 ((hp_drew _ _).trans hY1)) (by omega)
    have hx3 := at_lt hX3
    have hc5 := at_cell hX3 0
    simp only [List.getElem?_toArray, List.getElem?_cons_zero] at hc5
    clear hc2 hc3 hc4 hW2 hY3 hX hp2 hY1
    go_wp2
    go_region_held3 (fun w' => w'.cell? ⟨w1.heap.size, 0, none⟩ = some (.slice (some ⟨b1, 0, none⟩) I.length I.length)) (((repeat with_reducible refine ck_drew ?_); assumption))
      (first
        | (go_at_call 26; go_must (refine (wrapped_all I hI b1 vi li _ ?_ ?_).mono ?_); (exact (hp_drew _ _).trans hY13); (exact rd_grown hri (gr_drew hg13)); (rintro e w4 ⟨rfl, hW4, hg4⟩); have hc6 := at_cell (kept hg4 ((hp_drew _ _).trans hX3)) 0; go_must (simp only [List.getElem?_toArray, List.getElem?_cons_zero] at hc6))
        | (go_at_call 27; refine (wrap_keep _ _ _).mono ?_; rintro e w' ⟨rfl, rfl⟩)
        | (with_reducible refine (hstep _ _ _ ?_ ?_ ?_).mono ?_; (exact kept hg4 ((hp_drew _ _).trans hp3)); (exact Eq.trans (congrArg (fun k => w4.heap[k]?) (by simp)) hW4); (omega); rintro e w5 ⟨rfl, hO5, hp5, hg5⟩; have hX5 := keptBut hg5 (kept hg4 ((hp_drew _ _).trans hX3)) (by omega); have hc7 := at_cell hX5 0; simp only [List.getElem?_toArray, List.getElem?_cons_zero] at hc7))
    all_goals go_wp2
    all_goals
      refine (hsave _ _ hp5).mono ?_
      rintro e w6 ⟨rfl, hS6, hg6⟩
      have hg15 : w.grownBy w5 none := ((gr_drew hg13).trans hg4).andThen hg5 (fun j hj => by simp at hj; omega)
      have s4 : w.heap.size ≤ w4.heap.size := ((gr_drew hg13).trans hg4).size
      have s5 := at_lt hO5
      go_wp2
      go_ret2
      exact ⟨_, _, rfl, by omega, by omega, by omega, hS6, kept hg6 hO5, hg15.trans hg6⟩
end Go.Proofs.Ytphnadhkoigegaa
