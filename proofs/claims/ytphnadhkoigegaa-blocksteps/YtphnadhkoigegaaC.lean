/- What becomes of a block of one's own, and of the rest; loads and saves. -/
import Derived.Test.YtphnadhkoigegaaB
import Derived.Deep.RegionHeld3
import Derived.Deep.DrawnRows
import Derived.Maps.AppendAt
import Derived.BigQuiet
namespace Go.Proofs.Ytphnadhkoigegaa
open Go.RowKit
attribute [local go_sem ↓] Go.wp_at_zero Go.wp_at_succ

theorem gr_set {w W : World} {p : Nat} (h : w.grownBy W (some p)) (i : Nat) (v : Value) : w.grownBy (W.setCell ⟨p, i, none⟩ v) (some p) :=
  ⟨h.os, h.tape, h.output, by simpa using h.size, fun k hk hne => by rw [Below.heap_setCell _ _ _ _ (fun e => hne (by rw [e]))]; exact h.block k hk hne⟩
theorem gr_alloc {w W : World} {r : Option Nat} (h : w.grownBy W r) (o : Obj) : w.grownBy (W.alloc o) r :=
  ⟨h.os, h.tape, h.output, by simp; have := h.size; omega, fun k hk hne => by rw [Below.heap_alloc _ _ _ (Nat.lt_of_lt_of_le hk h.size)]; exact h.block k hk hne⟩
theorem gr_drew {w W : World} {r : Option Nat} (h : w.grownBy W r) : w.grownBy W.drew r := ⟨h.os, h.tape, h.output, h.size, h.block⟩

theorem at_set {W : World} {p : Nat} {cs : Array Value} {T : TypeId} (h : W.heap[p]? = some (.cells cs T)) (i : Nat) (v : Value) : (W.setCell ⟨p, i, none⟩ v).heap[p]? = some (.cells (cs.setIfInBounds i v) T) :=
  heap_setCell_same W p i cs T v h
theorem at_cell {W : World} {p : Nat} {cs : Array Value} {T : TypeId} (h : W.heap[p]? = some (.cells cs T)) (i : Nat) : W.cell? ⟨p, i, none⟩ = cs[i]? := by
  simp [World.cell?, h]
theorem at_frozen {W : World} {p : Nat} {cs : Array Value} {T : TypeId} (h : W.heap[p]? = some (.cells cs T)) (i : Nat) : W.frozen? ⟨p, i, none⟩ = false := by
  simp [World.frozen?, h]
theorem at_lt {W : World} {p : Nat} {o : Obj} (h : W.heap[p]? = some o) : p < W.heap.size := (Array.getElem?_eq_some_iff.1 h).1

/-- A world made of another by stores into block p, new blocks and draws. -/
theorem gr_none {w W : World} {p : Nat} (h : w.grownBy W none) : w.grownBy W (some p) := ⟨h.os, h.tape, h.output, h.size, fun k hk _ => h.block k hk (by simp)⟩

set_option maxHeartbeats 1000000 in
theorem load_timer (p b T E : Nat) (x0 x1 x2 x3 : Int) (u0 u1 u2 u3 : Value) (w : World) (hp : w.heap[p]? = some (.cells #[u0, u1, u2, u3] T)) (hb : w.heap[b]? = some (.cells #[.int .i64 x0, .int .i64 x1, .int .i64 x2, .int .i64 x3] E)) (hne : p ≠ b) :
    Calls Try.prog 44 #[.pointer (some ⟨p, 0, none⟩), .slice (some ⟨b, 0, none⟩) 4 4] w fun e w' => e = .returned (.tuple #[]) ∧ w'.heap[p]? = some (.cells #[.bool (x0 != 0), .int .i64 x1, .bool (x2 != 0), .int .i64 x3] T) ∧ w.grownBy w' (some p) := by
  have c0 := at_cell hb 0
  have d0 := at_cell hp 0
  have f0 := at_frozen hp 0
  have c1 := at_cell hb 1
  have d1 := at_cell hp 1
  have f1 := at_frozen hp 1
  have c2 := at_cell hb 2
  have d2 := at_cell hp 2
  have f2 := at_frozen hp 2
  have c3 := at_cell hb 3
  have d3 := at_cell hp 3
  have f3 := at_frozen hp 3
  simp at c0 d0 c1 d1 c2 d2 c3 d3
  go_enter Try.func44, Try.ntmps44
  go_wp2_with (first | (go_at_call 49; refine (truth_any _ _).mono ?_; rintro e w' ⟨rfl, rfl⟩))
  go_region_held3 (fun w' => w'.cell? ⟨b, 0, none⟩ = some (.int .i64 x0) ∧ w'.cell? ⟨b, 1, none⟩ = some (.int .i64 x1) ∧ w'.cell? ⟨b, 2, none⟩ = some (.int .i64 x2) ∧ w'.cell? ⟨b, 3, none⟩ = some (.int .i64 x3)) (go_keep) (first | (go_at_call 49; refine (truth_any _ _).mono ?_; rintro e w' ⟨rfl, rfl⟩))
  all_goals go_wp2
  all_goals go_end0
  all_goals exact ⟨rfl, by have h := (at_set (at_set (at_set (at_set hp 0 (.bool (x0 != 0))) 1 (.int .i64 x1)) 2 (.bool (x2 != 0))) 3 (.int .i64 x3)); simp at h; exact h, (gr_drew (gr_set (gr_set (gr_set (gr_set (World.grownBy.refl _ _) 0 _) 1 _) 2 _) 3 _))⟩

set_option maxHeartbeats 1000000 in
theorem save_timer (p T : Nat) (x1 x3 : Int) (y0 y2 : Bool) (w : World) (hp : w.heap[p]? = some (.cells #[.bool y0, .int .i64 x1, .bool y2, .int .i64 x3] T)) :
    Calls Try.prog 45 #[.pointer (some ⟨p, 0, none⟩)] w fun e w' => e = .returned (.slice (some ⟨w.heap.size, 0, none⟩) 4 4) ∧ w'.heap[w.heap.size]? = some (.cells #[.int .i64 (yesN y0), .int .i64 x1, .int .i64 (yesN y2), .int .i64 x3] 3) ∧ w.grownBy w' none := by
  have d0 := at_cell hp 0
  have d1 := at_cell hp 1
  have d2 := at_cell hp 2
  have d3 := at_cell hp 3
  simp at d0 d1 d2 d3
  have hlt := at_lt hp
  go_enter Try.func45, Try.ntmps45
  go_wp2_with (first | (go_at_call 50; refine (word_any _ _).mono ?_; rintro e w' ⟨rfl, rfl⟩))
  go_region_held3 (fun w' => w'.cell? ⟨p, 0, none⟩ = some (.bool y0) ∧ w'.cell? ⟨p, 1, none⟩ = some (.int .i64 x1) ∧ w'.cell? ⟨p, 2, none⟩ = some (.bool y2) ∧ w'.cell? ⟨p, 3, none⟩ = some (.int .i64 x3)) (go_keep) (first | (go_at_call 50; refine (word_any _ _).mono ?_; rintro e w' ⟨rfl, rfl⟩))
  all_goals go_wp2
  all_goals go_ret
  all_goals exact ⟨rfl, heap_alloc_new _ _, (gr_drew (gr_alloc (World.grownBy.refl _ _) _))⟩

set_option maxHeartbeats 1000000 in
theorem load_counter (p b T E : Nat) (x0 x1 : Int) (u0 u1 : Value) (w : World) (hp : w.heap[p]? = some (.cells #[u0, u1] T)) (hb : w.heap[b]? = some (.cells #[.int .i64 x0, .int .i64 x1] E)) (hne : p ≠ b) :
    Calls Try.prog 62 #[.pointer (some ⟨p, 0, none⟩), .slice (some ⟨b, 0, none⟩) 2 2] w fun e w' => e = .returned (.tuple #[]) ∧ w'.heap[p]? = some (.cells #[.bool (x0 != 0), .int .i64 x1] T) ∧ w.grownBy w' (some p) := by
  have c0 := at_cell hb 0
  have d0 := at_cell hp 0
  have f0 := at_frozen hp 0
  have c1 := at_cell hb 1
  have d1 := at_cell hp 1
  have f1 := at_frozen hp 1
  simp at c0 d0 c1 d1
  go_enter Try.func62, Try.ntmps62
  go_wp2_with (first | (go_at_call 49; refine (truth_any _ _).mono ?_; rintro e w' ⟨rfl, rfl⟩))
  go_region_held3 (fun w' => w'.cell? ⟨b, 0, none⟩ = some (.int .i64 x0) ∧ w'.cell? ⟨b, 1, none⟩ = some (.int .i64 x1)) (go_keep) (first | (go_at_call 49; refine (truth_any _ _).mono ?_; rintro e w' ⟨rfl, rfl⟩))
  all_goals go_wp2
  all_goals go_end0
  all_goals exact ⟨rfl, by have h := (at_set (at_set hp 0 (.bool (x0 != 0))) 1 (.int .i64 x1)); simp at h; exact h, (gr_drew (gr_set (gr_set (World.grownBy.refl _ _) 0 _) 1 _))⟩

set_option maxHeartbeats 1000000 in
theorem save_counter (p T : Nat) (x1 : Int) (y0 : Bool) (w : World) (hp : w.heap[p]? = some (.cells #[.bool y0, .int .i64 x1] T)) :
    Calls Try.prog 64 #[.pointer (some ⟨p, 0, none⟩)] w fun e w' => e = .returned (.slice (some ⟨w.heap.size, 0, none⟩) 2 2) ∧ w'.heap[w.heap.size]? = some (.cells #[.int .i64 (yesN y0), .int .i64 x1] 3) ∧ w.grownBy w' none := by
  have d0 := at_cell hp 0
  have d1 := at_cell hp 1
  simp at d0 d1
  have hlt := at_lt hp
  go_enter Try.func64, Try.ntmps64
  go_wp2_with (first | (go_at_call 50; refine (word_any _ _).mono ?_; rintro e w' ⟨rfl, rfl⟩))
  go_region_held3 (fun w' => w'.cell? ⟨p, 0, none⟩ = some (.bool y0) ∧ w'.cell? ⟨p, 1, none⟩ = some (.int .i64 x1)) (go_keep) (first | (go_at_call 50; refine (word_any _ _).mono ?_; rintro e w' ⟨rfl, rfl⟩))
  all_goals go_wp2
  all_goals go_ret
  all_goals exact ⟨rfl, heap_alloc_new _ _, (gr_drew (gr_alloc (World.grownBy.refl _ _) _))⟩

set_option maxHeartbeats 1000000 in
theorem load_ctud (p b T E : Nat) (x0 x1 x2 : Int) (u0 u1 u2 : Value) (w : World) (hp : w.heap[p]? = some (.cells #[u0, u1, u2] T)) (hb : w.heap[b]? = some (.cells #[.int .i64 x0, .int .i64 x1, .int .i64 x2] E)) (hne : p ≠ b) :
    Calls Try.prog 73 #[.pointer (some ⟨p, 0, none⟩), .slice (some ⟨b, 0, none⟩) 3 3] w fun e w' => e = .returned (.tuple #[]) ∧ w'.heap[p]? = some (.cells #[.bool (x0 != 0), .bool (x1 != 0), .int .i64 x2] T) ∧ w.grownBy w' (some p) := by
  have c0 := at_cell hb 0
  have d0 := at_cell hp 0
  have f0 := at_frozen hp 0
  have c1 := at_cell hb 1
  have d1 := at_cell hp 1
  have f1 := at_frozen hp 1
  have c2 := at_cell hb 2
  have d2 := at_cell hp 2
  have f2 := at_frozen hp 2
  simp at c0 d0 c1 d1 c2 d2
  go_enter Try.func73, Try.ntmps73
  go_wp2_with (first | (go_at_call 49; refine (truth_any _ _).mono ?_; rintro e w' ⟨rfl, rfl⟩))
  go_region_held3 (fun w' => w'.cell? ⟨b, 0, none⟩ = some (.int .i64 x0) ∧ w'.cell? ⟨b, 1, none⟩ = some (.int .i64 x1) ∧ w'.cell? ⟨b, 2, none⟩ = some (.int .i64 x2)) (go_keep) (first | (go_at_call 49; refine (truth_any _ _).mono ?_; rintro e w' ⟨rfl, rfl⟩))
  all_goals go_wp2
  all_goals go_end0
  all_goals exact ⟨rfl, by have h := (at_set (at_set (at_set hp 0 (.bool (x0 != 0))) 1 (.bool (x1 != 0))) 2 (.int .i64 x2)); simp at h; exact h, (gr_drew (gr_set (gr_set (gr_set (World.grownBy.refl _ _) 0 _) 1 _) 2 _))⟩

set_option maxHeartbeats 1000000 in
theorem save_ctud (p T : Nat) (x2 : Int) (y0 y1 : Bool) (w : World) (hp : w.heap[p]? = some (.cells #[.bool y0, .bool y1, .int .i64 x2] T)) :
    Calls Try.prog 74 #[.pointer (some ⟨p, 0, none⟩)] w fun e w' => e = .returned (.slice (some ⟨w.heap.size, 0, none⟩) 3 3) ∧ w'.heap[w.heap.size]? = some (.cells #[.int .i64 (yesN y0), .int .i64 (yesN y1), .int .i64 x2] 3) ∧ w.grownBy w' none := by
  have d0 := at_cell hp 0
  have d1 := at_cell hp 1
  have d2 := at_cell hp 2
  simp at d0 d1 d2
  have hlt := at_lt hp
  go_enter Try.func74, Try.ntmps74
  go_wp2_with (first | (go_at_call 50; refine (word_any _ _).mono ?_; rintro e w' ⟨rfl, rfl⟩))
  go_region_held3 (fun w' => w'.cell? ⟨p, 0, none⟩ = some (.bool y0) ∧ w'.cell? ⟨p, 1, none⟩ = some (.bool y1) ∧ w'.cell? ⟨p, 2, none⟩ = some (.int .i64 x2)) (go_keep) (first | (go_at_call 50; refine (word_any _ _).mono ?_; rintro e w' ⟨rfl, rfl⟩))
  all_goals go_wp2
  all_goals go_ret
  all_goals exact ⟨rfl, heap_alloc_new _ _, (gr_drew (gr_alloc (World.grownBy.refl _ _) _))⟩

set_option maxHeartbeats 1000000 in
theorem load_edge (p b T E : Nat) (x0 : Int) (u0 : Value) (w : World) (hp : w.heap[p]? = some (.cells #[u0] T)) (hb : w.heap[b]? = some (.cells #[.int .i64 x0] E)) (_hne : p ≠ b) :
    Calls Try.prog 77 #[.pointer (some ⟨p, 0, none⟩), .slice (some ⟨b, 0, none⟩) 1 1] w fun e w' => e = .returned (.tuple #[]) ∧ w'.heap[p]? = some (.cells #[.bool (x0 != 0)] T) ∧ w.grownBy w' (some p) := by
  have c0 := at_cell hb 0
  have d0 := at_cell hp 0
  have f0 := at_frozen hp 0
  simp at c0 d0
  go_enter Try.func77, Try.ntmps77
  go_wp2_with (first | (go_at_call 49; refine (truth_any _ _).mono ?_; rintro e w' ⟨rfl, rfl⟩))
  all_goals go_end0
  all_goals exact ⟨rfl, by have h := (at_set hp 0 (.bool (x0 != 0))); simp at h; exact h, (gr_set (World.grownBy.refl _ _) 0 _)⟩

set_option maxHeartbeats 1000000 in
theorem save_edge (p T : Nat) (y0 : Bool) (w : World) (hp : w.heap[p]? = some (.cells #[.bool y0] T)) :
    Calls Try.prog 78 #[.pointer (some ⟨p, 0, none⟩)] w fun e w' => e = .returned (.slice (some ⟨w.heap.size, 0, none⟩) 1 1) ∧ w'.heap[w.heap.size]? = some (.cells #[.int .i64 (yesN y0)] 3) ∧ w.grownBy w' none := by
  have d0 := at_cell hp 0
  simp at d0
  have hlt := at_lt hp
  go_enter Try.func78, Try.ntmps78
  go_wp2_with (first | (go_at_call 50; refine (word_any _ _).mono ?_; rintro e w' ⟨rfl, rfl⟩))
  all_goals go_ret
  all_goals exact ⟨rfl, heap_alloc_new _ _, (gr_alloc (World.grownBy.refl _ _) _)⟩

set_option maxHeartbeats 1000000 in
theorem load_latch (p b T E : Nat) (x0 : Int) (u0 : Value) (w : World) (hp : w.heap[p]? = some (.cells #[u0] T)) (hb : w.heap[b]? = some (.cells #[.int .i64 x0] E)) (_hne : p ≠ b) :
    Calls Try.prog 82 #[.pointer (some ⟨p, 0, none⟩), .slice (some ⟨b, 0, none⟩) 1 1] w fun e w' => e = .returned (.tuple #[]) ∧ w'.heap[p]? = some (.cells #[.bool (x0 != 0)] T) ∧ w.grownBy w' (some p) := by
  have c0 := at_cell hb 0
  have d0 := at_cell hp 0
  have f0 := at_frozen hp 0
  simp at c0 d0
  go_enter Try.func82, Try.ntmps82
  go_wp2_with (first | (go_at_call 49; refine (truth_any _ _).mono ?_; rintro e w' ⟨rfl, rfl⟩))
  all_goals go_end0
  all_goals exact ⟨rfl, by have h := (at_set hp 0 (.bool (x0 != 0))); simp at h; exact h, (gr_set (World.grownBy.refl _ _) 0 _)⟩

set_option maxHeartbeats 1000000 in
theorem save_latch (p T : Nat) (y0 : Bool) (w : World) (hp : w.heap[p]? = some (.cells #[.bool y0] T)) :
    Calls Try.prog 83 #[.pointer (some ⟨p, 0, none⟩)] w fun e w' => e = .returned (.slice (some ⟨w.heap.size, 0, none⟩) 1 1) ∧ w'.heap[w.heap.size]? = some (.cells #[.int .i64 (yesN y0)] 3) ∧ w.grownBy w' none := by
  have d0 := at_cell hp 0
  simp at d0
  have hlt := at_lt hp
  go_enter Try.func83, Try.ntmps83
  go_wp2_with (first | (go_at_call 50; refine (word_any _ _).mono ?_; rintro e w' ⟨rfl, rfl⟩))
  all_goals go_ret
  all_goals exact ⟨rfl, heap_alloc_new _ _, (gr_alloc (World.grownBy.refl _ _) _)⟩

set_option maxHeartbeats 1000000 in
theorem load_ramp (p b T E : Nat) (x0 : Int) (u0 : Value) (w : World) (hp : w.heap[p]? = some (.cells #[u0] T)) (hb : w.heap[b]? = some (.cells #[.int .i64 x0] E)) (_hne : p ≠ b) :
    Calls Try.prog 89 #[.pointer (some ⟨p, 0, none⟩), .slice (some ⟨b, 0, none⟩) 1 1] w fun e w' => e = .returned (.tuple #[]) ∧ w'.heap[p]? = some (.cells #[.int .i64 x0] T) ∧ w.grownBy w' (some p) := by
  have c0 := at_cell hb 0
  have d0 := at_cell hp 0
  have f0 := at_frozen hp 0
  simp at c0 d0
  go_enter Try.func89, Try.ntmps89
  go_wp2_with (fail)
  all_goals go_end0
  all_goals exact ⟨rfl, by have h := (at_set hp 0 (.int .i64 x0)); simp at h; exact h, (gr_set (World.grownBy.refl _ _) 0 _)⟩

set_option maxHeartbeats 1000000 in
theorem save_ramp (p T : Nat) (x0 : Int) (w : World) (hp : w.heap[p]? = some (.cells #[.int .i64 x0] T)) :
    Calls Try.prog 90 #[.pointer (some ⟨p, 0, none⟩)] w fun e w' => e = .returned (.slice (some ⟨w.heap.size, 0, none⟩) 1 1) ∧ w'.heap[w.heap.size]? = some (.cells #[.int .i64 x0] 3) ∧ w.grownBy w' none := by
  have d0 := at_cell hp 0
  simp at d0
  have hlt := at_lt hp
  go_enter Try.func90, Try.ntmps90
  go_wp2_with (fail)
  all_goals go_ret
  all_goals exact ⟨rfl, heap_alloc_new _ _, (gr_alloc (World.grownBy.refl _ _) _)⟩

end Go.Proofs.Ytphnadhkoigegaa
