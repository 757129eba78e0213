/- Texts put together: BlA, BlB, BlC, BlD, BlF0, BlF1, BlF2, BlF3, BlF4. -/
import Derived.Test.YtcgbfhpmkpglkaaGreatDoorQ03
import Derived.Test.YtcgbfhpmkpglkaaGreatDoorRows
import Derived.WalkSpells
import Derived.WalkLawsBesides
import Derived.Outline
import Derived.Deep.RegionHeld3
import Derived.Deep.DrawnRows
import Derived.Maps.AppendAt
import Derived.BigQuiet
/- Contracts of the program's Wrap and of the document's Width, Wrap, yes. -/
namespace Go.Proofs.YtcgbfhpmkpglkaaGreatDoor.Bl
open Go.RowKit

def yesN (b : Bool) : Int := if b then 1 else 0

theorem ret_int {k : IntKind} {a b : Int} (h : a = b) : Ending.returned (.int k a) = .returned (.int k b) := by rw [h]

theorem ret_bool {a b : Bool} (h : a = b) : Ending.returned (.bool a) = .returned (.bool b) := by rw [h]

set_option maxHeartbeats 400000 in
theorem wrap_any (k n : Int) (w : World) :
    Calls Tryz.prog 71 #[.int .i64 k, .int .i64 n] w fun e w' => e = .returned (.int .i64 (wrapK k n)) ∧ w' = w := by
  go_enter Tryz.func71, Tryz.ntmps71
  go_wp2
  · go_ret
    have e : k = 1 := by simpa using ‹(k == 1) = true›
    exact ⟨ret_int (by rw [e, wrapK1]; exact and1 n), rfl⟩
  · go_ret
    have e : k = 2 := by simpa using ‹(k == 2) = true›
    exact ⟨ret_int (by show wrap64 (IntKind.i16.wrap n) = _; rw [e, wrapK2, i16_is, wrap64_id (by omega) (by omega)]), rfl⟩
  · go_ret
    have e : k = 3 := by simpa using ‹(k == 3) = true›
    exact ⟨ret_int (by show wrap64 (wrap32 n) = _; rw [e, wrapK3]; unfold wrap32; rw [wrap64_id (by omega) (by omega)]), rfl⟩
  · go_ret
    have e : k = 4 := by simpa using ‹(k == 4) = true›
    exact ⟨ret_int (by show wrap64 (IntKind.u16.wrap n) = _; rw [e, wrapK4, u16_is, wrap64_id (by omega) (by omega)]), rfl⟩
  · go_ret
    have e : k = 5 := by simpa using ‹(k == 5) = true›
    exact ⟨ret_int (by show n % 4294967296 = _; rw [e, wrapK5]), rfl⟩
  · go_ret
    exact ⟨ret_int (by show 0 = _; rw [wrapK_else n (by simp_all) (by simp_all) (by simp_all) (by simp_all) (by simp_all)]), rfl⟩

def wideS (k : Int) : Int := if k == 1 then 2 else if k == 2 then 65536 else if k == 3 then 4294967296 else if k == 4 then 65536 else if k == 5 then 4294967296 else 0

def wideL (k : Int) : Int := if k == 1 then 0 else if k == 2 then -32768 else if k == 3 then -2147483648 else 0

set_option maxHeartbeats 400000 in
theorem width_any (k : Int) (w : World) :
    Calls Tryz.prog 61 #[.int .i64 k] w fun e w' => e = .returned (.tuple #[.int .i64 (wideS k), .int .i64 (wideL k)]) ∧ w' = w := by
  go_enter Tryz.func61, Tryz.ntmps61
  go_wp2
  all_goals go_ret2
  all_goals refine ⟨?_, rfl⟩
  all_goals simp [wideS, wideL, *]

theorem kinds (k : Int) : k = 1 ∨ k = 2 ∨ k = 3 ∨ k = 4 ∨ k = 5 ∨ (k ≠ 1 ∧ k ≠ 2 ∧ k ≠ 3 ∧ k ≠ 4 ∧ k ≠ 5) := by omega

theorem tmod_cases (n s : Int) : (0 ≤ n ∧ n.tmod s = n % s) ∨ (n < 0 ∧ n.tmod s = -((-n) % s)) := by
  rcases Int.lt_or_le n 0 with h1 | h1
  · right
    refine ⟨h1, ?_⟩
    have : n.tmod s = -((-n).tmod s) := by rw [Int.neg_tmod, Int.neg_neg]
    rw [this, Int.tmod_eq_emod_of_nonneg (by omega)]
  · left
    exact ⟨h1, Int.tmod_eq_emod_of_nonneg h1⟩

set_option maxHeartbeats 1000000 in
theorem rwrap_any (k n : Int) (w : World) :
    Calls Tryz.prog 42 #[.int .i64 k, .int .i64 n] w fun e w' => e = .returned (.int .i64 (wrapK k n)) ∧ w' = w := by
  rcases kinds k with rfl | rfl | rfl | rfl | rfl | ⟨h1, h2, h3, h4, h5⟩
  · have e1 : wideS 1 = 2 := rfl
    have e2 : wideL 1 = 0 := rfl
    have ht := tmod_cases n 2
    have HT : Hid ((0 ≤ n ∧ n.tmod 2 = n % 2) ∨ (n < 0 ∧ n.tmod 2 = -((-n) % 2))) := ht
    have hb : -2 < n.tmod 2 ∧ n.tmod 2 < 2 := by omega
    clear ht
    go_enter Tryz.func42, Tryz.ntmps42
    go_wp2_with (go_at_call 61; refine (width_any _ _).mono ?_; rintro e w' ⟨rfl, rfl⟩)
    all_goals go_ret
    all_goals refine ⟨ret_int ?_, rfl⟩
    all_goals
      have := HT.out
      rw [wrapK1]
      clear HT e1 e2
      omega
  · have e1 : wideS 2 = 65536 := rfl
    have e2 : wideL 2 = -32768 := rfl
    have ht := tmod_cases n 65536
    have HT : Hid ((0 ≤ n ∧ n.tmod 65536 = n % 65536) ∨ (n < 0 ∧ n.tmod 65536 = -((-n) % 65536))) := ht
    have hb : -65536 < n.tmod 65536 ∧ n.tmod 65536 < 65536 := by omega
    clear ht
    go_enter Tryz.func42, Tryz.ntmps42
    go_wp2_with (go_at_call 61; refine (width_any _ _).mono ?_; rintro e w' ⟨rfl, rfl⟩)
    all_goals go_ret
    all_goals refine ⟨ret_int ?_, rfl⟩
    all_goals
      have := HT.out
      rw [wrapK2]
      clear HT e1 e2
      omega
  · have e1 : wideS 3 = 4294967296 := rfl
    have e2 : wideL 3 = -2147483648 := rfl
    have ht := tmod_cases n 4294967296
    have HT : Hid ((0 ≤ n ∧ n.tmod 4294967296 = n % 4294967296) ∨ (n < 0 ∧ n.tmod 4294967296 = -((-n) % 4294967296))) := ht
    have hb : -4294967296 < n.tmod 4294967296 ∧ n.tmod 4294967296 < 4294967296 := by omega
    clear ht
    go_enter Tryz.func42, Tryz.ntmps42
    go_wp2_with (go_at_call 61; refine (width_any _ _).mono ?_; rintro e w' ⟨rfl, rfl⟩)
    all_goals go_ret
    all_goals refine ⟨ret_int ?_, rfl⟩
    all_goals
      have := HT.out
      rw [wrapK3]
      clear HT e1 e2
      omega
  · have e1 : wideS 4 = 65536 := rfl
    have e2 : wideL 4 = 0 := rfl
    have ht := tmod_cases n 65536
    have HT : Hid ((0 ≤ n ∧ n.tmod 65536 = n % 65536) ∨ (n < 0 ∧ n.tmod 65536 = -((-n) % 65536))) := ht
    have hb : -65536 < n.tmod 65536 ∧ n.tmod 65536 < 65536 := by omega
    clear ht
    go_enter Tryz.func42, Tryz.ntmps42
    go_wp2_with (go_at_call 61; refine (width_any _ _).mono ?_; rintro e w' ⟨rfl, rfl⟩)
    all_goals go_ret
    all_goals refine ⟨ret_int ?_, rfl⟩
    all_goals
      have := HT.out
      rw [wrapK4]
      clear HT e1 e2
      omega
  · have e1 : wideS 5 = 4294967296 := rfl
    have e2 : wideL 5 = 0 := rfl
    have ht := tmod_cases n 4294967296
    have HT : Hid ((0 ≤ n ∧ n.tmod 4294967296 = n % 4294967296) ∨ (n < 0 ∧ n.tmod 4294967296 = -((-n) % 4294967296))) := ht
    have hb : -4294967296 < n.tmod 4294967296 ∧ n.tmod 4294967296 < 4294967296 := by omega
    clear ht
    go_enter Tryz.func42, Tryz.ntmps42
    go_wp2_with (go_at_call 61; refine (width_any _ _).mono ?_; rintro e w' ⟨rfl, rfl⟩)
    all_goals go_ret
    all_goals refine ⟨ret_int ?_, rfl⟩
    all_goals
      have := HT.out
      rw [wrapK5]
      clear HT e1 e2
      omega
  · have e1 : wideS k = 0 := by simp [wideS, h1, h2, h3, h4, h5]
    have HW : Hid (wrapK k n = 0) := wrapK_else n h1 h2 h3 h4 h5
    clear h1 h2 h3 h4 h5
    go_enter Tryz.func42, Tryz.ntmps42
    go_wp2_with (go_at_call 61; refine (width_any _ _).mono ?_; rintro e w' ⟨rfl, rfl⟩)
    go_ret
    exact ⟨ret_int (by rw [HW.out]), rfl⟩

theorem yes_any (b : Bool) (w : World) :
    Calls Tryz.prog 28 #[.bool b] w fun e w' => e = .returned (.int .i64 (yesN b)) ∧ w' = w := by
  cases b
  · go_enter Tryz.func28, Tryz.ntmps28
    go_wp2
    go_ret
    exact ⟨rfl, rfl⟩
  · go_enter Tryz.func28, Tryz.ntmps28
    go_wp2
    go_ret
    exact ⟨rfl, rfl⟩

end Go.Proofs.YtcgbfhpmkpglkaaGreatDoor.Bl

/- Contracts of the small functions of package blocks: truth, word, more, less, the pins. -/
namespace Go.Proofs.YtcgbfhpmkpglkaaGreatDoor.Bl
open Go.RowKit

theorem truth_any (n : Int) (w : World) : Calls Tryz.prog 119 #[.int .i64 n] w fun e w' => e = .returned (.bool (n != 0)) ∧ w' = w := by
  go_enter Tryz.func119, Tryz.ntmps119
  go_wp2
  go_ret
  exact ⟨ret_bool (by simp), rfl⟩

theorem word_any (b : Bool) (w : World) : Calls Tryz.prog 120 #[.bool b] w fun e w' => e = .returned (.int .i64 (yesN b)) ∧ w' = w := by
  cases b
  · go_enter Tryz.func120, Tryz.ntmps120
    go_wp2
    go_ret
    exact ⟨ret_int rfl, rfl⟩
  · go_enter Tryz.func120, Tryz.ntmps120
    go_wp2
    go_ret
    exact ⟨ret_int rfl, rfl⟩

def moreN (n : Int) : Int := min (n + 1) 32767
def lessN (n : Int) : Int := max (n - 1) (-32768)
theorem more_any (n : Int) (w : World) (h0 : -32768 ≤ n) (h1 : n ≤ 32767) : Calls Tryz.prog 138 #[.int .i64 n] w fun e w' => e = .returned (.int .i64 (moreN n)) ∧ w' = w := by
  go_enter Tryz.func138, Tryz.ntmps138
  go_wp2
  all_goals go_ret
  all_goals exact ⟨ret_int (by unfold moreN; omega), rfl⟩
theorem less_any (n : Int) (w : World) (h0 : -32768 ≤ n) (h1 : n ≤ 32767) : Calls Tryz.prog 142 #[.int .i64 n] w fun e w' => e = .returned (.int .i64 (lessN n)) ∧ w' = w := by
  go_enter Tryz.func142, Tryz.ntmps142
  go_wp2
  all_goals go_ret
  all_goals exact ⟨ret_int (by unfold lessN; omega), rfl⟩

theorem boolPin_any (s : ByteArray) (w : World) : Calls Tryz.prog 124 #[.string s] w fun e w' => e = .returned (.agg #[.string s, .int .i64 1]) ∧ w' = w.alloc (.cells #[.string s, .int .i64 1] 113) := by
  go_enter Tryz.func124, Tryz.ntmps124
  go_wp2
  exact bodyPost_ret (v := .agg #[.string s, .int .i64 1]) (by simp [results, Tryz.results124, go_sem]) rfl ⟨rfl, rfl⟩
theorem timePin_any (s : ByteArray) (w : World) : Calls Tryz.prog 125 #[.string s] w fun e w' => e = .returned (.agg #[.string s, .int .i64 5]) ∧ w' = w.alloc (.cells #[.string s, .int .i64 5] 113) := by
  go_enter Tryz.func125, Tryz.ntmps125
  go_wp2
  exact bodyPost_ret (v := .agg #[.string s, .int .i64 5]) (by simp [results, Tryz.results125, go_sem]) rfl ⟨rfl, rfl⟩
theorem intPin_any (s : ByteArray) (w : World) : Calls Tryz.prog 139 #[.string s] w fun e w' => e = .returned (.agg #[.string s, .int .i64 2]) ∧ w' = w.alloc (.cells #[.string s, .int .i64 2] 113) := by
  go_enter Tryz.func139, Tryz.ntmps139
  go_wp2
  exact bodyPost_ret (v := .agg #[.string s, .int .i64 2]) (by simp [results, Tryz.results139, go_sem]) rfl ⟨rfl, rfl⟩

end Go.Proofs.YtcgbfhpmkpglkaaGreatDoor.Bl

/- What becomes of a block of one's own, and of the rest; loads and saves. -/
namespace Go.Proofs.YtcgbfhpmkpglkaaGreatDoor.Bl
open Go.RowKit
attribute [local go_sem ↓] Go.wp_at_zero Go.wp_at_succ

theorem gr_set {w W : World} {p : Nat} (h : w.grownBy W (some p)) (i : Nat) (v : Value) : w.grownBy (W.setCell ⟨p, i, none⟩ v) (some p) :=
  ⟨h.os, h.tape, h.output, by simpa using h.size, fun k hk hne => by rw [Below.heap_setCell _ _ _ _ (fun e => hne (by rw [e]))]; exact h.block k hk hne⟩
theorem gr_alloc {w W : World} {r : Option Nat} (h : w.grownBy W r) (o : Obj) : w.grownBy (W.alloc o) r :=
  ⟨h.os, h.tape, h.output, by simp; have := h.size; omega, fun k hk hne => by rw [Below.heap_alloc _ _ _ (Nat.lt_of_lt_of_le hk h.size)]; exact h.block k hk hne⟩
theorem gr_drew {w W : World} {r : Option Nat} (h : w.grownBy W r) : w.grownBy W.drew r := ⟨h.os, h.tape, h.output, h.size, h.block⟩

theorem at_set {W : World} {p : Nat} {cs : Array Value} {T : TypeId} (h : W.heap[p]? = some (.cells cs T)) (i : Nat) (v : Value) : (W.setCell ⟨p, i, none⟩ v).heap[p]? = some (.cells (cs.setIfInBounds i v) T) :=
  heap_setCell_same W p i cs T v h
theorem at_cell {W : World} {p : Nat} {cs : Array Value} {T : TypeId} (h : W.heap[p]? = some (.cells cs T)) (i : Nat) : W.cell? ⟨p, i, none⟩ = cs[i]? := by
  simp [World.cell?, h]
theorem at_frozen {W : World} {p : Nat} {cs : Array Value} {T : TypeId} (h : W.heap[p]? = some (.cells cs T)) (i : Nat) : W.frozen? ⟨p, i, none⟩ = false := by
  simp [World.frozen?, h]
theorem at_lt {W : World} {p : Nat} {o : Obj} (h : W.heap[p]? = some o) : p < W.heap.size := (Array.getElem?_eq_some_iff.1 h).1

/-- A world made of another by stores into block p, new blocks and draws. -/
theorem gr_none {w W : World} {p : Nat} (h : w.grownBy W none) : w.grownBy W (some p) := ⟨h.os, h.tape, h.output, h.size, fun k hk _ => h.block k hk (by simp)⟩

set_option maxHeartbeats 1000000 in
theorem load_timer (p b T E : Nat) (x0 x1 x2 x3 : Int) (u0 u1 u2 u3 : Value) (w : World) (hp : w.heap[p]? = some (.cells #[u0, u1, u2, u3] T)) (hb : w.heap[b]? = some (.cells #[.int .i64 x0, .int .i64 x1, .int .i64 x2, .int .i64 x3] E)) (hne : p ≠ b) :
    Calls Tryz.prog 114 #[.pointer (some ⟨p, 0, none⟩), .slice (some ⟨b, 0, none⟩) 4 4] w fun e w' => e = .returned (.tuple #[]) ∧ w'.heap[p]? = some (.cells #[.bool (x0 != 0), .int .i64 x1, .bool (x2 != 0), .int .i64 x3] T) ∧ w.grownBy w' (some p) := by
  have c0 := at_cell hb 0
  have d0 := at_cell hp 0
  have f0 := at_frozen hp 0
  have c1 := at_cell hb 1
  have d1 := at_cell hp 1
  have f1 := at_frozen hp 1
  have c2 := at_cell hb 2
  have d2 := at_cell hp 2
  have f2 := at_frozen hp 2
  have c3 := at_cell hb 3
  have d3 := at_cell hp 3
  have f3 := at_frozen hp 3
  simp at c0 d0 c1 d1 c2 d2 c3 d3
  go_enter Tryz.func114, Tryz.ntmps114
  go_wp2_with (first | (go_at_call 119; refine (truth_any _ _).mono ?_; rintro e w' ⟨rfl, rfl⟩))
  go_region_held3 (fun w' => w'.cell? ⟨b, 0, none⟩ = some (.int .i64 x0) ∧ w'.cell? ⟨b, 1, none⟩ = some (.int .i64 x1) ∧ w'.cell? ⟨b, 2, none⟩ = some (.int .i64 x2) ∧ w'.cell? ⟨b, 3, none⟩ = some (.int .i64 x3)) (go_keep) (first | (go_at_call 119; refine (truth_any _ _).mono ?_; rintro e w' ⟨rfl, rfl⟩))
  all_goals go_wp2
  all_goals go_end0
  all_goals exact ⟨rfl, by have h := (at_set (at_set (at_set (at_set hp 0 (.bool (x0 != 0))) 1 (.int .i64 x1)) 2 (.bool (x2 != 0))) 3 (.int .i64 x3)); simp at h; exact h, (gr_drew (gr_set (gr_set (gr_set (gr_set (World.grownBy.refl _ _) 0 _) 1 _) 2 _) 3 _))⟩

set_option maxHeartbeats 1000000 in
theorem save_timer (p T : Nat) (x1 x3 : Int) (y0 y2 : Bool) (w : World) (hp : w.heap[p]? = some (.cells #[.bool y0, .int .i64 x1, .bool y2, .int .i64 x3] T)) :
    Calls Tryz.prog 115 #[.pointer (some ⟨p, 0, none⟩)] w fun e w' => e = .returned (.slice (some ⟨w.heap.size, 0, none⟩) 4 4) ∧ w'.heap[w.heap.size]? = some (.cells #[.int .i64 (yesN y0), .int .i64 x1, .int .i64 (yesN y2), .int .i64 x3] 3) ∧ w.grownBy w' none := by
  have d0 := at_cell hp 0
  have d1 := at_cell hp 1
  have d2 := at_cell hp 2
  have d3 := at_cell hp 3
  simp at d0 d1 d2 d3
  have hlt := at_lt hp
  go_enter Tryz.func115, Tryz.ntmps115
  go_wp2_with (first | (go_at_call 120; refine (word_any _ _).mono ?_; rintro e w' ⟨rfl, rfl⟩))
  go_region_held3 (fun w' => w'.cell? ⟨p, 0, none⟩ = some (.bool y0) ∧ w'.cell? ⟨p, 1, none⟩ = some (.int .i64 x1) ∧ w'.cell? ⟨p, 2, none⟩ = some (.bool y2) ∧ w'.cell? ⟨p, 3, none⟩ = some (.int .i64 x3)) (go_keep) (first | (go_at_call 120; refine (word_any _ _).mono ?_; rintro e w' ⟨rfl, rfl⟩))
  all_goals go_wp2
  all_goals go_ret
  all_goals exact ⟨rfl, heap_alloc_new _ _, (gr_drew (gr_alloc (World.grownBy.refl _ _) _))⟩

set_option maxHeartbeats 1000000 in
theorem load_counter (p b T E : Nat) (x0 x1 : Int) (u0 u1 : Value) (w : World) (hp : w.heap[p]? = some (.cells #[u0, u1] T)) (hb : w.heap[b]? = some (.cells #[.int .i64 x0, .int .i64 x1] E)) (hne : p ≠ b) :
    Calls Tryz.prog 132 #[.pointer (some ⟨p, 0, none⟩), .slice (some ⟨b, 0, none⟩) 2 2] w fun e w' => e = .returned (.tuple #[]) ∧ w'.heap[p]? = some (.cells #[.bool (x0 != 0), .int .i64 x1] T) ∧ w.grownBy w' (some p) := by
  have c0 := at_cell hb 0
  have d0 := at_cell hp 0
  have f0 := at_frozen hp 0
  have c1 := at_cell hb 1
  have d1 := at_cell hp 1
  have f1 := at_frozen hp 1
  simp at c0 d0 c1 d1
  go_enter Tryz.func132, Tryz.ntmps132
  go_wp2_with (first | (go_at_call 119; refine (truth_any _ _).mono ?_; rintro e w' ⟨rfl, rfl⟩))
  go_region_held3 (fun w' => w'.cell? ⟨b, 0, none⟩ = some (.int .i64 x0) ∧ w'.cell? ⟨b, 1, none⟩ = some (.int .i64 x1)) (go_keep) (first | (go_at_call 119; refine (truth_any _ _).mono ?_; rintro e w' ⟨rfl, rfl⟩))
  all_goals go_wp2
  all_goals go_end0
  all_goals exact ⟨rfl, by have h := (at_set (at_set hp 0 (.bool (x0 != 0))) 1 (.int .i64 x1)); simp at h; exact h, (gr_drew (gr_set (gr_set (World.grownBy.refl _ _) 0 _) 1 _))⟩

set_option maxHeartbeats 1000000 in
theorem save_counter (p T : Nat) (x1 : Int) (y0 : Bool) (w : World) (hp : w.heap[p]? = some (.cells #[.bool y0, .int .i64 x1] T)) :
    Calls Tryz.prog 134 #[.pointer (some ⟨p, 0, none⟩)] w fun e w' => e = .returned (.slice (some ⟨w.heap.size, 0, none⟩) 2 2) ∧ w'.heap[w.heap.size]? = some (.cells #[.int .i64 (yesN y0), .int .i64 x1] 3) ∧ w.grownBy w' none := by
  have d0 := at_cell hp 0
  have d1 := at_cell hp 1
  simp at d0 d1
  have hlt := at_lt hp
  go_enter Tryz.func134, Tryz.ntmps134
  go_wp2_with (first | (go_at_call 120; refine (word_any _ _).mono ?_; rintro e w' ⟨rfl, rfl⟩))
  go_region_held3 (fun w' => w'.cell? ⟨p, 0, none⟩ = some (.bool y0) ∧ w'.cell? ⟨p, 1, none⟩ = some (.int .i64 x1)) (go_keep) (first | (go_at_call 120; refine (word_any _ _).mono ?_; rintro e w' ⟨rfl, rfl⟩))
  all_goals go_wp2
  all_goals go_ret
  all_goals exact ⟨rfl, heap_alloc_new _ _, (gr_drew (gr_alloc (World.grownBy.refl _ _) _))⟩

set_option maxHeartbeats 1000000 in
theorem load_ctud (p b T E : Nat) (x0 x1 x2 : Int) (u0 u1 u2 : Value) (w : World) (hp : w.heap[p]? = some (.cells #[u0, u1, u2] T)) (hb : w.heap[b]? = some (.cells #[.int .i64 x0, .int .i64 x1, .int .i64 x2] E)) (hne : p ≠ b) :
    Calls Tryz.prog 143 #[.pointer (some ⟨p, 0, none⟩), .slice (some ⟨b, 0, none⟩) 3 3] w fun e w' => e = .returned (.tuple #[]) ∧ w'.heap[p]? = some (.cells #[.bool (x0 != 0), .bool (x1 != 0), .int .i64 x2] T) ∧ w.grownBy w' (some p) := by
  have c0 := at_cell hb 0
  have d0 := at_cell hp 0
  have f0 := at_frozen hp 0
  have c1 := at_cell hb 1
  have d1 := at_cell hp 1
  have f1 := at_frozen hp 1
  have c2 := at_cell hb 2
  have d2 := at_cell hp 2
  have f2 := at_frozen hp 2
  simp at c0 d0 c1 d1 c2 d2
  go_enter Tryz.func143, Tryz.ntmps143
  go_wp2_with (first | (go_at_call 119; refine (truth_any _ _).mono ?_; rintro e w' ⟨rfl, rfl⟩))
  go_region_held3 (fun w' => w'.cell? ⟨b, 0, none⟩ = some (.int .i64 x0) ∧ w'.cell? ⟨b, 1, none⟩ = some (.int .i64 x1) ∧ w'.cell? ⟨b, 2, none⟩ = some (.int .i64 x2)) (go_keep) (first | (go_at_call 119; refine (truth_any _ _).mono ?_; rintro e w' ⟨rfl, rfl⟩))
  all_goals go_wp2
  all_goals go_end0
  all_goals exact ⟨rfl, by have h := (at_set (at_set (at_set hp 0 (.bool (x0 != 0))) 1 (.bool (x1 != 0))) 2 (.int .i64 x2)); simp at h; exact h, (gr_drew (gr_set (gr_set (gr_set (World.grownBy.refl _ _) 0 _) 1 _) 2 _))⟩

set_option maxHeartbeats 1000000 in
theorem save_ctud (p T : Nat) (x2 : Int) (y0 y1 : Bool) (w : World) (hp : w.heap[p]? = some (.cells #[.bool y0, .bool y1, .int .i64 x2] T)) :
    Calls Tryz.prog 144 #[.pointer (some ⟨p, 0, none⟩)] w fun e w' => e = .returned (.slice (some ⟨w.heap.size, 0, none⟩) 3 3) ∧ w'.heap[w.heap.size]? = some (.cells #[.int .i64 (yesN y0), .int .i64 (yesN y1), .int .i64 x2] 3) ∧ w.grownBy w' none := by
  have d0 := at_cell hp 0
  have d1 := at_cell hp 1
  have d2 := at_cell hp 2
  simp at d0 d1 d2
  have hlt := at_lt hp
  go_enter Tryz.func144, Tryz.ntmps144
  go_wp2_with (first | (go_at_call 120; refine (word_any _ _).mono ?_; rintro e w' ⟨rfl, rfl⟩))
  go_region_held3 (fun w' => w'.cell? ⟨p, 0, none⟩ = some (.bool y0) ∧ w'.cell? ⟨p, 1, none⟩ = some (.bool y1) ∧ w'.cell? ⟨p, 2, none⟩ = some (.int .i64 x2)) (go_keep) (first | (go_at_call 120; refine (word_any _ _).mono ?_; rintro e w' ⟨rfl, rfl⟩))
  all_goals go_wp2
  all_goals go_ret
  all_goals exact ⟨rfl, heap_alloc_new _ _, (gr_drew (gr_alloc (World.grownBy.refl _ _) _))⟩

set_option maxHeartbeats 1000000 in
theorem load_edge (p b T E : Nat) (x0 : Int) (u0 : Value) (w : World) (hp : w.heap[p]? = some (.cells #[u0] T)) (hb : w.heap[b]? = some (.cells #[.int .i64 x0] E)) (_hne : p ≠ b) :
    Calls Tryz.prog 147 #[.pointer (some ⟨p, 0, none⟩), .slice (some ⟨b, 0, none⟩) 1 1] w fun e w' => e = .returned (.tuple #[]) ∧ w'.heap[p]? = some (.cells #[.bool (x0 != 0)] T) ∧ w.grownBy w' (some p) := by
  have c0 := at_cell hb 0
  have d0 := at_cell hp 0
  have f0 := at_frozen hp 0
  simp at c0 d0
  go_enter Tryz.func147, Tryz.ntmps147
  go_wp2_with (first | (go_at_call 119; refine (truth_any _ _).mono ?_; rintro e w' ⟨rfl, rfl⟩))
  all_goals go_end0
  all_goals exact ⟨rfl, by have h := (at_set hp 0 (.bool (x0 != 0))); simp at h; exact h, (gr_set (World.grownBy.refl _ _) 0 _)⟩

set_option maxHeartbeats 1000000 in
theorem save_edge (p T : Nat) (y0 : Bool) (w : World) (hp : w.heap[p]? = some (.cells #[.bool y0] T)) :
    Calls Tryz.prog 148 #[.pointer (some ⟨p, 0, none⟩)] w fun e w' => e = .returned (.slice (some ⟨w.heap.size, 0, none⟩) 1 1) ∧ w'.heap[w.heap.size]? = some (.cells #[.int .i64 (yesN y0)] 3) ∧ w.grownBy w' none := by
  have d0 := at_cell hp 0
  simp at d0
  have hlt := at_lt hp
  go_enter Tryz.func148, Tryz.ntmps148
  go_wp2_with (first | (go_at_call 120; refine (word_any _ _).mono ?_; rintro e w' ⟨rfl, rfl⟩))
  all_goals go_ret
  all_goals exact ⟨rfl, heap_alloc_new _ _, (gr_alloc (World.grownBy.refl _ _) _)⟩

set_option maxHeartbeats 1000000 in
theorem load_latch (p b T E : Nat) (x0 : Int) (u0 : Value) (w : World) (hp : w.heap[p]? = some (.cells #[u0] T)) (hb : w.heap[b]? = some (.cells #[.int .i64 x0] E)) (_hne : p ≠ b) :
    Calls Tryz.prog 152 #[.pointer (some ⟨p, 0, none⟩), .slice (some ⟨b, 0, none⟩) 1 1] w fun e w' => e = .returned (.tuple #[]) ∧ w'.heap[p]? = some (.cells #[.bool (x0 != 0)] T) ∧ w.grownBy w' (some p) := by
  have c0 := at_cell hb 0
  have d0 := at_cell hp 0
  have f0 := at_frozen hp 0
  simp at c0 d0
  go_enter Tryz.func152, Tryz.ntmps152
  go_wp2_with (first | (go_at_call 119; refine (truth_any _ _).mono ?_; rintro e w' ⟨rfl, rfl⟩))
  all_goals go_end0
  all_goals exact ⟨rfl, by have h := (at_set hp 0 (.bool (x0 != 0))); simp at h; exact h, (gr_set (World.grownBy.refl _ _) 0 _)⟩

set_option maxHeartbeats 1000000 in
theorem save_latch (p T : Nat) (y0 : Bool) (w : World) (hp : w.heap[p]? = some (.cells #[.bool y0] T)) :
    Calls Tryz.prog 153 #[.pointer (some ⟨p, 0, none⟩)] w fun e w' => e = .returned (.slice (some ⟨w.heap.size, 0, none⟩) 1 1) ∧ w'.heap[w.heap.size]? = some (.cells #[.int .i64 (yesN y0)] 3) ∧ w.grownBy w' none := by
  have d0 := at_cell hp 0
  simp at d0
  have hlt := at_lt hp
  go_enter Tryz.func153, Tryz.ntmps153
  go_wp2_with (first | (go_at_call 120; refine (word_any _ _).mono ?_; rintro e w' ⟨rfl, rfl⟩))
  all_goals go_ret
  all_goals exact ⟨rfl, heap_alloc_new _ _, (gr_alloc (World.grownBy.refl _ _) _)⟩

set_option maxHeartbeats 1000000 in
theorem load_ramp (p b T E : Nat) (x0 : Int) (u0 : Value) (w : World) (hp : w.heap[p]? = some (.cells #[u0] T)) (hb : w.heap[b]? = some (.cells #[.int .i64 x0] E)) (_hne : p ≠ b) :
    Calls Tryz.prog 159 #[.pointer (some ⟨p, 0, none⟩), .slice (some ⟨b, 0, none⟩) 1 1] w fun e w' => e = .returned (.tuple #[]) ∧ w'.heap[p]? = some (.cells #[.int .i64 x0] T) ∧ w.grownBy w' (some p) := by
  have c0 := at_cell hb 0
  have d0 := at_cell hp 0
  have f0 := at_frozen hp 0
  simp at c0 d0
  go_enter Tryz.func159, Tryz.ntmps159
  go_wp2_with (fail)
  all_goals go_end0
  all_goals exact ⟨rfl, by have h := (at_set hp 0 (.int .i64 x0)); simp at h; exact h, (gr_set (World.grownBy.refl _ _) 0 _)⟩

set_option maxHeartbeats 1000000 in
theorem save_ramp (p T : Nat) (x0 : Int) (w : World) (hp : w.heap[p]? = some (.cells #[.int .i64 x0] T)) :
    Calls Tryz.prog 160 #[.pointer (some ⟨p, 0, none⟩)] w fun e w' => e = .returned (.slice (some ⟨w.heap.size, 0, none⟩) 1 1) ∧ w'.heap[w.heap.size]? = some (.cells #[.int .i64 x0] 3) ∧ w.grownBy w' none := by
  have d0 := at_cell hp 0
  simp at d0
  have hlt := at_lt hp
  go_enter Tryz.func160, Tryz.ntmps160
  go_wp2_with (fail)
  all_goals go_ret
  all_goals exact ⟨rfl, heap_alloc_new _ _, (gr_alloc (World.grownBy.refl _ _) _)⟩

end Go.Proofs.YtcgbfhpmkpglkaaGreatDoor.Bl

/- Contracts of the pins and of the twelve shapes. -/
namespace Go.Proofs.YtcgbfhpmkpglkaaGreatDoor.Bl
open Go.RowKit

def pinArr (l : List (ByteArray × Int)) : Array Value := (l.flatMap fun p => [.string p.1, .int .i64 p.2]).toArray

/-- A shape that was just made: three lists of pins, each in a block of its own. -/
def Shp (w w' : World) (v : Value) (I O S : List (ByteArray × Int)) : Prop :=
  ∃ b1 b2 b3, v = .agg #[.slice (some ⟨b1, 0, none⟩) I.length I.length, .slice (some ⟨b2, 0, none⟩) O.length O.length, .slice (some ⟨b3, 0, none⟩) S.length S.length] ∧
    w.heap.size ≤ b1 ∧ w.heap.size ≤ b2 ∧ w.heap.size ≤ b3 ∧ b1 ≠ b2 ∧ b1 ≠ b3 ∧ b2 ≠ b3 ∧
    w'.heap[b1]? = some (.cells (pinArr I) 113) ∧ w'.heap[b2]? = some (.cells (pinArr O) 113) ∧ w'.heap[b3]? = some (.cells (pinArr S) 113)

theorem hp_new {w : World} {k : Nat} (h : k = w.heap.size) (o : Obj) : (w.alloc o).heap[k]? = some o := by
  subst h
  exact heap_alloc_new w o
theorem hp_old {w : World} {k : Nat} (h : k < w.heap.size) (o : Obj) : (w.alloc o).heap[k]? = w.heap[k]? := Below.heap_alloc _ _ _ h
theorem hp_drew (w : World) (k : Nat) : w.drew.heap[k]? = w.heap[k]? := rfl

set_option maxHeartbeats 1000000 in
theorem pins51 (p : Value) (s : ByteArray) (w : World) : Calls Tryz.prog 121 #[p, .string s] w fun e w' => e = .returned (.agg #[.slice (some ⟨w.heap.size + 3, 0, none⟩) 2 2, .slice (some ⟨w.heap.size + 6, 0, none⟩) 2 2, .slice (some ⟨w.heap.size + 11, 0, none⟩) 4 4]) ∧ w' = ((((((((((((w.alloc (.cells #[.slice (some ⟨w.heap.size + 3, 0, none⟩) 2 2, .slice (some ⟨w.heap.size + 6, 0, none⟩) 2 2, .slice (some ⟨w.heap.size + 11, 0, none⟩) 4 4] 100)).alloc (.cells #[.string { data := #[105, 110] }, .int .i64 1] 113)).alloc (.cells #[.string { data := #[112, 116] }, .int .i64 5] 113)).alloc (.cells #[.string { data := #[105, 110] }, .int .i64 1, .string { data := #[112, 116] }, .int .i64 5] 113)).alloc (.cells #[.string { data := #[113] }, .int .i64 1] 113)).alloc (.cells #[.string { data := #[101, 116] }, .int .i64 5] 113)).alloc (.cells #[.string { data := #[113] }, .int .i64 1, .string { data := #[101, 116] }, .int .i64 5] 113)).alloc (.cells #[.string { data := #[114, 117, 110] }, .int .i64 1] 113)).alloc (.cells #[.string { data := #[115, 105, 110, 99, 101] }, .int .i64 5] 113)).alloc (.cells #[.string s, .int .i64 1] 113)).alloc (.cells #[.string { data := #[97, 116] }, .int .i64 5] 113)).alloc (.cells #[.string { data := #[114, 117, 110] }, .int .i64 1, .string { data := #[115, 105, 110, 99, 101] }, .int .i64 5, .string s, .int .i64 1, .string { data := #[97, 116] }, .int .i64 5] 113)) := by
  go_enter Tryz.func121, Tryz.ntmps121
  go_wp2_with (first | (go_at_call 124; refine (boolPin_any _ _).mono ?_; rintro e w' ⟨rfl, rfl⟩) | (go_at_call 125; refine (timePin_any _ _).mono ?_; rintro e w' ⟨rfl, rfl⟩) | (go_at_call 139; refine (intPin_any _ _).mono ?_; rintro e w' ⟨rfl, rfl⟩))
  exact bodyPost_ret (v := .agg #[.slice (some ⟨w.heap.size + 3, 0, none⟩) 2 2, .slice (some ⟨w.heap.size + 6, 0, none⟩) 2 2, .slice (some ⟨w.heap.size + 11, 0, none⟩) 4 4]) (by simp [results, Tryz.results121, go_sem]) rfl ⟨rfl, rfl⟩

set_option maxHeartbeats 1000000 in
theorem pins67 (p : Value) (s t : ByteArray) (w : World) : Calls Tryz.prog 137 #[p, .string s, .string t] w fun e w' => e = .returned (.agg #[.slice (some ⟨w.heap.size + 4, 0, none⟩) 3 3, .slice (some ⟨w.heap.size + 7, 0, none⟩) 2 2, .slice (some ⟨w.heap.size + 10, 0, none⟩) 2 2]) ∧ w' = (((((((((((w.alloc (.cells #[.slice (some ⟨w.heap.size + 4, 0, none⟩) 3 3, .slice (some ⟨w.heap.size + 7, 0, none⟩) 2 2, .slice (some ⟨w.heap.size + 10, 0, none⟩) 2 2] 100)).alloc (.cells #[.string s, .int .i64 1] 113)).alloc (.cells #[.string t, .int .i64 1] 113)).alloc (.cells #[.string { data := #[112, 118] }, .int .i64 2] 113)).alloc (.cells #[.string s, .int .i64 1, .string t, .int .i64 1, .string { data := #[112, 118] }, .int .i64 2] 113)).alloc (.cells #[.string { data := #[113] }, .int .i64 1] 113)).alloc (.cells #[.string { data := #[99, 118] }, .int .i64 2] 113)).alloc (.cells #[.string { data := #[113] }, .int .i64 1, .string { data := #[99, 118] }, .int .i64 2] 113)).alloc (.cells #[.string { data := #[112, 114, 101, 118] }, .int .i64 1] 113)).alloc (.cells #[.string { data := #[99, 111, 117, 110, 116] }, .int .i64 2] 113)).alloc (.cells #[.string { data := #[112, 114, 101, 118] }, .int .i64 1, .string { data := #[99, 111, 117, 110, 116] }, .int .i64 2] 113)) := by
  go_enter Tryz.func137, Tryz.ntmps137
  go_wp2_with (first | (go_at_call 124; refine (boolPin_any _ _).mono ?_; rintro e w' ⟨rfl, rfl⟩) | (go_at_call 125; refine (timePin_any _ _).mono ?_; rintro e w' ⟨rfl, rfl⟩) | (go_at_call 139; refine (intPin_any _ _).mono ?_; rintro e w' ⟨rfl, rfl⟩))
  exact bodyPost_ret (v := .agg #[.slice (some ⟨w.heap.size + 4, 0, none⟩) 3 3, .slice (some ⟨w.heap.size + 7, 0, none⟩) 2 2, .slice (some ⟨w.heap.size + 10, 0, none⟩) 2 2]) (by simp [results, Tryz.results137, go_sem]) rfl ⟨rfl, rfl⟩

set_option maxHeartbeats 1000000 in
theorem pins86 (p : Value) (a : Option Addr) (n c : Nat) (s : ByteArray) (w : World) : Calls Tryz.prog 156 #[p, .string s, .slice a n c] w fun e w' => e = .returned (.agg #[.slice a n c, .slice (some ⟨w.heap.size + 2, 0, none⟩) 1 1, .slice (some ⟨w.heap.size + 4, 0, none⟩) 1 1]) ∧ w' = (((((w.alloc (.cells #[.slice a n c, .slice (some ⟨w.heap.size + 2, 0, none⟩) 1 1, .slice (some ⟨w.heap.size + 4, 0, none⟩) 1 1] 100)).alloc (.cells #[.string s, .int .i64 1] 113)).alloc (.cells #[.string s, .int .i64 1] 113)).alloc (.cells #[.string { data := #[111, 110] }, .int .i64 1] 113)).alloc (.cells #[.string { data := #[111, 110] }, .int .i64 1] 113)) := by
  go_enter Tryz.func156, Tryz.ntmps156
  go_wp2_with (first | (go_at_call 124; refine (boolPin_any _ _).mono ?_; rintro e w' ⟨rfl, rfl⟩) | (go_at_call 125; refine (timePin_any _ _).mono ?_; rintro e w' ⟨rfl, rfl⟩) | (go_at_call 139; refine (intPin_any _ _).mono ?_; rintro e w' ⟨rfl, rfl⟩))
  exact bodyPost_ret (v := .agg #[.slice a n c, .slice (some ⟨w.heap.size + 2, 0, none⟩) 1 1, .slice (some ⟨w.heap.size + 4, 0, none⟩) 1 1]) (by simp [results, Tryz.results156, go_sem]) rfl ⟨rfl, rfl⟩

def tonI : List (ByteArray × Int) := [({ data := #[105, 110] }, 1), ({ data := #[112, 116] }, 5)]
def tonO : List (ByteArray × Int) := [({ data := #[113] }, 1), ({ data := #[101, 116] }, 5)]
def tonS : List (ByteArray × Int) := [({ data := #[114, 117, 110] }, 1), ({ data := #[115, 105, 110, 99, 101] }, 5), ({ data := #[100, 111, 110, 101] }, 1), ({ data := #[97, 116] }, 5)]
def tofI : List (ByteArray × Int) := [({ data := #[105, 110] }, 1), ({ data := #[112, 116] }, 5)]
def tofO : List (ByteArray × Int) := [({ data := #[113] }, 1), ({ data := #[101, 116] }, 5)]
def tofS : List (ByteArray × Int) := [({ data := #[114, 117, 110] }, 1), ({ data := #[115, 105, 110, 99, 101] }, 5), ({ data := #[111, 110] }, 1), ({ data := #[97, 116] }, 5)]
def tpI : List (ByteArray × Int) := [({ data := #[105, 110] }, 1), ({ data := #[112, 116] }, 5)]
def tpO : List (ByteArray × Int) := [({ data := #[113] }, 1), ({ data := #[101, 116] }, 5)]
def tpS : List (ByteArray × Int) := [({ data := #[114, 117, 110] }, 1), ({ data := #[115, 105, 110, 99, 101] }, 5), ({ data := #[112, 114, 101, 118] }, 1), ({ data := #[97, 116] }, 5)]
def ctuI : List (ByteArray × Int) := [({ data := #[99, 117] }, 1), ({ data := #[114] }, 1), ({ data := #[112, 118] }, 2)]
def ctuO : List (ByteArray × Int) := [({ data := #[113] }, 1), ({ data := #[99, 118] }, 2)]
def ctuS : List (ByteArray × Int) := [({ data := #[112, 114, 101, 118] }, 1), ({ data := #[99, 111, 117, 110, 116] }, 2)]
def ctdI : List (ByteArray × Int) := [({ data := #[99, 100] }, 1), ({ data := #[108, 100] }, 1), ({ data := #[112, 118] }, 2)]
def ctdO : List (ByteArray × Int) := [({ data := #[113] }, 1), ({ data := #[99, 118] }, 2)]
def ctdS : List (ByteArray × Int) := [({ data := #[112, 114, 101, 118] }, 1), ({ data := #[99, 111, 117, 110, 116] }, 2)]
def ctudI : List (ByteArray × Int) := [({ data := #[99, 117] }, 1), ({ data := #[99, 100] }, 1), ({ data := #[114] }, 1), ({ data := #[108, 100] }, 1), ({ data := #[112, 118] }, 2)]
def ctudO : List (ByteArray × Int) := [({ data := #[113, 117] }, 1), ({ data := #[113, 100] }, 1), ({ data := #[99, 118] }, 2)]
def ctudS : List (ByteArray × Int) := [({ data := #[117, 112] }, 1), ({ data := #[100, 111, 119, 110] }, 1), ({ data := #[99, 111, 117, 110, 116] }, 2)]
def edgeI : List (ByteArray × Int) := [({ data := #[99, 108, 107] }, 1)]
def edgeO : List (ByteArray × Int) := [({ data := #[113] }, 1)]
def edgeS : List (ByteArray × Int) := [({ data := #[112, 114, 101, 118] }, 1)]
def srI : List (ByteArray × Int) := [({ data := #[115, 49] }, 1), ({ data := #[114] }, 1)]
def srO : List (ByteArray × Int) := [({ data := #[113, 49] }, 1)]
def srS : List (ByteArray × Int) := [({ data := #[111, 110] }, 1)]
def rsI : List (ByteArray × Int) := [({ data := #[115] }, 1), ({ data := #[114, 49] }, 1)]
def rsO : List (ByteArray × Int) := [({ data := #[113, 49] }, 1)]
def rsS : List (ByteArray × Int) := [({ data := #[111, 110] }, 1)]
def rampI : List (ByteArray × Int) := [({ data := #[120] }, 2), ({ data := #[115, 116, 101, 112] }, 2)]
def rampO : List (ByteArray × Int) := [({ data := #[121] }, 2)]
def rampS : List (ByteArray × Int) := [({ data := #[97, 116] }, 2)]
def hystI : List (ByteArray × Int) := [({ data := #[120] }, 2), ({ data := #[104, 105] }, 2), ({ data := #[108, 111] }, 2)]
def hystO : List (ByteArray × Int) := [({ data := #[113] }, 1)]
def hystS : List (ByteArray × Int) := [({ data := #[111, 110] }, 1)]
set_option maxHeartbeats 1000000 in
theorem shape_ton (p : Nat) (w : World) : Calls Tryz.prog 116 #[.pointer (some ⟨p, 0, none⟩)] w fun e w' => ∃ v, e = .returned v ∧ Shp w w' v tonI tonO tonS ∧ w.grownBy w' none := by
  go_enter Tryz.func116, Tryz.ntmps116
  go_wp2_with (first | (go_at_call 124; refine (boolPin_any _ _).mono ?_; rintro e w' ⟨rfl, rfl⟩) | (go_at_call 125; refine (timePin_any _ _).mono ?_; rintro e w' ⟨rfl, rfl⟩) | (go_at_call 139; refine (intPin_any _ _).mono ?_; rintro e w' ⟨rfl, rfl⟩) | (go_at_call 121; refine (pins51 _ _ _).mono ?_; rintro e w' ⟨rfl, rfl⟩) | (go_at_call 137; refine (pins67 _ _ _ _).mono ?_; rintro e w' ⟨rfl, rfl⟩) | (go_at_call 156; refine (pins86 _ _ _ _ _ _).mono ?_; rintro e w' ⟨rfl, rfl⟩))
  refine bodyPost_ret (v := .agg #[.slice (some ⟨w.heap.size + 4, 0, none⟩) 2 2, .slice (some ⟨w.heap.size + 7, 0, none⟩) 2 2, .slice (some ⟨w.heap.size + 12, 0, none⟩) 4 4]) (by simp [results, Tryz.results116, go_sem]) rfl ⟨_, rfl, ⟨w.heap.size + 4, w.heap.size + 7, w.heap.size + 12, rfl, by omega, by omega, by omega, by omega, by omega, by omega, ?_, ?_, ?_⟩, gr_alloc (gr_alloc (gr_alloc (gr_alloc (gr_alloc (gr_alloc (gr_alloc (gr_alloc (gr_alloc (gr_alloc (gr_alloc (gr_alloc (gr_alloc (World.grownBy.refl _ _) _) _) _) _) _) _) _) _) _) _) _) _) _⟩
  all_goals (repeat (first | exact hp_new (by simp) _ | refine (hp_old (by simp) _).trans ?_))

set_option maxHeartbeats 1000000 in
theorem shape_tof (p : Nat) (w : World) : Calls Tryz.prog 126 #[.pointer (some ⟨p, 0, none⟩)] w fun e w' => ∃ v, e = .returned v ∧ Shp w w' v tofI tofO tofS ∧ w.grownBy w' none := by
  go_enter Tryz.func126, Tryz.ntmps126
  go_wp2_with (first | (go_at_call 124; refine (boolPin_any _ _).mono ?_; rintro e w' ⟨rfl, rfl⟩) | (go_at_call 125; refine (timePin_any _ _).mono ?_; rintro e w' ⟨rfl, rfl⟩) | (go_at_call 139; refine (intPin_any _ _).mono ?_; rintro e w' ⟨rfl, rfl⟩) | (go_at_call 121; refine (pins51 _ _ _).mono ?_; rintro e w' ⟨rfl, rfl⟩) | (go_at_call 137; refine (pins67 _ _ _ _).mono ?_; rintro e w' ⟨rfl, rfl⟩) | (go_at_call 156; refine (pins86 _ _ _ _ _ _).mono ?_; rintro e w' ⟨rfl, rfl⟩))
  refine bodyPost_ret (v := .agg #[.slice (some ⟨w.heap.size + 4, 0, none⟩) 2 2, .slice (some ⟨w.heap.size + 7, 0, none⟩) 2 2, .slice (some ⟨w.heap.size + 12, 0, none⟩) 4 4]) (by simp [results, Tryz.results126, go_sem]) rfl ⟨_, rfl, ⟨w.heap.size + 4, w.heap.size + 7, w.heap.size + 12, rfl, by omega, by omega, by omega, by omega, by omega, by omega, ?_, ?_, ?_⟩, gr_alloc (gr_alloc (gr_alloc (gr_alloc (gr_alloc (gr_alloc (gr_alloc (gr_alloc (gr_alloc (gr_alloc (gr_alloc (gr_alloc (gr_alloc (World.grownBy.refl _ _) _) _) _) _) _) _) _) _) _) _) _) _) _⟩
  all_goals (repeat (first | exact hp_new (by simp) _ | refine (hp_old (by simp) _).trans ?_))

set_option maxHeartbeats 1000000 in
theorem shape_tp (p : Nat) (w : World) : Calls Tryz.prog 130 #[.pointer (some ⟨p, 0, none⟩)] w fun e w' => ∃ v, e = .returned v ∧ Shp w w' v tpI tpO tpS ∧ w.grownBy w' none := by
  go_enter Tryz.func130, Tryz.ntmps130
  go_wp2_with (first | (go_at_call 124; refine (boolPin_any _ _).mono ?_; rintro e w' ⟨rfl, rfl⟩) | (go_at_call 125; refine (timePin_any _ _).mono ?_; rintro e w' ⟨rfl, rfl⟩) | (go_at_call 139; refine (intPin_any _ _).mono ?_; rintro e w' ⟨rfl, rfl⟩) | (go_at_call 121; refine (pins51 _ _ _).mono ?_; rintro e w' ⟨rfl, rfl⟩) | (go_at_call 137; refine (pins67 _ _ _ _).mono ?_; rintro e w' ⟨rfl, rfl⟩) | (go_at_call 156; refine (pins86 _ _ _ _ _ _).mono ?_; rintro e w' ⟨rfl, rfl⟩))
  refine bodyPost_ret (v := .agg #[.slice (some ⟨w.heap.size + 4, 0, none⟩) 2 2, .slice (some ⟨w.heap.size + 7, 0, none⟩) 2 2, .slice (some ⟨w.heap.size + 12, 0, none⟩) 4 4]) (by simp [results, Tryz.results130, go_sem]) rfl ⟨_, rfl, ⟨w.heap.size + 4, w.heap.size + 7, w.heap.size + 12, rfl, by omega, by omega, by omega, by omega, by omega, by omega, ?_, ?_, ?_⟩, gr_alloc (gr_alloc (gr_alloc (gr_alloc (gr_alloc (gr_alloc (gr_alloc (gr_alloc (gr_alloc (gr_alloc (gr_alloc (gr_alloc (gr_alloc (World.grownBy.refl _ _) _) _) _) _) _) _) _) _) _) _) _) _) _⟩
  all_goals (repeat (first | exact hp_new (by simp) _ | refine (hp_old (by simp) _).trans ?_))

set_option maxHeartbeats 1000000 in
theorem shape_ctu (p : Nat) (w : World) : Calls Tryz.prog 135 #[.pointer (some ⟨p, 0, none⟩)] w fun e w' => ∃ v, e = .returned v ∧ Shp w w' v ctuI ctuO ctuS ∧ w.grownBy w' none := by
  go_enter Tryz.func135, Tryz.ntmps135
  go_wp2_with (first | (go_at_call 124; refine (boolPin_any _ _).mono ?_; rintro e w' ⟨rfl, rfl⟩) | (go_at_call 125; refine (timePin_any _ _).mono ?_; rintro e w' ⟨rfl, rfl⟩) | (go_at_call 139; refine (intPin_any _ _).mono ?_; rintro e w' ⟨rfl, rfl⟩) | (go_at_call 121; refine (pins51 _ _ _).mono ?_; rintro e w' ⟨rfl, rfl⟩) | (go_at_call 137; refine (pins67 _ _ _ _).mono ?_; rintro e w' ⟨rfl, rfl⟩) | (go_at_call 156; refine (pins86 _ _ _ _ _ _).mono ?_; rintro e w' ⟨rfl, rfl⟩))
  refine bodyPost_ret (v := .agg #[.slice (some ⟨w.heap.size + 5, 0, none⟩) 3 3, .slice (some ⟨w.heap.size + 8, 0, none⟩) 2 2, .slice (some ⟨w.heap.size + 11, 0, none⟩) 2 2]) (by simp [results, Tryz.results135, go_sem]) rfl ⟨_, rfl, ⟨w.heap.size + 5, w.heap.size + 8, w.heap.size + 11, rfl, by omega, by omega, by omega, by omega, by omega, by omega, ?_, ?_, ?_⟩, gr_alloc (gr_alloc (gr_alloc (gr_alloc (gr_alloc (gr_alloc (gr_alloc (gr_alloc (gr_alloc (gr_alloc (gr_alloc (gr_alloc (World.grownBy.refl _ _) _) _) _) _) _) _) _) _) _) _) _) _⟩
  all_goals (repeat (first | exact hp_new (by simp) _ | refine (hp_old (by simp) _).trans ?_))

set_option maxHeartbeats 1000000 in
theorem shape_ctd (p : Nat) (w : World) : Calls Tryz.prog 140 #[.pointer (some ⟨p, 0, none⟩)] w fun e w' => ∃ v, e = .returned v ∧ Shp w w' v ctdI ctdO ctdS ∧ w.grownBy w' none := by
  go_enter Tryz.func140, Tryz.ntmps140
  go_wp2_with (first | (go_at_call 124; refine (boolPin_any _ _).mono ?_; rintro e w' ⟨rfl, rfl⟩) | (go_at_call 125; refine (timePin_any _ _).mono ?_; rintro e w' ⟨rfl, rfl⟩) | (go_at_call 139; refine (intPin_any _ _).mono ?_; rintro e w' ⟨rfl, rfl⟩) | (go_at_call 121; refine (pins51 _ _ _).mono ?_; rintro e w' ⟨rfl, rfl⟩) | (go_at_call 137; refine (pins67 _ _ _ _).mono ?_; rintro e w' ⟨rfl, rfl⟩) | (go_at_call 156; refine (pins86 _ _ _ _ _ _).mono ?_; rintro e w' ⟨rfl, rfl⟩))
  refine bodyPost_ret (v := .agg #[.slice (some ⟨w.heap.size + 5, 0, none⟩) 3 3, .slice (some ⟨w.heap.size + 8, 0, none⟩) 2 2, .slice (some ⟨w.heap.size + 11, 0, none⟩) 2 2]) (by simp [results, Tryz.results140, go_sem]) rfl ⟨_, rfl, ⟨w.heap.size + 5, w.heap.size + 8, w.heap.size + 11, rfl, by omega, by omega, by omega, by omega, by omega, by omega, ?_, ?_, ?_⟩, gr_alloc (gr_alloc (gr_alloc (gr_alloc (gr_alloc (gr_alloc (gr_alloc (gr_alloc (gr_alloc (gr_alloc (gr_alloc (gr_alloc (World.grownBy.refl _ _) _) _) _) _) _) _) _) _) _) _) _) _⟩
  all_goals (repeat (first | exact hp_new (by simp) _ | refine (hp_old (by simp) _).trans ?_))

set_option maxHeartbeats 1000000 in
theorem shape_ctud (p : Nat) (w : World) : Calls Tryz.prog 145 #[.pointer (some ⟨p, 0, none⟩)] w fun e w' => ∃ v, e = .returned v ∧ Shp w w' v ctudI ctudO ctudS ∧ w.grownBy w' none := by
  go_enter Tryz.func145, Tryz.ntmps145
  go_wp2_with (first | (go_at_call 124; refine (boolPin_any _ _).mono ?_; rintro e w' ⟨rfl, rfl⟩) | (go_at_call 125; refine (timePin_any _ _).mono ?_; rintro e w' ⟨rfl, rfl⟩) | (go_at_call 139; refine (intPin_any _ _).mono ?_; rintro e w' ⟨rfl, rfl⟩) | (go_at_call 121; refine (pins51 _ _ _).mono ?_; rintro e w' ⟨rfl, rfl⟩) | (go_at_call 137; refine (pins67 _ _ _ _).mono ?_; rintro e w' ⟨rfl, rfl⟩) | (go_at_call 156; refine (pins86 _ _ _ _ _ _).mono ?_; rintro e w' ⟨rfl, rfl⟩))
  refine bodyPost_ret (v := .agg #[.slice (some ⟨w.heap.size + 6, 0, none⟩) 5 5, .slice (some ⟨w.heap.size + 10, 0, none⟩) 3 3, .slice (some ⟨w.heap.size + 14, 0, none⟩) 3 3]) (by simp [results, Tryz.results145, go_sem]) rfl ⟨_, rfl, ⟨w.heap.size + 6, w.heap.size + 10, w.heap.size + 14, rfl, by omega, by omega, by omega, by omega, by omega, by omega, ?_, ?_, ?_⟩, gr_alloc (gr_alloc (gr_alloc (gr_alloc (gr_alloc (gr_alloc (gr_alloc (gr_alloc (gr_alloc (gr_alloc (gr_alloc (gr_alloc (gr_alloc (gr_alloc (gr_alloc (World.grownBy.refl _ _) _) _) _) _) _) _) _) _) _) _) _) _) _) _) _⟩
  all_goals (repeat (first | exact hp_new (by simp) _ | refine (hp_old (by simp) _).trans ?_))

set_option maxHeartbeats 1000000 in
theorem shape_edge (p : Nat) (w : World) : Calls Tryz.prog 149 #[.pointer (some ⟨p, 0, none⟩)] w fun e w' => ∃ v, e = .returned v ∧ Shp w w' v edgeI edgeO edgeS ∧ w.grownBy w' none := by
  go_enter Tryz.func149, Tryz.ntmps149
  go_wp2_with (first | (go_at_call 124; refine (boolPin_any _ _).mono ?_; rintro e w' ⟨rfl, rfl⟩) | (go_at_call 125; refine (timePin_any _ _).mono ?_; rintro e w' ⟨rfl, rfl⟩) | (go_at_call 139; refine (intPin_any _ _).mono ?_; rintro e w' ⟨rfl, rfl⟩) | (go_at_call 121; refine (pins51 _ _ _).mono ?_; rintro e w' ⟨rfl, rfl⟩) | (go_at_call 137; refine (pins67 _ _ _ _).mono ?_; rintro e w' ⟨rfl, rfl⟩) | (go_at_call 156; refine (pins86 _ _ _ _ _ _).mono ?_; rintro e w' ⟨rfl, rfl⟩))
  refine bodyPost_ret (v := .agg #[.slice (some ⟨w.heap.size + 2, 0, none⟩) 1 1, .slice (some ⟨w.heap.size + 4, 0, none⟩) 1 1, .slice (some ⟨w.heap.size + 6, 0, none⟩) 1 1]) (by simp [results, Tryz.results149, go_sem]) rfl ⟨_, rfl, ⟨w.heap.size + 2, w.heap.size + 4, w.heap.size + 6, rfl, by omega, by omega, by omega, by omega, by omega, by omega, ?_, ?_, ?_⟩, gr_alloc (gr_alloc (gr_alloc (gr_alloc (gr_alloc (gr_alloc (gr_alloc (World.grownBy.refl _ _) _) _) _) _) _) _) _⟩
  all_goals (repeat (first | exact hp_new (by simp) _ | refine (hp_old (by simp) _).trans ?_))

set_option maxHeartbeats 1000000 in
theorem shape_sr (p : Nat) (w : World) : Calls Tryz.prog 154 #[.pointer (some ⟨p, 0, none⟩)] w fun e w' => ∃ v, e = .returned v ∧ Shp w w' v srI srO srS ∧ w.grownBy w' none := by
  go_enter Tryz.func154, Tryz.ntmps154
  go_wp2_with (first | (go_at_call 124; refine (boolPin_any _ _).mono ?_; rintro e w' ⟨rfl, rfl⟩) | (go_at_call 125; refine (timePin_any _ _).mono ?_; rintro e w' ⟨rfl, rfl⟩) | (go_at_call 139; refine (intPin_any _ _).mono ?_; rintro e w' ⟨rfl, rfl⟩) | (go_at_call 121; refine (pins51 _ _ _).mono ?_; rintro e w' ⟨rfl, rfl⟩) | (go_at_call 137; refine (pins67 _ _ _ _).mono ?_; rintro e w' ⟨rfl, rfl⟩) | (go_at_call 156; refine (pins86 _ _ _ _ _ _).mono ?_; rintro e w' ⟨rfl, rfl⟩))
  go_region_held3 (fun _ => True) (trivial) (first | (go_at_call 124; refine (boolPin_any _ _).mono ?_; rintro e w' ⟨rfl, rfl⟩) | (go_at_call 125; refine (timePin_any _ _).mono ?_; rintro e w' ⟨rfl, rfl⟩) | (go_at_call 139; refine (intPin_any _ _).mono ?_; rintro e w' ⟨rfl, rfl⟩) | (go_at_call 121; refine (pins51 _ _ _).mono ?_; rintro e w' ⟨rfl, rfl⟩) | (go_at_call 137; refine (pins67 _ _ _ _).mono ?_; rintro e w' ⟨rfl, rfl⟩) | (go_at_call 156; refine (pins86 _ _ _ _ _ _).mono ?_; rintro e w' ⟨rfl, rfl⟩))
  go_wp2
  refine bodyPost_ret (v := .agg #[.slice (some ⟨w.heap.size + 3, 0, none⟩) 2 2, .slice (some ⟨w.heap.size + 6, 0, none⟩) 1 1, .slice (some ⟨w.heap.size + 8, 0, none⟩) 1 1]) (by simp [results, Tryz.results154, go_sem]) rfl ⟨_, rfl, ⟨w.heap.size + 3, w.heap.size + 6, w.heap.size + 8, rfl, by omega, by omega, by omega, by omega, by omega, by omega, ?_, ?_, ?_⟩, gr_drew (gr_alloc (gr_alloc (gr_alloc (gr_alloc (gr_alloc (gr_alloc (gr_alloc (gr_alloc (gr_alloc (World.grownBy.refl _ _) _) _) _) _) _) _) _) _) _)⟩
  all_goals rw [hp_drew]
  all_goals (repeat (first | exact hp_new (by simp) _ | refine (hp_old (by simp) _).trans ?_))

set_option maxHeartbeats 1000000 in
theorem shape_rs (p : Nat) (w : World) : Calls Tryz.prog 157 #[.pointer (some ⟨p, 0, none⟩)] w fun e w' => ∃ v, e = .returned v ∧ Shp w w' v rsI rsO rsS ∧ w.grownBy w' none := by
  go_enter Tryz.func157, Tryz.ntmps157
  go_wp2_with (first | (go_at_call 124; refine (boolPin_any _ _).mono ?_; rintro e w' ⟨rfl, rfl⟩) | (go_at_call 125; refine (timePin_any _ _).mono ?_; rintro e w' ⟨rfl, rfl⟩) | (go_at_call 139; refine (intPin_any _ _).mono ?_; rintro e w' ⟨rfl, rfl⟩) | (go_at_call 121; refine (pins51 _ _ _).mono ?_; rintro e w' ⟨rfl, rfl⟩) | (go_at_call 137; refine (pins67 _ _ _ _).mono ?_; rintro e w' ⟨rfl, rfl⟩) | (go_at_call 156; refine (pins86 _ _ _ _ _ _).mono ?_; rintro e w' ⟨rfl, rfl⟩))
  go_region_held3 (fun _ => True) (trivial) (first | (go_at_call 124; refine (boolPin_any _ _).mono ?_; rintro e w' ⟨rfl, rfl⟩) | (go_at_call 125; refine (timePin_any _ _).mono ?_; rintro e w' ⟨rfl, rfl⟩) | (go_at_call 139; refine (intPin_any _ _).mono ?_; rintro e w' ⟨rfl, rfl⟩) | (go_at_call 121; refine (pins51 _ _ _).mono ?_; rintro e w' ⟨rfl, rfl⟩) | (go_at_call 137; refine (pins67 _ _ _ _).mono ?_; rintro e w' ⟨rfl, rfl⟩) | (go_at_call 156; refine (pins86 _ _ _ _ _ _).mono ?_; rintro e w' ⟨rfl, rfl⟩))
  go_wp2
  refine bodyPost_ret (v := .agg #[.slice (some ⟨w.heap.size + 3, 0, none⟩) 2 2, .slice (some ⟨w.heap.size + 6, 0, none⟩) 1 1, .slice (some ⟨w.heap.size + 8, 0, none⟩) 1 1]) (by simp [results, Tryz.results157, go_sem]) rfl ⟨_, rfl, ⟨w.heap.size + 3, w.heap.size + 6, w.heap.size + 8, rfl, by omega, by omega, by omega, by omega, by omega, by omega, ?_, ?_, ?_⟩, gr_drew (gr_alloc (gr_alloc (gr_alloc (gr_alloc (gr_alloc (gr_alloc (gr_alloc (gr_alloc (gr_alloc (World.grownBy.refl _ _) _) _) _) _) _) _) _) _) _)⟩
  all_goals rw [hp_drew]
  all_goals (repeat (first | exact hp_new (by simp) _ | refine (hp_old (by simp) _).trans ?_))

set_option maxHeartbeats 1000000 in
theorem shape_ramp (p : Nat) (w : World) : Calls Tryz.prog 161 #[.pointer (some ⟨p, 0, none⟩)] w fun e w' => ∃ v, e = .returned v ∧ Shp w w' v rampI rampO rampS ∧ w.grownBy w' none := by
  go_enter Tryz.func161, Tryz.ntmps161
  go_wp2_with (first | (go_at_call 124; refine (boolPin_any _ _).mono ?_; rintro e w' ⟨rfl, rfl⟩) | (go_at_call 125; refine (timePin_any _ _).mono ?_; rintro e w' ⟨rfl, rfl⟩) | (go_at_call 139; refine (intPin_any _ _).mono ?_; rintro e w' ⟨rfl, rfl⟩) | (go_at_call 121; refine (pins51 _ _ _).mono ?_; rintro e w' ⟨rfl, rfl⟩) | (go_at_call 137; refine (pins67 _ _ _ _).mono ?_; rintro e w' ⟨rfl, rfl⟩) | (go_at_call 156; refine (pins86 _ _ _ _ _ _).mono ?_; rintro e w' ⟨rfl, rfl⟩))
  refine bodyPost_ret (v := .agg #[.slice (some ⟨w.heap.size + 3, 0, none⟩) 2 2, .slice (some ⟨w.heap.size + 5, 0, none⟩) 1 1, .slice (some ⟨w.heap.size + 7, 0, none⟩) 1 1]) (by simp [results, Tryz.results161, go_sem]) rfl ⟨_, rfl, ⟨w.heap.size + 3, w.heap.size + 5, w.heap.size + 7, rfl, by omega, by omega, by omega, by omega, by omega, by omega, ?_, ?_, ?_⟩, gr_alloc (gr_alloc (gr_alloc (gr_alloc (gr_alloc (gr_alloc (gr_alloc (gr_alloc (World.grownBy.refl _ _) _) _) _) _) _) _) _) _⟩
  all_goals (repeat (first | exact hp_new (by simp) _ | refine (hp_old (by simp) _).trans ?_))

set_option maxHeartbeats 1000000 in
theorem shape_hyst (p : Nat) (w : World) : Calls Tryz.prog 163 #[.pointer (some ⟨p, 0, none⟩)] w fun e w' => ∃ v, e = .returned v ∧ Shp w w' v hystI hystO hystS ∧ w.grownBy w' none := by
  go_enter Tryz.func163, Tryz.ntmps163
  go_wp2_with (first | (go_at_call 124; refine (boolPin_any _ _).mono ?_; rintro e w' ⟨rfl, rfl⟩) | (go_at_call 125; refine (timePin_any _ _).mono ?_; rintro e w' ⟨rfl, rfl⟩) | (go_at_call 139; refine (intPin_any _ _).mono ?_; rintro e w' ⟨rfl, rfl⟩) | (go_at_call 121; refine (pins51 _ _ _).mono ?_; rintro e w' ⟨rfl, rfl⟩) | (go_at_call 137; refine (pins67 _ _ _ _).mono ?_; rintro e w' ⟨rfl, rfl⟩) | (go_at_call 156; refine (pins86 _ _ _ _ _ _).mono ?_; rintro e w' ⟨rfl, rfl⟩))
  go_region_held3 (fun _ => True) (trivial) (first | (go_at_call 124; refine (boolPin_any _ _).mono ?_; rintro e w' ⟨rfl, rfl⟩) | (go_at_call 125; refine (timePin_any _ _).mono ?_; rintro e w' ⟨rfl, rfl⟩) | (go_at_call 139; refine (intPin_any _ _).mono ?_; rintro e w' ⟨rfl, rfl⟩) | (go_at_call 121; refine (pins51 _ _ _).mono ?_; rintro e w' ⟨rfl, rfl⟩) | (go_at_call 137; refine (pins67 _ _ _ _).mono ?_; rintro e w' ⟨rfl, rfl⟩) | (go_at_call 156; refine (pins86 _ _ _ _ _ _).mono ?_; rintro e w' ⟨rfl, rfl⟩))
  go_wp2
  refine bodyPost_ret (v := .agg #[.slice (some ⟨w.heap.size + 4, 0, none⟩) 3 3, .slice (some ⟨w.heap.size + 7, 0, none⟩) 1 1, .slice (some ⟨w.heap.size + 9, 0, none⟩) 1 1]) (by simp [results, Tryz.results163, go_sem]) rfl ⟨_, rfl, ⟨w.heap.size + 4, w.heap.size + 7, w.heap.size + 9, rfl, by omega, by omega, by omega, by omega, by omega, by omega, ?_, ?_, ?_⟩, gr_drew (gr_alloc (gr_alloc (gr_alloc (gr_alloc (gr_alloc (gr_alloc (gr_alloc (gr_alloc (gr_alloc (gr_alloc (World.grownBy.refl _ _) _) _) _) _) _) _) _) _) _) _)⟩
  all_goals rw [hp_drew]
  all_goals (repeat (first | exact hp_new (by simp) _ | refine (hp_old (by simp) _).trans ?_))

end Go.Proofs.YtcgbfhpmkpglkaaGreatDoor.Bl

/- Cells behind new blocks and draws. -/
namespace Go.Proofs.YtcgbfhpmkpglkaaGreatDoor.Bl
open Go.RowKit

theorem ck_drew {W : World} {a : Addr} {v : Value} (h : W.cell? a = some v) : W.drew.cell? a = some v := h
theorem ck_old {W : World} {o : Obj} {k i : Nat} {v : Value} (hk : k < W.heap.size) (h : W.cell? ⟨k, i, none⟩ = some v) : (W.alloc o).cell? ⟨k, i, none⟩ = some v := by
  rw [World.cell?_alloc_past _ _ _ hk]; exact h
theorem ck_new {W : World} {cs : Array Value} {T : TypeId} {k i : Nat} {v : Value} (hk : k = W.heap.size) (h : cs[i]? = some v) : (W.alloc (.cells cs T)).cell? ⟨k, i, none⟩ = some v := by
  rw [World.cell?_alloc_at _ _ _ _ hk]; exact h
end Go.Proofs.YtcgbfhpmkpglkaaGreatDoor.Bl

/- Contract of wrapped, for 1 pins. -/
namespace Go.Proofs.YtcgbfhpmkpglkaaGreatDoor.Bl
open Go.RowKit
attribute [local go_sem ↓] Go.wp_at_zero Go.wp_at_succ

theorem make1 (w : World) : (Instr.makeSlice 25 (.int .i64 1) (.int .i64 1)).run Tryz.prog w = .ok (.slice (some ⟨w.heap.size, 0, none⟩) 1 1) (w.alloc (.cells #[.int .i64 0] 3)) := by kernel_rfl

set_option maxHeartbeats 1000000 in
theorem wrappedNo1 (v0 : Option Addr) (a : Option Addr) (len cap : Nat) (w : World) (hne : ((len : Int) == 1) = false) :
    Calls Tryz.prog 87 #[.slice v0 1 1, .slice a len cap] w fun e w' => e = .returned (.slice (some ⟨w.heap.size, 0, none⟩) 1 1) ∧ w'.heap[w.heap.size]? = some (.cells #[.int .i64 0] 3) ∧ w.grownBy w' none := by
  have hmk := make1
  go_enter Tryz.func87, Tryz.ntmps87
  go_wp2
  go_ret
  exact ⟨rfl, heap_alloc_new _ _, gr_alloc (World.grownBy.refl _ _) _⟩

set_option maxHeartbeats 4000000 in
theorem wrappedYes1 (g b off cap : Nat) (s0 : ByteArray) (k0 x0 : Int) (w : World) (hg : w.heap[g]? = some (.cells #[.string s0, .int .i64 k0] 113))
    (c0 : w.cell? ⟨b, off + 0, none⟩ = some (.int .i64 x0)) :
    Calls Tryz.prog 87 #[.slice (some ⟨g, 0, none⟩) 1 1, .slice (some ⟨b, off, none⟩) 1 cap] w fun e w' => e = .returned (.slice (some ⟨w.heap.size, 0, none⟩) 1 1) ∧ w'.heap[w.heap.size]? = some (.cells #[.int .i64 (wrapK k0 x0)] 3) ∧ w.grownBy w' none := by
  have hmk := make1
  have hgl := at_lt hg
  have hbl : b < w.heap.size := World.block_lt_of_cell? w _ c0
  have g0 := at_cell hg 0
  have g1 := at_cell hg 1
  simp at g0 g1
  clear hg
  simp only [Nat.add_zero] at c0
  go_enter Tryz.func87, Tryz.ntmps87
  go_wp2
  refine wp_loop_rounds 2 ?_
  rw [rounds_succ]
  go_wp2
  go_region_held3 (fun w' => w'.cell? ⟨b, off, none⟩ = some (.int .i64 x0) ∧ w'.cell? ⟨w.heap.size + 1, 1, none⟩ = some (.int .i64 k0)) (refine ⟨?_, ?_⟩ <;> (repeat (first | assumption | with_reducible refine ck_drew ?_ | exact ck_new (by first | rfl | simp) rfl | refine ck_old (by first | omega | (simp; omega) | simp) ?_))) (first | (go_at_call 71; refine (wrap_any _ _ _).mono ?_; rintro e w' ⟨rfl, rfl⟩))
  go_wp2
  rw [rounds_succ]
  go_wp2
  go_ret
  refine ⟨rfl, ?_, gr_drew (gr_alloc (gr_alloc (World.grownBy.refl _ _) _) _)⟩
  rw [hp_drew]
  repeat (first | exact hp_new (by simp) _ | refine (hp_old (by simp) _).trans ?_)
end Go.Proofs.YtcgbfhpmkpglkaaGreatDoor.Bl

/- Contract of wrapped, for 2 pins. -/
namespace Go.Proofs.YtcgbfhpmkpglkaaGreatDoor.Bl
open Go.RowKit
attribute [local go_sem ↓] Go.wp_at_zero Go.wp_at_succ

theorem make2 (w : World) : (Instr.makeSlice 25 (.int .i64 2) (.int .i64 2)).run Tryz.prog w = .ok (.slice (some ⟨w.heap.size, 0, none⟩) 2 2) (w.alloc (.cells #[.int .i64 0, .int .i64 0] 3)) := by kernel_rfl

set_option maxHeartbeats 1000000 in
theorem wrappedNo2 (v0 : Option Addr) (a : Option Addr) (len cap : Nat) (w : World) (hne : ((len : Int) == 2) = false) :
    Calls Tryz.prog 87 #[.slice v0 2 2, .slice a len cap] w fun e w' => e = .returned (.slice (some ⟨w.heap.size, 0, none⟩) 2 2) ∧ w'.heap[w.heap.size]? = some (.cells #[.int .i64 0, .int .i64 0] 3) ∧ w.grownBy w' none := by
  have hmk := make2
  go_enter Tryz.func87, Tryz.ntmps87
  go_wp2
  go_ret
  exact ⟨rfl, heap_alloc_new _ _, gr_alloc (World.grownBy.refl _ _) _⟩

set_option maxHeartbeats 4000000 in
theorem wrappedYes2 (g b off cap : Nat) (s0 s1 : ByteArray) (k0 k1 x0 x1 : Int) (w : World) (hg : w.heap[g]? = some (.cells #[.string s0, .int .i64 k0, .string s1, .int .i64 k1] 113))
    (c0 : w.cell? ⟨b, off + 0, none⟩ = some (.int .i64 x0)) (c1 : w.cell? ⟨b, off + 1, none⟩ = some (.int .i64 x1)) :
    Calls Tryz.prog 87 #[.slice (some ⟨g, 0, none⟩) 2 2, .slice (some ⟨b, off, none⟩) 2 cap] w fun e w' => e = .returned (.slice (some ⟨w.heap.size, 0, none⟩) 2 2) ∧ w'.heap[w.heap.size]? = some (.cells #[.int .i64 (wrapK k0 x0), .int .i64 (wrapK k1 x1)] 3) ∧ w.grownBy w' none := by
  have hmk := make2
  have hgl := at_lt hg
  have hbl : b < w.heap.size := World.block_lt_of_cell? w _ c0
  have hgl1 : g < w.heap.size + 1 := by omega
  have hbl1 : b < w.heap.size + 1 := by omega
  have hgl2 : g < w.heap.size + 1 + 1 := by omega
  have hbl2 : b < w.heap.size + 1 + 1 := by omega
  have hwl1 : w.heap.size < w.heap.size + 1 := by omega
  have hwl2 : w.heap.size < w.heap.size + 1 + 1 := by omega
  have g0 := at_cell hg 0
  have g1 := at_cell hg 1
  have g2 := at_cell hg 2
  have g3 := at_cell hg 3
  simp at g0 g1 g2 g3
  clear hg
  simp only [Nat.add_zero] at c0
  go_enter Tryz.func87, Tryz.ntmps87
  go_wp2
  refine wp_loop_rounds 3 ?_
  rw [rounds_succ]
  go_wp2
  go_region_held3 (fun w' => w'.cell? ⟨b, off, none⟩ = some (.int .i64 x0) ∧ w'.cell? ⟨w.heap.size + 1, 1, none⟩ = some (.int .i64 k0)) (refine ⟨?_, ?_⟩ <;> (repeat (first | assumption | with_reducible refine ck_drew ?_ | exact ck_new (by first | rfl | simp) rfl | refine ck_old (by first | omega | (simp; omega) | simp) ?_))) (first | (go_at_call 71; refine (wrap_any _ _ _).mono ?_; rintro e w' ⟨rfl, rfl⟩))
  go_wp2
  rw [rounds_succ]
  go_wp2
  go_region_held3 (fun w' => w'.cell? ⟨b, off + 1, none⟩ = some (.int .i64 x1) ∧ w'.cell? ⟨w.heap.size + 2, 1, none⟩ = some (.int .i64 k1)) (refine ⟨?_, ?_⟩ <;> (repeat (first | assumption | with_reducible refine ck_drew ?_ | exact ck_new (by first | rfl | simp) rfl | refine ck_old (by first | omega | (simp; omega) | simp) ?_))) (first | (go_at_call 71; refine (wrap_any _ _ _).mono ?_; rintro e w' ⟨rfl, rfl⟩))
  go_wp2
  rw [rounds_succ]
  go_wp2
  go_ret
  refine ⟨rfl, ?_, gr_drew (gr_drew (gr_alloc (gr_alloc (gr_alloc (World.grownBy.refl _ _) _) _) _))⟩
  rw [hp_drew, hp_drew]
  repeat (first | exact hp_new rfl _ | refine (hp_old (by first | omega | (simp; done) | (simp; omega)) _).trans ?_)
end Go.Proofs.YtcgbfhpmkpglkaaGreatDoor.Bl

/- Contract of wrapped, for 3 pins. -/
namespace Go.Proofs.YtcgbfhpmkpglkaaGreatDoor.Bl
open Go.RowKit
attribute [local go_sem ↓] Go.wp_at_zero Go.wp_at_succ

theorem make3 (w : World) : (Instr.makeSlice 25 (.int .i64 3) (.int .i64 3)).run Tryz.prog w = .ok (.slice (some ⟨w.heap.size, 0, none⟩) 3 3) (w.alloc (.cells #[.int .i64 0, .int .i64 0, .int .i64 0] 3)) := by kernel_rfl

set_option maxHeartbeats 1000000 in
theorem wrappedNo3 (v0 : Option Addr) (a : Option Addr) (len cap : Nat) (w : World) (hne : ((len : Int) == 3) = false) :
    Calls Tryz.prog 87 #[.slice v0 3 3, .slice a len cap] w fun e w' => e = .returned (.slice (some ⟨w.heap.size, 0, none⟩) 3 3) ∧ w'.heap[w.heap.size]? = some (.cells #[.int .i64 0, .int .i64 0, .int .i64 0] 3) ∧ w.grownBy w' none := by
  have hmk := make3
  go_enter Tryz.func87, Tryz.ntmps87
  go_wp2
  go_ret
  exact ⟨rfl, heap_alloc_new _ _, gr_alloc (World.grownBy.refl _ _) _⟩

set_option maxHeartbeats 4000000 in
theorem wrappedYes3 (g b off cap : Nat) (s0 s1 s2 : ByteArray) (k0 k1 k2 x0 x1 x2 : Int) (w : World) (hg : w.heap[g]? = some (.cells #[.string s0, .int .i64 k0, .string s1, .int .i64 k1, .string s2, .int .i64 k2] 113))
    (c0 : w.cell? ⟨b, off + 0, none⟩ = some (.int .i64 x0)) (c1 : w.cell? ⟨b, off + 1, none⟩ = some (.int .i64 x1)) (c2 : w.cell? ⟨b, off + 2, none⟩ = some (.int .i64 x2)) :
    Calls Tryz.prog 87 #[.slice (some ⟨g, 0, none⟩) 3 3, .slice (some ⟨b, off, none⟩) 3 cap] w fun e w' => e = .returned (.slice (some ⟨w.heap.size, 0, none⟩) 3 3) ∧ w'.heap[w.heap.size]? = some (.cells #[.int .i64 (wrapK k0 x0), .int .i64 (wrapK k1 x1), .int .i64 (wrapK k2 x2)] 3) ∧ w.grownBy w' none := by
  have hmk := make3
  have hgl := at_lt hg
  have hbl : b < w.heap.size := World.block_lt_of_cell? w _ c0
  have hgl1 : g < w.heap.size + 1 := by omega
  have hbl1 : b < w.heap.size + 1 := by omega
  have hgl2 : g < w.heap.size + 1 + 1 := by omega
  have hbl2 : b < w.heap.size + 1 + 1 := by omega
  have hgl3 : g < w.heap.size + 1 + 1 + 1 := by omega
  have hbl3 : b < w.heap.size + 1 + 1 + 1 := by omega
  have hwl1 : w.heap.size < w.heap.size + 1 := by omega
  have hwl2 : w.heap.size < w.heap.size + 1 + 1 := by omega
  have hwl3 : w.heap.size < w.heap.size + 1 + 1 + 1 := by omega
  have g0 := at_cell hg 0
  have g1 := at_cell hg 1
  have g2 := at_cell hg 2
  have g3 := at_cell hg 3
  have g4 := at_cell hg 4
  have g5 := at_cell hg 5
  simp at g0 g1 g2 g3 g4 g5
  clear hg
  simp only [Nat.add_zero] at c0
  go_enter Tryz.func87, Tryz.ntmps87
  go_wp2
  refine wp_loop_rounds 4 ?_
  rw [rounds_succ]
  go_wp2
  go_region_held3 (fun w' => w'.cell? ⟨b, off, none⟩ = some (.int .i64 x0) ∧ w'.cell? ⟨w.heap.size + 1, 1, none⟩ = some (.int .i64 k0)) (refine ⟨?_, ?_⟩ <;> (repeat (first | assumption | with_reducible refine ck_drew ?_ | exact ck_new (by first | rfl | simp) rfl | refine ck_old (by first | omega | (simp; omega) | simp) ?_))) (first | (go_at_call 71; refine (wrap_any _ _ _).mono ?_; rintro e w' ⟨rfl, rfl⟩))
  go_wp2
  rw [rounds_succ]
  go_wp2
  go_region_held3 (fun w' => w'.cell? ⟨b, off + 1, none⟩ = some (.int .i64 x1) ∧ w'.cell? ⟨w.heap.size + 2, 1, none⟩ = some (.int .i64 k1)) (refine ⟨?_, ?_⟩ <;> (repeat (first | assumption | with_reducible refine ck_drew ?_ | exact ck_new (by first | rfl | simp) rfl | refine ck_old (by first | omega | (simp; omega) | simp) ?_))) (first | (go_at_call 71; refine (wrap_any _ _ _).mono ?_; rintro e w' ⟨rfl, rfl⟩))
  go_wp2
  rw [rounds_succ]
  go_wp2
  go_region_held3 (fun w' => w'.cell? ⟨b, off + 2, none⟩ = some (.int .i64 x2) ∧ w'.cell? ⟨w.heap.size + 3, 1, none⟩ = some (.int .i64 k2)) (refine ⟨?_, ?_⟩ <;> (repeat (first | assumption | with_reducible refine ck_drew ?_ | exact ck_new (by first | rfl | simp) rfl | refine ck_old (by first | omega | (simp; omega) | simp) ?_))) (first | (go_at_call 71; refine (wrap_any _ _ _).mono ?_; rintro e w' ⟨rfl, rfl⟩))
  go_wp2
  rw [rounds_succ]
  go_wp2
  go_ret
  refine ⟨rfl, ?_, gr_drew (gr_drew (gr_drew (gr_alloc (gr_alloc (gr_alloc (gr_alloc (World.grownBy.refl _ _) _) _) _) _)))⟩
  rw [hp_drew, hp_drew, hp_drew]
  repeat (first | exact hp_new rfl _ | refine (hp_old (by first | omega | (simp; done) | (simp; omega)) _).trans ?_)
end Go.Proofs.YtcgbfhpmkpglkaaGreatDoor.Bl

/- Contract of wrapped, for 4 pins. -/
namespace Go.Proofs.YtcgbfhpmkpglkaaGreatDoor.Bl
open Go.RowKit
attribute [local go_sem ↓] Go.wp_at_zero Go.wp_at_succ

theorem make4 (w : World) : (Instr.makeSlice 25 (.int .i64 4) (.int .i64 4)).run Tryz.prog w = .ok (.slice (some ⟨w.heap.size, 0, none⟩) 4 4) (w.alloc (.cells #[.int .i64 0, .int .i64 0, .int .i64 0, .int .i64 0] 3)) := by kernel_rfl

set_option maxHeartbeats 1000000 in
theorem wrappedNo4 (v0 : Option Addr) (a : Option Addr) (len cap : Nat) (w : World) (hne : ((len : Int) == 4) = false) :
    Calls Tryz.prog 87 #[.slice v0 4 4, .slice a len cap] w fun e w' => e = .returned (.slice (some ⟨w.heap.size, 0, none⟩) 4 4) ∧ w'.heap[w.heap.size]? = some (.cells #[.int .i64 0, .int .i64 0, .int .i64 0, .int .i64 0] 3) ∧ w.grownBy w' none := by
  have hmk := make4
  go_enter Tryz.func87, Tryz.ntmps87
  go_wp2
  go_ret
  exact ⟨rfl, heap_alloc_new _ _, gr_alloc (World.grownBy.refl _ _) _⟩

set_option maxHeartbeats 4000000 in
theorem wrappedYes4 (g b off cap : Nat) (s0 s1 s2 s3 : ByteArray) (k0 k1 k2 k3 x0 x1 x2 x3 : Int) (w : World) (hg : w.heap[g]? = some (.cells #[.string s0, .int .i64 k0, .string s1, .int .i64 k1, .string s2, .int .i64 k2, .string s3, .int .i64 k3] 113))
    (c0 : w.cell? ⟨b, off + 0, none⟩ = some (.int .i64 x0)) (c1 : w.cell? ⟨b, off + 1, none⟩ = some (.int .i64 x1)) (c2 : w.cell? ⟨b, off + 2, none⟩ = some (.int .i64 x2)) (c3 : w.cell? ⟨b, off + 3, none⟩ = some (.int .i64 x3)) :
    Calls Tryz.prog 87 #[.slice (some ⟨g, 0, none⟩) 4 4, .slice (some ⟨b, off, none⟩) 4 cap] w fun e w' => e = .returned (.slice (some ⟨w.heap.size, 0, none⟩) 4 4) ∧ w'.heap[w.heap.size]? = some (.cells #[.int .i64 (wrapK k0 x0), .int .i64 (wrapK k1 x1), .int .i64 (wrapK k2 x2), .int .i64 (wrapK k3 x3)] 3) ∧ w.grownBy w' none := by
  have hmk := make4
  have hgl := at_lt hg
  have hbl : b < w.heap.size := World.block_lt_of_cell? w _ c0
  have hgl1 : g < w.heap.size + 1 := by omega
  have hbl1 : b < w.heap.size + 1 := by omega
  have hgl2 : g < w.heap.size + 1 + 1 := by omega
  have hbl2 : b < w.heap.size + 1 + 1 := by omega
  have hgl3 : g < w.heap.size + 1 + 1 + 1 := by omega
  have hbl3 : b < w.heap.size + 1 + 1 + 1 := by omega
  have hgl4 : g < w.heap.size + 1 + 1 + 1 + 1 := by omega
  have hbl4 : b < w.heap.size + 1 + 1 + 1 + 1 := by omega
  have hwl1 : w.heap.size < w.heap.size + 1 := by omega
  have hwl2 : w.heap.size < w.heap.size + 1 + 1 := by omega
  have hwl3 : w.heap.size < w.heap.size + 1 + 1 + 1 := by omega
  have hwl4 : w.heap.size < w.heap.size + 1 + 1 + 1 + 1 := by omega
  have g0 := at_cell hg 0
  have g1 := at_cell hg 1
  have g2 := at_cell hg 2
  have g3 := at_cell hg 3
  have g4 := at_cell hg 4
  have g5 := at_cell hg 5
  have g6 := at_cell hg 6
  have g7 := at_cell hg 7
  simp at g0 g1 g2 g3 g4 g5 g6 g7
  clear hg
  simp only [Nat.add_zero] at c0
  go_enter Tryz.func87, Tryz.ntmps87
  go_wp2
  refine wp_loop_rounds 5 ?_
  rw [rounds_succ]
  go_wp2
  go_region_held3 (fun w' => w'.cell? ⟨b, off, none⟩ = some (.int .i64 x0) ∧ w'.cell? ⟨w.heap.size + 1, 1, none⟩ = some (.int .i64 k0)) (refine ⟨?_, ?_⟩ <;> (repeat (first | assumption | with_reducible refine ck_drew ?_ | exact ck_new (by first | rfl | simp) rfl | refine ck_old (by first | omega | (simp; omega) | simp) ?_))) (first | (go_at_call 71; refine (wrap_any _ _ _).mono ?_; rintro e w' ⟨rfl, rfl⟩))
  go_wp2
  rw [rounds_succ]
  go_wp2
  go_region_held3 (fun w' => w'.cell? ⟨b, off + 1, none⟩ = some (.int .i64 x1) ∧ w'.cell? ⟨w.heap.size + 2, 1, none⟩ = some (.int .i64 k1)) (refine ⟨?_, ?_⟩ <;> (repeat (first | assumption | with_reducible refine ck_drew ?_ | exact ck_new (by first | rfl | simp) rfl | refine ck_old (by first | omega | (simp; omega) | simp) ?_))) (first | (go_at_call 71; refine (wrap_any _ _ _).mono ?_; rintro e w' ⟨rfl, rfl⟩))
  go_wp2
  rw [rounds_succ]
  go_wp2
  go_region_held3 (fun w' => w'.cell? ⟨b, off + 2, none⟩ = some (.int .i64 x2) ∧ w'.cell? ⟨w.heap.size + 3, 1, none⟩ = some (.int .i64 k2)) (refine ⟨?_, ?_⟩ <;> (repeat (first | assumption | with_reducible refine ck_drew ?_ | exact ck_new (by first | rfl | simp) rfl | refine ck_old (by first | omega | (simp; omega) | simp) ?_))) (first | (go_at_call 71; refine (wrap_any _ _ _).mono ?_; rintro e w' ⟨rfl, rfl⟩))
  go_wp2
  rw [rounds_succ]
  go_wp2
  go_region_held3 (fun w' => w'.cell? ⟨b, off + 3, none⟩ = some (.int .i64 x3) ∧ w'.cell? ⟨w.heap.size + 4, 1, none⟩ = some (.int .i64 k3)) (refine ⟨?_, ?_⟩ <;> (repeat (first | assumption | with_reducible refine ck_drew ?_ | exact ck_new (by first | rfl | simp) rfl | refine ck_old (by first | omega | (simp; omega) | simp) ?_))) (first | (go_at_call 71; refine (wrap_any _ _ _).mono ?_; rintro e w' ⟨rfl, rfl⟩))
  go_wp2
  rw [rounds_succ]
  go_wp2
  go_ret
  refine ⟨rfl, ?_, gr_drew (gr_drew (gr_drew (gr_drew (gr_alloc (gr_alloc (gr_alloc (gr_alloc (gr_alloc (World.grownBy.refl _ _) _) _) _) _) _))))⟩
  rw [hp_drew, hp_drew, hp_drew, hp_drew]
  repeat (first | exact hp_new rfl _ | refine (hp_old (by first | omega | (simp; done) | (simp; omega)) _).trans ?_)
end Go.Proofs.YtcgbfhpmkpglkaaGreatDoor.Bl
