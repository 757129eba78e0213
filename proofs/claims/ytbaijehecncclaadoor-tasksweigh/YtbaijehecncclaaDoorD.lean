/- Contracts of the pins and of the twelve shapes. -/
import Derived.Test.YtbaijehecncclaaDoorB0
namespace Go.Proofs.YtbaijehecncclaaDoor
open Go.RowKit
theorem boolPin_any (s : ByteArray) (w : World) : Calls Tryd.prog 75 #[.string s] w fun e w' => e = .returned (.agg #[.string s, .int .i64 1]) ∧ w' = w.alloc (.cells #[.string s, .int .i64 1] 76) := by
  go_enter Tryd.func75, Tryd.ntmps75
  go_wp2
  exact bodyPost_ret (v := .agg #[.string s, .int .i64 1]) (by simp [results, Tryd.results75, go_sem]) rfl ⟨rfl, rfl⟩
theorem timePin_any (s : ByteArray) (w : World) : Calls Tryd.prog 76 #[.string s] w fun e w' => e = .returned (.agg #[.string s, .int .i64 5]) ∧ w' = w.alloc (.cells #[.string s, .int .i64 5] 76) := by
  go_enter Tryd.func76, Tryd.ntmps76
  go_wp2
  exact bodyPost_ret (v := .agg #[.string s, .int .i64 5]) (by simp [results, Tryd.results76, go_sem]) rfl ⟨rfl, rfl⟩
theorem intPin_any (s : ByteArray) (w : World) : Calls Tryd.prog 87 #[.string s] w fun e w' => e = .returned (.agg #[.string s, .int .i64 2]) ∧ w' = w.alloc (.cells #[.string s, .int .i64 2] 76) := by
  go_enter Tryd.func87, Tryd.ntmps87
  go_wp2
  exact bodyPost_ret (v := .agg #[.string s, .int .i64 2]) (by simp [results, Tryd.results87, go_sem]) rfl ⟨rfl, rfl⟩

def pinArr (l : List (ByteArray × Int)) : Array Value := (l.flatMap fun p => [.string p.1, .int .i64 p.2]).toArray

/-- A shape that was just made: three lists of pins, each in a block of its own. -/
def Shp (w w' : World) (v : Value) (I O S : List (ByteArray × Int)) : Prop :=
  ∃ b1 b2 b3, v = .agg #[.slice (some ⟨b1, 0, none⟩) I.length I.length, .slice (some ⟨b2, 0, none⟩) O.length O.length, .slice (some ⟨b3, 0, none⟩) S.length S.length] ∧
    w.heap.size ≤ b1 ∧ w.heap.size ≤ b2 ∧ w.heap.size ≤ b3 ∧ b1 ≠ b2 ∧ b1 ≠ b3 ∧ b2 ≠ b3 ∧
    w'.heap[b1]? = some (.cells (pinArr I) 76) ∧ w'.heap[b2]? = some (.cells (pinArr O) 76) ∧ w'.heap[b3]? = some (.cells (pinArr S) 76)





set_option maxHeartbeats 1000000 in
theorem pins51 (p : Value) (s : ByteArray) (w : World) : Calls Tryd.prog 74 #[p, .string s] w fun e w' => e = .returned (.agg #[.slice (some ⟨w.heap.size + 3, 0, none⟩) 2 2, .slice (some ⟨w.heap.size + 6, 0, none⟩) 2 2, .slice (some ⟨w.heap.size + 11, 0, none⟩) 4 4]) ∧ w' = ((((((((((((w.alloc (.cells #[.slice (some ⟨w.heap.size + 3, 0, none⟩) 2 2, .slice (some ⟨w.heap.size + 6, 0, none⟩) 2 2, .slice (some ⟨w.heap.size + 11, 0, none⟩) 4 4] 71)).alloc (.cells #[.string { data := #[105, 110] }, .int .i64 1] 76)).alloc (.cells #[.string { data := #[112, 116] }, .int .i64 5] 76)).alloc (.cells #[.string { data := #[105, 110] }, .int .i64 1, .string { data := #[112, 116] }, .int .i64 5] 76)).alloc (.cells #[.string { data := #[113] }, .int .i64 1] 76)).alloc (.cells #[.string { data := #[101, 116] }, .int .i64 5] 76)).alloc (.cells #[.string { data := #[113] }, .int .i64 1, .string { data := #[101, 116] }, .int .i64 5] 76)).alloc (.cells #[.string { data := #[114, 117, 110] }, .int .i64 1] 76)).alloc (.cells #[.string { data := #[115, 105, 110, 99, 101] }, .int .i64 5] 76)).alloc (.cells #[.string s, .int .i64 1] 76)).alloc (.cells #[.string { data := #[97, 116] }, .int .i64 5] 76)).alloc (.cells #[.string { data := #[114, 117, 110] }, .int .i64 1, .string { data := #[115, 105, 110, 99, 101] }, .int .i64 5, .string s, .int .i64 1, .string { data := #[97, 116] }, .int .i64 5] 76)) := by
  go_enter Tryd.func74, Tryd.ntmps74
  go_wp2_with (first | (go_at_call 75; refine (boolPin_any _ _).mono ?_; rintro e w' ⟨rfl, rfl⟩) | (go_at_call 76; refine (timePin_any _ _).mono ?_; rintro e w' ⟨rfl, rfl⟩) | (go_at_call 87; refine (intPin_any _ _).mono ?_; rintro e w' ⟨rfl, rfl⟩))
  exact bodyPost_ret (v := .agg #[.slice (some ⟨w.heap.size + 3, 0, none⟩) 2 2, .slice (some ⟨w.heap.size + 6, 0, none⟩) 2 2, .slice (some ⟨w.heap.size + 11, 0, none⟩) 4 4]) (by simp [results, Tryd.results74, go_sem]) rfl ⟨rfl, rfl⟩

set_option maxHeartbeats 1000000 in
theorem pins67 (p : Value) (s t : ByteArray) (w : World) : Calls Tryd.prog 86 #[p, .string s, .string t] w fun e w' => e = .returned (.agg #[.slice (some ⟨w.heap.size + 4, 0, none⟩) 3 3, .slice (some ⟨w.heap.size + 7, 0, none⟩) 2 2, .slice (some ⟨w.heap.size + 10, 0, none⟩) 2 2]) ∧ w' = (((((((((((w.alloc (.cells #[.slice (some ⟨w.heap.size + 4, 0, none⟩) 3 3, .slice (some ⟨w.heap.size + 7, 0, none⟩) 2 2, .slice (some ⟨w.heap.size + 10, 0, none⟩) 2 2] 71)).alloc (.cells #[.string s, .int .i64 1] 76)).alloc (.cells #[.string t, .int .i64 1] 76)).alloc (.cells #[.string { data := #[112, 118] }, .int .i64 2] 76)).alloc (.cells #[.string s, .int .i64 1, .string t, .int .i64 1, .string { data := #[112, 118] }, .int .i64 2] 76)).alloc (.cells #[.string { data := #[113] }, .int .i64 1] 76)).alloc (.cells #[.string { data := #[99, 118] }, .int .i64 2] 76)).alloc (.cells #[.string { data := #[113] }, .int .i64 1, .string { data := #[99, 118] }, .int .i64 2] 76)).alloc (.cells #[.string { data := #[112, 114, 101, 118] }, .int .i64 1] 76)).alloc (.cells #[.string { data := #[99, 111, 117, 110, 116] }, .int .i64 2] 76)).alloc (.cells #[.string { data := #[112, 114, 101, 118] }, .int .i64 1, .string { data := #[99, 111, 117, 110, 116] }, .int .i64 2] 76)) := by
  go_enter Tryd.func86, Tryd.ntmps86
  go_wp2_with (first | (go_at_call 75; refine (boolPin_any _ _).mono ?_; rintro e w' ⟨rfl, rfl⟩) | (go_at_call 76; refine (timePin_any _ _).mono ?_; rintro e w' ⟨rfl, rfl⟩) | (go_at_call 87; refine (intPin_any _ _).mono ?_; rintro e w' ⟨rfl, rfl⟩))
  exact bodyPost_ret (v := .agg #[.slice (some ⟨w.heap.size + 4, 0, none⟩) 3 3, .slice (some ⟨w.heap.size + 7, 0, none⟩) 2 2, .slice (some ⟨w.heap.size + 10, 0, none⟩) 2 2]) (by simp [results, Tryd.results86, go_sem]) rfl ⟨rfl, rfl⟩

set_option maxHeartbeats 1000000 in
theorem pins86 (p : Value) (a : Option Addr) (n c : Nat) (s : ByteArray) (w : World) : Calls Tryd.prog 103 #[p, .string s, .slice a n c] w fun e w' => e = .returned (.agg #[.slice a n c, .slice (some ⟨w.heap.size + 2, 0, none⟩) 1 1, .slice (some ⟨w.heap.size + 4, 0, none⟩) 1 1]) ∧ w' = (((((w.alloc (.cells #[.slice a n c, .slice (some ⟨w.heap.size + 2, 0, none⟩) 1 1, .slice (some ⟨w.heap.size + 4, 0, none⟩) 1 1] 71)).alloc (.cells #[.string s, .int .i64 1] 76)).alloc (.cells #[.string s, .int .i64 1] 76)).alloc (.cells #[.string { data := #[111, 110] }, .int .i64 1] 76)).alloc (.cells #[.string { data := #[111, 110] }, .int .i64 1] 76)) := by
  go_enter Tryd.func103, Tryd.ntmps103
  go_wp2_with (first | (go_at_call 75; refine (boolPin_any _ _).mono ?_; rintro e w' ⟨rfl, rfl⟩) | (go_at_call 76; refine (timePin_any _ _).mono ?_; rintro e w' ⟨rfl, rfl⟩) | (go_at_call 87; refine (intPin_any _ _).mono ?_; rintro e w' ⟨rfl, rfl⟩))
  exact bodyPost_ret (v := .agg #[.slice a n c, .slice (some ⟨w.heap.size + 2, 0, none⟩) 1 1, .slice (some ⟨w.heap.size + 4, 0, none⟩) 1 1]) (by simp [results, Tryd.results103, go_sem]) rfl ⟨rfl, rfl⟩

def tonI : List (ByteArray × Int) := [({ data := #[105, 110] }, 1), ({ data := #[112, 116] }, 5)]
def tonO : List (ByteArray × Int) := [({ data := #[113] }, 1), ({ data := #[101, 116] }, 5)]
def tonS : List (ByteArray × Int) := [({ data := #[114, 117, 110] }, 1), ({ data := #[115, 105, 110, 99, 101] }, 5), ({ data := #[100, 111, 110, 101] }, 1), ({ data := #[97, 116] }, 5)]
def tofI : List (ByteArray × Int) := [({ data := #[105, 110] }, 1), ({ data := #[112, 116] }, 5)]
def tofO : List (ByteArray × Int) := [({ data := #[113] }, 1), ({ data := #[101, 116] }, 5)]
def tofS : List (ByteArray × Int) := [({ data := #[114, 117, 110] }, 1), ({ data := #[115, 105, 110, 99, 101] }, 5), ({ data := #[111, 110] }, 1), ({ data := #[97, 116] }, 5)]
def tpI : List (ByteArray × Int) := [({ data := #[105, 110] }, 1), ({ data := #[112, 116] }, 5)]
def tpO : List (ByteArray × Int) := [({ data := #[113] }, 1), ({ data := #[101, 116] }, 5)]
def tpS : List (ByteArray × Int) := [({ data := #[114, 117, 110] }, 1), ({ data := #[115, 105, 110, 99, 101] }, 5), ({ data := #[112, 114, 101, 118] }, 1), ({ data := #[97, 116] }, 5)]
def ctuI : List (ByteArray × Int) := [({ data := #[99, 117] }, 1), ({ data := #[114] }, 1), ({ data := #[112, 118] }, 2)]
def ctuO : List (ByteArray × Int) := [({ data := #[113] }, 1), ({ data := #[99, 118] }, 2)]
def ctuS : List (ByteArray × Int) := [({ data := #[112, 114, 101, 118] }, 1), ({ data := #[99, 111, 117, 110, 116] }, 2)]
def ctdI : List (ByteArray × Int) := [({ data := #[99, 100] }, 1), ({ data := #[108, 100] }, 1), ({ data := #[112, 118] }, 2)]
def ctdO : List (ByteArray × Int) := [({ data := #[113] }, 1), ({ data := #[99, 118] }, 2)]
def ctdS : List (ByteArray × Int) := [({ data := #[112, 114, 101, 118] }, 1), ({ data := #[99, 111, 117, 110, 116] }, 2)]
def ctudI : List (ByteArray × Int) := [({ data := #[99, 117] }, 1), ({ data := #[99, 100] }, 1), ({ data := #[114] }, 1), ({ data := #[108, 100] }, 1), ({ data := #[112, 118] }, 2)]
def ctudO : List (ByteArray × Int) := [({ data := #[113, 117] }, 1), ({ data := #[113, 100] }, 1), ({ data := #[99, 118] }, 2)]
def ctudS : List (ByteArray × Int) := [({ data := #[117, 112] }, 1), ({ data := #[100, 111, 119, 110] }, 1), ({ data := #[99, 111, 117, 110, 116] }, 2)]
def edgeI : List (ByteArray × Int) := [({ data := #[99, 108, 107] }, 1)]
def edgeO : List (ByteArray × Int) := [({ data := #[113] }, 1)]
def edgeS : List (ByteArray × Int) := [({ data := #[112, 114, 101, 118] }, 1)]
def srI : List (ByteArray × Int) := [({ data := #[115, 49] }, 1), ({ data := #[114] }, 1)]
def srO : List (ByteArray × Int) := [({ data := #[113, 49] }, 1)]
def srS : List (ByteArray × Int) := [({ data := #[111, 110] }, 1)]
def rsI : List (ByteArray × Int) := [({ data := #[115] }, 1), ({ data := #[114, 49] }, 1)]
def rsO : List (ByteArray × Int) := [({ data := #[113, 49] }, 1)]
def rsS : List (ByteArray × Int) := [({ data := #[111, 110] }, 1)]
def rampI : List (ByteArray × Int) := [({ data := #[120] }, 2), ({ data := #[115, 116, 101, 112] }, 2)]
def rampO : List (ByteArray × Int) := [({ data := #[121] }, 2)]
def rampS : List (ByteArray × Int) := [({ data := #[97, 116] }, 2)]
def hystI : List (ByteArray × Int) := [({ data := #[120] }, 2), ({ data := #[104, 105] }, 2), ({ data := #[108, 111] }, 2)]
def hystO : List (ByteArray × Int) := [({ data := #[113] }, 1)]
def hystS : List (ByteArray × Int) := [({ data := #[111, 110] }, 1)]
set_option maxHeartbeats 1000000 in
theorem shape_ton (p : Nat) (w : World) : Calls Tryd.prog 71 #[.pointer (some ⟨p, 0, none⟩)] w fun e w' => ∃ v, e = .returned v ∧ Shp w w' v tonI tonO tonS ∧ w.grownBy w' none := by
  go_enter Tryd.func71, Tryd.ntmps71
  go_wp2_with (first | (go_at_call 75; refine (boolPin_any _ _).mono ?_; rintro e w' ⟨rfl, rfl⟩) | (go_at_call 76; refine (timePin_any _ _).mono ?_; rintro e w' ⟨rfl, rfl⟩) | (go_at_call 87; refine (intPin_any _ _).mono ?_; rintro e w' ⟨rfl, rfl⟩) | (go_at_call 74; refine (pins51 _ _ _).mono ?_; rintro e w' ⟨rfl, rfl⟩) | (go_at_call 86; refine (pins67 _ _ _ _).mono ?_; rintro e w' ⟨rfl, rfl⟩) | (go_at_call 103; refine (pins86 _ _ _ _ _ _).mono ?_; rintro e w' ⟨rfl, rfl⟩))
  refine bodyPost_ret (v := .agg #[.slice (some ⟨w.heap.size + 4, 0, none⟩) 2 2, .slice (some ⟨w.heap.size + 7, 0, none⟩) 2 2, .slice (some ⟨w.heap.size + 12, 0, none⟩) 4 4]) (by simp [results, Tryd.results71, go_sem]) rfl ⟨_, rfl, ⟨w.heap.size + 4, w.heap.size + 7, w.heap.size + 12, rfl, by omega, by omega, by omega, by omega, by omega, by omega, ?_, ?_, ?_⟩, gr_alloc (gr_alloc (gr_alloc (gr_alloc (gr_alloc (gr_alloc (gr_alloc (gr_alloc (gr_alloc (gr_alloc (gr_alloc (gr_alloc (gr_alloc (World.grownBy.refl _ _) _) _) _) _) _) _) _) _) _) _) _) _) _⟩
  all_goals (repeat (first | exact hp_new (by simp) _ | refine (hp_old (by simp) _).trans ?_))

set_option maxHeartbeats 1000000 in
theorem shape_tof (p : Nat) (w : World) : Calls Tryd.prog 77 #[.pointer (some ⟨p, 0, none⟩)] w fun e w' => ∃ v, e = .returned v ∧ Shp w w' v tofI tofO tofS ∧ w.grownBy w' none := by
  go_enter Tryd.func77, Tryd.ntmps77
  go_wp2_with (first | (go_at_call 75; refine (boolPin_any _ _).mono ?_; rintro e w' ⟨rfl, rfl⟩) | (go_at_call 76; refine (timePin_any _ _).mono ?_; rintro e w' ⟨rfl, rfl⟩) | (go_at_call 87; refine (intPin_any _ _).mono ?_; rintro e w' ⟨rfl, rfl⟩) | (go_at_call 74; refine (pins51 _ _ _).mono ?_; rintro e w' ⟨rfl, rfl⟩) | (go_at_call 86; refine (pins67 _ _ _ _).mono ?_; rintro e w' ⟨rfl, rfl⟩) | (go_at_call 103; refine (pins86 _ _ _ _ _ _).mono ?_; rintro e w' ⟨rfl, rfl⟩))
  refine bodyPost_ret (v := .agg #[.slice (some ⟨w.heap.size + 4, 0, none⟩) 2 2, .slice (some ⟨w.heap.size + 7, 0, none⟩) 2 2, .slice (some ⟨w.heap.size + 12, 0, none⟩) 4 4]) (by simp [results, Tryd.results77, go_sem]) rfl ⟨_, rfl, ⟨w.heap.size + 4, w.heap.size + 7, w.heap.size + 12, rfl, by omega, by omega, by omega, by omega, by omega, by omega, ?_, ?_, ?_⟩, gr_alloc (gr_alloc (gr_alloc (gr_alloc (gr_alloc (gr_alloc (gr_alloc (gr_alloc (gr_alloc (gr_alloc (gr_alloc (gr_alloc (gr_alloc (World.grownBy.refl _ _) _) _) _) _) _) _) _) _) _) _) _) _) _⟩
  all_goals (repeat (first | exact hp_new (by simp) _ | refine (hp_old (by simp) _).trans ?_))

set_option maxHeartbeats 1000000 in
theorem shape_tp (p : Nat) (w : World) : Calls Tryd.prog 79 #[.pointer (some ⟨p, 0, none⟩)] w fun e w' => ∃ v, e = .returned v ∧ Shp w w' v tpI tpO tpS ∧ w.grownBy w' none := by
  go_enter Tryd.func79, Tryd.ntmps79
  go_wp2_with (first | (go_at_call 75; refine (boolPin_any _ _).mono ?_; rintro e w' ⟨rfl, rfl⟩) | (go_at_call 76; refine (timePin_any _ _).mono ?_; rintro e w' ⟨rfl, rfl⟩) | (go_at_call 87; refine (intPin_any _ _).mono ?_; rintro e w' ⟨rfl, rfl⟩) | (go_at_call 74; refine (pins51 _ _ _).mono ?_; rintro e w' ⟨rfl, rfl⟩) | (go_at_call 86; refine (pins67 _ _ _ _).mono ?_; rintro e w' ⟨rfl, rfl⟩) | (go_at_call 103; refine (pins86 _ _ _ _ _ _).mono ?_; rintro e w' ⟨rfl, rfl⟩))
  refine bodyPost_ret (v := .agg #[.slice (some ⟨w.heap.size + 4, 0, none⟩) 2 2, .slice (some ⟨w.heap.size + 7, 0, none⟩) 2 2, .slice (some ⟨w.heap.size + 12, 0, none⟩) 4 4]) (by simp [results, Tryd.results79, go_sem]) rfl ⟨_, rfl, ⟨w.heap.size + 4, w.heap.size + 7, w.heap.size + 12, rfl, by omega, by omega, by omega, by omega, by omega, by omega, ?_, ?_, ?_⟩, gr_alloc (gr_alloc (gr_alloc (gr_alloc (gr_alloc (gr_alloc (gr_alloc (gr_alloc (gr_alloc (gr_alloc (gr_alloc (gr_alloc (gr_alloc (World.grownBy.refl _ _) _) _) _) _) _) _) _) _) _) _) _) _) _⟩
  all_goals (repeat (first | exact hp_new (by simp) _ | refine (hp_old (by simp) _).trans ?_))

set_option maxHeartbeats 1000000 in
theorem shape_ctu (p : Nat) (w : World) : Calls Tryd.prog 84 #[.pointer (some ⟨p, 0, none⟩)] w fun e w' => ∃ v, e = .returned v ∧ Shp w w' v ctuI ctuO ctuS ∧ w.grownBy w' none := by
  go_enter Tryd.func84, Tryd.ntmps84
  go_wp2_with (first | (go_at_call 75; refine (boolPin_any _ _).mono ?_; rintro e w' ⟨rfl, rfl⟩) | (go_at_call 76; refine (timePin_any _ _).mono ?_; rintro e w' ⟨rfl, rfl⟩) | (go_at_call 87; refine (intPin_any _ _).mono ?_; rintro e w' ⟨rfl, rfl⟩) | (go_at_call 74; refine (pins51 _ _ _).mono ?_; rintro e w' ⟨rfl, rfl⟩) | (go_at_call 86; refine (pins67 _ _ _ _).mono ?_; rintro e w' ⟨rfl, rfl⟩) | (go_at_call 103; refine (pins86 _ _ _ _ _ _).mono ?_; rintro e w' ⟨rfl, rfl⟩))
  refine bodyPost_ret (v := .agg #[.slice (some ⟨w.heap.size + 5, 0, none⟩) 3 3, .slice (some ⟨w.heap.size + 8, 0, none⟩) 2 2, .slice (some ⟨w.heap.size + 11, 0, none⟩) 2 2]) (by simp [results, Tryd.results84, go_sem]) rfl ⟨_, rfl, ⟨w.heap.size + 5, w.heap.size + 8, w.heap.size + 11, rfl, by omega, by omega, by omega, by omega, by omega, by omega, ?_, ?_, ?_⟩, gr_alloc (gr_alloc (gr_alloc (gr_alloc (gr_alloc (gr_alloc (gr_alloc (gr_alloc (gr_alloc (gr_alloc (gr_alloc (gr_alloc (World.grownBy.refl _ _) _) _) _) _) _) _) _) _) _) _) _) _⟩
  all_goals (repeat (first | exact hp_new (by simp) _ | refine (hp_old (by simp) _).trans ?_))

set_option maxHeartbeats 1000000 in
theorem shape_ctd (p : Nat) (w : World) : Calls Tryd.prog 88 #[.pointer (some ⟨p, 0, none⟩)] w fun e w' => ∃ v, e = .returned v ∧ Shp w w' v ctdI ctdO ctdS ∧ w.grownBy w' none := by
  go_enter Tryd.func88, Tryd.ntmps88
  go_wp2_with (first | (go_at_call 75; refine (boolPin_any _ _).mono ?_; rintro e w' ⟨rfl, rfl⟩) | (go_at_call 76; refine (timePin_any _ _).mono ?_; rintro e w' ⟨rfl, rfl⟩) | (go_at_call 87; refine (intPin_any _ _).mono ?_; rintro e w' ⟨rfl, rfl⟩) | (go_at_call 74; refine (pins51 _ _ _).mono ?_; rintro e w' ⟨rfl, rfl⟩) | (go_at_call 86; refine (pins67 _ _ _ _).mono ?_; rintro e w' ⟨rfl, rfl⟩) | (go_at_call 103; refine (pins86 _ _ _ _ _ _).mono ?_; rintro e w' ⟨rfl, rfl⟩))
  refine bodyPost_ret (v := .agg #[.slice (some ⟨w.heap.size + 5, 0, none⟩) 3 3, .slice (some ⟨w.heap.size + 8, 0, none⟩) 2 2, .slice (some ⟨w.heap.size + 11, 0, none⟩) 2 2]) (by simp [results, Tryd.results88, go_sem]) rfl ⟨_, rfl, ⟨w.heap.size + 5, w.heap.size + 8, w.heap.size + 11, rfl, by omega, by omega, by omega, by omega, by omega, by omega, ?_, ?_, ?_⟩, gr_alloc (gr_alloc (gr_alloc (gr_alloc (gr_alloc (gr_alloc (gr_alloc (gr_alloc (gr_alloc (gr_alloc (gr_alloc (gr_alloc (World.grownBy.refl _ _) _) _) _) _) _) _) _) _) _) _) _) _⟩
  all_goals (repeat (first | exact hp_new (by simp) _ | refine (hp_old (by simp) _).trans ?_))

set_option maxHeartbeats 1000000 in
theorem shape_ctud (p : Nat) (w : World) : Calls Tryd.prog 92 #[.pointer (some ⟨p, 0, none⟩)] w fun e w' => ∃ v, e = .returned v ∧ Shp w w' v ctudI ctudO ctudS ∧ w.grownBy w' none := by
  go_enter Tryd.func92, Tryd.ntmps92
  go_wp2_with (first | (go_at_call 75; refine (boolPin_any _ _).mono ?_; rintro e w' ⟨rfl, rfl⟩) | (go_at_call 76; refine (timePin_any _ _).mono ?_; rintro e w' ⟨rfl, rfl⟩) | (go_at_call 87; refine (intPin_any _ _).mono ?_; rintro e w' ⟨rfl, rfl⟩) | (go_at_call 74; refine (pins51 _ _ _).mono ?_; rintro e w' ⟨rfl, rfl⟩) | (go_at_call 86; refine (pins67 _ _ _ _).mono ?_; rintro e w' ⟨rfl, rfl⟩) | (go_at_call 103; refine (pins86 _ _ _ _ _ _).mono ?_; rintro e w' ⟨rfl, rfl⟩))
  refine bodyPost_ret (v := .agg #[.slice (some ⟨w.heap.size + 6, 0, none⟩) 5 5, .slice (some ⟨w.heap.size + 10, 0, none⟩) 3 3, .slice (some ⟨w.heap.size + 14, 0, none⟩) 3 3]) (by simp [results, Tryd.results92, go_sem]) rfl ⟨_, rfl, ⟨w.heap.size + 6, w.heap.size + 10, w.heap.size + 14, rfl, by omega, by omega, by omega, by omega, by omega, by omega, ?_, ?_, ?_⟩, gr_alloc (gr_alloc (gr_alloc (gr_alloc (gr_alloc (gr_alloc (gr_alloc (gr_alloc (gr_alloc (gr_alloc (gr_alloc (gr_alloc (gr_alloc (gr_alloc (gr_alloc (World.grownBy.refl _ _) _) _) _) _) _) _) _) _) _) _) _) _) _) _) _⟩
  all_goals (repeat (first | exact hp_new (by simp) _ | refine (hp_old (by simp) _).trans ?_))

set_option maxHeartbeats 1000000 in
theorem shape_edge (p : Nat) (w : World) : Calls Tryd.prog 96 #[.pointer (some ⟨p, 0, none⟩)] w fun e w' => ∃ v, e = .returned v ∧ Shp w w' v edgeI edgeO edgeS ∧ w.grownBy w' none := by
  go_enter Tryd.func96, Tryd.ntmps96
  go_wp2_with (first | (go_at_call 75; refine (boolPin_any _ _).mono ?_; rintro e w' ⟨rfl, rfl⟩) | (go_at_call 76; refine (timePin_any _ _).mono ?_; rintro e w' ⟨rfl, rfl⟩) | (go_at_call 87; refine (intPin_any _ _).mono ?_; rintro e w' ⟨rfl, rfl⟩) | (go_at_call 74; refine (pins51 _ _ _).mono ?_; rintro e w' ⟨rfl, rfl⟩) | (go_at_call 86; refine (pins67 _ _ _ _).mono ?_; rintro e w' ⟨rfl, rfl⟩) | (go_at_call 103; refine (pins86 _ _ _ _ _ _).mono ?_; rintro e w' ⟨rfl, rfl⟩))
  refine bodyPost_ret (v := .agg #[.slice (some ⟨w.heap.size + 2, 0, none⟩) 1 1, .slice (some ⟨w.heap.size + 4, 0, none⟩) 1 1, .slice (some ⟨w.heap.size + 6, 0, none⟩) 1 1]) (by simp [results, Tryd.results96, go_sem]) rfl ⟨_, rfl, ⟨w.heap.size + 2, w.heap.size + 4, w.heap.size + 6, rfl, by omega, by omega, by omega, by omega, by omega, by omega, ?_, ?_, ?_⟩, gr_alloc (gr_alloc (gr_alloc (gr_alloc (gr_alloc (gr_alloc (gr_alloc (World.grownBy.refl _ _) _) _) _) _) _) _) _⟩
  all_goals (repeat (first | exact hp_new (by simp) _ | refine (hp_old (by simp) _).trans ?_))

set_option maxHeartbeats 1000000 in
theorem shape_sr (p : Nat) (w : World) : Calls Tryd.prog 101 #[.pointer (some ⟨p, 0, none⟩)] w fun e w' => ∃ v, e = .returned v ∧ Shp w w' v srI srO srS ∧ w.grownBy w' none := by
  go_enter Tryd.func101, Tryd.ntmps101
  go_wp2_with (first | (go_at_call 75; refine (boolPin_any _ _).mono ?_; rintro e w' ⟨rfl, rfl⟩) | (go_at_call 76; refine (timePin_any _ _).mono ?_; rintro e w' ⟨rfl, rfl⟩) | (go_at_call 87; refine (intPin_any _ _).mono ?_; rintro e w' ⟨rfl, rfl⟩) | (go_at_call 74; refine (pins51 _ _ _).mono ?_; rintro e w' ⟨rfl, rfl⟩) | (go_at_call 86; refine (pins67 _ _ _ _).mono ?_; rintro e w' ⟨rfl, rfl⟩) | (go_at_call 103; refine (pins86 _ _ _ _ _ _).mono ?_; rintro e w' ⟨rfl, rfl⟩))
  go_region_held3 (fun _ => True) (trivial) (first | (go_at_call 75; refine (boolPin_any _ _).mono ?_; rintro e w' ⟨rfl, rfl⟩) | (go_at_call 76; refine (timePin_any _ _).mono ?_; rintro e w' ⟨rfl, rfl⟩) | (go_at_call 87; refine (intPin_any _ _).mono ?_; rintro e w' ⟨rfl, rfl⟩) | (go_at_call 74; refine (pins51 _ _ _).mono ?_; rintro e w' ⟨rfl, rfl⟩) | (go_at_call 86; refine (pins67 _ _ _ _).mono ?_; rintro e w' ⟨rfl, rfl⟩) | (go_at_call 103; refine (pins86 _ _ _ _ _ _).mono ?_; rintro e w' ⟨rfl, rfl⟩))
  go_wp2
  refine bodyPost_ret (v := .agg #[.slice (some ⟨w.heap.size + 3, 0, none⟩) 2 2, .slice (some ⟨w.heap.size + 6, 0, none⟩) 1 1, .slice (some ⟨w.heap.size + 8, 0, none⟩) 1 1]) (by simp [results, Tryd.results101, go_sem]) rfl ⟨_, rfl, ⟨w.heap.size + 3, w.heap.size + 6, w.heap.size + 8, rfl, by omega, by omega, by omega, by omega, by omega, by omega, ?_, ?_, ?_⟩, gr_drew (gr_alloc (gr_alloc (gr_alloc (gr_alloc (gr_alloc (gr_alloc (gr_alloc (gr_alloc (gr_alloc (World.grownBy.refl _ _) _) _) _) _) _) _) _) _) _)⟩
  all_goals rw [hp_drew]
  all_goals (repeat (first | exact hp_new (by simp) _ | refine (hp_old (by simp) _).trans ?_))

set_option maxHeartbeats 1000000 in
theorem shape_rs (p : Nat) (w : World) : Calls Tryd.prog 104 #[.pointer (some ⟨p, 0, none⟩)] w fun e w' => ∃ v, e = .returned v ∧ Shp w w' v rsI rsO rsS ∧ w.grownBy w' none := by
  go_enter Tryd.func104, Tryd.ntmps104
  go_wp2_with (first | (go_at_call 75; refine (boolPin_any _ _).mono ?_; rintro e w' ⟨rfl, rfl⟩) | (go_at_call 76; refine (timePin_any _ _).mono ?_; rintro e w' ⟨rfl, rfl⟩) | (go_at_call 87; refine (intPin_any _ _).mono ?_; rintro e w' ⟨rfl, rfl⟩) | (go_at_call 74; refine (pins51 _ _ _).mono ?_; rintro e w' ⟨rfl, rfl⟩) | (go_at_call 86; refine (pins67 _ _ _ _).mono ?_; rintro e w' ⟨rfl, rfl⟩) | (go_at_call 103; refine (pins86 _ _ _ _ _ _).mono ?_; rintro e w' ⟨rfl, rfl⟩))
  go_region_held3 (fun _ => True) (trivial) (first | (go_at_call 75; refine (boolPin_any _ _).mono ?_; rintro e w' ⟨rfl, rfl⟩) | (go_at_call 76; refine (timePin_any _ _).mono ?_; rintro e w' ⟨rfl, rfl⟩) | (go_at_call 87; refine (intPin_any _ _).mono ?_; rintro e w' ⟨rfl, rfl⟩) | (go_at_call 74; refine (pins51 _ _ _).mono ?_; rintro e w' ⟨rfl, rfl⟩) | (go_at_call 86; refine (pins67 _ _ _ _).mono ?_; rintro e w' ⟨rfl, rfl⟩) | (go_at_call 103; refine (pins86 _ _ _ _ _ _).mono ?_; rintro e w' ⟨rfl, rfl⟩))
  go_wp2
  refine bodyPost_ret (v := .agg #[.slice (some ⟨w.heap.size + 3, 0, none⟩) 2 2, .slice (some ⟨w.heap.size + 6, 0, none⟩) 1 1, .slice (some ⟨w.heap.size + 8, 0, none⟩) 1 1]) (by simp [results, Tryd.results104, go_sem]) rfl ⟨_, rfl, ⟨w.heap.size + 3, w.heap.size + 6, w.heap.size + 8, rfl, by omega, by omega, by omega, by omega, by omega, by omega, ?_, ?_, ?_⟩, gr_drew (gr_alloc (gr_alloc (gr_alloc (gr_alloc (gr_alloc (gr_alloc (gr_alloc (gr_alloc (gr_alloc (World.grownBy.refl _ _) _) _) _) _) _) _) _) _) _)⟩
  all_goals rw [hp_drew]
  all_goals (repeat (first | exact hp_new (by simp) _ | refine (hp_old (by simp) _).trans ?_))

set_option maxHeartbeats 1000000 in
theorem shape_ramp (p : Nat) (w : World) : Calls Tryd.prog 108 #[.pointer (some ⟨p, 0, none⟩)] w fun e w' => ∃ v, e = .returned v ∧ Shp w w' v rampI rampO rampS ∧ w.grownBy w' none := by
  go_enter Tryd.func108, Tryd.ntmps108
  go_wp2_with (first | (go_at_call 75; refine (boolPin_any _ _).mono ?_; rintro e w' ⟨rfl, rfl⟩) | (go_at_call 76; refine (timePin_any _ _).mono ?_; rintro e w' ⟨rfl, rfl⟩) | (go_at_call 87; refine (intPin_any _ _).mono ?_; rintro e w' ⟨rfl, rfl⟩) | (go_at_call 74; refine (pins51 _ _ _).mono ?_; rintro e w' ⟨rfl, rfl⟩) | (go_at_call 86; refine (pins67 _ _ _ _).mono ?_; rintro e w' ⟨rfl, rfl⟩) | (go_at_call 103; refine (pins86 _ _ _ _ _ _).mono ?_; rintro e w' ⟨rfl, rfl⟩))
  refine bodyPost_ret (v := .agg #[.slice (some ⟨w.heap.size + 3, 0, none⟩) 2 2, .slice (some ⟨w.heap.size + 5, 0, none⟩) 1 1, .slice (some ⟨w.heap.size + 7, 0, none⟩) 1 1]) (by simp [results, Tryd.results108, go_sem]) rfl ⟨_, rfl, ⟨w.heap.size + 3, w.heap.size + 5, w.heap.size + 7, rfl, by omega, by omega, by omega, by omega, by omega, by omega, ?_, ?_, ?_⟩, gr_alloc (gr_alloc (gr_alloc (gr_alloc (gr_alloc (gr_alloc (gr_alloc (gr_alloc (World.grownBy.refl _ _) _) _) _) _) _) _) _) _⟩
  all_goals (repeat (first | exact hp_new (by simp) _ | refine (hp_old (by simp) _).trans ?_))

set_option maxHeartbeats 1000000 in
theorem shape_hyst (p : Nat) (w : World) : Calls Tryd.prog 110 #[.pointer (some ⟨p, 0, none⟩)] w fun e w' => ∃ v, e = .returned v ∧ Shp w w' v hystI hystO hystS ∧ w.grownBy w' none := by
  go_enter Tryd.func110, Tryd.ntmps110
  go_wp2_with (first | (go_at_call 75; refine (boolPin_any _ _).mono ?_; rintro e w' ⟨rfl, rfl⟩) | (go_at_call 76; refine (timePin_any _ _).mono ?_; rintro e w' ⟨rfl, rfl⟩) | (go_at_call 87; refine (intPin_any _ _).mono ?_; rintro e w' ⟨rfl, rfl⟩) | (go_at_call 74; refine (pins51 _ _ _).mono ?_; rintro e w' ⟨rfl, rfl⟩) | (go_at_call 86; refine (pins67 _ _ _ _).mono ?_; rintro e w' ⟨rfl, rfl⟩) | (go_at_call 103; refine (pins86 _ _ _ _ _ _).mono ?_; rintro e w' ⟨rfl, rfl⟩))
  go_region_held3 (fun _ => True) (trivial) (first | (go_at_call 75; refine (boolPin_any _ _).mono ?_; rintro e w' ⟨rfl, rfl⟩) | (go_at_call 76; refine (timePin_any _ _).mono ?_; rintro e w' ⟨rfl, rfl⟩) | (go_at_call 87; refine (intPin_any _ _).mono ?_; rintro e w' ⟨rfl, rfl⟩) | (go_at_call 74; refine (pins51 _ _ _).mono ?_; rintro e w' ⟨rfl, rfl⟩) | (go_at_call 86; refine (pins67 _ _ _ _).mono ?_; rintro e w' ⟨rfl, rfl⟩) | (go_at_call 103; refine (pins86 _ _ _ _ _ _).mono ?_; rintro e w' ⟨rfl, rfl⟩))
  go_wp2
  refine bodyPost_ret (v := .agg #[.slice (some ⟨w.heap.size + 4, 0, none⟩) 3 3, .slice (some ⟨w.heap.size + 7, 0, none⟩) 1 1, .slice (some ⟨w.heap.size + 9, 0, none⟩) 1 1]) (by simp [results, Tryd.results110, go_sem]) rfl ⟨_, rfl, ⟨w.heap.size + 4, w.heap.size + 7, w.heap.size + 9, rfl, by omega, by omega, by omega, by omega, by omega, by omega, ?_, ?_, ?_⟩, gr_drew (gr_alloc (gr_alloc (gr_alloc (gr_alloc (gr_alloc (gr_alloc (gr_alloc (gr_alloc (gr_alloc (gr_alloc (World.grownBy.refl _ _) _) _) _) _) _) _) _) _) _) _)⟩
  all_goals rw [hp_drew]
  all_goals (repeat (first | exact hp_new (by simp) _ | refine (hp_old (by simp) _).trans ?_))

end Go.Proofs.YtbaijehecncclaaDoor
