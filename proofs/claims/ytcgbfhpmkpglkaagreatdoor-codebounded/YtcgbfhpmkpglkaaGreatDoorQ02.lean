/- Texts put together: D, E, M, C0, K1. -/
import Derived.Test.YtcgbfhpmkpglkaaGreatDoorQ01
import Derived.Test.YtcgbfhpmkpglkaaGreatDoorRows
import Derived.WalkKit
import Derived.WalkSpells
import Derived.WalkLawsBesides
import Derived.Outline
/- Contracts of the pins and of the twelve shapes. -/
namespace Go.Proofs.YtcgbfhpmkpglkaaGreatDoor
open Go.RowKit
theorem boolPin_any (s : ByteArray) (w : World) : Calls Tryz.prog 124 #[.string s] w fun e w' => e = .returned (.agg #[.string s, .int .i64 1]) ∧ w' = w.alloc (.cells #[.string s, .int .i64 1] 113) := by
  go_enter Tryz.func124, Tryz.ntmps124
  go_wp2
  exact bodyPost_ret (v := .agg #[.string s, .int .i64 1]) (by simp [results, Tryz.results124, go_sem]) rfl ⟨rfl, rfl⟩
theorem timePin_any (s : ByteArray) (w : World) : Calls Tryz.prog 125 #[.string s] w fun e w' => e = .returned (.agg #[.string s, .int .i64 5]) ∧ w' = w.alloc (.cells #[.string s, .int .i64 5] 113) := by
  go_enter Tryz.func125, Tryz.ntmps125
  go_wp2
  exact bodyPost_ret (v := .agg #[.string s, .int .i64 5]) (by simp [results, Tryz.results125, go_sem]) rfl ⟨rfl, rfl⟩
theorem intPin_any (s : ByteArray) (w : World) : Calls Tryz.prog 139 #[.string s] w fun e w' => e = .returned (.agg #[.string s, .int .i64 2]) ∧ w' = w.alloc (.cells #[.string s, .int .i64 2] 113) := by
  go_enter Tryz.func139, Tryz.ntmps139
  go_wp2
  exact bodyPost_ret (v := .agg #[.string s, .int .i64 2]) (by simp [results, Tryz.results139, go_sem]) rfl ⟨rfl, rfl⟩

def pinArr (l : List (ByteArray × Int)) : Array Value := (l.flatMap fun p => [.string p.1, .int .i64 p.2]).toArray

/-- A shape that was just made: three lists of pins, each in a block of its own. -/
def Shp (w w' : World) (v : Value) (I O S : List (ByteArray × Int)) : Prop :=
  ∃ b1 b2 b3, v = .agg #[.slice (some ⟨b1, 0, none⟩) I.length I.length, .slice (some ⟨b2, 0, none⟩) O.length O.length, .slice (some ⟨b3, 0, none⟩) S.length S.length] ∧
    w.heap.size ≤ b1 ∧ w.heap.size ≤ b2 ∧ w.heap.size ≤ b3 ∧ b1 ≠ b2 ∧ b1 ≠ b3 ∧ b2 ≠ b3 ∧
    w'.heap[b1]? = some (.cells (pinArr I) 113) ∧ w'.heap[b2]? = some (.cells (pinArr O) 113) ∧ w'.heap[b3]? = some (.cells (pinArr S) 113)





set_option maxHeartbeats 1000000 in
theorem pins51 (p : Value) (s : ByteArray) (w : World) : Calls Tryz.prog 121 #[p, .string s] w fun e w' => e = .returned (.agg #[.slice (some ⟨w.heap.size + 3, 0, none⟩) 2 2, .slice (some ⟨w.heap.size + 6, 0, none⟩) 2 2, .slice (some ⟨w.heap.size + 11, 0, none⟩) 4 4]) ∧ w' = ((((((((((((w.alloc (.cells #[.slice (some ⟨w.heap.size + 3, 0, none⟩) 2 2, .slice (some ⟨w.heap.size + 6, 0, none⟩) 2 2, .slice (some ⟨w.heap.size + 11, 0, none⟩) 4 4] 100)).alloc (.cells #[.string { data := #[105, 110] }, .int .i64 1] 113)).alloc (.cells #[.string { data := #[112, 116] }, .int .i64 5] 113)).alloc (.cells #[.string { data := #[105, 110] }, .int .i64 1, .string { data := #[112, 116] }, .int .i64 5] 113)).alloc (.cells #[.string { data := #[113] }, .int .i64 1] 113)).alloc (.cells #[.string { data := #[101, 116] }, .int .i64 5] 113)).alloc (.cells #[.string { data := #[113] }, .int .i64 1, .string { data := #[101, 116] }, .int .i64 5] 113)).alloc (.cells #[.string { data := #[114, 117, 110] }, .int .i64 1] 113)).alloc (.cells #[.string { data := #[115, 105, 110, 99, 101] }, .int .i64 5] 113)).alloc (.cells #[.string s, .int .i64 1] 113)).alloc (.cells #[.string { data := #[97, 116] }, .int .i64 5] 113)).alloc (.cells #[.string { data := #[114, 117, 110] }, .int .i64 1, .string { data := #[115, 105, 110, 99, 101] }, .int .i64 5, .string s, .int .i64 1, .string { data := #[97, 116] }, .int .i64 5] 113)) := by
  go_enter Tryz.func121, Tryz.ntmps121
  go_wp2_with (first | (go_at_call 124; refine (boolPin_any _ _).mono ?_; rintro e w' ⟨rfl, rfl⟩) | (go_at_call 125; refine (timePin_any _ _).mono ?_; rintro e w' ⟨rfl, rfl⟩) | (go_at_call 139; refine (intPin_any _ _).mono ?_; rintro e w' ⟨rfl, rfl⟩))
  exact bodyPost_ret (v := .agg #[.slice (some ⟨w.heap.size + 3, 0, none⟩) 2 2, .slice (some ⟨w.heap.size + 6, 0, none⟩) 2 2, .slice (some ⟨w.heap.size + 11, 0, none⟩) 4 4]) (by simp [results, Tryz.results121, go_sem]) rfl ⟨rfl, rfl⟩

set_option maxHeartbeats 1000000 in
theorem pins67 (p : Value) (s t : ByteArray) (w : World) : Calls Tryz.prog 137 #[p, .string s, .string t] w fun e w' => e = .returned (.agg #[.slice (some ⟨w.heap.size + 4, 0, none⟩) 3 3, .slice (some ⟨w.heap.size + 7, 0, none⟩) 2 2, .slice (some ⟨w.heap.size + 10, 0, none⟩) 2 2]) ∧ w' = (((((((((((w.alloc (.cells #[.slice (some ⟨w.heap.size + 4, 0, none⟩) 3 3, .slice (some ⟨w.heap.size + 7, 0, none⟩) 2 2, .slice (some ⟨w.heap.size + 10, 0, none⟩) 2 2] 100)).alloc (.cells #[.string s, .int .i64 1] 113)).alloc (.cells #[.string t, .int .i64 1] 113)).alloc (.cells #[.string { data := #[112, 118] }, .int .i64 2] 113)).alloc (.cells #[.string s, .int .i64 1, .string t, .int .i64 1, .string { data := #[112, 118] }, .int .i64 2] 113)).alloc (.cells #[.string { data := #[113] }, .int .i64 1] 113)).alloc (.cells #[.string { data := #[99, 118] }, .int .i64 2] 113)).alloc (.cells #[.string { data := #[113] }, .int .i64 1, .string { data := #[99, 118] }, .int .i64 2] 113)).alloc (.cells #[.string { data := #[112, 114, 101, 118] }, .int .i64 1] 113)).alloc (.cells #[.string { data := #[99, 111, 117, 110, 116] }, .int .i64 2] 113)).alloc (.cells #[.string { data := #[112, 114, 101, 118] }, .int .i64 1, .string { data := #[99, 111, 117, 110, 116] }, .int .i64 2] 113)) := by
  go_enter Tryz.func137, Tryz.ntmps137
  go_wp2_with (first | (go_at_call 124; refine (boolPin_any _ _).mono ?_; rintro e w' ⟨rfl, rfl⟩) | (go_at_call 125; refine (timePin_any _ _).mono ?_; rintro e w' ⟨rfl, rfl⟩) | (go_at_call 139; refine (intPin_any _ _).mono ?_; rintro e w' ⟨rfl, rfl⟩))
  exact bodyPost_ret (v := .agg #[.slice (some ⟨w.heap.size + 4, 0, none⟩) 3 3, .slice (some ⟨w.heap.size + 7, 0, none⟩) 2 2, .slice (some ⟨w.heap.size + 10, 0, none⟩) 2 2]) (by simp [results, Tryz.results137, go_sem]) rfl ⟨rfl, rfl⟩

set_option maxHeartbeats 1000000 in
theorem pins86 (p : Value) (a : Option Addr) (n c : Nat) (s : ByteArray) (w : World) : Calls Tryz.prog 156 #[p, .string s, .slice a n c] w fun e w' => e = .returned (.agg #[.slice a n c, .slice (some ⟨w.heap.size + 2, 0, none⟩) 1 1, .slice (some ⟨w.heap.size + 4, 0, none⟩) 1 1]) ∧ w' = (((((w.alloc (.cells #[.slice a n c, .slice (some ⟨w.heap.size + 2, 0, none⟩) 1 1, .slice (some ⟨w.heap.size + 4, 0, none⟩) 1 1] 100)).alloc (.cells #[.string s, .int .i64 1] 113)).alloc (.cells #[.string s, .int .i64 1] 113)).alloc (.cells #[.string { data := #[111, 110] }, .int .i64 1] 113)).alloc (.cells #[.string { data := #[111, 110] }, .int .i64 1] 113)) := by
  go_enter Tryz.func156, Tryz.ntmps156
  go_wp2_with (first | (go_at_call 124; refine (boolPin_any _ _).mono ?_; rintro e w' ⟨rfl, rfl⟩) | (go_at_call 125; refine (timePin_any _ _).mono ?_; rintro e w' ⟨rfl, rfl⟩) | (go_at_call 139; refine (intPin_any _ _).mono ?_; rintro e w' ⟨rfl, rfl⟩))
  exact bodyPost_ret (v := .agg #[.slice a n c, .slice (some ⟨w.heap.size + 2, 0, none⟩) 1 1, .slice (some ⟨w.heap.size + 4, 0, none⟩) 1 1]) (by simp [results, Tryz.results156, go_sem]) rfl ⟨rfl, rfl⟩

def tonI : List (ByteArray × Int) := [({ data := #[105, 110] }, 1), ({ data := #[112, 116] }, 5)]
def tonO : List (ByteArray × Int) := [({ data := #[113] }, 1), ({ data := #[101, 116] }, 5)]
def tonS : List (ByteArray × Int) := [({ data := #[114, 117, 110] }, 1), ({ data := #[115, 105, 110, 99, 101] }, 5), ({ data := #[100, 111, 110, 101] }, 1), ({ data := #[97, 116] }, 5)]
def tofI : List (ByteArray × Int) := [({ data := #[105, 110] }, 1), ({ data := #[112, 116] }, 5)]
def tofO : List (ByteArray × Int) := [({ data := #[113] }, 1), ({ data := #[101, 116] }, 5)]
def tofS : List (ByteArray × Int) := [({ data := #[114, 117, 110] }, 1), ({ data := #[115, 105, 110, 99, 101] }, 5), ({ data := #[111, 110] }, 1), ({ data := #[97, 116] }, 5)]
def tpI : List (ByteArray × Int) := [({ data := #[105, 110] }, 1), ({ data := #[112, 116] }, 5)]
def tpO : List (ByteArray × Int) := [({ data := #[113] }, 1), ({ data := #[101, 116] }, 5)]
def tpS : List (ByteArray × Int) := [({ data := #[114, 117, 110] }, 1), ({ data := #[115, 105, 110, 99, 101] }, 5), ({ data := #[112, 114, 101, 118] }, 1), ({ data := #[97, 116] }, 5)]
def ctuI : List (ByteArray × Int) := [({ data := #[99, 117] }, 1), ({ data := #[114] }, 1), ({ data := #[112, 118] }, 2)]
def ctuO : List (ByteArray × Int) := [({ data := #[113] }, 1), ({ data := #[99, 118] }, 2)]
def ctuS : List (ByteArray × Int) := [({ data := #[112, 114, 101, 118] }, 1), ({ data := #[99, 111, 117, 110, 116] }, 2)]
def ctdI : List (ByteArray × Int) := [({ data := #[99, 100] }, 1), ({ data := #[108, 100] }, 1), ({ data := #[112, 118] }, 2)]
def ctdO : List (ByteArray × Int) := [({ data := #[113] }, 1), ({ data := #[99, 118] }, 2)]
def ctdS : List (ByteArray × Int) := [({ data := #[112, 114, 101, 118] }, 1), ({ data := #[99, 111, 117, 110, 116] }, 2)]
def ctudI : List (ByteArray × Int) := [({ data := #[99, 117] }, 1), ({ data := #[99, 100] }, 1), ({ data := #[114] }, 1), ({ data := #[108, 100] }, 1), ({ data := #[112, 118] }, 2)]
def ctudO : List (ByteArray × Int) := [({ data := #[113, 117] }, 1), ({ data := #[113, 100] }, 1), ({ data := #[99, 118] }, 2)]
def ctudS : List (ByteArray × Int) := [({ data := #[117, 112] }, 1), ({ data := #[100, 111, 119, 110] }, 1), ({ data := #[99, 111, 117, 110, 116] }, 2)]
def edgeI : List (ByteArray × Int) := [({ data := #[99, 108, 107] }, 1)]
def edgeO : List (ByteArray × Int) := [({ data := #[113] }, 1)]
def edgeS : List (ByteArray × Int) := [({ data := #[112, 114, 101, 118] }, 1)]
def srI : List (ByteArray × Int) := [({ data := #[115, 49] }, 1), ({ data := #[114] }, 1)]
def srO : List (ByteArray × Int) := [({ data := #[113, 49] }, 1)]
def srS : List (ByteArray × Int) := [({ data := #[111, 110] }, 1)]
def rsI : List (ByteArray × Int) := [({ data := #[115] }, 1), ({ data := #[114, 49] }, 1)]
def rsO : List (ByteArray × Int) := [({ data := #[113, 49] }, 1)]
def rsS : List (ByteArray × Int) := [({ data := #[111, 110] }, 1)]
def rampI : List (ByteArray × Int) := [({ data := #[120] }, 2), ({ data := #[115, 116, 101, 112] }, 2)]
def rampO : List (ByteArray × Int) := [({ data := #[121] }, 2)]
def rampS : List (ByteArray × Int) := [({ data := #[97, 116] }, 2)]
def hystI : List (ByteArray × Int) := [({ data := #[120] }, 2), ({ data := #[104, 105] }, 2), ({ data := #[108, 111] }, 2)]
def hystO : List (ByteArray × Int) := [({ data := #[113] }, 1)]
def hystS : List (ByteArray × Int) := [({ data := #[111, 110] }, 1)]
set_option maxHeartbeats 1000000 in
theorem shape_ton (p : Nat) (w : World) : Calls Tryz.prog 116 #[.pointer (some ⟨p, 0, none⟩)] w fun e w' => ∃ v, e = .returned v ∧ Shp w w' v tonI tonO tonS ∧ w.grownBy w' none := by
  go_enter Tryz.func116, Tryz.ntmps116
  go_wp2_with (first | (go_at_call 124; refine (boolPin_any _ _).mono ?_; rintro e w' ⟨rfl, rfl⟩) | (go_at_call 125; refine (timePin_any _ _).mono ?_; rintro e w' ⟨rfl, rfl⟩) | (go_at_call 139; refine (intPin_any _ _).mono ?_; rintro e w' ⟨rfl, rfl⟩) | (go_at_call 121; refine (pins51 _ _ _).mono ?_; rintro e w' ⟨rfl, rfl⟩) | (go_at_call 137; refine (pins67 _ _ _ _).mono ?_; rintro e w' ⟨rfl, rfl⟩) | (go_at_call 156; refine (pins86 _ _ _ _ _ _).mono ?_; rintro e w' ⟨rfl, rfl⟩))
  refine bodyPost_ret (v := .agg #[.slice (some ⟨w.heap.size + 4, 0, none⟩) 2 2, .slice (some ⟨w.heap.size + 7, 0, none⟩) 2 2, .slice (some ⟨w.heap.size + 12, 0, none⟩) 4 4]) (by simp [results, Tryz.results116, go_sem]) rfl ⟨_, rfl, ⟨w.heap.size + 4, w.heap.size + 7, w.heap.size + 12, rfl, by omega, by omega, by omega, by omega, by omega, by omega, ?_, ?_, ?_⟩, gr_alloc (gr_alloc (gr_alloc (gr_alloc (gr_alloc (gr_alloc (gr_alloc (gr_alloc (gr_alloc (gr_alloc (gr_alloc (gr_alloc (gr_alloc (World.grownBy.refl _ _) _) _) _) _) _) _) _) _) _) _) _) _) _⟩
  all_goals (repeat (first | exact hp_new (by simp) _ | refine (hp_old (by simp) _).trans ?_))

set_option maxHeartbeats 1000000 in
theorem shape_tof (p : Nat) (w : World) : Calls Tryz.prog 126 #[.pointer (some ⟨p, 0, none⟩)] w fun e w' => ∃ v, e = .returned v ∧ Shp w w' v tofI tofO tofS ∧ w.grownBy w' none := by
  go_enter Tryz.func126, Tryz.ntmps126
  go_wp2_with (first | (go_at_call 124; refine (boolPin_any _ _).mono ?_; rintro e w' ⟨rfl, rfl⟩) | (go_at_call 125; refine (timePin_any _ _).mono ?_; rintro e w' ⟨rfl, rfl⟩) | (go_at_call 139; refine (intPin_any _ _).mono ?_; rintro e w' ⟨rfl, rfl⟩) | (go_at_call 121; refine (pins51 _ _ _).mono ?_; rintro e w' ⟨rfl, rfl⟩) | (go_at_call 137; refine (pins67 _ _ _ _).mono ?_; rintro e w' ⟨rfl, rfl⟩) | (go_at_call 156; refine (pins86 _ _ _ _ _ _).mono ?_; rintro e w' ⟨rfl, rfl⟩))
  refine bodyPost_ret (v := .agg #[.slice (some ⟨w.heap.size + 4, 0, none⟩) 2 2, .slice (some ⟨w.heap.size + 7, 0, none⟩) 2 2, .slice (some ⟨w.heap.size + 12, 0, none⟩) 4 4]) (by simp [results, Tryz.results126, go_sem]) rfl ⟨_, rfl, ⟨w.heap.size + 4, w.heap.size + 7, w.heap.size + 12, rfl, by omega, by omega, by omega, by omega, by omega, by omega, ?_, ?_, ?_⟩, gr_alloc (gr_alloc (gr_alloc (gr_alloc (gr_alloc (gr_alloc (gr_alloc (gr_alloc (gr_alloc (gr_alloc (gr_alloc (gr_alloc (gr_alloc (World.grownBy.refl _ _) _) _) _) _) _) _) _) _) _) _) _) _) _⟩
  all_goals (repeat (first | exact hp_new (by simp) _ | refine (hp_old (by simp) _).trans ?_))

set_option maxHeartbeats 1000000 in
theorem shape_tp (p : Nat) (w : World) : Calls Tryz.prog 130 #[.pointer (some ⟨p, 0, none⟩)] w fun e w' => ∃ v, e = .returned v ∧ Shp w w' v tpI tpO tpS ∧ w.grownBy w' none := by
  go_enter Tryz.func130, Tryz.ntmps130
  go_wp2_with (first | (go_at_call 124; refine (boolPin_any _ _).mono ?_; rintro e w' ⟨rfl, rfl⟩) | (go_at_call 125; refine (timePin_any _ _).mono ?_; rintro e w' ⟨rfl, rfl⟩) | (go_at_call 139; refine (intPin_any _ _).mono ?_; rintro e w' ⟨rfl, rfl⟩) | (go_at_call 121; refine (pins51 _ _ _).mono ?_; rintro e w' ⟨rfl, rfl⟩) | (go_at_call 137; refine (pins67 _ _ _ _).mono ?_; rintro e w' ⟨rfl, rfl⟩) | (go_at_call 156; refine (pins86 _ _ _ _ _ _).mono ?_; rintro e w' ⟨rfl, rfl⟩))
  refine bodyPost_ret (v := .agg #[.slice (some ⟨w.heap.size + 4, 0, none⟩) 2 2, .slice (some ⟨w.heap.size + 7, 0, none⟩) 2 2, .slice (some ⟨w.heap.size + 12, 0, none⟩) 4 4]) (by simp [results, Tryz.results130, go_sem]) rfl ⟨_, rfl, ⟨w.heap.size + 4, w.heap.size + 7, w.heap.size + 12, rfl, by omega, by omega, by omega, by omega, by omega, by omega, ?_, ?_, ?_⟩, gr_alloc (gr_alloc (gr_alloc (gr_alloc (gr_alloc (gr_alloc (gr_alloc (gr_alloc (gr_alloc (gr_alloc (gr_alloc (gr_alloc (gr_alloc (World.grownBy.refl _ _) _) _) _) _) _) _) _) _) _) _) _) _) _⟩
  all_goals (repeat (first | exact hp_new (by simp) _ | refine (hp_old (by simp) _).trans ?_))

set_option maxHeartbeats 1000000 in
theorem shape_ctu (p : Nat) (w : World) : Calls Tryz.prog 135 #[.pointer (some ⟨p, 0, none⟩)] w fun e w' => ∃ v, e = .returned v ∧ Shp w w' v ctuI ctuO ctuS ∧ w.grownBy w' none := by
  go_enter Tryz.func135, Tryz.ntmps135
  go_wp2_with (first | (go_at_call 124; refine (boolPin_any _ _).mono ?_; rintro e w' ⟨rfl, rfl⟩) | (go_at_call 125; refine (timePin_any _ _).mono ?_; rintro e w' ⟨rfl, rfl⟩) | (go_at_call 139; refine (intPin_any _ _).mono ?_; rintro e w' ⟨rfl, rfl⟩) | (go_at_call 121; refine (pins51 _ _ _).mono ?_; rintro e w' ⟨rfl, rfl⟩) | (go_at_call 137; refine (pins67 _ _ _ _).mono ?_; rintro e w' ⟨rfl, rfl⟩) | (go_at_call 156; refine (pins86 _ _ _ _ _ _).mono ?_; rintro e w' ⟨rfl, rfl⟩))
  refine bodyPost_ret (v := .agg #[.slice (some ⟨w.heap.size + 5, 0, none⟩) 3 3, .slice (some ⟨w.heap.size + 8, 0, none⟩) 2 2, .slice (some ⟨w.heap.size + 11, 0, none⟩) 2 2]) (by simp [results, Tryz.results135, go_sem]) rfl ⟨_, rfl, ⟨w.heap.size + 5, w.heap.size + 8, w.heap.size + 11, rfl, by omega, by omega, by omega, by omega, by omega, by omega, ?_, ?_, ?_⟩, gr_alloc (gr_alloc (gr_alloc (gr_alloc (gr_alloc (gr_alloc (gr_alloc (gr_alloc (gr_alloc (gr_alloc (gr_alloc (gr_alloc (World.grownBy.refl _ _) _) _) _) _) _) _) _) _) _) _) _) _⟩
  all_goals (repeat (first | exact hp_new (by simp) _ | refine (hp_old (by simp) _).trans ?_))

set_option maxHeartbeats 1000000 in
theorem shape_ctd (p : Nat) (w : World) : Calls Tryz.prog 140 #[.pointer (some ⟨p, 0, none⟩)] w fun e w' => ∃ v, e = .returned v ∧ Shp w w' v ctdI ctdO ctdS ∧ w.grownBy w' none := by
  go_enter Tryz.func140, Tryz.ntmps140
  go_wp2_with (first | (go_at_call 124; refine (boolPin_any _ _).mono ?_; rintro e w' ⟨rfl, rfl⟩) | (go_at_call 125; refine (timePin_any _ _).mono ?_; rintro e w' ⟨rfl, rfl⟩) | (go_at_call 139; refine (intPin_any _ _).mono ?_; rintro e w' ⟨rfl, rfl⟩) | (go_at_call 121; refine (pins51 _ _ _).mono ?_; rintro e w' ⟨rfl, rfl⟩) | (go_at_call 137; refine (pins67 _ _ _ _).mono ?_; rintro e w' ⟨rfl, rfl⟩) | (go_at_call 156; refine (pins86 _ _ _ _ _ _).mono ?_; rintro e w' ⟨rfl, rfl⟩))
  refine bodyPost_ret (v := .agg #[.slice (some ⟨w.heap.size + 5, 0, none⟩) 3 3, .slice (some ⟨w.heap.size + 8, 0, none⟩) 2 2, .slice (some ⟨w.heap.size + 11, 0, none⟩) 2 2]) (by simp [results, Tryz.results140, go_sem]) rfl ⟨_, rfl, ⟨w.heap.size + 5, w.heap.size + 8, w.heap.size + 11, rfl, by omega, by omega, by omega, by omega, by omega, by omega, ?_, ?_, ?_⟩, gr_alloc (gr_alloc (gr_alloc (gr_alloc (gr_alloc (gr_alloc (gr_alloc (gr_alloc (gr_alloc (gr_alloc (gr_alloc (gr_alloc (World.grownBy.refl _ _) _) _) _) _) _) _) _) _) _) _) _) _⟩
  all_goals (repeat (first | exact hp_new (by simp) _ | refine (hp_old (by simp) _).trans ?_))

set_option maxHeartbeats 1000000 in
theorem shape_ctud (p : Nat) (w : World) : Calls Tryz.prog 145 #[.pointer (some ⟨p, 0, none⟩)] w fun e w' => ∃ v, e = .returned v ∧ Shp w w' v ctudI ctudO ctudS ∧ w.grownBy w' none := by
  go_enter Tryz.func145, Tryz.ntmps145
  go_wp2_with (first | (go_at_call 124; refine (boolPin_any _ _).mono ?_; rintro e w' ⟨rfl, rfl⟩) | (go_at_call 125; refine (timePin_any _ _).mono ?_; rintro e w' ⟨rfl, rfl⟩) | (go_at_call 139; refine (intPin_any _ _).mono ?_; rintro e w' ⟨rfl, rfl⟩) | (go_at_call 121; refine (pins51 _ _ _).mono ?_; rintro e w' ⟨rfl, rfl⟩) | (go_at_call 137; refine (pins67 _ _ _ _).mono ?_; rintro e w' ⟨rfl, rfl⟩) | (go_at_call 156; refine (pins86 _ _ _ _ _ _).mono ?_; rintro e w' ⟨rfl, rfl⟩))
  refine bodyPost_ret (v := .agg #[.slice (some ⟨w.heap.size + 6, 0, none⟩) 5 5, .slice (some ⟨w.heap.size + 10, 0, none⟩) 3 3, .slice (some ⟨w.heap.size + 14, 0, none⟩) 3 3]) (by simp [results, Tryz.results145, go_sem]) rfl ⟨_, rfl, ⟨w.heap.size + 6, w.heap.size + 10, w.heap.size + 14, rfl, by omega, by omega, by omega, by omega, by omega, by omega, ?_, ?_, ?_⟩, gr_alloc (gr_alloc (gr_alloc (gr_alloc (gr_alloc (gr_alloc (gr_alloc (gr_alloc (gr_alloc (gr_alloc (gr_alloc (gr_alloc (gr_alloc (gr_alloc (gr_alloc (World.grownBy.refl _ _) _) _) _) _) _) _) _) _) _) _) _) _) _) _) _⟩
  all_goals (repeat (first | exact hp_new (by simp) _ | refine (hp_old (by simp) _).trans ?_))

set_option maxHeartbeats 1000000 in
theorem shape_edge (p : Nat) (w : World) : Calls Tryz.prog 149 #[.pointer (some ⟨p, 0, none⟩)] w fun e w' => ∃ v, e = .returned v ∧ Shp w w' v edgeI edgeO edgeS ∧ w.grownBy w' none := by
  go_enter Tryz.func149, Tryz.ntmps149
  go_wp2_with (first | (go_at_call 124; refine (boolPin_any _ _).mono ?_; rintro e w' ⟨rfl, rfl⟩) | (go_at_call 125; refine (timePin_any _ _).mono ?_; rintro e w' ⟨rfl, rfl⟩) | (go_at_call 139; refine (intPin_any _ _).mono ?_; rintro e w' ⟨rfl, rfl⟩) | (go_at_call 121; refine (pins51 _ _ _).mono ?_; rintro e w' ⟨rfl, rfl⟩) | (go_at_call 137; refine (pins67 _ _ _ _).mono ?_; rintro e w' ⟨rfl, rfl⟩) | (go_at_call 156; refine (pins86 _ _ _ _ _ _).mono ?_; rintro e w' ⟨rfl, rfl⟩))
  refine bodyPost_ret (v := .agg #[.slice (some ⟨w.heap.size + 2, 0, none⟩) 1 1, .slice (some ⟨w.heap.size + 4, 0, none⟩) 1 1, .slice (some ⟨w.heap.size + 6, 0, none⟩) 1 1]) (by simp [results, Tryz.results149, go_sem]) rfl ⟨_, rfl, ⟨w.heap.size + 2, w.heap.size + 4, w.heap.size + 6, rfl, by omega, by omega, by omega, by omega, by omega, by omega, ?_, ?_, ?_⟩, gr_alloc (gr_alloc (gr_alloc (gr_alloc (gr_alloc (gr_alloc (gr_alloc (World.grownBy.refl _ _) _) _) _) _) _) _) _⟩
  all_goals (repeat (first | exact hp_new (by simp) _ | refine (hp_old (by simp) _).trans ?_))

set_option maxHeartbeats 1000000 in
theorem shape_sr (p : Nat) (w : World) : Calls Tryz.prog 154 #[.pointer (some ⟨p, 0, none⟩)] w fun e w' => ∃ v, e = .returned v ∧ Shp w w' v srI srO srS ∧ w.grownBy w' none := by
  go_enter Tryz.func154, Tryz.ntmps154
  go_wp2_with (first | (go_at_call 124; refine (boolPin_any _ _).mono ?_; rintro e w' ⟨rfl, rfl⟩) | (go_at_call 125; refine (timePin_any _ _).mono ?_; rintro e w' ⟨rfl, rfl⟩) | (go_at_call 139; refine (intPin_any _ _).mono ?_; rintro e w' ⟨rfl, rfl⟩) | (go_at_call 121; refine (pins51 _ _ _).mono ?_; rintro e w' ⟨rfl, rfl⟩) | (go_at_call 137; refine (pins67 _ _ _ _).mono ?_; rintro e w' ⟨rfl, rfl⟩) | (go_at_call 156; refine (pins86 _ _ _ _ _ _).mono ?_; rintro e w' ⟨rfl, rfl⟩))
  go_region_held3 (fun _ => True) (trivial) (first | (go_at_call 124; refine (boolPin_any _ _).mono ?_; rintro e w' ⟨rfl, rfl⟩) | (go_at_call 125; refine (timePin_any _ _).mono ?_; rintro e w' ⟨rfl, rfl⟩) | (go_at_call 139; refine (intPin_any _ _).mono ?_; rintro e w' ⟨rfl, rfl⟩) | (go_at_call 121; refine (pins51 _ _ _).mono ?_; rintro e w' ⟨rfl, rfl⟩) | (go_at_call 137; refine (pins67 _ _ _ _).mono ?_; rintro e w' ⟨rfl, rfl⟩) | (go_at_call 156; refine (pins86 _ _ _ _ _ _).mono ?_; rintro e w' ⟨rfl, rfl⟩))
  go_wp2
  refine bodyPost_ret (v := .agg #[.slice (some ⟨w.heap.size + 3, 0, none⟩) 2 2, .slice (some ⟨w.heap.size + 6, 0, none⟩) 1 1, .slice (some ⟨w.heap.size + 8, 0, none⟩) 1 1]) (by simp [results, Tryz.results154, go_sem]) rfl ⟨_, rfl, ⟨w.heap.size + 3, w.heap.size + 6, w.heap.size + 8, rfl, by omega, by omega, by omega, by omega, by omega, by omega, ?_, ?_, ?_⟩, gr_drew (gr_alloc (gr_alloc (gr_alloc (gr_alloc (gr_alloc (gr_alloc (gr_alloc (gr_alloc (gr_alloc (World.grownBy.refl _ _) _) _) _) _) _) _) _) _) _)⟩
  all_goals rw [hp_drew]
  all_goals (repeat (first | exact hp_new (by simp) _ | refine (hp_old (by simp) _).trans ?_))

set_option maxHeartbeats 1000000 in
theorem shape_rs (p : Nat) (w : World) : Calls Tryz.prog 157 #[.pointer (some ⟨p, 0, none⟩)] w fun e w' => ∃ v, e = .returned v ∧ Shp w w' v rsI rsO rsS ∧ w.grownBy w' none := by
  go_enter Tryz.func157, Tryz.ntmps157
  go_wp2_with (first | (go_at_call 124; refine (boolPin_any _ _).mono ?_; rintro e w' ⟨rfl, rfl⟩) | (go_at_call 125; refine (timePin_any _ _).mono ?_; rintro e w' ⟨rfl, rfl⟩) | (go_at_call 139; refine (intPin_any _ _).mono ?_; rintro e w' ⟨rfl, rfl⟩) | (go_at_call 121; refine (pins51 _ _ _).mono ?_; rintro e w' ⟨rfl, rfl⟩) | (go_at_call 137; refine (pins67 _ _ _ _).mono ?_; rintro e w' ⟨rfl, rfl⟩) | (go_at_call 156; refine (pins86 _ _ _ _ _ _).mono ?_; rintro e w' ⟨rfl, rfl⟩))
  go_region_held3 (fun _ => True) (trivial) (first | (go_at_call 124; refine (boolPin_any _ _).mono ?_; rintro e w' ⟨rfl, rfl⟩) | (go_at_call 125; refine (timePin_any _ _).mono ?_; rintro e w' ⟨rfl, rfl⟩) | (go_at_call 139; refine (intPin_any _ _).mono ?_; rintro e w' ⟨rfl, rfl⟩) | (go_at_call 121; refine (pins51 _ _ _).mono ?_; rintro e w' ⟨rfl, rfl⟩) | (go_at_call 137; refine (pins67 _ _ _ _).mono ?_; rintro e w' ⟨rfl, rfl⟩) | (go_at_call 156; refine (pins86 _ _ _ _ _ _).mono ?_; rintro e w' ⟨rfl, rfl⟩))
  go_wp2
  refine bodyPost_ret (v := .agg #[.slice (some ⟨w.heap.size + 3, 0, none⟩) 2 2, .slice (some ⟨w.heap.size + 6, 0, none⟩) 1 1, .slice (some ⟨w.heap.size + 8, 0, none⟩) 1 1]) (by simp [results, Tryz.results157, go_sem]) rfl ⟨_, rfl, ⟨w.heap.size + 3, w.heap.size + 6, w.heap.size + 8, rfl, by omega, by omega, by omega, by omega, by omega, by omega, ?_, ?_, ?_⟩, gr_drew (gr_alloc (gr_alloc (gr_alloc (gr_alloc (gr_alloc (gr_alloc (gr_alloc (gr_alloc (gr_alloc (World.grownBy.refl _ _) _) _) _) _) _) _) _) _) _)⟩
  all_goals rw [hp_drew]
  all_goals (repeat (first | exact hp_new (by simp) _ | refine (hp_old (by simp) _).trans ?_))

set_option maxHeartbeats 1000000 in
theorem shape_ramp (p : Nat) (w : World) : Calls Tryz.prog 161 #[.pointer (some ⟨p, 0, none⟩)] w fun e w' => ∃ v, e = .returned v ∧ Shp w w' v rampI rampO rampS ∧ w.grownBy w' none := by
  go_enter Tryz.func161, Tryz.ntmps161
  go_wp2_with (first | (go_at_call 124; refine (boolPin_any _ _).mono ?_; rintro e w' ⟨rfl, rfl⟩) | (go_at_call 125; refine (timePin_any _ _).mono ?_; rintro e w' ⟨rfl, rfl⟩) | (go_at_call 139; refine (intPin_any _ _).mono ?_; rintro e w' ⟨rfl, rfl⟩) | (go_at_call 121; refine (pins51 _ _ _).mono ?_; rintro e w' ⟨rfl, rfl⟩) | (go_at_call 137; refine (pins67 _ _ _ _).mono ?_; rintro e w' ⟨rfl, rfl⟩) | (go_at_call 156; refine (pins86 _ _ _ _ _ _).mono ?_; rintro e w' ⟨rfl, rfl⟩))
  refine bodyPost_ret (v := .agg #[.slice (some ⟨w.heap.size + 3, 0, none⟩) 2 2, .slice (some ⟨w.heap.size + 5, 0, none⟩) 1 1, .slice (some ⟨w.heap.size + 7, 0, none⟩) 1 1]) (by simp [results, Tryz.results161, go_sem]) rfl ⟨_, rfl, ⟨w.heap.size + 3, w.heap.size + 5, w.heap.size + 7, rfl, by omega, by omega, by omega, by omega, by omega, by omega, ?_, ?_, ?_⟩, gr_alloc (gr_alloc (gr_alloc (gr_alloc (gr_alloc (gr_alloc (gr_alloc (gr_alloc (World.grownBy.refl _ _) _) _) _) _) _) _) _) _⟩
  all_goals (repeat (first | exact hp_new (by simp) _ | refine (hp_old (by simp) _).trans ?_))

set_option maxHeartbeats 1000000 in
theorem shape_hyst (p : Nat) (w : World) : Calls Tryz.prog 163 #[.pointer (some ⟨p, 0, none⟩)] w fun e w' => ∃ v, e = .returned v ∧ Shp w w' v hystI hystO hystS ∧ w.grownBy w' none := by
  go_enter Tryz.func163, Tryz.ntmps163
  go_wp2_with (first | (go_at_call 124; refine (boolPin_any _ _).mono ?_; rintro e w' ⟨rfl, rfl⟩) | (go_at_call 125; refine (timePin_any _ _).mono ?_; rintro e w' ⟨rfl, rfl⟩) | (go_at_call 139; refine (intPin_any _ _).mono ?_; rintro e w' ⟨rfl, rfl⟩) | (go_at_call 121; refine (pins51 _ _ _).mono ?_; rintro e w' ⟨rfl, rfl⟩) | (go_at_call 137; refine (pins67 _ _ _ _).mono ?_; rintro e w' ⟨rfl, rfl⟩) | (go_at_call 156; refine (pins86 _ _ _ _ _ _).mono ?_; rintro e w' ⟨rfl, rfl⟩))
  go_region_held3 (fun _ => True) (trivial) (first | (go_at_call 124; refine (boolPin_any _ _).mono ?_; rintro e w' ⟨rfl, rfl⟩) | (go_at_call 125; refine (timePin_any _ _).mono ?_; rintro e w' ⟨rfl, rfl⟩) | (go_at_call 139; refine (intPin_any _ _).mono ?_; rintro e w' ⟨rfl, rfl⟩) | (go_at_call 121; refine (pins51 _ _ _).mono ?_; rintro e w' ⟨rfl, rfl⟩) | (go_at_call 137; refine (pins67 _ _ _ _).mono ?_; rintro e w' ⟨rfl, rfl⟩) | (go_at_call 156; refine (pins86 _ _ _ _ _ _).mono ?_; rintro e w' ⟨rfl, rfl⟩))
  go_wp2
  refine bodyPost_ret (v := .agg #[.slice (some ⟨w.heap.size + 4, 0, none⟩) 3 3, .slice (some ⟨w.heap.size + 7, 0, none⟩) 1 1, .slice (some ⟨w.heap.size + 9, 0, none⟩) 1 1]) (by simp [results, Tryz.results163, go_sem]) rfl ⟨_, rfl, ⟨w.heap.size + 4, w.heap.size + 7, w.heap.size + 9, rfl, by omega, by omega, by omega, by omega, by omega, by omega, ?_, ?_, ?_⟩, gr_drew (gr_alloc (gr_alloc (gr_alloc (gr_alloc (gr_alloc (gr_alloc (gr_alloc (gr_alloc (gr_alloc (gr_alloc (World.grownBy.refl _ _) _) _) _) _) _) _) _) _) _) _)⟩
  all_goals rw [hp_drew]
  all_goals (repeat (first | exact hp_new (by simp) _ | refine (hp_old (by simp) _).trans ?_))

end Go.Proofs.YtcgbfhpmkpglkaaGreatDoor

/- Contract of named. -/
namespace Go.Proofs.YtcgbfhpmkpglkaaGreatDoor
open Go.RowKit

def tonName : ByteArray := { data := #[116, 111, 110] }
theorem named_ton (w : World) : Calls Tryz.prog 86 #[.string tonName] w fun e w' => e = .returned (.tuple #[.iface 143 (.pointer (some ⟨w.heap.size, 0, none⟩)), .bool true]) ∧ w' = w.alloc (.cells #[.bool false, .int .i64 0, .bool false, .int .i64 0] 147) := by
  unfold tonName
  go_enter Tryz.func86, Tryz.ntmps86
  go_wp2
  go_ret2
  exact ⟨rfl, rfl⟩

def tofName : ByteArray := { data := #[116, 111, 102] }
theorem named_tof (w : World) : Calls Tryz.prog 86 #[.string tofName] w fun e w' => e = .returned (.tuple #[.iface 148 (.pointer (some ⟨w.heap.size, 0, none⟩)), .bool true]) ∧ w' = w.alloc (.cells #[.bool false, .int .i64 0, .bool false, .int .i64 0] 149) := by
  unfold tofName
  go_enter Tryz.func86, Tryz.ntmps86
  go_wp2
  go_ret2
  exact ⟨rfl, rfl⟩

def tpName : ByteArray := { data := #[116, 112] }
theorem named_tp (w : World) : Calls Tryz.prog 86 #[.string tpName] w fun e w' => e = .returned (.tuple #[.iface 150 (.pointer (some ⟨w.heap.size, 0, none⟩)), .bool true]) ∧ w' = w.alloc (.cells #[.bool false, .int .i64 0, .bool false, .int .i64 0] 151) := by
  unfold tpName
  go_enter Tryz.func86, Tryz.ntmps86
  go_wp2
  go_ret2
  exact ⟨rfl, rfl⟩

def ctuName : ByteArray := { data := #[99, 116, 117] }
theorem named_ctu (w : World) : Calls Tryz.prog 86 #[.string ctuName] w fun e w' => e = .returned (.tuple #[.iface 152 (.pointer (some ⟨w.heap.size, 0, none⟩)), .bool true]) ∧ w' = w.alloc (.cells #[.bool false, .int .i64 0] 156) := by
  unfold ctuName
  go_enter Tryz.func86, Tryz.ntmps86
  go_wp2
  go_ret2
  exact ⟨rfl, rfl⟩

def ctdName : ByteArray := { data := #[99, 116, 100] }
theorem named_ctd (w : World) : Calls Tryz.prog 86 #[.string ctdName] w fun e w' => e = .returned (.tuple #[.iface 157 (.pointer (some ⟨w.heap.size, 0, none⟩)), .bool true]) ∧ w' = w.alloc (.cells #[.bool false, .int .i64 0] 158) := by
  unfold ctdName
  go_enter Tryz.func86, Tryz.ntmps86
  go_wp2
  go_ret2
  exact ⟨rfl, rfl⟩

def ctudName : ByteArray := { data := #[99, 116, 117, 100] }
theorem named_ctud (w : World) : Calls Tryz.prog 86 #[.string ctudName] w fun e w' => e = .returned (.tuple #[.iface 159 (.pointer (some ⟨w.heap.size, 0, none⟩)), .bool true]) ∧ w' = w.alloc (.cells #[.bool false, .bool false, .int .i64 0] 161) := by
  unfold ctudName
  go_enter Tryz.func86, Tryz.ntmps86
  go_wp2
  go_ret2
  exact ⟨rfl, rfl⟩

def rtrigName : ByteArray := { data := #[114, 95, 116, 114, 105, 103] }
theorem named_rtrig (w : World) : Calls Tryz.prog 86 #[.string rtrigName] w fun e w' => e = .returned (.tuple #[.iface 162 (.pointer (some ⟨w.heap.size, 0, none⟩)), .bool true]) ∧ w' = w.alloc (.cells #[.bool false] 166) := by
  unfold rtrigName
  go_enter Tryz.func86, Tryz.ntmps86
  go_wp2
  go_ret2
  exact ⟨rfl, rfl⟩

def ftrigName : ByteArray := { data := #[102, 95, 116, 114, 105, 103] }
theorem named_ftrig (w : World) : Calls Tryz.prog 86 #[.string ftrigName] w fun e w' => e = .returned (.tuple #[.iface 167 (.pointer (some ⟨w.heap.size, 0, none⟩)), .bool true]) ∧ w' = w.alloc (.cells #[.bool false] 168) := by
  unfold ftrigName
  go_enter Tryz.func86, Tryz.ntmps86
  go_wp2
  go_ret2
  exact ⟨rfl, rfl⟩

def srName : ByteArray := { data := #[115, 114] }
theorem named_sr (w : World) : Calls Tryz.prog 86 #[.string srName] w fun e w' => e = .returned (.tuple #[.iface 169 (.pointer (some ⟨w.heap.size, 0, none⟩)), .bool true]) ∧ w' = w.alloc (.cells #[.bool false] 173) := by
  unfold srName
  go_enter Tryz.func86, Tryz.ntmps86
  go_wp2
  go_ret2
  exact ⟨rfl, rfl⟩

def rsName : ByteArray := { data := #[114, 115] }
theorem named_rs (w : World) : Calls Tryz.prog 86 #[.string rsName] w fun e w' => e = .returned (.tuple #[.iface 174 (.pointer (some ⟨w.heap.size, 0, none⟩)), .bool true]) ∧ w' = w.alloc (.cells #[.bool false] 175) := by
  unfold rsName
  go_enter Tryz.func86, Tryz.ntmps86
  go_wp2
  go_ret2
  exact ⟨rfl, rfl⟩

def rampName : ByteArray := { data := #[114, 97, 109, 112] }
theorem named_ramp (w : World) : Calls Tryz.prog 86 #[.string rampName] w fun e w' => e = .returned (.tuple #[.iface 176 (.pointer (some ⟨w.heap.size, 0, none⟩)), .bool true]) ∧ w' = w.alloc (.cells #[.int .i64 0] 178) := by
  unfold rampName
  go_enter Tryz.func86, Tryz.ntmps86
  go_wp2
  go_ret2
  exact ⟨rfl, rfl⟩

def hystName : ByteArray := { data := #[104, 121, 115, 116] }
theorem named_hyst (w : World) : Calls Tryz.prog 86 #[.string hystName] w fun e w' => e = .returned (.tuple #[.iface 179 (.pointer (some ⟨w.heap.size, 0, none⟩)), .bool true]) ∧ w' = w.alloc (.cells #[.bool false] 180) := by
  unfold hystName
  go_enter Tryz.func86, Tryz.ntmps86
  go_wp2
  go_ret2
  exact ⟨rfl, rfl⟩

theorem named_else (s : ByteArray) (w : World) (h0 : (s.toList == [116, 111, 110]) = false) (h1 : (s.toList == [116, 111, 102]) = false) (h2 : (s.toList == [116, 112]) = false) (h3 : (s.toList == [99, 116, 117]) = false) (h4 : (s.toList == [99, 116, 100]) = false) (h5 : (s.toList == [99, 116, 117, 100]) = false) (h6 : (s.toList == [114, 95, 116, 114, 105, 103]) = false) (h7 : (s.toList == [102, 95, 116, 114, 105, 103]) = false) (h8 : (s.toList == [115, 114]) = false) (h9 : (s.toList == [114, 115]) = false) (h10 : (s.toList == [114, 97, 109, 112]) = false) (h11 : (s.toList == [104, 121, 115, 116]) = false) :
    Calls Tryz.prog 86 #[.string s] w fun e w' => e = .returned (.tuple #[.nilIface, .bool false]) ∧ w' = w := by
  go_enter Tryz.func86, Tryz.ntmps86
  go_wp2
  all_goals go_ret2
  all_goals exact ⟨rfl, rfl⟩

end Go.Proofs.YtcgbfhpmkpglkaaGreatDoor

/- Shape, for whatever block. -/
namespace Go.Proofs.YtcgbfhpmkpglkaaGreatDoor
open Go.RowKit
attribute [local go_sem ↓] Go.wp_at_zero Go.wp_at_succ


def ShapeC (nm : ByteArray) (I O S : List (ByteArray × Int)) : Prop :=
  ∀ w : World, Calls Tryz.prog 85 #[.string nm] w fun e w' => ∃ v, e = .returned (.tuple #[v, .bool true]) ∧ Shp w w' v I O S ∧ w.grownBy w' none

set_option maxHeartbeats 1000000 in
theorem shape_gen (nm : ByteArray) (P T fS : Nat) (z : Array Value) (I O S : List (ByteArray × Int))
    (hnamed : ∀ w, Calls Tryz.prog 86 #[.string nm] w fun e w' => e = .returned (.tuple #[.iface P (.pointer (some ⟨w.heap.size, 0, none⟩)), .bool true]) ∧ w' = w.alloc (.cells z T))
    (hmS : ∀ (p : Nat) (w : World), (method 309 P (.pointer (some ⟨p, 0, none⟩)) "plantwright/blocks.shape").run Tryz.prog w = .ok (fS, .pointer (some ⟨p, 0, none⟩)) w)
    (hcS : ∀ (args : Array Value) (w : World), (callFunc fS args).run Tryz.prog w = .ok (.enter fS args) w)
    (hshape : ∀ (p : Nat) (w : World), Calls Tryz.prog fS #[.pointer (some ⟨p, 0, none⟩)] w fun e w' => ∃ v, e = .returned v ∧ Shp w w' v I O S ∧ w.grownBy w' none) : ShapeC nm I O S := by
  intro w
  go_enter Tryz.func85, Tryz.ntmps85
  go_wp2_with (first | (go_at_call 86; refine (hnamed _).mono ?_; rintro e w' ⟨rfl, rfl⟩))
  refine (hshape _ _).mono ?_
  rintro e w1 ⟨v, rfl, ⟨b1, b2, b3, rfl, hb1, hb2, hb3, n12, n13, n23, hB1, hB2, hB3⟩, hg1⟩
  simp at hb1 hb2 hb3
  have hX : w1.heap[w.heap.size]? = some (.cells #[.slice none 0 0, .slice none 0 0, .slice none 0 0] 100) := kept hg1 ((hp_old (by simp) _).trans (heap_alloc_new _ _))
  have d0 := at_cell hX 0
  have d1 := at_cell hX 1
  have d2 := at_cell hX 2
  have f0 := at_frozen hX 0
  have f1 := at_frozen hX 1
  have f2 := at_frozen hX 2
  simp at d0 d1 d2
  have hgw : w.grownBy w1 none := (gr_alloc (gr_alloc (World.grownBy.refl w none) _) _).trans hg1
  go_wp2
  refine bodyPost_ret (v := .tuple #[.agg #[.slice (some ⟨b1, 0, none⟩) I.length I.length, .slice (some ⟨b2, 0, none⟩) O.length O.length, .slice (some ⟨b3, 0, none⟩) S.length S.length], .bool true]) (by simp [results, Tryz.results85, go_sem, d0, d1, d2]) rfl ⟨_, rfl, ⟨b1, b2, b3, rfl, by omega, by omega, by omega, n12, n13, n23, ?_, ?_, ?_⟩, ?_⟩
  · rw [Below.heap_setCell _ _ _ _ (by simp; omega), Below.heap_setCell _ _ _ _ (by simp; omega), Below.heap_setCell _ _ _ _ (by simp; omega)]; exact hB1
  · rw [Below.heap_setCell _ _ _ _ (by simp; omega), Below.heap_setCell _ _ _ _ (by simp; omega), Below.heap_setCell _ _ _ _ (by simp; omega)]; exact hB2
  · rw [Below.heap_setCell _ _ _ _ (by simp; omega), Below.heap_setCell _ _ _ _ (by simp; omega), Below.heap_setCell _ _ _ _ (by simp; omega)]; exact hB3
  · exact gr_own (gr_own (gr_own hgw (Nat.le_refl _) _ _) (Nat.le_refl _) _ _) (Nat.le_refl _) _ _

theorem shapeC_ton : ShapeC tonName tonI tonO tonS := shape_gen tonName 143 147 116 #[.bool false, .int .i64 0, .bool false, .int .i64 0] _ _ _ named_ton (fun _ _ => by kernel_rfl) (fun _ _ => by kernel_rfl) shape_ton
theorem shapeC_tof : ShapeC tofName tofI tofO tofS := shape_gen tofName 148 149 126 #[.bool false, .int .i64 0, .bool false, .int .i64 0] _ _ _ named_tof (fun _ _ => by kernel_rfl) (fun _ _ => by kernel_rfl) shape_tof
theorem shapeC_tp : ShapeC tpName tpI tpO tpS := shape_gen tpName 150 151 130 #[.bool false, .int .i64 0, .bool false, .int .i64 0] _ _ _ named_tp (fun _ _ => by kernel_rfl) (fun _ _ => by kernel_rfl) shape_tp
theorem shapeC_ctu : ShapeC ctuName ctuI ctuO ctuS := shape_gen ctuName 152 156 135 #[.bool false, .int .i64 0] _ _ _ named_ctu (fun _ _ => by kernel_rfl) (fun _ _ => by kernel_rfl) shape_ctu
theorem shapeC_ctd : ShapeC ctdName ctdI ctdO ctdS := shape_gen ctdName 157 158 140 #[.bool false, .int .i64 0] _ _ _ named_ctd (fun _ _ => by kernel_rfl) (fun _ _ => by kernel_rfl) shape_ctd
theorem shapeC_ctud : ShapeC ctudName ctudI ctudO ctudS := shape_gen ctudName 159 161 145 #[.bool false, .bool false, .int .i64 0] _ _ _ named_ctud (fun _ _ => by kernel_rfl) (fun _ _ => by kernel_rfl) shape_ctud
theorem shapeC_rtrig : ShapeC rtrigName edgeI edgeO edgeS := shape_gen rtrigName 162 166 149 #[.bool false] _ _ _ named_rtrig (fun _ _ => by kernel_rfl) (fun _ _ => by kernel_rfl) shape_edge
theorem shapeC_ftrig : ShapeC ftrigName edgeI edgeO edgeS := shape_gen ftrigName 167 168 149 #[.bool false] _ _ _ named_ftrig (fun _ _ => by kernel_rfl) (fun _ _ => by kernel_rfl) shape_edge
theorem shapeC_sr : ShapeC srName srI srO srS := shape_gen srName 169 173 154 #[.bool false] _ _ _ named_sr (fun _ _ => by kernel_rfl) (fun _ _ => by kernel_rfl) shape_sr
theorem shapeC_rs : ShapeC rsName rsI rsO rsS := shape_gen rsName 174 175 157 #[.bool false] _ _ _ named_rs (fun _ _ => by kernel_rfl) (fun _ _ => by kernel_rfl) shape_rs
theorem shapeC_ramp : ShapeC rampName rampI rampO rampS := shape_gen rampName 176 178 161 #[.int .i64 0] _ _ _ named_ramp (fun _ _ => by kernel_rfl) (fun _ _ => by kernel_rfl) shape_ramp
theorem shapeC_hyst : ShapeC hystName hystI hystO hystS := shape_gen hystName 179 180 163 #[.bool false] _ _ _ named_hyst (fun _ _ => by kernel_rfl) (fun _ _ => by kernel_rfl) shape_hyst

/-- A name that is no block's. -/
def NoName (s : ByteArray) : Prop := (s.toList == [116, 111, 110]) = false ∧ (s.toList == [116, 111, 102]) = false ∧ (s.toList == [116, 112]) = false ∧ (s.toList == [99, 116, 117]) = false ∧ (s.toList == [99, 116, 100]) = false ∧ (s.toList == [99, 116, 117, 100]) = false ∧ (s.toList == [114, 95, 116, 114, 105, 103]) = false ∧ (s.toList == [102, 95, 116, 114, 105, 103]) = false ∧ (s.toList == [115, 114]) = false ∧ (s.toList == [114, 115]) = false ∧ (s.toList == [114, 97, 109, 112]) = false ∧ (s.toList == [104, 121, 115, 116]) = false
theorem toList_eq {s : ByteArray} {l : List UInt8} (h : (s.toList == l) = true) : s = { data := l.toArray } := by
  have h1 : s.toList = l := by simpa using h
  have h2 : s.data.toList = l := by rw [← h1]; exact (ByteArray.toList_eq s).symm
  cases s
  simp at h2
  subst h2
  rfl
theorem name_cases (s : ByteArray) : s = tonName ∨ s = tofName ∨ s = tpName ∨ s = ctuName ∨ s = ctdName ∨ s = ctudName ∨ s = rtrigName ∨ s = ftrigName ∨ s = srName ∨ s = rsName ∨ s = rampName ∨ s = hystName ∨ NoName s := by
  unfold NoName
  by_cases h0 : (s.toList == [116, 111, 110]) = true
  · exact .inl (toList_eq h0)
  by_cases h1 : (s.toList == [116, 111, 102]) = true
  · exact .inr (.inl (toList_eq h1))
  by_cases h2 : (s.toList == [116, 112]) = true
  · exact .inr (.inr (.inl (toList_eq h2)))
  by_cases h3 : (s.toList == [99, 116, 117]) = true
  · exact .inr (.inr (.inr (.inl (toList_eq h3))))
  by_cases h4 : (s.toList == [99, 116, 100]) = true
  · exact .inr (.inr (.inr (.inr (.inl (toList_eq h4)))))
  by_cases h5 : (s.toList == [99, 116, 117, 100]) = true
  · exact .inr (.inr (.inr (.inr (.inr (.inl (toList_eq h5))))))
  by_cases h6 : (s.toList == [114, 95, 116, 114, 105, 103]) = true
  · exact .inr (.inr (.inr (.inr (.inr (.inr (.inl (toList_eq h6)))))))
  by_cases h7 : (s.toList == [102, 95, 116, 114, 105, 103]) = true
  · exact .inr (.inr (.inr (.inr (.inr (.inr (.inr (.inl (toList_eq h7))))))))
  by_cases h8 : (s.toList == [115, 114]) = true
  · exact .inr (.inr (.inr (.inr (.inr (.inr (.inr (.inr (.inl (toList_eq h8)))))))))
  by_cases h9 : (s.toList == [114, 115]) = true
  · exact .inr (.inr (.inr (.inr (.inr (.inr (.inr (.inr (.inr (.inl (toList_eq h9))))))))))
  by_cases h10 : (s.toList == [114, 97, 109, 112]) = true
  · exact .inr (.inr (.inr (.inr (.inr (.inr (.inr (.inr (.inr (.inr (.inl (toList_eq h10)))))))))))
  by_cases h11 : (s.toList == [104, 121, 115, 116]) = true
  · exact .inr (.inr (.inr (.inr (.inr (.inr (.inr (.inr (.inr (.inr (.inr (.inl (toList_eq h11))))))))))))
  exact .inr (.inr (.inr (.inr (.inr (.inr (.inr (.inr (.inr (.inr (.inr (.inr ⟨by simpa using h0, by simpa using h1, by simpa using h2, by simpa using h3, by simpa using h4, by simpa using h5, by simpa using h6, by simpa using h7, by simpa using h8, by simpa using h9, by simpa using h10, by simpa using h11⟩)))))))))))
set_option maxHeartbeats 1000000 in
theorem shape_none (s : ByteArray) (hs : NoName s) (w : World) : Calls Tryz.prog 85 #[.string s] w fun e w' => e = .returned (.tuple #[.agg #[.slice none 0 0, .slice none 0 0, .slice none 0 0], .bool false]) ∧ w.grownBy w' none := by
  obtain ⟨h0, h1, h2, h3, h4, h5, h6, h7, h8, h9, h10, h11⟩ := hs
  have hn := fun w => named_else s w h0 h1 h2 h3 h4 h5 h6 h7 h8 h9 h10 h11
  clear h0 h1 h2 h3 h4 h5 h6 h7 h8 h9 h10 h11
  go_enter Tryz.func85, Tryz.ntmps85
  go_wp2_with (first | (go_at_call 86; refine (hn _).mono ?_; rintro e w' ⟨rfl, rfl⟩))
  exact bodyPost_ret (v := .tuple #[.agg #[.slice none 0 0, .slice none 0 0, .slice none 0 0], .bool false]) (by simp [results, Tryz.results85, go_sem]) rfl ⟨rfl, gr_alloc (World.grownBy.refl _ _) _⟩
end Go.Proofs.YtcgbfhpmkpglkaaGreatDoor

/- What the program knows of a standard block by its number. -/
namespace Go.Proofs.YtcgbfhpmkpglkaaGreatDoor
open Go.RowKit
attribute [local go_sem ↓] Go.wp_at_zero Go.wp_at_succ
set_option linter.unusedVariables false
set_option linter.unusedSimpArgs false

/-- The names of the standard blocks, by their numbers. -/
def stdN : List ByteArray := [tonName, tofName, tpName, ctuName, ctdName, ctudName, rtrigName, ftrigName, srName, rsName, rampName, hystName]
/-- They stand in the program's own list. -/
def Stds (w : World) : Prop := ∀ k, k < 12 → w.cell? ⟨0, k, none⟩ = some (.string (stdN.getD k ByteArray.empty))
theorem Stds.grown {w w' : World} (h : Stds w) (hg : w.grownBy w' none) : Stds w' := fun k hk => hg.cell (h k hk) (by simp)
/-- How many words each has. -/
def stdW (n : Int) : Int := if n = 1 ∨ n = 2 ∨ n = 3 then 8 else if n = 4 ∨ n = 5 then 7 else if n = 6 then 11 else if n = 7 ∨ n = 8 then 3 else if n = 9 ∨ n = 10 ∨ n = 11 then 4 else if n = 12 then 5 else 0
def kitV (nm : ByteArray) (i o s : Nat) : Value := .agg #[.string nm, .int .i64 i, .int .i64 ((i : Int) + o), .int .i64 ((i : Int) + o + s)]

set_option maxHeartbeats 2000000 in
theorem kit_gen (k : Nat) (nm : ByteArray) (I O S : List (ByteArray × Int)) (hC : ShapeC nm I O S) (hI : I.length ≤ 5) (hO : O.length ≤ 5) (hL : S.length ≤ 5) (w : World) (hk : k < 12) (h0 : w.cell? ⟨0, k, none⟩ = some (.string nm)) :
    Calls Tryz.prog 72 #[.int .i64 ((k : Int) + 1)] w fun e w' => e = .returned (kitV nm I.length O.length S.length) ∧ w.grownBy w' none := by
  have h1 : ∀ o, (w.alloc o).cell? ⟨0, k, none⟩ = some (.string nm) := fun o => (gr_alloc (World.grownBy.refl w none) o).cell h0 (by simp)
  obtain ⟨i, hi⟩ : ∃ i, I.length = i := ⟨_, rfl⟩
  obtain ⟨o, ho⟩ : ∃ i, O.length = i := ⟨_, rfl⟩
  obtain ⟨s, hs⟩ : ∃ i, S.length = i := ⟨_, rfl⟩
  have k0 : (0 : Int) ≤ (k : Int) := by omega
  have k1 : (k : Int) < 12 := by omega
  have k2 : wrap64 ((k : Int) + 1 - 1) = (k : Int) := by unfold wrap64; omega
  have e1 : wrap64 ((i : Int) + (o : Int)) = (i : Int) + o := by unfold wrap64; omega
  have e2 : wrap64 ((i : Int) + (o : Int) + (s : Int)) = (i : Int) + o + s := by unfold wrap64; omega
  rw [hi, ho, hs]
  clear h0
  go_enter Tryz.func72, Tryz.ntmps72
  go_wp2_with fail
  refine (hC _).mono ?_
  rintro e w1 ⟨v, rfl, ⟨b1, b2, b3, rfl, hb1, hb2, hb3, n12, n13, n23, hB1, hB2, hB3⟩, hg1⟩
  rw [hi, ho, hs]
  simp at hb1 hb2 hb3
  have hX := kept hg1 ((hp_old (by simp) _).trans (heap_alloc_new w _))
  have hY := kept hg1 (hp_new (k := w.heap.size + 1) (by simp) _)
  have hgw : w.grownBy w1 none := (gr_alloc (gr_alloc (World.grownBy.refl w none) _) _).trans hg1
  have hs1 := at_lt hX
  have hs2 := at_lt hY
  have x0 := at_cell hX 0
  have x1 := at_cell hX 1
  have x2 := at_cell hX 2
  have x3 := at_cell hX 3
  have y0 := at_cell hY 0
  have y1 := at_cell hY 1
  have y2 := at_cell hY 2
  have y3 := at_cell hY 3
  have f0 := at_frozen hX 0
  have f1 := at_frozen hX 1
  have f2 := at_frozen hX 2
  have f3 := at_frozen hX 3
  have g0 := at_frozen hY 0
  have g1 := at_frozen hY 1
  have g2 := at_frozen hY 2
  have g3 := at_frozen hY 3
  simp at x0 x1 x2 x3 y0 y1 y2 y3
  have HX : Hid (_ = _) := hX
  clear hX hY hB1 hB2 hB3 h1
  go_wp2_with fail
  have hF := (hp_old (w := (((((((w1.setCell ⟨w.heap.size + 1, 1, none⟩ (.int .i64 i)).setCell ⟨w.heap.size + 1, 2, none⟩ (.int .i64 ((i : Int) + o))).setCell ⟨w.heap.size + 1, 3, none⟩ (.int .i64 ((i : Int) + o + s))).setCell ⟨w.heap.size, 0, none⟩ (.string nm)).setCell ⟨w.heap.size, 1, none⟩ (.int .i64 i)).setCell ⟨w.heap.size, 2, none⟩ (.int .i64 ((i : Int) + o))).setCell ⟨w.heap.size, 3, none⟩ (.int .i64 ((i : Int) + o + s)))) (k := w.heap.size) (by simpa using hs1) (.cells #[.slice (some ⟨b1, 0, none⟩) i i, .slice (some ⟨b2, 0, none⟩) o o, .slice (some ⟨b3, 0, none⟩) s s] 100)).trans (at_set (at_set (at_set (at_set (((Below.heap_setCell _ _ _ _ (by simp)).trans ((Below.heap_setCell _ _ _ _ (by simp)).trans ((Below.heap_setCell _ _ _ _ (by simp)).trans HX.out)))) 0 (.string nm)) 1 (.int .i64 i)) 2 (.int .i64 ((i : Int) + o))) 3 (.int .i64 ((i : Int) + o + s)))
  have c0 := at_cell hF 0
  have c1 := at_cell hF 1
  have c2 := at_cell hF 2
  have c3 := at_cell hF 3
  simp at c0 c1 c2 c3
  refine bodyPost_ret (v := kitV nm i o s) (by simp [results, Tryz.results72, go_sem, kitV, c0, c1, c2, c3]) rfl ⟨rfl, ?_⟩
  clear HX hF c0 c1 c2 c3
  refine gr_alloc (gr_own (gr_own (gr_own (gr_own (gr_own (gr_own (gr_own hgw ?_ _ _) ?_ _ _) ?_ _ _) ?_ _ _) ?_ _ _) ?_ _ _) ?_ _ _) _
  all_goals omega

theorem kit_any (n : Int) (w : World) (hS : Stds w) (h1 : 1 ≤ n) (h2 : n ≤ 12) : Calls Tryz.prog 72 #[.int .i64 n] w fun e w' => (∃ nm i o, e = .returned (.agg #[.string nm, .int .i64 i, .int .i64 o, .int .i64 (stdW n)])) ∧ w.grownBy w' none := by
  rcases (show n = 1 ∨ n = 2 ∨ n = 3 ∨ n = 4 ∨ n = 5 ∨ n = 6 ∨ n = 7 ∨ n = 8 ∨ n = 9 ∨ n = 10 ∨ n = 11 ∨ n = 12 by omega) with rfl | rfl | rfl | rfl | rfl | rfl | rfl | rfl | rfl | rfl | rfl | rfl
  · exact (kit_gen 0 tonName _ _ _ shapeC_ton (by decide) (by decide) (by decide) w (by omega) (hS 0 (by omega))).mono fun e w' h => ⟨⟨_, _, _, h.1⟩, h.2⟩
  · exact (kit_gen 1 tofName _ _ _ shapeC_tof (by decide) (by decide) (by decide) w (by omega) (hS 1 (by omega))).mono fun e w' h => ⟨⟨_, _, _, h.1⟩, h.2⟩
  · exact (kit_gen 2 tpName _ _ _ shapeC_tp (by decide) (by decide) (by decide) w (by omega) (hS 2 (by omega))).mono fun e w' h => ⟨⟨_, _, _, h.1⟩, h.2⟩
  · exact (kit_gen 3 ctuName _ _ _ shapeC_ctu (by decide) (by decide) (by decide) w (by omega) (hS 3 (by omega))).mono fun e w' h => ⟨⟨_, _, _, h.1⟩, h.2⟩
  · exact (kit_gen 4 ctdName _ _ _ shapeC_ctd (by decide) (by decide) (by decide) w (by omega) (hS 4 (by omega))).mono fun e w' h => ⟨⟨_, _, _, h.1⟩, h.2⟩
  · exact (kit_gen 5 ctudName _ _ _ shapeC_ctud (by decide) (by decide) (by decide) w (by omega) (hS 5 (by omega))).mono fun e w' h => ⟨⟨_, _, _, h.1⟩, h.2⟩
  · exact (kit_gen 6 rtrigName _ _ _ shapeC_rtrig (by decide) (by decide) (by decide) w (by omega) (hS 6 (by omega))).mono fun e w' h => ⟨⟨_, _, _, h.1⟩, h.2⟩
  · exact (kit_gen 7 ftrigName _ _ _ shapeC_ftrig (by decide) (by decide) (by decide) w (by omega) (hS 7 (by omega))).mono fun e w' h => ⟨⟨_, _, _, h.1⟩, h.2⟩
  · exact (kit_gen 8 srName _ _ _ shapeC_sr (by decide) (by decide) (by decide) w (by omega) (hS 8 (by omega))).mono fun e w' h => ⟨⟨_, _, _, h.1⟩, h.2⟩
  · exact (kit_gen 9 rsName _ _ _ shapeC_rs (by decide) (by decide) (by decide) w (by omega) (hS 9 (by omega))).mono fun e w' h => ⟨⟨_, _, _, h.1⟩, h.2⟩
  · exact (kit_gen 10 rampName _ _ _ shapeC_ramp (by decide) (by decide) (by decide) w (by omega) (hS 10 (by omega))).mono fun e w' h => ⟨⟨_, _, _, h.1⟩, h.2⟩
  · exact (kit_gen 11 hystName _ _ _ shapeC_hyst (by decide) (by decide) (by decide) w (by omega) (hS 11 (by omega))).mono fun e w' h => ⟨⟨_, _, _, h.1⟩, h.2⟩
end Go.Proofs.YtcgbfhpmkpglkaaGreatDoor

/- What a kind has: the operations; Result and Second, the program's and the document's. -/
namespace Go.Proofs.YtcgbfhpmkpglkaaGreatDoor
open Go.RowKit

theorem ret_int {k : IntKind} {a b : Int} (h : a = b) : Ending.returned (.int k a) = .returned (.int k b) := by rw [h]
theorem ret_bool {a b : Bool} (h : a = b) : Ending.returned (.bool a) = .returned (.bool b) := by rw [h]
def isK (k : Int) : Bool := decide (1 ≤ k) && decide (k ≤ 5)

theorem isKind_any (k : Int) (w : World) :
    Calls Tryz.prog 91 #[.int .i64 k] w fun e w' => e = .returned (.bool (isK k)) ∧ w' = w := by
  by_cases h1 : 1 ≤ k
  · by_cases h2 : k ≤ 5
    · go_enter Tryz.func91, Tryz.ntmps91
      go_wp2
      go_ret
      exact ⟨ret_bool (by simp [isK, h1, h2]), rfl⟩
    · go_enter Tryz.func91, Tryz.ntmps91
      go_wp2
      go_ret
      exact ⟨ret_bool (by simp [isK, h1, h2]), rfl⟩
  · go_enter Tryz.func91, Tryz.ntmps91
    go_wp2
    go_ret
    exact ⟨ret_bool (by simp [isK]; omega), rfl⟩


def hasB (op k : Int) : Bool :=
  if op == 3 || op == 4 || op == 5 || op == 22 || op == 23 then (k == 2 || k == 3)
  else if op == 1 || op == 2 then ((k == 2 || k == 3) || k == 5)
  else if op == 11 || op == 12 || op == 13 || op == 14 || op == 19 || op == 20 then (((k == 2 || k == 3) || k == 5) || k == 4)
  else if op == 6 || op == 7 || op == 8 || op == 21 then (k == 1 || k == 4)
  else if op == 15 || op == 16 || op == 17 || op == 18 then k == 4
  else if op == 9 || op == 10 then isK k
  else false

set_option maxHeartbeats 1000000 in
theorem has_any (op k : Int) (w : World) :
    Calls Tryz.prog 82 #[.int .i64 op, .int .i64 k] w fun e w' => e = .returned (.bool (hasB op k)) ∧ w' = w := by
  by_cases c2 : (k == 2) = true
  · go_enter Tryz.func82, Tryz.ntmps82
    go_wp2_with (first | (go_at_call 91; refine (isKind_any _ _).mono ?_; rintro e w' ⟨rfl, rfl⟩))
    all_goals go_ret
    all_goals exact ⟨ret_bool (by simp [hasB, *]), rfl⟩
  · have c2 : (k == 2) = false := by simpa using c2
    by_cases c3 : (k == 3) = true
    · go_enter Tryz.func82, Tryz.ntmps82
      go_wp2_with (first | (go_at_call 91; refine (isKind_any _ _).mono ?_; rintro e w' ⟨rfl, rfl⟩))
      all_goals go_ret
      all_goals exact ⟨ret_bool (by simp [hasB, *]), rfl⟩
    · have c3 : (k == 3) = false := by simpa using c3
      go_enter Tryz.func82, Tryz.ntmps82
      go_wp2_with (first | (go_at_call 91; refine (isKind_any _ _).mono ?_; rintro e w' ⟨rfl, rfl⟩))
      all_goals go_ret
      all_goals exact ⟨ret_bool (by simp [hasB, *]), rfl⟩


def cmpB (op : Int) : Bool := decide (9 ≤ op) && decide (op ≤ 14)
theorem compares_any (op : Int) (w : World) :
    Calls Tryz.prog 92 #[.int .i64 op] w fun e w' => e = .returned (.bool (cmpB op)) ∧ w' = w := by
  by_cases h1 : 9 ≤ op
  · go_enter Tryz.func92, Tryz.ntmps92
    go_wp2
    all_goals go_ret
    all_goals exact ⟨ret_bool (by simp [cmpB]; omega), rfl⟩
  · go_enter Tryz.func92, Tryz.ntmps92
    go_wp2
    all_goals go_ret
    all_goals exact ⟨ret_bool (by simp [cmpB]; omega), rfl⟩

def resK (op k : Int) : Int := if hasB op k = true then (if cmpB op = true then 1 else k) else 0
theorem result_any (op k : Int) (w : World) :
    Calls Tryz.prog 83 #[.int .i64 op, .int .i64 k] w fun e w' => e = .returned (.int .i64 (resK op k)) ∧ w' = w := by
  by_cases h1 : hasB op k = true
  · by_cases h2 : cmpB op = true
    · go_enter Tryz.func83, Tryz.ntmps83
      go_wp2_with (first | (go_at_call 82; refine (has_any _ _ _).mono ?_; rintro e w' ⟨rfl, rfl⟩) | (go_at_call 92; refine (compares_any _ _).mono ?_; rintro e w' ⟨rfl, rfl⟩))
      go_ret
      exact ⟨ret_int (by simp [resK, h1, h2]), rfl⟩
    · have h2 : cmpB op = false := by simpa using h2
      go_enter Tryz.func83, Tryz.ntmps83
      go_wp2_with (first | (go_at_call 82; refine (has_any _ _ _).mono ?_; rintro e w' ⟨rfl, rfl⟩) | (go_at_call 92; refine (compares_any _ _).mono ?_; rintro e w' ⟨rfl, rfl⟩))
      go_ret
      exact ⟨ret_int (by simp [resK, h1, h2]), rfl⟩
  · have h1 : hasB op k = false := by simpa using h1
    go_enter Tryz.func83, Tryz.ntmps83
    go_wp2_with (first | (go_at_call 82; refine (has_any _ _ _).mono ?_; rintro e w' ⟨rfl, rfl⟩) | (go_at_call 92; refine (compares_any _ _).mono ?_; rintro e w' ⟨rfl, rfl⟩))
    go_ret
    exact ⟨ret_int (by simp [resK, h1]), rfl⟩

def secK (op k : Int) : Int :=
  if hasB op k = true then (if op == 21 || op == 22 || op == 23 then 0 else if op == 15 || op == 16 || op == 17 || op == 18 then 2 else k) else 0
set_option maxHeartbeats 400000 in
theorem second_any (op k : Int) (w : World) :
    Calls Tryz.prog 81 #[.int .i64 op, .int .i64 k] w fun e w' => e = .returned (.int .i64 (secK op k)) ∧ w' = w := by
  by_cases h1 : hasB op k = true
  · go_enter Tryz.func81, Tryz.ntmps81
    go_wp2_with (first | (go_at_call 82; refine (has_any _ _ _).mono ?_; rintro e w' ⟨rfl, rfl⟩))
    all_goals go_ret
    all_goals exact ⟨ret_int (by simp [secK, *]), rfl⟩
  · have h1 : hasB op k = false := by simpa using h1
    go_enter Tryz.func81, Tryz.ntmps81
    go_wp2_with (first | (go_at_call 82; refine (has_any _ _ _).mono ?_; rintro e w' ⟨rfl, rfl⟩))
    go_ret
    exact ⟨ret_int (by simp [secK, h1]), rfl⟩



def shB (op : Int) : Bool := op == 15 || op == 16 || op == 17 || op == 18
theorem sec_sh {op k : Int} (h : hasB op k = true) (hs : shB op = true) : secK op k = 2 := by
  simp [shB] at hs
  rcases hs with ((rfl | rfl) | rfl) | rfl
  all_goals simp [secK, h]
theorem kinds (k : Int) : k = 1 ∨ k = 2 ∨ k = 3 ∨ k = 4 ∨ k = 5 ∨ (k ≠ 1 ∧ k ≠ 2 ∧ k ≠ 3 ∧ k ≠ 4 ∧ k ≠ 5) := by omega
theorem ops (op : Int) : op = 1 ∨ op = 2 ∨ op = 3 ∨ op = 4 ∨ op = 5 ∨ op = 6 ∨ op = 7 ∨ op = 8 ∨ op = 9 ∨ op = 10 ∨ op = 11 ∨ op = 12 ∨ op = 13 ∨ op = 14 ∨ op = 15 ∨ op = 16 ∨ op = 17 ∨ op = 18 ∨ op = 19 ∨ op = 20 ∨ op = 21 ∨ op = 22 ∨ op = 23 ∨ (op < 1 ∨ 23 < op) := by omega
theorem hasB_none {op : Int} (k : Int) (h : op < 1 ∨ 23 < op) : hasB op k = false := by
  unfold hasB
  have e : ∀ n : Int, 1 ≤ n → n ≤ 23 → (op == n) = false := fun n a b => by simp; omega
  simp [e]

theorem resK_none {op k : Int} (h : isK k = false) : resK op k = 0 := by
  have e : ∀ n : Int, 1 ≤ n → n ≤ 5 → (k == n) = false := fun n a b => by simp [isK] at h; simp; omega
  have hh : hasB op k = false := by
    simp [hasB, h, e]
  simp [resK, hh]
set_option maxHeartbeats 8000000 in
theorem rresult_any (op k : Int) (w : World) :
    Calls Tryz.prog 37 #[.int .i64 op, .int .i64 k] w fun e w' => e = .returned (.int .i64 (resK op k)) ∧ w' = w := by
  rcases ops op with rfl | rfl | rfl | rfl | rfl | rfl | rfl | rfl | rfl | rfl | rfl | rfl | rfl | rfl | rfl | rfl | rfl | rfl | rfl | rfl | rfl | rfl | rfl | h
  case inr.inr.inr.inr.inr.inr.inr.inr.inr.inr.inr.inr.inr.inr.inr.inr.inr.inr.inr.inr.inr.inr.inr =>
    have HR : Hid (resK op k = 0) := by
      show resK op k = 0
      simp [resK, hasB_none k h]
    have f : ∀ n : Int, 1 ≤ n → n ≤ 23 → (op == n) = false := fun n a b => by simp; omega
    have g1 := f 1 (by decide) (by decide)
    have g2 := f 2 (by decide) (by decide)
    have g3 := f 3 (by decide) (by decide)
    have g4 := f 4 (by decide) (by decide)
    have g5 := f 5 (by decide) (by decide)
    have g6 := f 6 (by decide) (by decide)
    have g7 := f 7 (by decide) (by decide)
    have g8 := f 8 (by decide) (by decide)
    have g9 := f 9 (by decide) (by decide)
    have g10 := f 10 (by decide) (by decide)
    have g19 := f 19 (by decide) (by decide)
    have g20 := f 20 (by decide) (by decide)
    have g21 := f 21 (by decide) (by decide)
    have g22 := f 22 (by decide) (by decide)
    have g23 := f 23 (by decide) (by decide)
    clear f
    rcases h with h | h
    · go_enter Tryz.func37, Tryz.ntmps37
      go_wp2
      go_ret
      exact ⟨by simp; exact HR.out.symm, rfl⟩
    · go_enter Tryz.func37, Tryz.ntmps37
      go_wp2
      go_ret
      exact ⟨by simp; exact HR.out.symm, rfl⟩
  all_goals
    go_enter Tryz.func37, Tryz.ntmps37
    go_wp2
  all_goals go_ret
  all_goals refine ⟨?_, rfl⟩
  all_goals simp
  all_goals try simp only [beq_iff_eq, beq_eq_false_iff_ne, ne_eq] at *
  all_goals rcases kinds k with rfl | rfl | rfl | rfl | rfl | h
  all_goals first | omega | decide | rw [resK_none (by simp [isK]; omega)]

end Go.Proofs.YtcgbfhpmkpglkaaGreatDoor
