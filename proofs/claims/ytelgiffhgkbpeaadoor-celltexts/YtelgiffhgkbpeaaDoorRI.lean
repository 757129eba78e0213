/- The document's answer: ShowValue of a word. -/
import Derived.Test.YtelgiffhgkbpeaaDoorRH
import Derived.Test.YtelgiffhgkbpeaaDoorTM
namespace Go.Proofs.YtelgiffhgkbpeaaDoor
open Go.RowKit

theorem ext_hx : ∀ x : Fin 16, ((⟨#[48, 49, 50, 51, 52, 53, 54, 55, 56, 57, 65, 66, 67, 68, 69, 70]⟩ : ByteArray).extract x.val (x.val + 1)) = ⟨#[Lib.upperB (hxB (x.val : Int))]⟩ := by decide +kernel
theorem ext_hx' (x : Int) (h0 : 0 ≤ x) (h1 : x < 16) : ((⟨#[48, 49, 50, 51, 52, 53, 54, 55, 56, 57, 65, 66, 67, 68, 69, 70]⟩ : ByteArray).extract x.toNat (x + 1).toNat) = ⟨#[Lib.upperB (hxB x)]⟩ := by
  have := ext_hx ⟨x.toNat, by omega⟩
  have e : ((x.toNat : Nat) : Int) = x := by omega
  have e2 : (x + 1).toNat = x.toNat + 1 := by omega
  simp only [e] at this
  rw [e2]
  exact this
theorem word_list (n : Int) (hf : fitsK 4 n = true) : (showB 4 n).data.toList = [49, 54, 35] ++ (nibs n).map fun x => Lib.upperB (hxB x) := by
  have e1 : showB 4 n = ⟨#[49, 54, 35]⟩ ++ upS n := by rw [showB, if_pos hf]; rfl
  rw [e1, ByteArray.data_append, Array.toList_append, upS_list]

set_option maxHeartbeats 4000000 in
set_option maxRecDepth 100000 in
theorem word1 (n : Int) (w : World) (hf : fitsK 4 n = true) (h0 : 0 ≤ n) (h1 : n < 16) :
    Calls Tryd.prog 8 #[.int .i64 4, .int .i64 n] w fun e w' => e = .returned (.string (showB 4 n)) ∧ w' = w := by
  have t0 : (n).tmod 16 = (n) % 16 := Int.tmod_eq_emod_of_nonneg (by omega)
  have d0 : (n).tdiv 16 = (n) / 16 := Int.tdiv_eq_ediv_of_nonneg (by omega)
  have x0 := ext_hx' ((n) % 16) (by omega) (by omega)
  obtain ⟨X0, hX0⟩ : ∃ X, Lib.upperB (hxB ((n) % 16)) = X := ⟨_, rfl⟩
  rw [hX0] at x0
  have hn : nibs n = [(n) % 16] := by
    rw [nibs, if_pos (by omega : n < 16)]
    rw [show (n) % 16 = n by omega]
  have HS : Hid (showB 4 n = (⟨#[49, 54, 35]⟩ : ByteArray) ++ (⟨#[X0]⟩ ++ ⟨#[]⟩ : ByteArray)) := by
    show _ = _
    apply ByteArray.ext
    apply Array.toList_inj.1
    rw [word_list n hf, hn]
    simp only [List.map_cons, List.map_nil, hX0]
    simp [ByteArray.data_append]
  clear hn hX0
  go_enter Tryd.func8, Tryd.ntmps8
  go_wp2_with (go_at_call 23; go_must (refine (rfits_any _ _ _).mono ?_; rintro e w' ⟨rfl, rfl⟩))
  refine wp_loop_rounds 1 ?_
  rw [rounds_succ]
  go_wp2
  go_ret
  exact ⟨by rw [HS.out]; rfl, rfl⟩

set_option maxHeartbeats 4000000 in
set_option maxRecDepth 100000 in
theorem word2 (n : Int) (w : World) (hf : fitsK 4 n = true) (h0 : 16 ≤ n) (h1 : n < 256) :
    Calls Tryd.prog 8 #[.int .i64 4, .int .i64 n] w fun e w' => e = .returned (.string (showB 4 n)) ∧ w' = w := by
  have t0 : (n).tmod 16 = (n) % 16 := Int.tmod_eq_emod_of_nonneg (by omega)
  have d0 : (n).tdiv 16 = (n) / 16 := Int.tdiv_eq_ediv_of_nonneg (by omega)
  have x0 := ext_hx' ((n) % 16) (by omega) (by omega)
  obtain ⟨X0, hX0⟩ : ∃ X, Lib.upperB (hxB ((n) % 16)) = X := ⟨_, rfl⟩
  rw [hX0] at x0
  have t1 : (n / 16).tmod 16 = (n / 16) % 16 := Int.tmod_eq_emod_of_nonneg (by omega)
  have d1 : (n / 16).tdiv 16 = (n / 16) / 16 := Int.tdiv_eq_ediv_of_nonneg (by omega)
  have x1 := ext_hx' ((n / 16) % 16) (by omega) (by omega)
  obtain ⟨X1, hX1⟩ : ∃ X, Lib.upperB (hxB ((n / 16) % 16)) = X := ⟨_, rfl⟩
  rw [hX1] at x1
  have hn : nibs n = [(n / 16) % 16, (n) % 16] := by
    rw [nibs, if_neg (by omega : ¬ n < 16), if_pos (by omega : n < 256)]
    rw [show (n / 16) % 16 = n / 16 by omega]
  have HS : Hid (showB 4 n = (⟨#[49, 54, 35]⟩ : ByteArray) ++ (⟨#[X1]⟩ ++ (⟨#[X0]⟩ ++ ⟨#[]⟩ : ByteArray) : ByteArray)) := by
    show _ = _
    apply ByteArray.ext
    apply Array.toList_inj.1
    rw [word_list n hf, hn]
    simp only [List.map_cons, List.map_nil, hX0, hX1]
    simp [ByteArray.data_append]
  clear hn hX0 hX1
  go_enter Tryd.func8, Tryd.ntmps8
  go_wp2_with (go_at_call 23; go_must (refine (rfits_any _ _ _).mono ?_; rintro e w' ⟨rfl, rfl⟩))
  refine wp_loop_rounds 2 ?_
  rw [rounds_succ]
  go_wp2
  rw [rounds_succ]
  go_wp2
  go_ret
  exact ⟨by rw [HS.out]; rfl, rfl⟩

set_option maxHeartbeats 4000000 in
set_option maxRecDepth 100000 in
theorem word3 (n : Int) (w : World) (hf : fitsK 4 n = true) (h0 : 256 ≤ n) (h1 : n < 4096) :
    Calls Tryd.prog 8 #[.int .i64 4, .int .i64 n] w fun e w' => e = .returned (.string (showB 4 n)) ∧ w' = w := by
  have t0 : (n).tmod 16 = (n) % 16 := Int.tmod_eq_emod_of_nonneg (by omega)
  have d0 : (n).tdiv 16 = (n) / 16 := Int.tdiv_eq_ediv_of_nonneg (by omega)
  have x0 := ext_hx' ((n) % 16) (by omega) (by omega)
  obtain ⟨X0, hX0⟩ : ∃ X, Lib.upperB (hxB ((n) % 16)) = X := ⟨_, rfl⟩
  rw [hX0] at x0
  have t1 : (n / 16).tmod 16 = (n / 16) % 16 := Int.tmod_eq_emod_of_nonneg (by omega)
  have d1 : (n / 16).tdiv 16 = (n / 16) / 16 := Int.tdiv_eq_ediv_of_nonneg (by omega)
  have x1 := ext_hx' ((n / 16) % 16) (by omega) (by omega)
  obtain ⟨X1, hX1⟩ : ∃ X, Lib.upperB (hxB ((n / 16) % 16)) = X := ⟨_, rfl⟩
  rw [hX1] at x1
  have t2 : (n / 16 / 16).tmod 16 = (n / 16 / 16) % 16 := Int.tmod_eq_emod_of_nonneg (by omega)
  have d2 : (n / 16 / 16).tdiv 16 = (n / 16 / 16) / 16 := Int.tdiv_eq_ediv_of_nonneg (by omega)
  have x2 := ext_hx' ((n / 16 / 16) % 16) (by omega) (by omega)
  obtain ⟨X2, hX2⟩ : ∃ X, Lib.upperB (hxB ((n / 16 / 16) % 16)) = X := ⟨_, rfl⟩
  rw [hX2] at x2
  have hn : nibs n = [(n / 16 / 16) % 16, (n / 16) % 16, (n) % 16] := by
    rw [nibs, if_neg (by omega : ¬ n < 16), if_neg (by omega : ¬ n < 256), if_pos (by omega : n < 4096)]
    rw [show (n / 16 / 16) % 16 = n / 16 / 16 by omega]
  have HS : Hid (showB 4 n = (⟨#[49, 54, 35]⟩ : ByteArray) ++ (⟨#[X2]⟩ ++ (⟨#[X1]⟩ ++ (⟨#[X0]⟩ ++ ⟨#[]⟩ : ByteArray) : ByteArray) : ByteArray)) := by
    show _ = _
    apply ByteArray.ext
    apply Array.toList_inj.1
    rw [word_list n hf, hn]
    simp only [List.map_cons, List.map_nil, hX0, hX1, hX2]
    simp [ByteArray.data_append]
  clear hn hX0 hX1 hX2
  go_enter Tryd.func8, Tryd.ntmps8
  go_wp2_with (go_at_call 23; go_must (refine (rfits_any _ _ _).mono ?_; rintro e w' ⟨rfl, rfl⟩))
  refine wp_loop_rounds 3 ?_
  rw [rounds_succ]
  go_wp2
  rw [rounds_succ]
  go_wp2
  rw [rounds_succ]
  go_wp2
  go_ret
  exact ⟨by rw [HS.out]; rfl, rfl⟩

set_option maxHeartbeats 4000000 in
set_option maxRecDepth 100000 in
theorem word4 (n : Int) (w : World) (hf : fitsK 4 n = true) (h0 : 4096 ≤ n) (h1 : n < 65536) :
    Calls Tryd.prog 8 #[.int .i64 4, .int .i64 n] w fun e w' => e = .returned (.string (showB 4 n)) ∧ w' = w := by
  have t0 : (n).tmod 16 = (n) % 16 := Int.tmod_eq_emod_of_nonneg (by omega)
  have d0 : (n).tdiv 16 = (n) / 16 := Int.tdiv_eq_ediv_of_nonneg (by omega)
  have x0 := ext_hx' ((n) % 16) (by omega) (by omega)
  obtain ⟨X0, hX0⟩ : ∃ X, Lib.upperB (hxB ((n) % 16)) = X := ⟨_, rfl⟩
  rw [hX0] at x0
  have t1 : (n / 16).tmod 16 = (n / 16) % 16 := Int.tmod_eq_emod_of_nonneg (by omega)
  have d1 : (n / 16).tdiv 16 = (n / 16) / 16 := Int.tdiv_eq_ediv_of_nonneg (by omega)
  have x1 := ext_hx' ((n / 16) % 16) (by omega) (by omega)
  obtain ⟨X1, hX1⟩ : ∃ X, Lib.upperB (hxB ((n / 16) % 16)) = X := ⟨_, rfl⟩
  rw [hX1] at x1
  have t2 : (n / 16 / 16).tmod 16 = (n / 16 / 16) % 16 := Int.tmod_eq_emod_of_nonneg (by omega)
  have d2 : (n / 16 / 16).tdiv 16 = (n / 16 / 16) / 16 := Int.tdiv_eq_ediv_of_nonneg (by omega)
  have x2 := ext_hx' ((n / 16 / 16) % 16) (by omega) (by omega)
  obtain ⟨X2, hX2⟩ : ∃ X, Lib.upperB (hxB ((n / 16 / 16) % 16)) = X := ⟨_, rfl⟩
  rw [hX2] at x2
  have t3 : (n / 16 / 16 / 16).tmod 16 = (n / 16 / 16 / 16) % 16 := Int.tmod_eq_emod_of_nonneg (by omega)
  have d3 : (n / 16 / 16 / 16).tdiv 16 = (n / 16 / 16 / 16) / 16 := Int.tdiv_eq_ediv_of_nonneg (by omega)
  have x3 := ext_hx' ((n / 16 / 16 / 16) % 16) (by omega) (by omega)
  obtain ⟨X3, hX3⟩ : ∃ X, Lib.upperB (hxB ((n / 16 / 16 / 16) % 16)) = X := ⟨_, rfl⟩
  rw [hX3] at x3
  have hn : nibs n = [(n / 16 / 16 / 16) % 16, (n / 16 / 16) % 16, (n / 16) % 16, (n) % 16] := by
    rw [nibs, if_neg (by omega : ¬ n < 16), if_neg (by omega : ¬ n < 256), if_neg (by omega : ¬ n < 4096)]
    rw [show (n / 16 / 16 / 16) % 16 = n / 16 / 16 / 16 by omega]
  have HS : Hid (showB 4 n = (⟨#[49, 54, 35]⟩ : ByteArray) ++ (⟨#[X3]⟩ ++ (⟨#[X2]⟩ ++ (⟨#[X1]⟩ ++ (⟨#[X0]⟩ ++ ⟨#[]⟩ : ByteArray) : ByteArray) : ByteArray) : ByteArray)) := by
    show _ = _
    apply ByteArray.ext
    apply Array.toList_inj.1
    rw [word_list n hf, hn]
    simp only [List.map_cons, List.map_nil, hX0, hX1, hX2, hX3]
    simp [ByteArray.data_append]
  clear hn hX0 hX1 hX2 hX3
  go_enter Tryd.func8, Tryd.ntmps8
  go_wp2_with (go_at_call 23; go_must (refine (rfits_any _ _ _).mono ?_; rintro e w' ⟨rfl, rfl⟩))
  refine wp_loop_rounds 4 ?_
  rw [rounds_succ]
  go_wp2
  rw [rounds_succ]
  go_wp2
  rw [rounds_succ]
  go_wp2
  rw [rounds_succ]
  go_wp2
  go_ret
  exact ⟨by rw [HS.out]; rfl, rfl⟩

theorem word_any (n : Int) (w : World) (hf : fitsK 4 n = true) :
    Calls Tryd.prog 8 #[.int .i64 4, .int .i64 n] w fun e w' => e = .returned (.string (showB 4 n)) ∧ w' = w := by
  have hb := kfits4 hf
  by_cases a : n < 16
  · exact word1 n w hf hb.1 a
  · by_cases b : n < 256
    · exact word2 n w hf (by omega) b
    · by_cases c : n < 4096
      · exact word3 n w hf (by omega) c
      · exact word4 n w hf (by omega) (by omega)
end Go.Proofs.YtelgiffhgkbpeaaDoor
