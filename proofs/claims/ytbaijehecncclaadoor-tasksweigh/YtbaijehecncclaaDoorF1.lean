/- The document's answer: takes, leaves, wordsIn, numberOk, kindOk, inLoop, StdSize. -/
import Derived.Test.YtbaijehecncclaaDoorA1
import Derived.Test.YtbaijehecncclaaDoorK2
import Derived.Test.YtbaijehecncclaaDoorR1
namespace Go.Proofs.YtbaijehecncclaaDoor
open Go.RowKit
attribute [local go_sem ↓] Go.wp_at_zero Go.wp_at_succ
set_option linter.unusedVariables false
set_option linter.unusedSimpArgs false

set_option maxHeartbeats 4000000 in
theorem takes_any (x : Ins) (w : World) : Calls Tryd.prog 21 #[insV x] w fun e w' => e = .returned (.int .i64 (tkS x)) ∧ w.grownBy w' none := by
  obtain ⟨d, a, b, c⟩ := x
  unfold insV
  dsimp only
  rcases dos d with rfl | rfl | rfl | rfl | rfl | rfl | rfl | rfl | rfl | rfl | rfl | rfl | rfl | rfl | rfl | rfl | rfl | rfl | hd
  · go_enter Tryd.func21, Tryd.ntmps21
    go_wp2
    go_ret
    exact ⟨rfl, gr1 _ _⟩
  · go_enter Tryd.func21, Tryd.ntmps21
    go_wp2
    go_ret
    exact ⟨rfl, gr1 _ _⟩
  · go_enter Tryd.func21, Tryd.ntmps21
    go_wp2
    go_ret
    exact ⟨rfl, gr1 _ _⟩
  · go_enter Tryd.func21, Tryd.ntmps21
    go_wp2
    go_ret
    exact ⟨rfl, gr1 _ _⟩
  · go_enter Tryd.func21, Tryd.ntmps21
    go_wp2
    go_ret
    exact ⟨rfl, gr1 _ _⟩
  · obtain ⟨s, hs⟩ : ∃ s, secK a b = s := ⟨_, rfl⟩
    by_cases h : s = 0
    · subst h
      have HU : Hid (tkS ⟨6, a, b, c⟩ = 1) := (by simp [tkS, opersS, hs] : tkS ⟨6, a, b, c⟩ = 1)
      rw [HU.out]
      go_enter Tryd.func21, Tryd.ntmps21
      go_wp2_with (first | (go_at_call 27; refine (rsecond_any _ _ _).mono ?_; rintro e w' ⟨rfl, rfl⟩; rw [hs]))
      go_ret
      exact ⟨rfl, gr1 _ _⟩
    · have HU : Hid (tkS ⟨6, a, b, c⟩ = 2) := (by simp [tkS, opersS, hs, h] : tkS ⟨6, a, b, c⟩ = 2)
      rw [HU.out]
      have e0 : (s == 0) = false := by simpa using h
      go_enter Tryd.func21, Tryd.ntmps21
      go_wp2_with (first | (go_at_call 27; refine (rsecond_any _ _ _).mono ?_; rintro e w' ⟨rfl, rfl⟩; rw [hs]))
      go_ret
      exact ⟨rfl, gr1 _ _⟩
  · go_enter Tryd.func21, Tryd.ntmps21
    go_wp2
    go_ret
    exact ⟨rfl, gr1 _ _⟩
  · go_enter Tryd.func21, Tryd.ntmps21
    go_wp2
    go_ret
    exact ⟨rfl, gr1 _ _⟩
  · go_enter Tryd.func21, Tryd.ntmps21
    go_wp2
    go_ret
    exact ⟨rfl, gr1 _ _⟩
  · go_enter Tryd.func21, Tryd.ntmps21
    go_wp2
    go_ret
    exact ⟨rfl, gr1 _ _⟩
  · go_enter Tryd.func21, Tryd.ntmps21
    go_wp2
    go_ret
    exact ⟨rfl, gr1 _ _⟩
  · go_enter Tryd.func21, Tryd.ntmps21
    go_wp2
    go_ret
    exact ⟨rfl, gr1 _ _⟩
  · go_enter Tryd.func21, Tryd.ntmps21
    go_wp2
    go_ret
    exact ⟨rfl, gr1 _ _⟩
  · go_enter Tryd.func21, Tryd.ntmps21
    go_wp2
    go_ret
    exact ⟨rfl, gr1 _ _⟩
  · go_enter Tryd.func21, Tryd.ntmps21
    go_wp2
    go_ret
    exact ⟨rfl, gr1 _ _⟩
  · go_enter Tryd.func21, Tryd.ntmps21
    go_wp2
    go_ret
    exact ⟨rfl, gr1 _ _⟩
  · go_enter Tryd.func21, Tryd.ntmps21
    go_wp2
    go_ret
    exact ⟨rfl, gr1 _ _⟩
  · go_enter Tryd.func21, Tryd.ntmps21
    go_wp2
    go_ret
    exact ⟨rfl, gr1 _ _⟩
  · have e1 : (d == 1) = false := by simp; omega
    have e2 : (d == 2) = false := by simp; omega
    have e3 : (d == 3) = false := by simp; omega
    have e4 : (d == 4) = false := by simp; omega
    have e5 : (d == 5) = false := by simp; omega
    have e6 : (d == 6) = false := by simp; omega
    have e7 : (d == 7) = false := by simp; omega
    have e8 : (d == 8) = false := by simp; omega
    have e9 : (d == 9) = false := by simp; omega
    have e10 : (d == 10) = false := by simp; omega
    have e11 : (d == 11) = false := by simp; omega
    have e12 : (d == 12) = false := by simp; omega
    have e13 : (d == 13) = false := by simp; omega
    have e14 : (d == 14) = false := by simp; omega
    have e15 : (d == 15) = false := by simp; omega
    have e16 : (d == 16) = false := by simp; omega
    have e17 : (d == 17) = false := by simp; omega
    have e18 : (d == 18) = false := by simp; omega
    have HU : Hid (tkS ⟨d, a, b, c⟩ = 0) := (by unfold tkS; dsimp only; rw [if_neg (by omega), if_neg (by omega), if_neg (by omega), if_neg (by omega)] : tkS ⟨d, a, b, c⟩ = 0)
    clear hd
    rw [HU.out]
    go_enter Tryd.func21, Tryd.ntmps21
    go_wp2
    go_ret
    exact ⟨rfl, gr1 _ _⟩

set_option maxHeartbeats 4000000 in
theorem leaves_any (x : Ins) (w : World) : Calls Tryd.prog 22 #[insV x] w fun e w' => e = .returned (.int .i64 (gvS x)) ∧ w.grownBy w' none := by
  obtain ⟨d, a, b, c⟩ := x
  unfold insV
  dsimp only
  rcases dos d with rfl | rfl | rfl | rfl | rfl | rfl | rfl | rfl | rfl | rfl | rfl | rfl | rfl | rfl | rfl | rfl | rfl | rfl | hd
  · go_enter Tryd.func22, Tryd.ntmps22
    go_wp2
    go_ret
    exact ⟨rfl, gr1 _ _⟩
  · go_enter Tryd.func22, Tryd.ntmps22
    go_wp2
    go_ret
    exact ⟨rfl, gr1 _ _⟩
  · go_enter Tryd.func22, Tryd.ntmps22
    go_wp2
    go_ret
    exact ⟨rfl, gr1 _ _⟩
  · go_enter Tryd.func22, Tryd.ntmps22
    go_wp2
    go_ret
    exact ⟨rfl, gr1 _ _⟩
  · go_enter Tryd.func22, Tryd.ntmps22
    go_wp2
    go_ret
    exact ⟨rfl, gr1 _ _⟩
  · go_enter Tryd.func22, Tryd.ntmps22
    go_wp2
    go_ret
    exact ⟨rfl, gr1 _ _⟩
  · go_enter Tryd.func22, Tryd.ntmps22
    go_wp2
    go_ret
    exact ⟨rfl, gr1 _ _⟩
  · go_enter Tryd.func22, Tryd.ntmps22
    go_wp2
    go_ret
    exact ⟨rfl, gr1 _ _⟩
  · go_enter Tryd.func22, Tryd.ntmps22
    go_wp2
    go_ret
    exact ⟨rfl, gr1 _ _⟩
  · go_enter Tryd.func22, Tryd.ntmps22
    go_wp2
    go_ret
    exact ⟨rfl, gr1 _ _⟩
  · go_enter Tryd.func22, Tryd.ntmps22
    go_wp2
    go_ret
    exact ⟨rfl, gr1 _ _⟩
  · go_enter Tryd.func22, Tryd.ntmps22
    go_wp2
    go_ret
    exact ⟨rfl, gr1 _ _⟩
  · go_enter Tryd.func22, Tryd.ntmps22
    go_wp2
    go_ret
    exact ⟨rfl, gr1 _ _⟩
  · go_enter Tryd.func22, Tryd.ntmps22
    go_wp2
    go_ret
    exact ⟨rfl, gr1 _ _⟩
  · go_enter Tryd.func22, Tryd.ntmps22
    go_wp2
    go_ret
    exact ⟨rfl, gr1 _ _⟩
  · go_enter Tryd.func22, Tryd.ntmps22
    go_wp2
    go_ret
    exact ⟨rfl, gr1 _ _⟩
  · go_enter Tryd.func22, Tryd.ntmps22
    go_wp2
    go_ret
    exact ⟨rfl, gr1 _ _⟩
  · go_enter Tryd.func22, Tryd.ntmps22
    go_wp2
    go_ret
    exact ⟨rfl, gr1 _ _⟩
  · have e1 : (d == 1) = false := by simp; omega
    have e2 : (d == 2) = false := by simp; omega
    have e3 : (d == 3) = false := by simp; omega
    have e4 : (d == 4) = false := by simp; omega
    have e5 : (d == 5) = false := by simp; omega
    have e6 : (d == 6) = false := by simp; omega
    have e7 : (d == 7) = false := by simp; omega
    have e8 : (d == 8) = false := by simp; omega
    have e9 : (d == 9) = false := by simp; omega
    have e10 : (d == 10) = false := by simp; omega
    have e11 : (d == 11) = false := by simp; omega
    have e12 : (d == 12) = false := by simp; omega
    have e13 : (d == 13) = false := by simp; omega
    have e14 : (d == 14) = false := by simp; omega
    have e15 : (d == 15) = false := by simp; omega
    have e16 : (d == 16) = false := by simp; omega
    have e17 : (d == 17) = false := by simp; omega
    have e18 : (d == 18) = false := by simp; omega
    have HU : Hid (gvS ⟨d, a, b, c⟩ = 0) := (by unfold gvS; dsimp only; rw [if_neg (by omega), if_neg (by omega)] : gvS ⟨d, a, b, c⟩ = 0)
    clear hd
    rw [HU.out]
    go_enter Tryd.func22, Tryd.ntmps22
    go_wp2
    go_ret
    exact ⟨rfl, gr1 _ _⟩

def wordsS (at' n size : Int) : Bool := decide (1 ≤ n) && decide (n ≤ size) && decide (0 ≤ at') && decide (at' < size) && decide (at' + n ≤ size)
theorem wordsIn_any (at' n : Int) (size : Nat) (w : World) (hs : size ≤ 1000000000000) : Calls Tryd.prog 16 #[.int .i64 at', .int .i64 n, .int .i64 size] w fun e w' => e = .returned (.bool (wordsS at' n size)) ∧ w = w' := by
  by_cases h1 : 1 ≤ n
  · by_cases h2 : n ≤ (size : Int)
    · by_cases h3 : 0 ≤ at'
      · by_cases h4 : at' < (size : Int)
        · have e1 : wrap64 (at' + n) = at' + n := by unfold wrap64; omega
          go_enter Tryd.func16, Tryd.ntmps16
          go_wp2
          go_ret
          exact ⟨ret_bool (by simp [wordsS, h1, h2, h3, h4]), rfl⟩
        · go_enter Tryd.func16, Tryd.ntmps16
          go_wp2
          go_ret
          exact ⟨ret_bool (by simp only [wordsS, decide_eq_false (show ¬ at' < (size : Int) by omega)]; simp), rfl⟩
      · go_enter Tryd.func16, Tryd.ntmps16
        go_wp2
        go_ret
        exact ⟨ret_bool (by simp only [wordsS, decide_eq_false (show ¬ 0 ≤ at' by omega)]; simp), rfl⟩
    · go_enter Tryd.func16, Tryd.ntmps16
      go_wp2
      go_ret
      exact ⟨ret_bool (by simp only [wordsS, decide_eq_false (show ¬ n ≤ (size : Int) by omega)]; simp), rfl⟩
  · go_enter Tryd.func16, Tryd.ntmps16
    go_wp2
    go_ret
    exact ⟨ret_bool (by simp only [wordsS, decide_eq_false (show ¬ 1 ≤ n by omega)]; simp), rfl⟩

theorem numberOk_any (n : Int) (w : World) : Calls Tryd.prog 17 #[.int .i64 n] w fun e w' => e = .returned (.bool (isW n (-4294967295) 4294967295)) ∧ w = w' := by
  go_enter Tryd.func17, Tryd.ntmps17
  go_wp2
  all_goals go_ret
  all_goals refine ⟨ret_bool ?_, rfl⟩
  all_goals (simp [isW]; try omega)

theorem kindOk_any (n : Int) (w : World) : Calls Tryd.prog 19 #[.int .i64 n] w fun e w' => e = .returned (.bool (isK n)) ∧ w = w' := by
  go_enter Tryd.func19, Tryd.ntmps19
  go_wp2
  all_goals go_ret
  all_goals refine ⟨ret_bool ?_, rfl⟩
  all_goals (simp [isK]; try omega)

theorem inLoop_any (f r c m : Int) (i : Int) (w : World) : Calls Tryd.prog 12 #[.agg #[.int .i64 f, .int .i64 r, .int .i64 c, .int .i64 m], .int .i64 i] w fun e w' => e = .returned (.bool (decide (f ≤ i) && decide (i ≤ r))) ∧ w.grownBy w' none := by
  go_enter Tryd.func12, Tryd.ntmps12
  go_wp2
  all_goals go_ret
  all_goals refine ⟨ret_bool ?_, gr1 _ _⟩
  all_goals (simp; try omega)

theorem names_any (w : World) : Calls Tryd.prog 25 #[] w fun e w' => e = .returned (.slice (some ⟨w.heap.size, 0, none⟩) 12 12) ∧ w' = w.alloc (.cells (stdN.map Value.string).toArray 9) := by
  go_enter Tryd.func25, Tryd.ntmps25
  go_wp2
  go_ret
  exact ⟨rfl, rfl⟩

set_option maxHeartbeats 2000000 in
theorem stdSize_gen (k : Nat) (nm : ByteArray) (I O S : List (ByteArray × Int)) (hC : RefShapeC nm I O S) (hI : I.length ≤ 5) (hO : O.length ≤ 5) (hL : S.length ≤ 5) (w : World) (hk : k < 12) (h0 : stdN.getD k ByteArray.empty = nm) :
    Calls Tryd.prog 20 #[.int .i64 ((k : Int) + 1)] w fun e w' => e = .returned (.int .i64 ((I.length : Int) + O.length + S.length)) ∧ w.grownBy w' none := by
  have h2 : ((w.alloc (.cells (stdN.map Value.string).toArray 9))).cell? ⟨w.heap.size, k, none⟩ = some (.string nm) := by
    rw [at_cell (heap_alloc_new w _), ← h0]
    have : k < stdN.length := hk
    simp [List.getD, this]
  obtain ⟨i, hi⟩ : ∃ i, I.length = i := ⟨_, rfl⟩
  obtain ⟨o, ho⟩ : ∃ i, O.length = i := ⟨_, rfl⟩
  obtain ⟨s, hs⟩ : ∃ i, S.length = i := ⟨_, rfl⟩
  clear h0
  have k0 : (0 : Int) ≤ (k : Int) := by omega
  have k1 : (k : Int) < 12 := by omega
  have k2 : wrap64 ((k : Int) + 1 - 1) = (k : Int) := by unfold wrap64; omega
  have k3 : ¬ ((k : Int) + 1 < 1) := by omega
  have k4 : ¬ ((12 : Int) < (k : Int) + 1) := by omega
  have e1 : wrap64 ((i : Int) + (o : Int)) = (i : Int) + o := by unfold wrap64; omega
  have e2 : wrap64 ((i : Int) + (o : Int) + (s : Int)) = (i : Int) + o + s := by unfold wrap64; omega
  rw [hi, ho, hs]
  go_enter Tryd.func20, Tryd.ntmps20
  go_wp2_with fail
  refine (names_any _).mono ?_
  rintro e w0 ⟨rfl, rfl⟩
  go_wp2_with fail
  refine (hC _).mono ?_
  rintro e w1 ⟨v, rfl, ⟨b1, b2, b3, rfl, hb1, hb2, hb3, n12, n13, n23, hB1, hB2, hB3⟩, hg1⟩
  rw [hi, ho, hs]
  have hgw : w.grownBy w1 none := (gr1 _ _).trans hg1
  clear h2 hB1 hB2 hB3
  go_wp2_with fail
  go_ret
  exact ⟨rfl, gr_alloc hgw _⟩

theorem stdSize_any (n : Int) (w : World) (h1 : 1 ≤ n) (h2 : n ≤ 12) : Calls Tryd.prog 20 #[.int .i64 n] w fun e w' => e = .returned (.int .i64 (stdW n)) ∧ w.grownBy w' none := by
  rcases (show n = 1 ∨ n = 2 ∨ n = 3 ∨ n = 4 ∨ n = 5 ∨ n = 6 ∨ n = 7 ∨ n = 8 ∨ n = 9 ∨ n = 10 ∨ n = 11 ∨ n = 12 by omega) with rfl | rfl | rfl | rfl | rfl | rfl | rfl | rfl | rfl | rfl | rfl | rfl
  · exact stdSize_gen 0 tonName _ _ _ refShape_ton (by decide) (by decide) (by decide) w (by omega) rfl
  · exact stdSize_gen 1 tofName _ _ _ refShape_tof (by decide) (by decide) (by decide) w (by omega) rfl
  · exact stdSize_gen 2 tpName _ _ _ refShape_tp (by decide) (by decide) (by decide) w (by omega) rfl
  · exact stdSize_gen 3 ctuName _ _ _ refShape_ctu (by decide) (by decide) (by decide) w (by omega) rfl
  · exact stdSize_gen 4 ctdName _ _ _ refShape_ctd (by decide) (by decide) (by decide) w (by omega) rfl
  · exact stdSize_gen 5 ctudName _ _ _ refShape_ctud (by decide) (by decide) (by decide) w (by omega) rfl
  · exact stdSize_gen 6 rtrigName _ _ _ refShape_rtrig (by decide) (by decide) (by decide) w (by omega) rfl
  · exact stdSize_gen 7 ftrigName _ _ _ refShape_ftrig (by decide) (by decide) (by decide) w (by omega) rfl
  · exact stdSize_gen 8 srName _ _ _ refShape_sr (by decide) (by decide) (by decide) w (by omega) rfl
  · exact stdSize_gen 9 rsName _ _ _ refShape_rs (by decide) (by decide) (by decide) w (by omega) rfl
  · exact stdSize_gen 10 rampName _ _ _ refShape_ramp (by decide) (by decide) (by decide) w (by omega) rfl
  · exact stdSize_gen 11 hystName _ _ _ refShape_hyst (by decide) (by decide) (by decide) w (by omega) rfl
set_option maxHeartbeats 1000000 in
theorem stdSize_none (n : Int) (w : World) (h : n < 1 ∨ 12 < n) : Calls Tryd.prog 20 #[.int .i64 n] w fun e w' => e = .returned (.int .i64 0) ∧ w.grownBy w' none := by
  by_cases h1 : n < 1
  · go_enter Tryd.func20, Tryd.ntmps20
    go_wp2_with fail
    refine (names_any _).mono ?_
    rintro e w0 ⟨rfl, rfl⟩
    go_wp2_with fail
    go_ret
    exact ⟨rfl, gr1 _ _⟩
  · have h2 : (12 : Int) < n := by omega
    go_enter Tryd.func20, Tryd.ntmps20
    go_wp2_with fail
    refine (names_any _).mono ?_
    rintro e w0 ⟨rfl, rfl⟩
    go_wp2_with fail
    go_ret
    exact ⟨rfl, gr1 _ _⟩
end Go.Proofs.YtbaijehecncclaaDoor
