/- The walk of CellBack. -/
import Derived.Test.YtelgiffhgkbpeaaDoorTN
namespace Go.Proofs.YtelgiffhgkbpeaaDoor
open Go.RowKit

theorem fits_zero (k : Int) (hk : isK k = true) : fitsK k 0 = true := by
  have hk' : k = 1 ∨ k = 2 ∨ k = 3 ∨ k = 4 ∨ k = 5 := by
    simp only [isK, Bool.and_eq_true, decide_eq_true_eq] at hk; omega
  rcases hk' with rfl | rfl | rfl | rfl | rfl <;> decide
theorem showB_size (k n : Int) (hf : fitsK k n = true) : (showB k n).size ≤ 40 := by
  have hb := back_all k n hf
  have hk : isK k = true := by
    simp only [fitsK, Bool.and_eq_true] at hf; exact hf.1
  apply Classical.byContradiction
  intro h
  rw [readE, if_pos hk, if_pos (by omega)] at hb
  have h2 : (2 : Int) = 0 := congrArg Prod.snd hb
  exact absurd h2 (by decide)

set_option maxHeartbeats 2000000 in
theorem back_no (k n : Int) (w : World) (hT : Tabs w) (h0 : -9223372036854775808 ≤ n) (h1 : n ≤ 9223372036854775807) (hf : fitsK k n = false) :
    Calls Tryd.prog 4 #[.int .i64 k, .int .i64 n] w fun e w' => e = .returned (.bool true) ∧ Below w.heap.size w w' := by
  have cS := show_any k n w hT h0 h1
  have eS : showB k n = ⟨#[]⟩ := by rw [showB, if_neg (by rw [hf]; decide)]
  rw [eS] at cS
  have cP := fun W => put_no k n W hf
  clear eS
  by_cases k1 : k < 1
  · go_enter Tryd.func4, Tryd.ntmps4
    go_wp2_with (first | (go_at_call 9; go_must (refine (fits_any _ _ _).mono ?_; rintro e w' ⟨rfl, rfl⟩)) | (go_at_call 7; go_must (refine cS.mono ?_; rintro e w1 ⟨rfl, hb⟩)) | (go_at_call 10; go_must (refine (cP _).mono ?_; rintro e w' ⟨rfl, rfl⟩)))
    go_ret
    exact ⟨rfl, hb⟩
  · by_cases k5 : 5 < k
    · go_enter Tryd.func4, Tryd.ntmps4
      go_wp2_with (first | (go_at_call 9; go_must (refine (fits_any _ _ _).mono ?_; rintro e w' ⟨rfl, rfl⟩)) | (go_at_call 7; go_must (refine cS.mono ?_; rintro e w1 ⟨rfl, hb⟩)) | (go_at_call 10; go_must (refine (cP _).mono ?_; rintro e w' ⟨rfl, rfl⟩)))
      go_ret
      exact ⟨rfl, hb⟩
    · have hz := fits_zero k (by simp [isK]; omega)
      go_enter Tryd.func4, Tryd.ntmps4
      go_wp2_with (first | (go_at_call 9; go_must (refine (fits_any _ _ _).mono ?_; rintro e w' ⟨rfl, rfl⟩)) | (go_at_call 7; go_must (refine cS.mono ?_; rintro e w1 ⟨rfl, hb⟩)) | (go_at_call 10; go_must (refine (cP _).mono ?_; rintro e w' ⟨rfl, rfl⟩)))
      go_ret
      exact ⟨rfl, hb⟩

set_option maxHeartbeats 2000000 in
theorem back_yes (k n : Int) (w : World) (hT : Tabs w) (h0 : -9223372036854775808 ≤ n) (h1 : n ≤ 9223372036854775807) (hf : fitsK k n = true) :
    Calls Tryd.prog 4 #[.int .i64 k, .int .i64 n] w fun e w' => e = .returned (.bool true) ∧ Below w.heap.size w w' := by
  have cS := show_any k n w hT h0 h1
  have hsz := showB_size k n hf
  have cR := fun W hT => read_any k (showB k n) W hT (by omega)
  rw [back_all k n hf] at cR
  obtain ⟨T, hTd⟩ : ∃ T, showB k n = T := ⟨_, rfl⟩
  rw [hTd] at cS cR
  obtain ⟨L, hL⟩ : ∃ L, putL k n = L := ⟨_, rfl⟩
  have cP := fun W => put_yes k n L W hL hf
  have hg := put_get k n hf
  rw [hL] at hg
  have hby : byteL L := hL ▸ putL_byte k n
  have cG : ∀ W v, rd W v L → Calls Tryd.prog 11 #[.int .i64 k, v] W fun e w' => e = .returned (.tuple #[.int .i64 n, .int .i64 0]) ∧ w' = W := fun W v hr => by
    have := get_any k v L W hr hby
    rw [hg.1, hg.2] at this
    exact this
  have hw : wrapK k n = n := by
    simp only [fitsK, Bool.and_eq_true, beq_iff_eq] at hf; exact hf.2
  have HW : Hid (wrapK k n = n) := hw
  have cW : ∀ W, Calls Tryd.prog 12 #[.int .i64 k, .int .i64 n] W fun e w' => e = .returned (.int .i64 n) ∧ w' = W := fun W => by
    have := wrap_any k n W
    rw [hw] at this
    exact this
  clear hw hL hTd hg hsz
  go_enter Tryd.func4, Tryd.ntmps4
  go_wp2_with (first | (go_at_call 9; go_must (refine (fits_any _ _ _).mono ?_; rintro e w' ⟨rfl, rfl⟩)) | (go_at_call 7; go_must (refine cS.mono ?_; rintro e w1 ⟨rfl, hb1⟩)) | (go_at_call 5; go_must (refine (cR _ (hT.below hb1).utf8).mono ?_; rintro e w2 ⟨rfl, hb2⟩)) | (go_at_call 10; go_must (refine (cP _).mono ?_; rintro e w3 ⟨rfl, hown, hb3⟩)) | (go_at_call 11; go_must (refine (cG _ _ (own_rd hown)).mono ?_; rintro e w' ⟨rfl, rfl⟩)) | (go_at_call 12; go_must (refine (cW _).mono ?_; rintro e w' ⟨rfl, rfl⟩)))
  go_ret
  have b12 := hb1.trans (hb2.mono hb1.size)
  exact ⟨rfl, b12.trans (hb3.mono b12.size)⟩
theorem cellBack_walk (k n : Int) (w : World) (hT : Tabs w) (h0 : -9223372036854775808 ≤ n) (h1 : n ≤ 9223372036854775807) :
    Calls Tryd.prog 4 #[.int .i64 k, .int .i64 n] w fun e w' => e = .returned (.bool true) ∧ Below w.heap.size w w' := by
  cases hf : fitsK k n with
  | false => exact back_no k n w hT h0 h1 hf
  | true => exact back_yes k n w hT h0 h1 hf
end Go.Proofs.YtelgiffhgkbpeaaDoor
