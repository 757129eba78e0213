/- Contracts of the document's answer: Result, Second. -/
import Derived.Test.YtnjlomdkenondaaRefA
namespace Go.Proofs.Ytnjlomdkenondaa
open Go.RowKit

theorem ops (op : Int) : op = 1 ∨ op = 2 ∨ op = 3 ∨ op = 4 ∨ op = 5 ∨ op = 6 ∨ op = 7 ∨ op = 8 ∨ op = 9 ∨ op = 10 ∨ op = 11 ∨ op = 12 ∨ op = 13 ∨ op = 14 ∨ op = 15 ∨ op = 16 ∨ op = 17 ∨ op = 18 ∨ op = 19 ∨ op = 20 ∨ op = 21 ∨ op = 22 ∨ op = 23 ∨ (op < 1 ∨ 23 < op) := by omega
theorem hasB_none {op : Int} (k : Int) (h : op < 1 ∨ 23 < op) : hasB op k = false := by
  unfold hasB
  have e : ∀ n : Int, 1 ≤ n → n ≤ 23 → (op == n) = false := fun n a b => by simp; omega
  simp [e]

theorem resK_none {op k : Int} (h : isK k = false) : resK op k = 0 := by
  have e : ∀ n : Int, 1 ≤ n → n ≤ 5 → (k == n) = false := fun n a b => by simp [isK] at h; simp; omega
  have hh : hasB op k = false := by
    simp [hasB, h, e]
  simp [resK, hh]
set_option maxHeartbeats 8000000 in
theorem rresult_any (op k : Int) (w : World) :
    Calls Try.prog 14 #[.int .i64 op, .int .i64 k] w fun e w' => e = .returned (.int .i64 (resK op k)) ∧ w' = w := by
  rcases ops op with rfl | rfl | rfl | rfl | rfl | rfl | rfl | rfl | rfl | rfl | rfl | rfl | rfl | rfl | rfl | rfl | rfl | rfl | rfl | rfl | rfl | rfl | rfl | h
  case inr.inr.inr.inr.inr.inr.inr.inr.inr.inr.inr.inr.inr.inr.inr.inr.inr.inr.inr.inr.inr.inr.inr =>
    have HR : Hid (resK op k = 0) := by
      show resK op k = 0
      simp [resK, hasB_none k h]
    have f : ∀ n : Int, 1 ≤ n → n ≤ 23 → (op == n) = false := fun n a b => by simp; omega
    have g1 := f 1 (by decide) (by decide)
    have g2 := f 2 (by decide) (by decide)
    have g3 := f 3 (by decide) (by decide)
    have g4 := f 4 (by decide) (by decide)
    have g5 := f 5 (by decide) (by decide)
    have g6 := f 6 (by decide) (by decide)
    have g7 := f 7 (by decide) (by decide)
    have g8 := f 8 (by decide) (by decide)
    have g9 := f 9 (by decide) (by decide)
    have g10 := f 10 (by decide) (by decide)
    have g19 := f 19 (by decide) (by decide)
    have g20 := f 20 (by decide) (by decide)
    have g21 := f 21 (by decide) (by decide)
    have g22 := f 22 (by decide) (by decide)
    have g23 := f 23 (by decide) (by decide)
    clear f
    rcases h with h | h
    · go_enter Try.func14, Try.ntmps14
      go_wp2
      go_ret
      exact ⟨by simp; exact HR.out.symm, rfl⟩
    · go_enter Try.func14, Try.ntmps14
      go_wp2
      go_ret
      exact ⟨by simp; exact HR.out.symm, rfl⟩
  all_goals
    go_enter Try.func14, Try.ntmps14
    go_wp2
  all_goals go_ret
  all_goals refine ⟨?_, rfl⟩
  all_goals simp
  all_goals try simp only [beq_iff_eq, beq_eq_false_iff_ne, ne_eq] at *
  all_goals rcases kinds k with rfl | rfl | rfl | rfl | rfl | h
  all_goals first | omega | decide | rw [resK_none (by simp [isK]; omega)]

theorem resK_zero (op k : Int) : resK op k = 0 ↔ hasB op k = false := by
  constructor
  · intro h
    by_cases hh : hasB op k = true
    · exfalso
      simp only [resK, hh, if_true] at h
      split at h
      · omega
      · subst h
        have e : isK 0 = false := by decide
        simp [hasB, e] at hh
    · simpa using hh
  · intro h; simp [resK, h]
theorem sec_not {op k : Int} (h : hasB op k = true) (ho : 21 ≤ op) : secK op k = 0 := by
  have h3 : op = 21 ∨ op = 22 ∨ op = 23 := by
    by_cases h4 : 23 < op
    · rw [hasB_none k (.inr h4)] at h; cases h
    · omega
  simp only [secK, h, if_true]
  rcases h3 with rfl | rfl | rfl <;> rfl
set_option maxHeartbeats 1000000 in
theorem rsecond_any (op k : Int) (w : World) :
    Calls Try.prog 16 #[.int .i64 op, .int .i64 k] w fun e w' => e = .returned (.int .i64 (secK op k)) ∧ w' = w := by
  by_cases hh : hasB op k = true
  · have hz : (resK op k == 0) = false := by
      have := (resK_zero op k)
      simp only [hh] at this
      simp at this
      simpa using this
    by_cases h1 : 21 ≤ op
    · have HS : Hid (secK op k = 0) := sec_not hh h1
      clear hh
      go_enter Try.func16, Try.ntmps16
      go_wp2_with (go_at_call 14; refine (rresult_any _ _ _).mono ?_; rintro e w' ⟨rfl, rfl⟩)
      go_ret
      exact ⟨ret_int HS.out.symm, rfl⟩
    · have h2 : op < 21 := by omega
      clear h1
      by_cases h3 : 15 ≤ op
      · by_cases h4 : op ≤ 18
        · have HS : Hid (secK op k = 2) := sec_sh hh (by simp [shB]; omega)
          clear hh
          go_enter Try.func16, Try.ntmps16
          go_wp2_with (go_at_call 14; refine (rresult_any _ _ _).mono ?_; rintro e w' ⟨rfl, rfl⟩)
          go_ret
          exact ⟨ret_int HS.out.symm, rfl⟩
        · have h5 : 18 < op := by omega
          have HS : Hid (secK op k = k) := by
            show secK op k = k
            have h6 : op = 19 ∨ op = 20 := by omega
            simp only [secK, hh, if_true]
            rcases h6 with rfl | rfl <;> rfl
          clear hh h4
          go_enter Try.func16, Try.ntmps16
          go_wp2_with (go_at_call 14; refine (rresult_any _ _ _).mono ?_; rintro e w' ⟨rfl, rfl⟩)
          go_ret
          exact ⟨ret_int HS.out.symm, rfl⟩
      · have h5 : op < 15 := by omega
        have HS : Hid (secK op k = k) := by
          show secK op k = k
          have f : ∀ n : Int, 15 ≤ n → (op == n) = false := fun n a => by simp; omega
          simp [secK, hh, f]
        clear hh h3
        go_enter Try.func16, Try.ntmps16
        go_wp2_with (go_at_call 14; refine (rresult_any _ _ _).mono ?_; rintro e w' ⟨rfl, rfl⟩)
        go_ret
        exact ⟨ret_int HS.out.symm, rfl⟩
  · have hh : hasB op k = false := by simpa using hh
    have hz : (resK op k == 0) = true := by
      have := (resK_zero op k).2 hh
      simp [this]
    have HS : Hid (secK op k = 0) := by
      show secK op k = 0
      simp [secK, hh]
    clear hh
    go_enter Try.func16, Try.ntmps16
    go_wp2_with (go_at_call 14; refine (rresult_any _ _ _).mono ?_; rintro e w' ⟨rfl, rfl⟩)
    go_ret
    exact ⟨ret_int HS.out.symm, rfl⟩
end Go.Proofs.Ytnjlomdkenondaa
