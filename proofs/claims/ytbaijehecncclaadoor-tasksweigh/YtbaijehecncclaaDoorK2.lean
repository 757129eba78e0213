/- The document's Second. -/
import Derived.Test.YtbaijehecncclaaDoorK1
namespace Go.Proofs.YtbaijehecncclaaDoor
open Go.RowKit

theorem resK_zero (op k : Int) : resK op k = 0 ↔ hasB op k = false := by
  constructor
  · intro h
    by_cases hh : hasB op k = true
    · exfalso
      simp only [resK, hh, if_true] at h
      split at h
      · omega
      · subst h
        have e : isK 0 = false := by decide
        simp [hasB, e] at hh
    · simpa using hh
  · intro h; simp [resK, h]
theorem sec_not {op k : Int} (h : hasB op k = true) (ho : 21 ≤ op) : secK op k = 0 := by
  have h3 : op = 21 ∨ op = 22 ∨ op = 23 := by
    by_cases h4 : 23 < op
    · rw [hasB_none k (.inr h4)] at h; cases h
    · omega
  simp only [secK, h, if_true]
  rcases h3 with rfl | rfl | rfl <;> rfl
set_option maxHeartbeats 1000000 in
theorem rsecond_any (op k : Int) (w : World) :
    Calls Tryd.prog 27 #[.int .i64 op, .int .i64 k] w fun e w' => e = .returned (.int .i64 (secK op k)) ∧ w' = w := by
  by_cases hh : hasB op k = true
  · have hz : (resK op k == 0) = false := by
      have := (resK_zero op k)
      simp only [hh] at this
      simp at this
      simpa using this
    by_cases h1 : 21 ≤ op
    · have HS : Hid (secK op k = 0) := sec_not hh h1
      clear hh
      go_enter Tryd.func27, Tryd.ntmps27
      go_wp2_with (go_at_call 18; refine (rresult_any _ _ _).mono ?_; rintro e w' ⟨rfl, rfl⟩)
      go_ret
      exact ⟨ret_int HS.out.symm, rfl⟩
    · have h2 : op < 21 := by omega
      clear h1
      by_cases h3 : 15 ≤ op
      · by_cases h4 : op ≤ 18
        · have HS : Hid (secK op k = 2) := sec_sh hh (by simp [shB]; omega)
          clear hh
          go_enter Tryd.func27, Tryd.ntmps27
          go_wp2_with (go_at_call 18; refine (rresult_any _ _ _).mono ?_; rintro e w' ⟨rfl, rfl⟩)
          go_ret
          exact ⟨ret_int HS.out.symm, rfl⟩
        · have h5 : 18 < op := by omega
          have HS : Hid (secK op k = k) := by
            show secK op k = k
            have h6 : op = 19 ∨ op = 20 := by omega
            simp only [secK, hh, if_true]
            rcases h6 with rfl | rfl <;> rfl
          clear hh h4
          go_enter Tryd.func27, Tryd.ntmps27
          go_wp2_with (go_at_call 18; refine (rresult_any _ _ _).mono ?_; rintro e w' ⟨rfl, rfl⟩)
          go_ret
          exact ⟨ret_int HS.out.symm, rfl⟩
      · have h5 : op < 15 := by omega
        have HS : Hid (secK op k = k) := by
          show secK op k = k
          have f : ∀ n : Int, 15 ≤ n → (op == n) = false := fun n a => by simp; omega
          simp [secK, hh, f]
        clear hh h3
        go_enter Tryd.func27, Tryd.ntmps27
        go_wp2_with (go_at_call 18; refine (rresult_any _ _ _).mono ?_; rintro e w' ⟨rfl, rfl⟩)
        go_ret
        exact ⟨ret_int HS.out.symm, rfl⟩
  · have hh : hasB op k = false := by simpa using hh
    have hz : (resK op k == 0) = true := by
      have := (resK_zero op k).2 hh
      simp [this]
    have HS : Hid (secK op k = 0) := by
      show secK op k = 0
      simp [secK, hh]
    clear hh
    go_enter Tryd.func27, Tryd.ntmps27
    go_wp2_with (go_at_call 18; refine (rresult_any _ _ _).mono ?_; rintro e w' ⟨rfl, rfl⟩)
    go_ret
    exact ⟨ret_int HS.out.symm, rfl⟩
end Go.Proofs.YtbaijehecncclaaDoor
