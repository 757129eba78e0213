/- Contracts of work, Do, Convert. -/
import Derived.Test.YtnjlomdkenondaaCellE
namespace Go.Proofs.Ytnjlomdkenondaa
open Go.RowKit

def shB (op : Int) : Bool := op == 15 || op == 16 || op == 17 || op == 18
def mkB (op : Int) : Bool := op == 6 || op == 7 || op == 8 || op == 21
def workK (op a b : Int) : Int :=
  if shB op = true then shK op a (if b < 0 then 0 else b) else if mkB op = true then maskK op a b else if cmpB op = true then tru (holdsB op a b) else reckK op a b

set_option maxHeartbeats 1000000 in
theorem work_any (op a b : Int) (w : World) (hs : shB op = true → 0 ≤ a ∧ a ≤ 65535 ∧ b ≤ 32767) (hb : b = 0 → (op == 4) = false ∧ (op == 5) = false) :
    Calls Try.prog 25 #[.int .i64 op, .int .i64 a, .int .i64 b] w fun e w' => e = .returned (.int .i64 (workK op a b)) ∧ w' = w := by
  by_cases h1 : shB op = true
  · obtain ⟨ha, ha', hb'⟩ := hs h1
    have ho : op = 15 ∨ op = 16 ∨ op = 17 ∨ op = 18 := by simp [shB] at h1; omega
    clear hs hb
    have H1 : Hid (shB op = true) := h1
    clear h1
    by_cases hn : b < 0
    · rcases ho with rfl | rfl | rfl | rfl
      all_goals
        go_enter Try.func25, Try.ntmps25
        go_wp2_with (go_at_call 34; refine (shift_any _ _ _ _ ha ha' (by omega) (by omega)).mono ?_; rintro e w' ⟨rfl, rfl⟩)
        go_ret
        exact ⟨ret_int (by simp [workK, H1.out, hn]), rfl⟩
    · rcases ho with rfl | rfl | rfl | rfl
      all_goals
        go_enter Try.func25, Try.ntmps25
        go_wp2_with (go_at_call 34; refine (shift_any _ _ _ _ ha ha' (by omega) (by omega)).mono ?_; rintro e w' ⟨rfl, rfl⟩)
        go_ret
        exact ⟨ret_int (by simp [workK, H1.out]; rw [if_neg (show ¬ b < 0 by omega)]), rfl⟩
  · have h1 : shB op = false := by simpa using h1
    have hx := h1
    simp only [shB, Bool.or_eq_false_iff] at hx
    obtain ⟨⟨⟨o15, o16⟩, o17⟩, o18⟩ := hx
    clear hs
    by_cases h2 : mkB op = true
    · have ho : op = 6 ∨ op = 7 ∨ op = 8 ∨ op = 21 := by simp [mkB] at h2; omega
      have H1 : Hid (shB op = false) := h1
      have H2 : Hid (mkB op = true) := h2
      clear h1 h2 hb o15 o16 o17 o18
      rcases ho with rfl | rfl | rfl | rfl
      all_goals
        go_enter Try.func25, Try.ntmps25
        go_wp2_with (go_at_call 35; refine (mask_any _ _ _ _).mono ?_; rintro e w' ⟨rfl, rfl⟩)
        go_ret
        exact ⟨ret_int (by simp [workK, H1.out, H2.out]), rfl⟩
    · have h2 : mkB op = false := by simpa using h2
      have hx := h2
      simp only [mkB, Bool.or_eq_false_iff] at hx
      obtain ⟨⟨⟨o6, o7⟩, o8⟩, o21⟩ := hx
      by_cases h3 : cmpB op = true
      · clear hb
        go_enter Try.func25, Try.ntmps25
        go_wp2_with (first | (go_at_call 31; refine (compares_any _ _).mono ?_; rintro e w' ⟨rfl, rfl⟩) | (go_at_call 37; refine (holds_any _ _ _ _).mono ?_; rintro e w' ⟨rfl, rfl⟩) | (go_at_call 36; refine (truth_any _ _).mono ?_; rintro e w' ⟨rfl, rfl⟩))
        go_ret
        exact ⟨ret_int (by simp [workK, h1, h2, h3]), rfl⟩
      · have h3 : cmpB op = false := by simpa using h3
        have HB : Hid (b = 0 → (op == 4) = false ∧ (op == 5) = false) := hb
        clear hb
        go_enter Try.func25, Try.ntmps25
        go_wp2_with (first | (go_at_call 31; refine (compares_any _ _).mono ?_; rintro e w' ⟨rfl, rfl⟩) | (go_at_call 38; refine (reckon_any _ _ _ _ HB.out).mono ?_; rintro e w' ⟨rfl, rfl⟩))
        go_ret
        exact ⟨ret_int (by simp [workK, h1, h2, h3]), rfl⟩

def zeroB (op k b : Int) : Bool := (wrapK (secK op k) b == 0) && (op == 4 || op == 5)
def doN (op k a b : Int) : Int :=
  if hasB op k = true then (if zeroB op k b = true then 0 else wrapK (resK op k) (workK op (wrapK k a) (wrapK (secK op k) b))) else 0
def doZ (op k b : Int) : Bool := hasB op k && zeroB op k b

theorem has_sh {op k : Int} (h : hasB op k = true) (hs : shB op = true) : k = 4 := by
  simp [shB] at hs
  rcases hs with ((rfl | rfl) | rfl) | rfl
  all_goals simpa [hasB] using h
theorem sec_sh {op k : Int} (h : hasB op k = true) (hs : shB op = true) : secK op k = 2 := by
  simp [shB] at hs
  rcases hs with ((rfl | rfl) | rfl) | rfl
  all_goals simp [secK, h]

set_option maxHeartbeats 1000000 in
theorem do_any (op k a b : Int) (w : World) :
    Calls Try.prog 7 #[.int .i64 op, .int .i64 k, .int .i64 a, .int .i64 b] w fun e w' => e = .returned (.tuple #[.int .i64 (doN op k a b), .bool (doZ op k b)]) ∧ w' = w := by
  by_cases h1 : hasB op k = true
  · by_cases h2 : (wrapK (secK op k) b == 0) = true
    · by_cases h4 : (op == 4) = true
      · go_enter Try.func7, Try.ntmps7
        go_wp2_with (first | (go_at_call 24; refine (has_any _ _ _).mono ?_; rintro e w' ⟨rfl, rfl⟩) | (go_at_call 11; refine (wrap_any _ _ _).mono ?_; rintro e w' ⟨rfl, rfl⟩) | (go_at_call 15; refine (second_any _ _ _).mono ?_; rintro e w' ⟨rfl, rfl⟩))
        go_ret2
        exact ⟨by simp [doN, doZ, zeroB, *], rfl⟩
      · have h4 : (op == 4) = false := by simpa using h4
        by_cases h5 : (op == 5) = true
        · go_enter Try.func7, Try.ntmps7
          go_wp2_with (first | (go_at_call 24; refine (has_any _ _ _).mono ?_; rintro e w' ⟨rfl, rfl⟩) | (go_at_call 11; refine (wrap_any _ _ _).mono ?_; rintro e w' ⟨rfl, rfl⟩) | (go_at_call 15; refine (second_any _ _ _).mono ?_; rintro e w' ⟨rfl, rfl⟩))
          go_ret2
          exact ⟨by simp [doN, doZ, zeroB, *], rfl⟩
        · have h5 : (op == 5) = false := by simpa using h5
          have HS : Hid (shB op = true → 0 ≤ wrapK k a ∧ wrapK k a ≤ 65535 ∧ wrapK (secK op k) b ≤ 32767) := fun hs => by
            rw [has_sh h1 hs, wrapK4]
            have e := sec_sh h1 hs
            rw [has_sh h1 hs] at e
            rw [e, wrapK2]; omega
          go_enter Try.func7, Try.ntmps7
          go_wp2_with (first | (go_at_call 24; refine (has_any _ _ _).mono ?_; rintro e w' ⟨rfl, rfl⟩) | (go_at_call 11; refine (wrap_any _ _ _).mono ?_; rintro e w' ⟨rfl, rfl⟩) | (go_at_call 15; refine (second_any _ _ _).mono ?_; rintro e w' ⟨rfl, rfl⟩) | (go_at_call 13; refine (result_any _ _ _).mono ?_; rintro e w' ⟨rfl, rfl⟩) | (go_at_call 25; refine (work_any _ _ _ _ HS.out (fun _ => ⟨h4, h5⟩)).mono ?_; rintro e w' ⟨rfl, rfl⟩))
          go_ret2
          exact ⟨by simp [doN, doZ, zeroB, *], rfl⟩
    · have h2 : (wrapK (secK op k) b == 0) = false := by simpa using h2
      have HS : Hid (shB op = true → 0 ≤ wrapK k a ∧ wrapK k a ≤ 65535 ∧ wrapK (secK op k) b ≤ 32767) := fun hs => by
        rw [has_sh h1 hs, wrapK4]
        have e := sec_sh h1 hs
        rw [has_sh h1 hs] at e
        rw [e, wrapK2]; omega
      have HZ : Hid (wrapK (secK op k) b = 0 → (op == 4) = false ∧ (op == 5) = false) := fun h => by simp [h] at h2
      go_enter Try.func7, Try.ntmps7
      go_wp2_with (first | (go_at_call 24; refine (has_any _ _ _).mono ?_; rintro e w' ⟨rfl, rfl⟩) | (go_at_call 11; refine (wrap_any _ _ _).mono ?_; rintro e w' ⟨rfl, rfl⟩) | (go_at_call 15; refine (second_any _ _ _).mono ?_; rintro e w' ⟨rfl, rfl⟩) | (go_at_call 13; refine (result_any _ _ _).mono ?_; rintro e w' ⟨rfl, rfl⟩) | (go_at_call 25; refine (work_any _ _ _ _ HS.out HZ.out).mono ?_; rintro e w' ⟨rfl, rfl⟩))
      go_ret2
      exact ⟨by simp [doN, doZ, zeroB, *], rfl⟩
  · have h1 : hasB op k = false := by simpa using h1
    go_enter Try.func7, Try.ntmps7
    go_wp2_with (first | (go_at_call 24; refine (has_any _ _ _).mono ?_; rintro e w' ⟨rfl, rfl⟩))
    go_ret2
    exact ⟨by simp [doN, doZ, *], rfl⟩
end Go.Proofs.Ytnjlomdkenondaa
