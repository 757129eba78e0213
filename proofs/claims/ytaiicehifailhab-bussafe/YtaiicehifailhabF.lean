/- What is looked at; bytes and pairs put down. -/
import Derived.Test.YtaiicehifailhabS
namespace Go.Proofs.Ytaiicehifailhab
open Go.RowKit
attribute [local go_sem ↓] Go.wp_at_zero Go.wp_at_succ
set_option linter.unusedVariables false
set_option linter.unusedSimpArgs false

def wi (lo hi n : Int) : Bool := decide (lo ≤ n) && decide (n ≤ hi)
theorem wi_yes {lo hi n : Int} (h : lo ≤ n) (k : n ≤ hi) : wi lo hi n = true := by simp [wi, h, k]
theorem wi_iff {lo hi n : Int} : wi lo hi n = true ↔ lo ≤ n ∧ n ≤ hi := by simp [wi]
theorem within_any (n lo hi : Int) (w : World) : Calls Try.prog 13 #[.int .i64 n, .int .i64 lo, .int .i64 hi] w fun e w' => e = .returned (.bool (wi lo hi n)) ∧ w = w' := by
  unfold wi
  go_enter Try.func13, Try.ntmps13
  by_cases h0 : lo ≤ n
  · go_wp2
    go_ret
    refine ⟨ret_bool ?_, rfl⟩
    simp [h0]
  · have h1 : n < lo := by omega
    go_wp2
    go_ret
    refine ⟨ret_bool ?_, rfl⟩
    simp
    omega
set_option maxHeartbeats 1000000 in
theorem areWithin_any (l : List Int) (lo hi : Int) (v : Value) (w : World) (hv : rd w v l) (hl : l.length ≤ 17592186044416) : Calls Try.prog 23 #[v, .int .i64 lo, .int .i64 hi] w fun e w' => e = .returned (.bool (l.all (wi lo hi))) ∧ w = w' := by
  obtain ⟨a, cap, rfl, ha⟩ := hv
  have HA : Hid (l = [] ∨ ∃ b off, a = some ⟨b, off, none⟩ ∧ ∀ i, i < l.length → w.cell? ⟨b, off + i, none⟩ = some (.int .i64 (l.getD i 0))) := ha
  clear ha
  obtain ⟨n, hn⟩ : ∃ n, l.length = n := ⟨_, rfl⟩
  have HN : Hid (l.length = n) := hn
  rw [hn] at hl ⊢
  clear hn
  go_enter Try.func23, Try.ntmps23
  go_wp2
  go_loopg [11] n (fun gk s11 wx => ∃ k : Nat, s11 = .int .i64 k ∧ k ≤ n ∧ gk = n - k ∧ Hid ((l.take k).all (wi lo hi) = true) ∧ w = wx)
  case atStart => exact ⟨0, rfl, Nat.zero_le _, by omega, hidI (by simp), rfl⟩
  case round =>
    obtain ⟨k, rfl, hk, hgk, HK, hw⟩ := hrel
    subst hw
    have HG : Hid (gk = n - k) := hgk
    clear hgk
    by_cases hlt : k < n
    · have hkl : k < l.length := by rw [HN.out]; exact hlt
      rcases HA.out with h | ⟨b, off, rfl, hc⟩
      · subst h; simp at hkl
      have q0 := hc k hkl
      have hT : l.take (k + 1) = l.take k ++ [l.getD k 0] := by
        rw [List.take_add_one]
        simp [List.getD, hkl]
      have hmem : l.getD k 0 ∈ l := by
        have : l.getD k 0 = l[k] := by simp [List.getD, hkl]
        rw [this]
        exact List.getElem_mem _
      have HT : Hid (_ = _) := hT
      have HMem : Hid (_ ∈ _) := hmem
      clear hc hkl hT hmem
      generalize l.getD k 0 = x at *
      have i1 : (0 : Int) ≤ (k : Int) := by omega
      have i2 : (k : Int) < (n : Int) := by omega
      have cx := fun W => within_any x lo hi W
      by_cases hx : wi lo hi x = true
      · simp only [hx] at cx
        go_wp2_with fail
        refine (cx _).mono ?_
        rintro e w' ⟨rfl, rfl⟩
        go_wp2
        have hgl := HG.out
        go_roundg (n - (k + 1))
        all_goals first | omega | exact ⟨k + 1, by go_num, by omega, by omega, hidI (by rw [HT.out, List.all_append, HK.out]; simp [hx]), rfl⟩
      · have hx' : wi lo hi x = false := by simpa using hx
        simp only [hx'] at cx
        go_wp2_with fail
        refine (cx _).mono ?_
        rintro e w' ⟨rfl, rfl⟩
        go_wp2
        go_ret
        refine ⟨ret_bool ?_, rfl⟩
        symm
        rw [List.all_eq_false]
        exact ⟨x, HMem.out, by simp [hx']⟩
    · have hk' : ¬ ((k : Int) < (n : Int)) := by omega
      have hkn : l.take k = l := List.take_of_length_le (by rw [HN.out]; omega)
      rw [hkn] at HK
      go_wp2
      go_ret
      exact ⟨ret_bool HK.out.symm, rfl⟩
abbrev okW : Int → Bool := wi 0 65535
/-- What is wrong with words. -/
def lookE (l : List Int) : Nat := if 60 < l.length then 4 else if l.all okW then 0 else 3
set_option maxHeartbeats 1000000 in
theorem lookAt_any (l : List Int) (v : Value) (w : World) (hv : rd w v l) (hl : l.length ≤ 17592186044416) : Calls Try.prog 14 #[v] w fun e w' => e = .returned (.int .i64 (lookE l : Int)) ∧ w = w' := by
  have c := areWithin_any l 0 65535 v w hv hl
  obtain ⟨a, cap, rfl, _⟩ := id hv
  unfold lookE
  by_cases h : 60 < l.length
  · have i0 : (60 : Int) < (l.length : Int) := by omega
    rw [if_pos h]
    go_enter Try.func14, Try.ntmps14
    go_wp2
    go_ret
    exact ⟨rfl, rfl⟩
  · have i0 : ¬ (60 : Int) < (l.length : Int) := by omega
    rw [if_neg h]
    cases ha : l.all okW with
    | true =>
      rw [ha] at c
      rw [if_pos rfl]
      go_enter Try.func14, Try.ntmps14
      go_wp2_with fail
      refine c.mono ?_
      rintro e w' ⟨rfl, rfl⟩
      go_wp2
      go_ret
      exact ⟨rfl, rfl⟩
    | false =>
      rw [ha] at c
      rw [if_neg (by simp)]
      go_enter Try.func14, Try.ntmps14
      go_wp2_with fail
      refine c.mono ?_
      rintro e w' ⟨rfl, rfl⟩
      go_wp2
      go_ret
      exact ⟨rfl, rfl⟩
theorem frameSize_any (n : Nat) (w : World) (hn : n ≤ 5000000000) : Calls Try.prog 16 #[.int .i64 (n : Int)] w fun e w' => e = .returned (.int .i64 ((2 * n + 5 : Nat) : Int)) ∧ w = w' := by
  have m1 : wrap64 ((n : Int) + 1) = (n : Int) + 1 := by unfold wrap64; omega
  have m2 : wrap64 (((n : Int) + 1) * 2) = ((n : Int) + 1) * 2 := by unfold wrap64; omega
  have m3 : wrap64 (3 + ((n : Int) + 1) * 2) = 3 + ((n : Int) + 1) * 2 := by unfold wrap64; omega
  go_enter Try.func16, Try.ntmps16
  go_wp2
  go_ret
  refine ⟨ret_int ?_, rfl⟩
  omega
end Go.Proofs.Ytaiicehifailhab
