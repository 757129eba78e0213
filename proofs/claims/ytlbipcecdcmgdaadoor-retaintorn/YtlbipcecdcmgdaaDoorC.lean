/- What is looked at ahead of a record. -/
import Derived.Test.YtlbipcecdcmgdaaDoorLn
namespace Go.Proofs.YtlbipcecdcmgdaaDoor
open Go.RowKit
attribute [local go_sem ↓] Go.wp_at_zero Go.wp_at_succ
set_option linter.unusedVariables false
set_option linter.unusedSimpArgs false

def okW (n : Int) : Bool := decide (0 ≤ n) && decide (n ≤ 4294967295)
theorem fits_any (n : Int) (w : World) : Calls Tryd.prog 40 #[.int .i64 n] w fun e w' => e = .returned (.bool (okW n)) ∧ w = w' := by
  unfold okW
  go_enter Tryd.func40, Tryd.ntmps40
  by_cases h0 : 0 ≤ n
  · go_wp2
    go_ret
    refine ⟨ret_bool ?_, rfl⟩
    simp [h0]
  · have h1 : n < 0 := by omega
    go_wp2
    go_ret
    refine ⟨ret_bool ?_, rfl⟩
    simp
    omega
theorem bad_any (n : Int) (w : World) : Calls Tryd.prog 42 #[.int .i64 n] w fun e w' => e = .returned (.bool (!okW n)) ∧ w = w' := by
  go_enter Tryd.func42, Tryd.ntmps42
  go_wp2_with fail
  refine (fits_any n _).mono ?_
  rintro e w' ⟨rfl, rfl⟩
  go_wp2
  go_ret
  exact ⟨rfl, rfl⟩
def IdxP (l : List Int) (w : World) (e : Ending) (w' : World) : Prop := ∃ r : Int, e = .returned (.int .i64 r) ∧ (l.all okW = true → r = -1) ∧ (l.all okW = false → 0 ≤ r) ∧ w.grownBy w' none
set_option maxHeartbeats 1000000 in
theorem index_any (l : List Int) (v : Value) (w : World) (hv : rd w v l) (hl : l.length ≤ 17592186044416) : Calls Tryd.prog 46 #[v, .func (.func 42) #[] #[]] w (IdxP l w) := by
  obtain ⟨a, cap, rfl, ha⟩ := hv
  have HA : Hid (l = [] ∨ ∃ b off, a = some ⟨b, off, none⟩ ∧ ∀ i, i < l.length → w.cell? ⟨b, off + i, none⟩ = some (.int .i64 (l.getD i 0))) := ha
  clear ha
  obtain ⟨n, hn⟩ : ∃ n, l.length = n := ⟨_, rfl⟩
  have HN : Hid (l.length = n) := hn
  rw [hn] at hl ⊢
  clear hn
  go_enter Tryd.func46, Tryd.ntmps46
  go_wp2
  go_loopg [8] n (fun gk s8 wx => ∃ k : Nat, s8 = .int .i64 k ∧ k ≤ n ∧ gk = n - k ∧ Hid ((l.take k).all okW = true) ∧ w = wx)
  case atStart => exact ⟨0, rfl, Nat.zero_le _, by omega, hidI (by simp), rfl⟩
  case round =>
    obtain ⟨k, rfl, hk, hgk, HK, hw⟩ := hrel
    subst hw
    have HG : Hid (gk = n - k) := hgk
    clear hgk
    by_cases hlt : k < n
    · have hkl : k < l.length := by rw [HN.out]; exact hlt
      rcases HA.out with h | ⟨b, off, rfl, hc⟩
      · subst h; simp at hkl
      have q0 := hc k hkl
      have hT : l.take (k + 1) = l.take k ++ [l.getD k 0] := by
        rw [List.take_add_one]
        simp [List.getD, hkl]
      have hmem : l.getD k 0 ∈ l := by
        have : l.getD k 0 = l[k] := by simp [List.getD, hkl]
        rw [this]
        exact List.getElem_mem _
      have HT : Hid (_ = _) := hT
      have HMem : Hid (_ ∈ _) := hmem
      clear hc hkl hT hmem
      generalize l.getD k 0 = x at *
      have i1 : (0 : Int) ≤ (k : Int) := by omega
      have i2 : (k : Int) < (n : Int) := by omega
      have cx := fun W => bad_any x W
      by_cases hx : okW x = true
      · simp only [hx, Bool.not_true] at cx
        go_wp2_with fail
        refine (cx _).mono ?_
        rintro e w' ⟨rfl, rfl⟩
        go_wp2
        have hgl := HG.out
        go_roundg (n - (k + 1))
        all_goals first | omega | exact ⟨k + 1, by go_num, by omega, by omega, hidI (by rw [HT.out, List.all_append, HK.out]; simp [hx]), rfl⟩
      · have hx' : okW x = false := by simpa using hx
        simp only [hx', Bool.not_false] at cx
        go_wp2_with fail
        refine (cx _).mono ?_
        rintro e w' ⟨rfl, rfl⟩
        go_wp2
        go_ret
        refine ⟨_, rfl, fun h => ?_, fun _ => by omega, World.grownBy.refl _ _⟩
        have := List.all_eq_true.1 h x HMem.out
        rw [hx'] at this
        cases this
    · have hk' : ¬ ((k : Int) < (n : Int)) := by omega
      have hkn : l.take k = l := List.take_of_length_le (by rw [HN.out]; omega)
      rw [hkn] at HK
      go_wp2
      go_ret
      exact ⟨_, rfl, fun _ => rfl, fun h => (by rw [HK.out] at h; cases h), World.grownBy.refl _ _⟩

theorem contains_any (l : List Int) (v : Value) (w : World) (hv : rd w v l) (hl : l.length ≤ 17592186044416) : Calls Tryd.prog 41 #[v, .func (.func 42) #[] #[]] w fun e w' => e = .returned (.bool (!l.all okW)) ∧ w.grownBy w' none := by
  have c := index_any l v w hv hl
  go_enter Tryd.func41, Tryd.ntmps41
  go_wp2_with fail
  refine c.mono ?_
  rintro e w' ⟨r, rfl, h1, h2, hg⟩
  cases ha : l.all okW with
  | true =>
    have := h1 ha
    subst this
    go_wp2
    go_ret
    exact ⟨ret_bool (by rw [ha]; rfl), hg⟩
  | false =>
    have h3 := h2 ha
    go_wp2
    go_ret
    exact ⟨ret_bool (by rw [ha]; rfl), hg⟩

/-- What is wrong with words and a serial. -/
def lookE (l : List Int) (s : Int) : Nat := if 2000 < l.length then 4 else if okW s && l.all okW then 0 else 3
set_option maxHeartbeats 1000000 in
theorem lookAt_any (l : List Int) (s : Int) (v : Value) (w : World) (hv : rd w v l) (hl : l.length ≤ 17592186044416) : Calls Tryd.prog 29 #[v, .int .i64 s] w fun e w' => e = .returned (.int .i64 (lookE l s : Int)) ∧ w.grownBy w' none := by
  have c := contains_any l v w hv hl
  have c0 := fits_any s w
  obtain ⟨a, cap, rfl, _⟩ := id hv
  unfold lookE
  by_cases h : 2000 < l.length
  · have i0 : (2000 : Int) < (l.length : Int) := by omega
    rw [if_pos h]
    go_enter Tryd.func29, Tryd.ntmps29
    go_wp2
    go_ret
    exact ⟨rfl, World.grownBy.refl _ _⟩
  · have i0 : ¬ (2000 : Int) < (l.length : Int) := by omega
    rw [if_neg h]
    cases hs : okW s with
    | false =>
      rw [hs] at c0
      rw [if_neg (by simp)]
      go_enter Tryd.func29, Tryd.ntmps29
      go_wp2_with fail
      refine c0.mono ?_
      rintro e w' ⟨rfl, rfl⟩
      go_wp2
      go_ret
      exact ⟨rfl, World.grownBy.refl _ _⟩
    | true =>
      rw [hs] at c0
      cases ha : l.all okW with
      | true =>
        rw [ha] at c
        rw [if_pos (by simp)]
        go_enter Tryd.func29, Tryd.ntmps29
        go_wp2_with fail
        refine c0.mono ?_
        rintro e w' ⟨rfl, rfl⟩
        go_wp2_with fail
        refine c.mono ?_
        rintro e w' ⟨rfl, hg⟩
        go_wp2
        go_ret
        exact ⟨rfl, hg⟩
      | false =>
        rw [ha] at c
        rw [if_neg (by simp)]
        go_enter Tryd.func29, Tryd.ntmps29
        go_wp2_with fail
        refine c0.mono ?_
        rintro e w' ⟨rfl, rfl⟩
        go_wp2_with fail
        refine c.mono ?_
        rintro e w' ⟨rfl, hg⟩
        go_wp2
        go_ret
        exact ⟨rfl, hg⟩
end Go.Proofs.YtlbipcecdcmgdaaDoor
