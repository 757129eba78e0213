/- The contract of Show. -/
import Derived.Test.YtelgiffhgkbpeaaDoorTJ
namespace Go.Proofs.YtelgiffhgkbpeaaDoor
open Go.RowKit

def upS (n : Int) : ByteArray := ⟨(Lib.toUpperA (strOfNums (hexI n)).data.toList).toArray⟩
/-- The text of a value. -/
def showB (k n : Int) : ByteArray :=
  if fitsK k n = true then
    (if k = 1 then (if n = 0 then ⟨#[70, 65, 76, 83, 69]⟩ else ⟨#[84, 82, 85, 69]⟩)
     else if k = 4 then ⟨#[49, 54, 35]⟩ ++ upS n else if k = 5 then showT n else ⟨(Lib.itoa n).toArray⟩)
  else ⟨#[]⟩

theorem hx_bd (x : Int) (h0 : 0 ≤ x) (h1 : x < 16) : 48 ≤ hx x ∧ hx x ≤ 102 := by unfold hx; split <;> omega
theorem hexI_bd (n : Int) (h0 : 0 ≤ n) (h1 : n < 65536) : ∀ x ∈ hexI n, 48 ≤ x ∧ x ≤ 102 := by
  intro x hx'
  unfold hexI at hx'
  split at hx'
  · simp only [List.mem_cons, List.not_mem_nil, or_false] at hx'
    subst hx'; exact hx_bd _ (by omega) (by omega)
  · split at hx'
    · simp only [List.mem_cons, List.not_mem_nil, or_false] at hx'
      rcases hx' with rfl | rfl <;> exact hx_bd _ (by omega) (by omega)
    · split at hx'
      · simp only [List.mem_cons, List.not_mem_nil, or_false] at hx'
        rcases hx' with rfl | rfl | rfl <;> exact hx_bd _ (by omega) (by omega)
      · simp only [List.mem_cons, List.not_mem_nil, or_false] at hx'
        rcases hx' with rfl | rfl | rfl | rfl <;> exact hx_bd _ (by omega) (by omega)
theorem hexI_len (n : Int) : (hexI n).length ≤ 4 := by
  unfold hexI
  repeat' split
  all_goals simp
theorem hexS_ascii (n : Int) (h0 : 0 ≤ n) (h1 : n < 65536) : ∀ (j : Nat) (b : UInt8), (strOfNums (hexI n)).data.toList[j]? = some b → b.toNat < 128 := by
  intro j b hb
  have hm : b ∈ (hexI n).map fun n => UInt8.ofNat n.toNat := List.mem_of_getElem? hb
  obtain ⟨x, hx, rfl⟩ := List.mem_map.1 hm
  have := hexI_bd n h0 h1 x hx
  simp
  omega
theorem upS_size (n : Int) : (upS n).size ≤ 4 := by
  show (Lib.toUpperA (strOfNums (hexI n)).data.toList).toArray.size ≤ 4
  rw [List.size_toArray, Lib.toUpperA, List.length_map, strOfNums_data, List.length_map]
  exact hexI_len n

set_option maxHeartbeats 1000000 in
theorem show_any (k n : Int) (w : World) (hT : Tabs w) (h0 : -9223372036854775808 ≤ n) (h1 : n ≤ 9223372036854775807) :
    Calls Tryd.prog 7 #[.int .i64 k, .int .i64 n] w fun e w' => e = .returned (.string (showB k n)) ∧ Below w.heap.size w w' := by
  cases hf : fitsK k n with
  | false =>
    have e : showB k n = ⟨#[]⟩ := by rw [showB, if_neg (by rw [hf]; decide)]
    rw [e]
    clear e
    go_enter Tryd.func7, Tryd.ntmps7
    go_wp2_with (go_at_call 9; go_must (refine (fits_any _ _ _).mono ?_; rintro e w' ⟨rfl, rfl⟩))
    go_ret
    exact ⟨rfl, Below.refl _ _⟩
  | true =>
    have hk : isK k = true := by
      simp only [fitsK, Bool.and_eq_true] at hf; exact hf.1
    have hk' : k = 1 ∨ k = 2 ∨ k = 3 ∨ k = 4 ∨ k = 5 := by
      simp only [isK, Bool.and_eq_true, decide_eq_true_eq] at hk; omega
    clear hk
    rcases hk' with rfl | rfl | rfl | rfl | rfl
    · have e : showB 1 n = if n = 0 then ⟨#[70, 65, 76, 83, 69]⟩ else ⟨#[84, 82, 85, 69]⟩ := by rw [showB, if_pos hf, if_pos rfl]
      rw [e]
      clear e
      by_cases hz : n = 0
      · rw [if_pos hz]
        go_enter Tryd.func7, Tryd.ntmps7
        go_wp2_with (go_at_call 9; go_must (refine (fits_any _ _ _).mono ?_; rintro e w' ⟨rfl, rfl⟩))
        go_ret
        exact ⟨rfl, Below.refl _ _⟩
      · rw [if_neg hz]
        go_enter Tryd.func7, Tryd.ntmps7
        go_wp2_with (go_at_call 9; go_must (refine (fits_any _ _ _).mono ?_; rintro e w' ⟨rfl, rfl⟩))
        go_ret
        exact ⟨rfl, Below.refl _ _⟩
    · have e : Hid (showB 2 n = ⟨(Lib.itoa n).toArray⟩) := by
        show _ = _
        rw [showB, if_pos hf]; rfl
      have c := itoa_any n h0 h1 w hT
      go_enter Tryd.func7, Tryd.ntmps7
      go_wp2_with (first | (go_at_call 9; go_must (refine (fits_any _ _ _).mono ?_; rintro e w' ⟨rfl, rfl⟩)) | (go_at_call 27; go_must (refine c.mono ?_; rintro e w1 ⟨rfl, hb⟩)))
      go_ret
      exact ⟨by rw [e.out]; rfl, hb⟩
    · have e : Hid (showB 3 n = ⟨(Lib.itoa n).toArray⟩) := by
        show _ = _
        rw [showB, if_pos hf]; rfl
      have c := itoa_any n h0 h1 w hT
      go_enter Tryd.func7, Tryd.ntmps7
      go_wp2_with (first | (go_at_call 9; go_must (refine (fits_any _ _ _).mono ?_; rintro e w' ⟨rfl, rfl⟩)) | (go_at_call 27; go_must (refine c.mono ?_; rintro e w1 ⟨rfl, hb⟩)))
      go_ret
      exact ⟨by rw [e.out]; rfl, hb⟩
    · have hn := kfits4 hf
      have e : Hid (showB 4 n = ⟨#[49, 54, 35]⟩ ++ upS n) := by
        show _ = _
        rw [showB, if_pos hf]; rfl
      have c := format_any n w hT.zeros hn.1 (by omega)
      have c2 : ∀ W, Calls Tryd.prog 24 #[.string (strOfNums (hexI n))] W fun e w' => e = .returned (.string (upS n)) ∧ Below W.heap.size W w' := fun W =>
        Tryd.strings_ToUpper_ascii (strOfNums (hexI n)) W (by rw [strOfNums_size]; have := hexI_len n; omega) (hexS_ascii n hn.1 (by omega))
      have hs := upS_size n
      obtain ⟨U, hU⟩ : ∃ U, upS n = U := ⟨_, rfl⟩
      obtain ⟨V, hV⟩ : ∃ V, strOfNums (hexI n) = V := ⟨_, rfl⟩
      rw [hV] at c c2
      rw [hU] at c2 hs e
      have h3 : (⟨#[49, 54, 35]⟩ : ByteArray).size = 3 := rfl
      clear hU hV
      go_enter Tryd.func7, Tryd.ntmps7
      go_wp2_with (first | (go_at_call 9; go_must (refine (fits_any _ _ _).mono ?_; rintro e w' ⟨rfl, rfl⟩)) | (go_at_call 25; go_must (refine c.mono ?_; rintro e w1 ⟨rfl, hb⟩)) | (go_at_call 24; go_must (refine (c2 _).mono ?_; rintro e w2 ⟨rfl, hb2⟩)))
      go_ret
      exact ⟨by rw [e.out]; rfl, hb.trans (hb2.mono hb.size)⟩
    · have hn := kfits5 hf
      have e : Hid (showB 5 n = showT n) := by
        show _ = _
        rw [showB, if_pos hf]; rfl
      have c := showTime_any n w hT hn.1 hn.2
      obtain ⟨U, hU⟩ : ∃ U, showT n = U := ⟨_, rfl⟩
      rw [hU] at c e
      clear hU
      go_enter Tryd.func7, Tryd.ntmps7
      go_wp2_with (first | (go_at_call 9; go_must (refine (fits_any _ _ _).mono ?_; rintro e w' ⟨rfl, rfl⟩)) | (go_at_call 26; go_must (refine c.mono ?_; rintro e w1 ⟨rfl, hb⟩)))
      go_ret
      exact ⟨by rw [e.out]; rfl, hb⟩
end Go.Proofs.YtelgiffhgkbpeaaDoor
