/- Numbers with a base, what stands behind the word of a time, and the contract of readTime. -/
import Derived.Test.YtelgiffhgkbpeaaDoorTC
namespace Go.Proofs.YtelgiffhgkbpeaaDoor
open Go.RowKit

/-- What readNumber answers. -/
def numD (l : List UInt8) : Int × Bool :=
  if Lib.hasPrefix l [49, 54, 35] = true then readD 16 (l.drop 3) else if Lib.hasPrefix l [50, 35] = true then readD 2 (l.drop 2) else readD 10 l
theorem trim_yes {l p : List UInt8} (h : Lib.hasPrefix l p = true) : Lib.trimPrefix l p = l.drop p.length := by rw [Lib.trimPrefix, h]; rfl
theorem trim_no {l p : List UInt8} (h : Lib.hasPrefix l p = false) : Lib.trimPrefix l p = l := by rw [Lib.trimPrefix, h]; rfl

theorem trim_size (s : ByteArray) (p : List UInt8) (h : s.size < 35184372088832) : (⟨(Lib.trimPrefix s.data.toList p).toArray⟩ : ByteArray).size < 35184372088832 := by
  show (Lib.trimPrefix s.data.toList p).toArray.size < _
  rw [List.size_toArray]
  have hl : s.data.toList.length = s.size := by rw [Array.length_toList]; rfl
  unfold Lib.trimPrefix
  split
  · rw [List.length_drop]; omega
  · omega

set_option maxHeartbeats 1000000 in
theorem readNumber_any (s : ByteArray) (w : World) (hsz : s.size < 35184372088832) :
    Calls Tryd.prog 34 #[.string s] w fun e w' => e = .returned (.tuple #[.int .i64 (numD s.data.toList).1, .bool (numD s.data.toList).2]) ∧ Below w.heap.size w w' := by
  have c4 : ∀ p base w, (base = 10 ∨ base = 16 ∨ base = 2) → Calls Tryd.prog 33 #[.string ⟨(Lib.trimPrefix s.data.toList p).toArray⟩, .int .i64 base] w fun e w' =>
      e = .returned (.tuple #[.int .i64 (readD base (Lib.trimPrefix s.data.toList p)).1, .bool (readD base (Lib.trimPrefix s.data.toList p)).2]) ∧ Below w.heap.size w w' := fun p base w hs =>
    readDigits_any ⟨(Lib.trimPrefix s.data.toList p).toArray⟩ base w hs (trim_size s p hsz)
  cases h1 : Lib.hasPrefix s.data.toList [49, 54, 35] with
  | true =>
    have e : Hid (numD s.data.toList = readD 16 (Lib.trimPrefix s.data.toList [49, 54, 35])) := by
      show _ = _
      rw [numD, if_pos h1, trim_yes h1]; rfl
    go_enter Tryd.func34, Tryd.ntmps34
    go_wp2_with (first | (go_at_call 32; go_must (refine (Tryd.strings_CutPrefix s _ _).mono ?_; rintro e w' ⟨rfl, rfl⟩)) | (go_at_call 33; go_must (refine (c4 _ _ _ (by omega)).mono ?_; rintro e w1 ⟨rfl, hb⟩)))
    go_ret2
    exact ⟨by rw [e.out]; rfl, hb⟩
  | false =>
    cases h2 : Lib.hasPrefix s.data.toList [50, 35] with
    | true =>
      have e : Hid (numD s.data.toList = readD 2 (Lib.trimPrefix s.data.toList [50, 35])) := by
        show _ = _
        rw [numD, if_neg (by rw [h1]; decide), if_pos h2, trim_yes h2]; rfl
      go_enter Tryd.func34, Tryd.ntmps34
      go_wp2_with (first | (go_at_call 32; go_must (refine (Tryd.strings_CutPrefix s _ _).mono ?_; rintro e w' ⟨rfl, rfl⟩)) | (go_at_call 33; go_must (refine (c4 _ _ _ (by omega)).mono ?_; rintro e w1 ⟨rfl, hb⟩)))
      go_ret2
      exact ⟨by rw [e.out]; rfl, hb⟩
    | false =>
      have e : Hid (numD s.data.toList = readD 10 s.data.toList) := by
        show _ = _
        rw [numD, if_neg (by rw [h1]; decide), if_neg (by rw [h2]; decide)]
      go_enter Tryd.func34, Tryd.ntmps34
      go_wp2_with (first | (go_at_call 32; go_must (refine (Tryd.strings_CutPrefix s _ _).mono ?_; rintro e w' ⟨rfl, rfl⟩)) | (go_at_call 33; go_must (refine (readDigits_any s _ _ (by omega) hsz).mono ?_; rintro e w1 ⟨rfl, hb⟩)))
      go_ret2
      exact ⟨by rw [e.out]; rfl, hb⟩

/-- What stands behind the word of a time. -/
def behindD (l : List UInt8) : List UInt8 × Bool :=
  if Lib.hasPrefix l [116, 105, 109, 101, 35] = true then (l.drop 5, true) else if Lib.hasPrefix l [116, 35] = true then (l.drop 2, true) else (l, false)
theorem behind_any (s : ByteArray) (w : World) :
    Calls Tryd.prog 48 #[.string s] w fun e w' => e = .returned (.tuple #[.string ⟨(behindD s.data.toList).1.toArray⟩, .bool (behindD s.data.toList).2]) ∧ w' = w := by
  cases h1 : Lib.hasPrefix s.data.toList [116, 105, 109, 101, 35] with
  | true =>
    have e : Hid (behindD s.data.toList = (Lib.trimPrefix s.data.toList [116, 105, 109, 101, 35], true)) := by
      show _ = _
      rw [behindD, if_pos h1, trim_yes h1]; rfl
    go_enter Tryd.func48, Tryd.ntmps48
    go_wp2_with (go_at_call 32; go_must (refine (Tryd.strings_CutPrefix s _ _).mono ?_; rintro e w' ⟨rfl, rfl⟩))
    go_ret2
    exact ⟨by rw [e.out]; rfl, rfl⟩
  | false =>
    cases h2 : Lib.hasPrefix s.data.toList [116, 35] with
    | true =>
      have e : Hid (behindD s.data.toList = (Lib.trimPrefix s.data.toList [116, 35], true)) := by
        show _ = _
        rw [behindD, if_neg (by rw [h1]; decide), if_pos h2, trim_yes h2]; rfl
      go_enter Tryd.func48, Tryd.ntmps48
      go_wp2_with (go_at_call 32; go_must (refine (Tryd.strings_CutPrefix s _ _).mono ?_; rintro e w' ⟨rfl, rfl⟩))
      go_ret2
      exact ⟨by rw [e.out]; rfl, rfl⟩
    | false =>
      have e : Hid (behindD s.data.toList = (Lib.trimPrefix s.data.toList [116, 35], false)) := by
        show _ = _
        rw [behindD, if_neg (by rw [h1]; decide), if_neg (by rw [h2]; decide), trim_no h2]
      go_enter Tryd.func48, Tryd.ntmps48
      go_wp2_with (go_at_call 32; go_must (refine (Tryd.strings_CutPrefix s _ _).mono ?_; rintro e w' ⟨rfl, rfl⟩))
      go_ret2
      exact ⟨by rw [e.out]; rfl, rfl⟩
end Go.Proofs.YtelgiffhgkbpeaaDoor
