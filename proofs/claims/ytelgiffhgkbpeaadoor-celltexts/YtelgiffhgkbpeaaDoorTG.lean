/- Contracts of readTime (whatever the text), readAs and Read. -/
import Derived.Test.YtelgiffhgkbpeaaDoorTF
import Derived.Lib.LaidU8
namespace Go.Proofs.YtelgiffhgkbpeaaDoor
open Go.RowKit

theorem behind_size (t : ByteArray) (h : t.size < 35184372088832) : (⟨(behindD t.data.toList).1.toArray⟩ : ByteArray).size < 35184372088832 := by
  show (behindD t.data.toList).1.toArray.size < _
  rw [List.size_toArray]
  have hl : t.data.toList.length = t.size := by rw [Array.length_toList]; rfl
  unfold behindD
  split
  · rw [List.length_drop]; omega
  · split
    · rw [List.length_drop]; omega
    · show t.data.toList.length < _; omega
theorem readTime_any (t : ByteArray) (w : World) (hsz : t.size < 35184372088832) :
    Calls Tryd.prog 31 #[.string t] w fun e w' => e = .returned (.tuple #[.int .i64 (timeD t.data.toList).1, .bool (timeD t.data.toList).2]) ∧ Below w.heap.size w w' := by
  cases hb : (behindD t.data.toList).2 with
  | true =>
    have e : timeD t.data.toList = endT (feedT t0 (behindD t.data.toList).1) := by rw [timeD, if_pos hb]
    rw [e]
    exact readTime_yes ⟨(behindD t.data.toList).1.toArray⟩ t w (behind_size t hsz) (by rw [← hb])
  | false =>
    have e : timeD t.data.toList = (0, false) := by rw [timeD, if_neg (by rw [hb]; decide)]
    rw [e]
    have cB : ∀ W, Calls Tryd.prog 48 #[.string t] W fun e w' => e = .returned (.tuple #[.string ⟨(behindD t.data.toList).1.toArray⟩, .bool false]) ∧ w' = W := fun W => by
      have := behind_any t W
      rw [hb] at this
      exact this
    clear e hb
    go_enter Tryd.func31, Tryd.ntmps31
    go_wp2_with (go_at_call 48; go_must (refine (cB _).mono ?_; rintro e w' ⟨rfl, rfl⟩))
    go_ret2
    exact ⟨rfl, Below.refl _ _⟩

theorem readD_bd (l : List UInt8) (base : Int) (hs : base = 10 ∨ base = 16 ∨ base = 2) : 0 ≤ (readD base l).1 ∧ (readD base l).1 ≤ 4294967296 := by
  have key : ∀ (l : List UInt8) (st st' : Int × Bool), 0 ≤ st.1 → st.1 ≤ 4294967296 → feed base st l = some st' → 0 ≤ st'.1 ∧ st'.1 ≤ 4294967296 := by
    intro l
    induction l with
    | nil => intro st st' h0 h1 h; cases h; exact ⟨h0, h1⟩
    | cons c t ih =>
      intro st st' h0 h1 h
      rw [feed_cons] at h
      cases hq : stepD base st c.toNat with
      | none => rw [hq] at h; cases h
      | some d =>
        rw [hq] at h
        have := stepD_bd hs h0 h1 hq
        exact ih d st' this.1 this.2 h
  unfold readD
  cases hf : feed base (0, false) l with
  | none => exact ⟨by decide, by decide⟩
  | some st => exact key l (0, false) st (by decide) (by decide) hf

set_option maxHeartbeats 1000000 in
theorem readAs_int (k : Int) (s : ByteArray) (w : World) (hk : k = 2 ∨ k = 3) (hsz : s.size < 35184372088832) :
    Calls Tryd.prog 14 #[.int .i64 k, .string s] w fun e w' => e = .returned (.tuple #[.int .i64 (asD k s.data.toList).1, .bool (asD k s.data.toList).2]) ∧ Below w.heap.size w w' := by
  have h1 : ¬ k = 1 := by omega
  have h5 : ¬ k = 5 := by omega
  cases hp : Lib.hasPrefix s.data.toList [45] with
  | true =>
    have e : Hid (asD k s.data.toList = (-(readD 10 (Lib.trimPrefix s.data.toList [45])).1, (readD 10 (Lib.trimPrefix s.data.toList [45])).2)) := by
      show _ = _
      rw [asD, if_neg h1, if_neg h5, if_pos ⟨hk, hp⟩, trim_yes hp]; rfl
    have hbd := readD_bd (Lib.trimPrefix s.data.toList [45]) 10 (.inl rfl)
    have c4 : ∀ w, Calls Tryd.prog 33 #[.string ⟨(Lib.trimPrefix s.data.toList [45]).toArray⟩, .int .i64 10] w fun e w' =>
      e = .returned (.tuple #[.int .i64 (readD 10 (Lib.trimPrefix s.data.toList [45])).1, .bool (readD 10 (Lib.trimPrefix s.data.toList [45])).2]) ∧ Below w.heap.size w w' := fun w =>
      readDigits_any ⟨(Lib.trimPrefix s.data.toList [45]).toArray⟩ 10 w (.inl rfl) (trim_size s [45] hsz)
    obtain ⟨D, hD⟩ : ∃ D, readD 10 (Lib.trimPrefix s.data.toList [45]) = D := ⟨_, rfl⟩
    rw [hD] at e hbd c4
    clear hD
    rcases hk with rfl | rfl
    all_goals go_enter Tryd.func14, Tryd.ntmps14
    all_goals go_wp2_with (first | (go_at_call 32; go_must (refine (Tryd.strings_CutPrefix s _ _).mono ?_; rintro e w' ⟨rfl, rfl⟩)) | (go_at_call 33; go_must (refine (c4 _).mono ?_; rintro e w1 ⟨rfl, hb⟩)))
    all_goals go_ret2
    all_goals exact ⟨by rw [e.out]; rfl, hb⟩
  | false =>
    have e : Hid (asD k s.data.toList = numD s.data.toList) := by
      show _ = _
      rw [asD, if_neg h1, if_neg h5, if_neg (by rw [hp]; simp)]
    rcases hk with rfl | rfl
    all_goals go_enter Tryd.func14, Tryd.ntmps14
    all_goals go_wp2_with (first | (go_at_call 32; go_must (refine (Tryd.strings_CutPrefix s _ _).mono ?_; rintro e w' ⟨rfl, rfl⟩)) | (go_at_call 34; go_must (refine (readNumber_any s _ hsz).mono ?_; rintro e w1 ⟨rfl, hb⟩)))
    all_goals go_ret2
    all_goals exact ⟨by rw [e.out]; rfl, hb⟩

set_option maxHeartbeats 1000000 in
theorem readAs_any (k : Int) (s : ByteArray) (w : World) (hk : isK k = true) (hsz : s.size < 35184372088832) :
    Calls Tryd.prog 14 #[.int .i64 k, .string s] w fun e w' => e = .returned (.tuple #[.int .i64 (asD k s.data.toList).1, .bool (asD k s.data.toList).2]) ∧ Below w.heap.size w w' := by
  have hk' : k = 1 ∨ k = 2 ∨ k = 3 ∨ k = 4 ∨ k = 5 := by
    simp only [isK, Bool.and_eq_true, decide_eq_true_eq] at hk; omega
  clear hk
  rcases hk' with rfl | rfl | rfl | rfl | rfl
  · have e : asD 1 s.data.toList = (tru (s.toList == [116, 114, 117, 101]), s.toList == [116, 114, 117, 101] || s.toList == [102, 97, 108, 115, 101]) := by rw [ByteArray.toList_eq]; rfl
    rw [e]
    clear e
    cases h1 : (s.toList == [116, 114, 117, 101]) with
    | true =>
      go_enter Tryd.func14, Tryd.ntmps14
      go_wp2_with (go_at_call 30; go_must (refine (truth_any _ _).mono ?_; rintro e w' ⟨rfl, rfl⟩))
      go_ret2
      exact ⟨rfl, Below.refl _ _⟩
    | false =>
      go_enter Tryd.func14, Tryd.ntmps14
      go_wp2_with (go_at_call 30; go_must (refine (truth_any _ _).mono ?_; rintro e w' ⟨rfl, rfl⟩))
      go_ret2
      exact ⟨rfl, Below.refl _ _⟩
  · exact readAs_int 2 s w (.inl rfl) hsz
  · exact readAs_int 3 s w (.inr rfl) hsz
  · have e : asD 4 s.data.toList = numD s.data.toList := rfl
    rw [e]
    clear e
    go_enter Tryd.func14, Tryd.ntmps14
    go_wp2_with (go_at_call 34; go_must (refine (readNumber_any s _ hsz).mono ?_; rintro e w' ⟨rfl, hb⟩))
    go_ret2
    exact ⟨rfl, hb⟩
  · have e : asD 5 s.data.toList = timeD s.data.toList := rfl
    rw [e]
    clear e
    go_enter Tryd.func14, Tryd.ntmps14
    go_wp2_with (go_at_call 31; go_must (refine (readTime_any s _ hsz).mono ?_; rintro e w' ⟨rfl, hb⟩))
    go_ret2
    exact ⟨rfl, hb⟩

/-- What Read answers. -/
def readE (k : Int) (l : List UInt8) (n : Nat) : Int × Int :=
  if isK k = true then (if 40 < n then (0, 2) else if (asD k l).2 = true then (if fitsK k (asD k l).1 = true then ((asD k l).1, 0) else (0, 3)) else (0, 1)) else (0, 5)

theorem small_grows (w : World) : MapGrows Tryd.prog 16 #[] smallI w := fun W x hx _ =>
  (small_any (x : Int) W (by omega) (by omega)).mono fun _ _ ⟨he, hw⟩ => ⟨he, hw ▸ Below.refl _ _⟩
theorem small_range (x : Nat) (h : x ≤ 1114111) : -2147483648 ≤ smallI x ∧ smallI x ≤ 2147483647 := by unfold smallI; split <;> omega
theorem map_any (s : ByteArray) (w : World) (hsz : s.size < 35184372088832) (hT : Lib.Utf8Tabs 0 1 w) :
    Calls Tryd.prog 15 #[.func (.func 16) #[] #[], .string s] w fun e w' => e = .returned (.string ⟨(mapS s.data.toList).toArray⟩) ∧ Below w.heap.size w w' :=
  Tryd.strings_Map_grows 16 #[] (enters_of Tryd.func16 (by kernel_rfl) rfl) smallI s w hsz (small_grows w) small_range hT

set_option maxHeartbeats 1000000 in
theorem read_any (k : Int) (s : ByteArray) (w : World) (hT : Lib.Utf8Tabs 0 1 w) (hmax : s.size ≤ 9223372036854775807) :
    Calls Tryd.prog 5 #[.int .i64 k, .string s] w fun e w' => e = .returned (.tuple #[.int .i64 (readE k (mapS s.data.toList) s.size).1, .int .i64 (readE k (mapS s.data.toList) s.size).2]) ∧ Below w.heap.size w w' := by
  cases hk : isK k with
  | false =>
    have e : readE k (mapS s.data.toList) s.size = (0, 5) := by rw [readE, if_neg (by rw [hk]; decide)]
    rw [e]
    clear e
    go_enter Tryd.func5, Tryd.ntmps5
    go_wp2_with (go_at_call 13; go_must (refine (isKind_any _ _).mono ?_; rintro e w' ⟨rfl, rfl⟩))
    go_ret2
    exact ⟨rfl, Below.refl _ _⟩
  | true =>
    by_cases hl : 40 < s.size
    · have e : readE k (mapS s.data.toList) s.size = (0, 2) := by rw [readE, if_pos hk, if_pos hl]
      rw [e]
      clear e
      go_enter Tryd.func5, Tryd.ntmps5
      go_wp2_with (go_at_call 13; go_must (refine (isKind_any _ _).mono ?_; rintro e w' ⟨rfl, rfl⟩))
      go_ret2
      exact ⟨rfl, Below.refl _ _⟩
    · have hs1 : s.size < 35184372088832 := by omega
      have hlen : s.data.toList.length = s.size := by rw [Array.length_toList]; rfl
      have hs2 : (⟨(mapS s.data.toList).toArray⟩ : ByteArray).size < 35184372088832 := by
        show (mapS s.data.toList).toArray.size < _
        rw [List.size_toArray]
        have := mapS_len s.data.toList.length s.data.toList (Nat.le_refl _)
        omega
      have cA := fun W => readAs_any k ⟨(mapS s.data.toList).toArray⟩ W hk hs2
      have cM := fun W h => map_any s W hs1 h
      have e : Hid (readE k (mapS s.data.toList) s.size = if (asD k (mapS s.data.toList)).2 = true then (if fitsK k (asD k (mapS s.data.toList)).1 = true then ((asD k (mapS s.data.toList)).1, 0) else (0, 3)) else (0, 1)) := by
        show _ = _
        rw [readE, if_pos hk, if_neg hl]
      change ∀ W, Calls Tryd.prog 14 #[.int .i64 k, .string ⟨(mapS s.data.toList).toArray⟩] W fun e w' => e = .returned (.tuple #[.int .i64 (asD k (mapS s.data.toList)).1, .bool (asD k (mapS s.data.toList)).2]) ∧ Below W.heap.size W w' at cA
      obtain ⟨M, hM⟩ : ∃ M, mapS s.data.toList = M := ⟨_, rfl⟩
      rw [hM] at cA cM e ⊢
      obtain ⟨D, hD⟩ : ∃ D, asD k M = D := ⟨_, rfl⟩
      rw [hD] at cA e
      clear hD hM hs2
      cases h2 : D.2 with
      | false =>
        go_enter Tryd.func5, Tryd.ntmps5
        go_wp2_with (first | (go_at_call 13; go_must (refine (isKind_any _ _).mono ?_; rintro e w' ⟨rfl, rfl⟩)) | (go_at_call 15; go_must (refine (cM _ hT).mono ?_; rintro e w1 ⟨rfl, hb1⟩)) | (go_at_call 14; go_must (refine (cA _).mono ?_; rintro e w2 ⟨rfl, hb2⟩)))
        go_ret2
        exact ⟨by rw [e.out, h2]; rfl, hb1.trans (hb2.mono hb1.size)⟩
      | true =>
        cases h3 : fitsK k D.1 with
        | false =>
          go_enter Tryd.func5, Tryd.ntmps5
          go_wp2_with (first | (go_at_call 13; go_must (refine (isKind_any _ _).mono ?_; rintro e w' ⟨rfl, rfl⟩)) | (go_at_call 15; go_must (refine (cM _ hT).mono ?_; rintro e w1 ⟨rfl, hb1⟩)) | (go_at_call 14; go_must (refine (cA _).mono ?_; rintro e w2 ⟨rfl, hb2⟩)) | (go_at_call 9; go_must (refine (fits_any _ _ _).mono ?_; rintro e w' ⟨rfl, rfl⟩)))
          go_ret2
          exact ⟨by rw [e.out, h2, h3]; rfl, hb1.trans (hb2.mono hb1.size)⟩
        | true =>
          go_enter Tryd.func5, Tryd.ntmps5
          go_wp2_with (first | (go_at_call 13; go_must (refine (isKind_any _ _).mono ?_; rintro e w' ⟨rfl, rfl⟩)) | (go_at_call 15; go_must (refine (cM _ hT).mono ?_; rintro e w1 ⟨rfl, hb1⟩)) | (go_at_call 14; go_must (refine (cA _).mono ?_; rintro e w2 ⟨rfl, hb2⟩)) | (go_at_call 9; go_must (refine (fits_any _ _ _).mono ?_; rintro e w' ⟨rfl, rfl⟩)))
          go_ret2
          exact ⟨by rw [e.out, h2, h3]; rfl, hb1.trans (hb2.mono hb1.size)⟩
end Go.Proofs.YtelgiffhgkbpeaaDoor
