/- The document's answer: a time's literal, and ReadValue. -/
import Derived.Test.YtelgiffhgkbpeaaDoorRF5
import Derived.Test.YtelgiffhgkbpeaaDoorRF2a
import Derived.Test.YtelgiffhgkbpeaaDoorRF2b
import Derived.Test.YtelgiffhgkbpeaaDoorRD
namespace Go.Proofs.YtelgiffhgkbpeaaDoor
open Go.RowKit

def spanT (l : List UInt8) : Int × Bool :=
  if 5 ≤ l.length ∧ (l.take 5 == [116, 105, 109, 101, 35]) = true then (if l.length = 5 then (0, false) else spanR l.length 0 5 (l.drop 5))
  else if l.length < 2 ∨ (l.take 2 == [116, 35]) = false then (0, false) else if l.length = 2 then (0, false) else spanR l.length 0 5 (l.drop 2)

set_option maxHeartbeats 2000000 in
theorem span_any (s : ByteArray) (w : World) (hsz : s.size ≤ 40) :
    Calls Tryd.prog 20 #[.string s] w fun e w' => e = .returned (.tuple #[.int .i64 (spanT s.data.toList).1, .bool (spanT s.data.toList).2]) ∧ Below w.heap.size w w' := by
  have hl : s.data.toList.length = s.size := by rw [Array.length_toList]; rfl
  unfold spanT
  rw [hl, ← take_ext, ← take_ext]
  by_cases h5 : 5 ≤ s.size
  · cases hp : ((s.extract 0 5).toList == [116, 105, 109, 101, 35]) with
    | true =>
      rw [if_pos ⟨h5, rfl⟩]
      by_cases he : s.size = 5
      · rw [if_pos he]
        go_enter Tryd.func20, Tryd.ntmps20
        go_wp2
        go_ret2
        exact ⟨rfl, Below.refl _ _⟩
      · rw [if_neg he]
        exact loop5_any s w hsz (by omega) hp
    | false =>
      rw [if_neg (by simp)]
      cases hq : ((s.extract 0 2).toList == [116, 35]) with
      | false =>
        rw [if_pos (.inr rfl)]
        go_enter Tryd.func20, Tryd.ntmps20
        go_wp2
        go_ret2
        exact ⟨rfl, Below.refl _ _⟩
      | true =>
        rw [if_neg (by simp; omega), if_neg (by omega)]
        exact loop2b_any s w hsz (by omega) h5 hp hq
  · rw [if_neg (by omega)]
    by_cases h2 : s.size < 2
    · rw [if_pos (.inl h2)]
      go_enter Tryd.func20, Tryd.ntmps20
      go_wp2
      go_ret2
      exact ⟨rfl, Below.refl _ _⟩
    · cases hq : ((s.extract 0 2).toList == [116, 35]) with
      | false =>
        rw [if_pos (.inr rfl)]
        go_enter Tryd.func20, Tryd.ntmps20
        go_wp2
        go_ret2
        exact ⟨rfl, Below.refl _ _⟩
      | true =>
        rw [if_neg (by simp; omega)]
        by_cases he : s.size = 2
        · rw [if_pos he]
          go_enter Tryd.func20, Tryd.ntmps20
          go_wp2
          go_ret2
          exact ⟨rfl, Below.refl _ _⟩
        · rw [if_neg he]
          exact loop2a_any s w hsz (by omega) (by omega) hq

def asR (k : Int) (l : List UInt8) : Int × Bool :=
  if k = 1 then (tru (l == [116, 114, 117, 101]), l == [116, 114, 117, 101] || l == [102, 97, 108, 115, 101])
  else if k = 5 then spanT l
  else if k ≠ 4 ∧ (l.headD 0).toNat = 45 then (-(outR 10 l 1).1, (outR 10 l 1).2) else numR l
def readR (k : Int) (l : List UInt8) (n : Nat) : Int × Int :=
  if isK k = true then (if 40 < n then (0, 2) else if (asR k l).2 = true then (if fitsK k (asR k l).1 = true then ((asR k l).1, 0) else (0, 3)) else (0, 1)) else (0, 5)

theorem wide_not (k : Int) (h : isK k = true) : (wideS k == 0) = false := by rw [wide_is, h]; rfl
theorem wide_yes (k : Int) (h : isK k = false) : (wideS k == 0) = true := by rw [wide_is, h]; rfl
theorem low_size (s : ByteArray) : (⟨(lowL s.data.toList).toArray⟩ : ByteArray).size = s.size := by
  show (lowL s.data.toList).toArray.size = _
  rw [List.size_toArray, lowL, Lib.toLowerA, List.length_map, Array.length_toList]; rfl

set_option maxHeartbeats 2000000 in
/-- The end of ReadValue, where the text has been made small: of kinds 5 and 1. -/
theorem rread_15 (k : Int) (s : ByteArray) (w : World) (hk : k = 1 ∨ k = 5) (hsz : s.size ≤ 40) :
    Calls Tryd.prog 6 #[.int .i64 k, .string s] w fun e w' => e = .returned (.tuple #[.int .i64 (readR k (lowL s.data.toList) s.size).1, .int .i64 (readR k (lowL s.data.toList) s.size).2]) ∧ Below w.heap.size w w' := by
  have hK : isK k = true := by simp [isK]; omega
  have hw := wide_not k hK
  obtain ⟨R, hR⟩ : ∃ R, readR k (lowL s.data.toList) s.size = R := ⟨_, rfl⟩
  rw [hR]
  have e : Hid (R = if (asR k (lowL s.data.toList)).2 = true then (if fitsK k (asR k (lowL s.data.toList)).1 = true then ((asR k (lowL s.data.toList)).1, 0) else (0, 3)) else (0, 1)) := by
    show _ = _
    rw [← hR, readR, if_pos hK, if_neg (by omega)]
  clear hR
  have cL := lower_any s w hsz
  have cS := fun W => span_any ⟨(lowL s.data.toList).toArray⟩ W (by rw [low_size]; exact hsz)
  change ∀ W, Calls Tryd.prog 20 #[.string ⟨(lowL s.data.toList).toArray⟩] W fun e w' => e = .returned (.tuple #[.int .i64 (spanT (lowL s.data.toList)).1, .bool (spanT (lowL s.data.toList)).2]) ∧ Below W.heap.size W w' at cS
  have hlist : (⟨(lowL s.data.toList).toArray⟩ : ByteArray).toList = lowL s.data.toList := by rw [ByteArray.toList_eq]
  rcases hk with rfl | rfl
  · have ea : asR 1 (lowL s.data.toList) = (tru (lowL s.data.toList == [116, 114, 117, 101]), lowL s.data.toList == [116, 114, 117, 101] || lowL s.data.toList == [102, 97, 108, 115, 101]) := rfl
    rw [ea] at e
    rw [← hlist] at e
    obtain ⟨M, hM⟩ : ∃ M, (⟨(lowL s.data.toList).toArray⟩ : ByteArray) = M := ⟨_, rfl⟩
    rw [hM] at cL e
    clear cS hM ea hlist
    have hf1 : fitsK 1 (tru true) = true := by decide
    have hf0 : fitsK 1 (tru false) = true := by decide
    cases t1 : (M.toList == [116, 114, 117, 101]) with
    | true =>
      rw [t1] at e
      go_enter Tryd.func6, Tryd.ntmps6
      go_wp2_with (first | (go_at_call 17; go_must (refine (width_any _ _).mono ?_; rintro e w' ⟨rfl, rfl⟩)) | (go_at_call 18; go_must (refine cL.mono ?_; rintro e w1 ⟨rfl, hb⟩)) | (go_at_call 19; go_must (refine (yes_any _ _).mono ?_; rintro e w' ⟨rfl, rfl⟩)) | (go_at_call 23; go_must (refine (rfits_any _ _ _).mono ?_; rintro e w' ⟨rfl, rfl⟩)))
      all_goals go_ret2
      all_goals exact ⟨by rw [e.out]; rfl, hb⟩
    | false =>
      cases t2 : (M.toList == [102, 97, 108, 115, 101]) with
      | true =>
        rw [t1, t2] at e
        go_enter Tryd.func6, Tryd.ntmps6
        go_wp2_with (first | (go_at_call 17; go_must (refine (width_any _ _).mono ?_; rintro e w' ⟨rfl, rfl⟩)) | (go_at_call 18; go_must (refine cL.mono ?_; rintro e w1 ⟨rfl, hb⟩)) | (go_at_call 19; go_must (refine (yes_any _ _).mono ?_; rintro e w' ⟨rfl, rfl⟩)) | (go_at_call 23; go_must (refine (rfits_any _ _ _).mono ?_; rintro e w' ⟨rfl, rfl⟩)))
        all_goals go_ret2
        all_goals exact ⟨by rw [e.out]; rfl, hb⟩
      | false =>
        rw [t1, t2] at e
        go_enter Tryd.func6, Tryd.ntmps6
        go_wp2_with (first | (go_at_call 17; go_must (refine (width_any _ _).mono ?_; rintro e w' ⟨rfl, rfl⟩)) | (go_at_call 18; go_must (refine cL.mono ?_; rintro e w1 ⟨rfl, hb⟩)) | (go_at_call 19; go_must (refine (yes_any _ _).mono ?_; rintro e w' ⟨rfl, rfl⟩)) | (go_at_call 23; go_must (refine (rfits_any _ _ _).mono ?_; rintro e w' ⟨rfl, rfl⟩)))
        all_goals go_ret2
        all_goals exact ⟨by rw [e.out]; rfl, hb⟩
  · have ea : asR 5 (lowL s.data.toList) = spanT (lowL s.data.toList) := rfl
    rw [ea] at e
    obtain ⟨M, hM⟩ : ∃ M, (⟨(lowL s.data.toList).toArray⟩ : ByteArray) = M := ⟨_, rfl⟩
    obtain ⟨D, hD⟩ : ∃ D, spanT (lowL s.data.toList) = D := ⟨_, rfl⟩
    rw [hD] at cS e
    rw [hM] at cL cS
    clear hM hD ea hlist
    cases t1 : D.2 with
    | false =>
      rw [t1] at e cS
      go_enter Tryd.func6, Tryd.ntmps6
      go_wp2_with (first | (go_at_call 17; go_must (refine (width_any _ _).mono ?_; rintro e w' ⟨rfl, rfl⟩)) | (go_at_call 18; go_must (refine cL.mono ?_; rintro e w1 ⟨rfl, hb⟩)) | (go_at_call 20; go_must (refine (cS _).mono ?_; rintro e w2 ⟨rfl, hb2⟩)) | (go_at_call 23; go_must (refine (rfits_any _ _ _).mono ?_; rintro e w' ⟨rfl, rfl⟩)))
      all_goals go_ret2
      all_goals exact ⟨by rw [e.out]; rfl, hb.trans (hb2.mono hb.size)⟩
    | true =>
      rw [t1] at e cS
      cases t2 : fitsK 5 D.1 with
      | false =>
        rw [t2] at e
        go_enter Tryd.func6, Tryd.ntmps6
        go_wp2_with (first | (go_at_call 17; go_must (refine (width_any _ _).mono ?_; rintro e w' ⟨rfl, rfl⟩)) | (go_at_call 18; go_must (refine cL.mono ?_; rintro e w1 ⟨rfl, hb⟩)) | (go_at_call 20; go_must (refine (cS _).mono ?_; rintro e w2 ⟨rfl, hb2⟩)) | (go_at_call 23; go_must (refine (rfits_any _ _ _).mono ?_; rintro e w' ⟨rfl, rfl⟩)))
        all_goals go_ret2
        all_goals exact ⟨by rw [e.out]; rfl, hb.trans (hb2.mono hb.size)⟩
      | true =>
        rw [t2] at e
        go_enter Tryd.func6, Tryd.ntmps6
        go_wp2_with (first | (go_at_call 17; go_must (refine (width_any _ _).mono ?_; rintro e w' ⟨rfl, rfl⟩)) | (go_at_call 18; go_must (refine cL.mono ?_; rintro e w1 ⟨rfl, hb⟩)) | (go_at_call 20; go_must (refine (cS _).mono ?_; rintro e w2 ⟨rfl, hb2⟩)) | (go_at_call 23; go_must (refine (rfits_any _ _ _).mono ?_; rintro e w' ⟨rfl, rfl⟩)))
        all_goals go_ret2
        all_goals exact ⟨by rw [e.out]; rfl, hb.trans (hb2.mono hb.size)⟩

theorem headD_at (M : ByteArray) (h : 0 < M.size) : (M.data.toList.headD 0) = M[0]'h := by
  have := drop_at M 0 h
  rw [List.drop_zero] at this
  rw [this]; rfl
set_option maxHeartbeats 4000000 in
/-- ReadValue of kinds 2, 3 and 4. -/
theorem rread_234 (k : Int) (s : ByteArray) (w : World) (hk : k = 2 ∨ k = 3 ∨ k = 4) (hsz : s.size ≤ 40) :
    Calls Tryd.prog 6 #[.int .i64 k, .string s] w fun e w' => e = .returned (.tuple #[.int .i64 (readR k (lowL s.data.toList) s.size).1, .int .i64 (readR k (lowL s.data.toList) s.size).2]) ∧ Below w.heap.size w w' := by
  have hK : isK k = true := by simp [isK]; omega
  have hw := wide_not k hK
  obtain ⟨R, hR⟩ : ∃ R, readR k (lowL s.data.toList) s.size = R := ⟨_, rfl⟩
  rw [hR]
  have e : Hid (R = if (asR k (lowL s.data.toList)).2 = true then (if fitsK k (asR k (lowL s.data.toList)).1 = true then ((asR k (lowL s.data.toList)).1, 0) else (0, 3)) else (0, 1)) := by
    show _ = _
    rw [← hR, readR, if_pos hK, if_neg (by omega)]
  clear hR
  have cL := lower_any s w hsz
  obtain ⟨M, hM⟩ : ∃ M, (⟨(lowL s.data.toList).toArray⟩ : ByteArray) = M := ⟨_, rfl⟩
  have hML : lowL s.data.toList = M.data.toList := by rw [← hM]
  have hM40 : M.size ≤ 40 := by rw [← hM, low_size s]; exact hsz
  rw [hM] at cL
  rw [hML] at e
  have hml : M.data.toList.length = M.size := by rw [Array.length_toList]; rfl
  have cN := fun W => number_any M W (by omega)
  by_cases hneg : k ≠ 4 ∧ (M.data.toList.headD 0).toNat = 45
  · have ea : asR k M.data.toList = (-(outR 10 M.data.toList 1).1, (outR 10 M.data.toList 1).2) := by rw [asR, if_neg (by omega), if_neg (by omega), if_pos hneg]
    have hpos : 0 < M.size := by
      apply Classical.byContradiction
      intro h
      have h0 : M.data.toList = [] := List.eq_nil_of_length_eq_zero (by omega)
      rw [h0] at hneg
      exact absurd hneg.2 (by decide)
    have hc : (M[0]'hpos).toNat = 45 := by rw [← headD_at M hpos]; exact hneg.2
    have c := fun W => run10_any M 1 W (by omega) (by omega)
    rw [ea] at e
    have eo : outR 10 M.data.toList 1 = ((feedR 10 r0 (M.data.toList.drop 1)).1.n, endR (feedR 10 r0 (M.data.toList.drop 1)).1 && ((1 + (feedR 10 r0 (M.data.toList.drop 1)).2 : Nat) : Int) == (M.size : Int)) := by
      rw [outR, hml]
      congr 2
      by_cases h : 1 + (feedR 10 r0 (M.data.toList.drop 1)).2 = M.size
      · rw [h]; simp
      · rw [beq_eq_false_iff_ne.2 h, beq_eq_false_iff_ne.2]; omega
    have hn := feedR_n 10 (.inl rfl) (M.data.toList.drop 1) r0 (by decide) (by decide)
    obtain ⟨N, hN⟩ : ∃ N, feedR 10 r0 (M.data.toList.drop 1) = N := ⟨_, rfl⟩
    rw [hN] at c eo hn
    obtain ⟨Z, hZ⟩ : ∃ Z : Int, ((1 + N.2 : Nat) : Int) = Z := ⟨_, rfl⟩
    rw [hZ] at c eo
    rw [eo] at e
    obtain ⟨n0, n1⟩ := hn
    have hk4 : (k != 4) = true := by simp; exact hneg.1
    change ∀ W, Calls Tryd.prog 21 #[.string M, .int .i64 1, .int .i64 10] W _ at c
    obtain ⟨P, hP⟩ : ∃ P : Bool, (Z == (M.size : Int)) = P := ⟨_, rfl⟩
    rw [hP] at e
    clear eo hN hZ ea hML hM hml cN hneg
    cases t1 : endR N.1 with
    | false =>
      rw [t1] at e c
      rcases hk with rfl | rfl | rfl
      all_goals go_enter Tryd.func6, Tryd.ntmps6
      all_goals go_wp2_with (first | (go_at_call 17; go_must (refine (width_any _ _).mono ?_; rintro e w' ⟨rfl, rfl⟩)) | (go_at_call 18; go_must (refine cL.mono ?_; rintro e w1 ⟨rfl, hb⟩)) | (go_at_call 21; go_must (refine (c _).mono ?_; rintro e w' ⟨rfl, rfl⟩)) | (go_at_call 23; go_must (refine (rfits_any _ _ _).mono ?_; rintro e w' ⟨rfl, rfl⟩)))
      all_goals go_ret2
      all_goals exact ⟨by rw [e.out]; rfl, hb⟩
    | true =>
      cases P with
      | false =>
        rw [t1] at e c
        rcases hk with rfl | rfl | rfl
        all_goals go_enter Tryd.func6, Tryd.ntmps6
        all_goals go_wp2_with (first | (go_at_call 17; go_must (refine (width_any _ _).mono ?_; rintro e w' ⟨rfl, rfl⟩)) | (go_at_call 18; go_must (refine cL.mono ?_; rintro e w1 ⟨rfl, hb⟩)) | (go_at_call 21; go_must (refine (c _).mono ?_; rintro e w' ⟨rfl, rfl⟩)) | (go_at_call 23; go_must (refine (rfits_any _ _ _).mono ?_; rintro e w' ⟨rfl, rfl⟩)))
        all_goals go_ret2
        all_goals exact ⟨by rw [e.out]; rfl, hb⟩
      | true =>
        cases t2 : fitsK k (-N.1.n) with
        | false =>
          rw [t1, t2] at e
          rw [t1] at c
          rcases hk with rfl | rfl | rfl
          all_goals go_enter Tryd.func6, Tryd.ntmps6
          all_goals go_wp2_with (first | (go_at_call 17; go_must (refine (width_any _ _).mono ?_; rintro e w' ⟨rfl, rfl⟩)) | (go_at_call 18; go_must (refine cL.mono ?_; rintro e w1 ⟨rfl, hb⟩)) | (go_at_call 21; go_must (refine (c _).mono ?_; rintro e w' ⟨rfl, rfl⟩)) | (go_at_call 23; go_must (refine (rfits_any _ _ _).mono ?_; rintro e w' ⟨rfl, rfl⟩)))
          all_goals go_ret2
          all_goals exact ⟨by rw [e.out]; rfl, hb⟩
        | true =>
          rw [t1, t2] at e
          rw [t1] at c
          rcases hk with rfl | rfl | rfl
          all_goals go_enter Tryd.func6, Tryd.ntmps6
          all_goals go_wp2_with (first | (go_at_call 17; go_must (refine (width_any _ _).mono ?_; rintro e w' ⟨rfl, rfl⟩)) | (go_at_call 18; go_must (refine cL.mono ?_; rintro e w1 ⟨rfl, hb⟩)) | (go_at_call 21; go_must (refine (c _).mono ?_; rintro e w' ⟨rfl, rfl⟩)) | (go_at_call 23; go_must (refine (rfits_any _ _ _).mono ?_; rintro e w' ⟨rfl, rfl⟩)))
          all_goals go_ret2
          all_goals exact ⟨by rw [e.out]; rfl, hb⟩
  · have ea : asR k M.data.toList = numR M.data.toList := by rw [asR, if_neg (by omega), if_neg (by omega), if_neg hneg]
    rw [ea] at e
    have hway : (k = 4) ∨ (¬ k = 4 ∧ ¬ 0 < M.size) ∨ (¬ k = 4 ∧ ∃ h : 0 < M.size, (((M[0]'h).toNat : Int) == 45) = false) := by
      by_cases h4 : k = 4
      · exact .inl h4
      · by_cases hp : 0 < M.size
        · refine .inr (.inr ⟨h4, hp, ?_⟩)
          rw [headD_at M hp] at hneg
          rw [beq_eq_false_iff_ne]
          intro h
          exact hneg ⟨h4, by omega⟩
        · exact .inr (.inl ⟨h4, hp⟩)
    obtain ⟨D, hD⟩ : ∃ D, numR M.data.toList = D := ⟨_, rfl⟩
    rw [hD] at e cN
    clear ea hneg hD hML hM hml
    cases t1 : D.2 with
    | false =>
      rw [t1] at e cN
      rcases hway with rfl | ⟨h4, hp⟩ | ⟨h4, hp, hc⟩
      · clear hk
        go_enter Tryd.func6, Tryd.ntmps6
        go_wp2_with (first | (go_at_call 17; go_must (refine (width_any _ _).mono ?_; rintro e w' ⟨rfl, rfl⟩)) | (go_at_call 18; go_must (refine cL.mono ?_; rintro e w1 ⟨rfl, hb⟩)) | (go_at_call 22; go_must (refine (cN _).mono ?_; rintro e w' ⟨rfl, rfl⟩)) | (go_at_call 23; go_must (refine (rfits_any _ _ _).mono ?_; rintro e w' ⟨rfl, rfl⟩)))
        all_goals go_ret2
        all_goals exact ⟨by rw [e.out]; rfl, hb⟩
      all_goals
        rcases hk with rfl | rfl | rfl
        all_goals first | (exfalso; omega) | skip
        all_goals go_enter Tryd.func6, Tryd.ntmps6
        all_goals go_wp2_with (first | (go_at_call 17; go_must (refine (width_any _ _).mono ?_; rintro e w' ⟨rfl, rfl⟩)) | (go_at_call 18; go_must (refine cL.mono ?_; rintro e w1 ⟨rfl, hb⟩)) | (go_at_call 22; go_must (refine (cN _).mono ?_; rintro e w' ⟨rfl, rfl⟩)) | (go_at_call 23; go_must (refine (rfits_any _ _ _).mono ?_; rintro e w' ⟨rfl, rfl⟩)))
        all_goals go_ret2
        all_goals exact ⟨by rw [e.out]; rfl, hb⟩
    | true =>
      rw [t1] at e cN
      cases t2 : fitsK k D.1
      all_goals rw [t2] at e
      all_goals rcases hk with rfl | rfl | rfl
      all_goals rcases hway with h4 | ⟨h4, hp⟩ | ⟨h4, hp, hc⟩
      all_goals first | (exfalso; omega) | skip
      all_goals go_enter Tryd.func6, Tryd.ntmps6
      all_goals go_wp2_with (first | (go_at_call 17; go_must (refine (width_any _ _).mono ?_; rintro e w' ⟨rfl, rfl⟩)) | (go_at_call 18; go_must (refine cL.mono ?_; rintro e w1 ⟨rfl, hb⟩)) | (go_at_call 22; go_must (refine (cN _).mono ?_; rintro e w' ⟨rfl, rfl⟩)) | (go_at_call 23; go_must (refine (rfits_any _ _ _).mono ?_; rintro e w' ⟨rfl, rfl⟩)))
      all_goals go_ret2
      all_goals exact ⟨by rw [e.out]; rfl, hb⟩

set_option maxHeartbeats 1000000 in
theorem rread_any (k : Int) (s : ByteArray) (w : World) (hmax : s.size ≤ 9223372036854775807) :
    Calls Tryd.prog 6 #[.int .i64 k, .string s] w fun e w' => e = .returned (.tuple #[.int .i64 (readR k (lowL s.data.toList) s.size).1, .int .i64 (readR k (lowL s.data.toList) s.size).2]) ∧ Below w.heap.size w w' := by
  cases hk : isK k with
  | false =>
    have e : readR k (lowL s.data.toList) s.size = (0, 5) := by rw [readR, if_neg (by rw [hk]; decide)]
    rw [e]
    have hw := wide_yes k hk
    clear e
    go_enter Tryd.func6, Tryd.ntmps6
    go_wp2_with (go_at_call 17; go_must (refine (width_any _ _).mono ?_; rintro e w' ⟨rfl, rfl⟩))
    go_ret2
    exact ⟨rfl, Below.refl _ _⟩
  | true =>
    by_cases hl : 40 < s.size
    · have e : readR k (lowL s.data.toList) s.size = (0, 2) := by rw [readR, if_pos hk, if_pos hl]
      rw [e]
      have hw := wide_not k hk
      clear e
      go_enter Tryd.func6, Tryd.ntmps6
      go_wp2_with (go_at_call 17; go_must (refine (width_any _ _).mono ?_; rintro e w' ⟨rfl, rfl⟩))
      go_ret2
      exact ⟨rfl, Below.refl _ _⟩
    · have hk' : k = 1 ∨ k = 2 ∨ k = 3 ∨ k = 4 ∨ k = 5 := by
        simp only [isK, Bool.and_eq_true, decide_eq_true_eq] at hk; omega
      by_cases h15 : k = 1 ∨ k = 5
      · exact rread_15 k s w h15 (by omega)
      · exact rread_234 k s w (by omega) (by omega)
end Go.Proofs.YtelgiffhgkbpeaaDoor
