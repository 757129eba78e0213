/- The document's answer: Number. -/
import Derived.Test.YtelgiffhgkbpeaaDoorRB10
import Derived.Test.YtelgiffhgkbpeaaDoorRB16
import Derived.Test.YtelgiffhgkbpeaaDoorRB2
import Derived.Test.YtelgiffhgkbpeaaDoorRC
namespace Go.Proofs.YtelgiffhgkbpeaaDoor
open Go.RowKit

def outR (base : Int) (l : List UInt8) (at0 : Nat) : Int × Bool := ((feedR base r0 (l.drop at0)).1.n, endR (feedR base r0 (l.drop at0)).1 && at0 + (feedR base r0 (l.drop at0)).2 == l.length)
def numR (l : List UInt8) : Int × Bool :=
  if 3 < l.length ∧ (l.take 3 == [49, 54, 35]) = true then outR 16 l 3 else if 2 < l.length ∧ (l.take 2 == [50, 35]) = true then outR 2 l 2 else outR 10 l 0
theorem take_ext (s : ByteArray) (n : Nat) : (s.extract 0 n).toList = s.data.toList.take n := by
  rw [ByteArray.toList_eq, ByteArray.data_extract, Array.toList_extract]
  simp

set_option maxHeartbeats 2000000 in
theorem number_any (s : ByteArray) (w : World) (hsz : s.size < 35184372088832) :
    Calls Tryd.prog 22 #[.string s] w fun e w' => e = .returned (.tuple #[.int .i64 (numR s.data.toList).1, .bool (numR s.data.toList).2]) ∧ w' = w := by
  have hl : s.data.toList.length = s.size := by rw [Array.length_toList]; rfl
  have fin : ∀ (base : Int) (at0 : Nat) (N : RSt × Nat), (endR N.1 && at0 + N.2 == s.size) = (endR N.1 && ((at0 + N.2 : Nat) : Int) == (s.size : Int)) := fun base at0 N => by
    congr 1
    by_cases h : at0 + N.2 = s.size
    · rw [h]; simp
    · rw [beq_eq_false_iff_ne.2 h, beq_eq_false_iff_ne.2]; omega
  by_cases h1 : 3 < s.size ∧ (s.data.toList.take 3 == [49, 54, 35]) = true
  · have e : numR s.data.toList = outR 16 s.data.toList 3 := by rw [numR, if_pos (by rw [hl]; exact h1)]
    have c := fun W => run16_any s 3 W hsz (by omega)
    have E : Hid (outR 16 s.data.toList 3 = ((feedR 16 r0 (s.data.toList.drop 3)).1.n, endR (feedR 16 r0 (s.data.toList.drop 3)).1 && ((3 + (feedR 16 r0 (s.data.toList.drop 3)).2 : Nat) : Int) == (s.size : Int))) := by
      show _ = _
      rw [← fin 16, outR, hl]
    rw [e]
    obtain ⟨h3, h4⟩ := h1
    rw [← take_ext] at h4
    obtain ⟨N, hN⟩ : ∃ N, feedR 16 r0 (s.data.toList.drop 3) = N := ⟨_, rfl⟩
    rw [hN] at c E
    obtain ⟨Z, hZ⟩ : ∃ Z : Int, ((3 + N.2 : Nat) : Int) = Z := ⟨_, rfl⟩
    rw [hZ] at c E
    clear hN hZ fin e
    cases hz : endR N.1
    all_goals rw [hz] at c E
    all_goals go_enter Tryd.func22, Tryd.ntmps22
    all_goals go_wp2_with (go_at_call 21; go_must (refine (c _).mono ?_; rintro e w' ⟨rfl, rfl⟩))
    all_goals go_ret2
    all_goals exact ⟨by rw [E.out]; rfl, rfl⟩
  · by_cases h2 : 2 < s.size ∧ (s.data.toList.take 2 == [50, 35]) = true
    · have e : numR s.data.toList = outR 2 s.data.toList 2 := by rw [numR, if_neg (by rw [hl]; exact h1), if_pos (by rw [hl]; exact h2)]
      have c := fun W => run2_any s 2 W hsz (by omega)
      have E : Hid (outR 2 s.data.toList 2 = ((feedR 2 r0 (s.data.toList.drop 2)).1.n, endR (feedR 2 r0 (s.data.toList.drop 2)).1 && ((2 + (feedR 2 r0 (s.data.toList.drop 2)).2 : Nat) : Int) == (s.size : Int))) := by
        show _ = _
        rw [← fin 2, outR, hl]
      rw [e]
      obtain ⟨h3, h4⟩ := h2
      rw [← take_ext] at h1 h4
      obtain ⟨N, hN⟩ : ∃ N, feedR 2 r0 (s.data.toList.drop 2) = N := ⟨_, rfl⟩
      rw [hN] at c E
      obtain ⟨Z, hZ⟩ : ∃ Z : Int, ((2 + N.2 : Nat) : Int) = Z := ⟨_, rfl⟩
      rw [hZ] at c E
      clear hN hZ fin e
      by_cases q : 3 < s.size
      · have h5 : ((s.extract 0 3).toList == [49, 54, 35]) = false := by simpa [q] using h1
        clear h1
        cases hz : endR N.1
        all_goals rw [hz] at c E
        all_goals go_enter Tryd.func22, Tryd.ntmps22
        all_goals go_wp2_with (go_at_call 21; go_must (refine (c _).mono ?_; rintro e w' ⟨rfl, rfl⟩))
        all_goals go_ret2
        all_goals exact ⟨by rw [E.out]; rfl, rfl⟩
      · clear h1
        cases hz : endR N.1
        all_goals rw [hz] at c E
        all_goals go_enter Tryd.func22, Tryd.ntmps22
        all_goals go_wp2_with (go_at_call 21; go_must (refine (c _).mono ?_; rintro e w' ⟨rfl, rfl⟩))
        all_goals go_ret2
        all_goals exact ⟨by rw [E.out]; rfl, rfl⟩
    · have e : numR s.data.toList = outR 10 s.data.toList 0 := by rw [numR, if_neg (by rw [hl]; exact h1), if_neg (by rw [hl]; exact h2)]
      have c := fun W => run10_any s 0 W hsz (by omega)
      have E : Hid (outR 10 s.data.toList 0 = ((feedR 10 r0 (s.data.toList.drop 0)).1.n, endR (feedR 10 r0 (s.data.toList.drop 0)).1 && ((0 + (feedR 10 r0 (s.data.toList.drop 0)).2 : Nat) : Int) == (s.size : Int))) := by
        show _ = _
        rw [← fin 10, outR, hl]
      rw [e]
      rw [← take_ext] at h1 h2
      obtain ⟨N, hN⟩ : ∃ N, feedR 10 r0 (s.data.toList.drop 0) = N := ⟨_, rfl⟩
      rw [hN] at c E
      obtain ⟨Z, hZ⟩ : ∃ Z : Int, ((0 + N.2 : Nat) : Int) = Z := ⟨_, rfl⟩
      rw [hZ] at c E
      clear hN hZ fin e
      change ∀ W, Calls Tryd.prog 21 #[.string s, .int .i64 0, .int .i64 10] W _ at c
      by_cases q : 3 < s.size
      · have h5 : ((s.extract 0 3).toList == [49, 54, 35]) = false := by simpa [q] using h1
        have h6 : ((s.extract 0 2).toList == [50, 35]) = false := by simpa [show 2 < s.size by omega] using h2
        clear h1 h2
        cases hz : endR N.1
        all_goals rw [hz] at c E
        all_goals go_enter Tryd.func22, Tryd.ntmps22
        all_goals go_wp2_with (go_at_call 21; go_must (refine (c _).mono ?_; rintro e w' ⟨rfl, rfl⟩))
        all_goals go_ret2
        all_goals exact ⟨by rw [E.out]; rfl, rfl⟩
      · by_cases q2 : 2 < s.size
        · have h6 : ((s.extract 0 2).toList == [50, 35]) = false := by simpa [q2] using h2
          clear h1 h2
          cases hz : endR N.1
          all_goals rw [hz] at c E
          all_goals go_enter Tryd.func22, Tryd.ntmps22
          all_goals go_wp2_with (go_at_call 21; go_must (refine (c _).mono ?_; rintro e w' ⟨rfl, rfl⟩))
          all_goals go_ret2
          all_goals exact ⟨by rw [E.out]; rfl, rfl⟩
        · clear h1 h2
          cases hz : endR N.1
          all_goals rw [hz] at c E
          all_goals go_enter Tryd.func22, Tryd.ntmps22
          all_goals go_wp2_with (go_at_call 21; go_must (refine (c _).mono ?_; rintro e w' ⟨rfl, rfl⟩))
          all_goals go_ret2
          all_goals exact ⟨by rw [E.out]; rfl, rfl⟩
end Go.Proofs.YtelgiffhgkbpeaaDoor
