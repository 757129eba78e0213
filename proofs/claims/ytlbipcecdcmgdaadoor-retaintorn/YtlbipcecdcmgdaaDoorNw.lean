/- Which slot is newest: the program's and the document's. -/
import Derived.Test.YtlbipcecdcmgdaaDoorLr
namespace Go.Proofs.YtlbipcecdcmgdaaDoor
open Go.RowKit
attribute [local go_sem ↓] Go.wp_at_zero Go.wp_at_succ
set_option linter.unusedVariables false
set_option linter.unusedSimpArgs false

theorem results_tmp4 {fn : Func} {t u v x : Tmp} (h : fn.results = #[.tmp t, .tmp u, .tmp v, .tmp x]) (tmps : Array Value) (P : Program) (w : World) :
    (results fn tmps).run P w = .ok (.tuple #[tmps.getD t undef, tmps.getD u undef, tmps.getD v undef, tmps.getD x undef]) w := by
  simp [results, h]
def aheadB (t s : Nat) : Bool := decide (0 < ((t : Int) - s) % 4294967296) && decide (((t : Int) - s) % 4294967296 < 2147483648)
theorem readN_lt {l : List Nat} (h : isB l) : readN l < 2 ^ 32 := by
  unfold readN
  split
  · exact val_lt h 4
  · omega
theorem isAhead_any (t s : Nat) (ht : t < 2 ^ 32) (hs : s < 2 ^ 32) (w : World) : Calls Tryd.prog 45 #[.int .i64 (t : Int), .int .i64 (s : Int)] w fun e w' => e = .returned (.bool (aheadB t s)) ∧ w = w' := by
  have m1 : wrap64 ((t : Int) - s) = (t : Int) - s := by unfold wrap64; omega
  have m2 := IntKind.wrap_u32 ((t : Int) - s)
  go_enter Tryd.func45, Tryd.ntmps45
  unfold aheadB
  obtain ⟨d, hd⟩ : ∃ d : Int, ((t : Int) - s) % 4294967296 = d := ⟨_, rfl⟩
  rw [hd] at m2 ⊢
  by_cases h0 : 0 < d
  · go_wp2
    go_ret
    refine ⟨ret_bool ?_, rfl⟩
    simp [h0]
  · go_wp2
    go_ret
    refine ⟨ret_bool ?_, rfl⟩
    simp
    omega
theorem ahead_any (t s : Nat) (ht : t < 2 ^ 32) (hs : s < 2 ^ 32) (w : World) : Calls Tryd.prog 37 #[.int .i64 (t : Int), .int .i64 (s : Int)] w fun e w' => e = .returned (.bool (aheadB t s)) ∧ w = w' := by
  have m1 : wrap64 ((t : Int) - s) = (t : Int) - s := by unfold wrap64; omega
  have m2 : wrap64 ((t : Int) - s + 8589934592) = (t : Int) - s + 8589934592 := by unfold wrap64; omega
  have m3 : ((t : Int) - s + 8589934592).tmod 4294967296 = ((t : Int) - s) % 4294967296 := by
    rw [Int.tmod_eq_emod_of_nonneg (by omega)]
    omega
  have m4 : ((t : Int) - s + 8589934592) % 4294967296 = ((t : Int) - s) % 4294967296 := by omega
  go_enter Tryd.func37, Tryd.ntmps37
  unfold aheadB
  obtain ⟨d, hd⟩ : ∃ d : Int, ((t : Int) - s) % 4294967296 = d := ⟨_, rfl⟩
  rw [hd] at m3 m4 ⊢
  by_cases h0 : 0 < d
  · go_wp2
    go_ret
    refine ⟨ret_bool ?_, rfl⟩
    simp [h0]
  · go_wp2
    go_ret
    refine ⟨ret_bool ?_, rfl⟩
    simp
    omega

structure Nw where
  ws : List Int
  slot : Nat
  ser : Nat
  e : Nat
def newS (la lb : List Nat) : Nw :=
  if readE la ≠ 0 ∧ readE lb ≠ 0 then ⟨[], 0, 0, 16⟩ else if readE la ≠ 0 ∨ (readE lb = 0 ∧ aheadB (readN lb) (readN la) = true) then ⟨readW lb, 1, readN lb, 0⟩ else ⟨readW la, 0, readN la, 0⟩
def NewP (w w' : World) (e : Ending) (R : Nw) : Prop :=
  ∃ a cap, e = .returned (.tuple #[.slice a R.ws.length cap, .int .i64 (R.slot : Int), .int .i64 (R.ser : Int), .int .i64 (R.e : Int)]) ∧ OwnL w.heap.size w' a cap R.ws ∧ w.grownBy w' none

set_option maxHeartbeats 1000000 in
theorem newest_any (la lb : List Nat) (u v : Value) (w : World) (ba : isB la) (bb : isB lb) (hu : rdB w u la) (hv : rdB w v lb) (ma : la.length ≤ maxLen) (mb : lb.length ≤ maxLen) (hB : Beg w) :
    Calls Tryd.prog 38 #[u, v] w fun e w' => NewP w w' e (newS la lb) := by
  have cA := read_any la u w ba hu ma hB
  have cB := fun (W : World) (hg : w.grownBy W none) => read_any lb v W bb (rdB_grown hv hg) mb (hB.grown hg)
  have na := readN_lt ba
  have nb := readN_lt bb
  obtain ⟨R, hR⟩ : ∃ R, newS la lb = R := ⟨_, rfl⟩
  rw [hR]
  unfold newS at hR
  have HR : Hid (_ = _) := hR
  clear hR
  generalize readW la = Wa at *
  generalize readN la = Na at *
  generalize readE la = Ea at *
  generalize readW lb = Wb at *
  generalize readN lb = Nb at *
  generalize readE lb = Eb at *
  have cH := fun W => isAhead_any Nb Na nb na W
  obtain ⟨a, cap, rfl, _, _⟩ := id hu
  obtain ⟨a', cap', rfl, _, _⟩ := id hv
  clear hu hv
  go_enter Tryd.func38, Tryd.ntmps38
  go_wp2_with fail
  refine cA.mono ?_
  rintro e w1 ⟨x0, c0, rfl, ho0, hg1⟩
  go_wp2_with fail
  refine (cB _ hg1).mono ?_
  rintro e w2 ⟨x1, c1, rfl, ho1, hg2⟩
  have hg02 := grown_join hg1 hg2 (.inl rfl)
  have HO0 : Hid (OwnL w.heap.size w2 x0 c0 Wa) := ho0.kept hg2
  have HO1 : Hid (OwnL w.heap.size w2 x1 c1 Wb) := own_low ho1 hg1.size
  clear ho0 ho1 hg1 hg2 cA cB
  by_cases hEa : Ea = 0
  · subst hEa
    by_cases hEb : Eb = 0
    · subst hEb
      go_wp2_with fail
      refine (cH _).mono ?_
      rintro e w3 ⟨rfl, rfl⟩
      by_cases hh : aheadB Nb Na = true
      · have hr : R = ⟨Wb, 1, Nb, 0⟩ := by rw [← HR.out, if_neg (by simp), if_pos (by simp [hh])]
        subst hr
        rw [hh]
        go_wp2
        refine bodyPost_ret (results_tmp4 rfl _ _ _) rfl ?_
        exact ⟨_, _, rfl, HO1.out, hg02⟩
      · have hr : R = ⟨Wa, 0, Na, 0⟩ := by rw [← HR.out, if_neg (by simp), if_neg (by simp [hh])]
        subst hr
        rw [Bool.not_eq_true] at hh
        rw [hh]
        go_wp2
        refine bodyPost_ret (results_tmp4 rfl _ _ _) rfl ?_
        exact ⟨_, _, rfl, HO0.out, hg02⟩
    · have hr : R = ⟨Wa, 0, Na, 0⟩ := by rw [← HR.out, if_neg (by simp), if_neg (by simp [hEb])]
      subst hr
      have hb0 : ¬ (Eb : Int) = 0 := by omega
      go_wp2
      refine bodyPost_ret (results_tmp4 rfl _ _ _) rfl ?_
      exact ⟨_, _, rfl, HO0.out, hg02⟩
  · have ha0 : ¬ (Ea : Int) = 0 := by omega
    by_cases hEb : Eb = 0
    · subst hEb
      have hr : R = ⟨Wb, 1, Nb, 0⟩ := by rw [← HR.out, if_neg (by simp), if_pos (by simp [hEa])]
      subst hr
      go_wp2
      refine bodyPost_ret (results_tmp4 rfl _ _ _) rfl ?_
      exact ⟨_, _, rfl, HO1.out, hg02⟩
    · have hr : R = ⟨[], 0, 0, 16⟩ := by rw [← HR.out, if_pos ⟨hEa, hEb⟩]
      subst hr
      have hb0 : ¬ (Eb : Int) = 0 := by omega
      have ha1 : ((Ea : Int) != 0) = true := by simpa using hEa
      have hb1 : ((Eb : Int) != 0) = true := by simpa using hEb
      clear ha0 hb0 hEa hEb
      go_wp2
      refine bodyPost_ret (results_tmp4 rfl _ _ _) rfl ?_
      exact ⟨_, _, rfl, OwnL.nil _ _, hg02⟩
set_option maxHeartbeats 1000000 in
theorem refNewest_any (la lb : List Nat) (u v : Value) (w : World) (ba : isB la) (bb : isB lb) (hu : rdB w u la) (hv : rdB w v lb) (ma : la.length ≤ maxLen) (mb : lb.length ≤ maxLen) :
    Calls Tryd.prog 17 #[u, v] w fun e w' => NewP w w' e (newS la lb) := by
  have cA := slot_any la u w ba hu ma
  have cB := fun (W : World) (hg : w.grownBy W none) => slot_any lb v W bb (rdB_grown hv hg) mb
  have na := readN_lt ba
  have nb := readN_lt bb
  obtain ⟨R, hR⟩ : ∃ R, newS la lb = R := ⟨_, rfl⟩
  rw [hR]
  unfold newS at hR
  have HR : Hid (_ = _) := hR
  clear hR
  generalize readW la = Wa at *
  generalize readN la = Na at *
  generalize readE la = Ea at *
  generalize readW lb = Wb at *
  generalize readN lb = Nb at *
  generalize readE lb = Eb at *
  have cH := fun W => ahead_any Nb Na nb na W
  obtain ⟨a, cap, rfl, _, _⟩ := id hu
  obtain ⟨a', cap', rfl, _, _⟩ := id hv
  clear hu hv
  go_enter Tryd.func17, Tryd.ntmps17
  go_wp2_with fail
  refine cA.mono ?_
  rintro e w1 ⟨x0, c0, rfl, ho0, hg1⟩
  go_wp2_with fail
  refine (cB _ hg1).mono ?_
  rintro e w2 ⟨x1, c1, rfl, ho1, hg2⟩
  have hg02 := grown_join hg1 hg2 (.inl rfl)
  have HO0 : Hid (OwnL w.heap.size w2 x0 c0 Wa) := ho0.kept hg2
  have HO1 : Hid (OwnL w.heap.size w2 x1 c1 Wb) := own_low ho1 hg1.size
  clear ho0 ho1 hg1 hg2 cA cB
  by_cases hEa : Ea = 0
  · subst hEa
    by_cases hEb : Eb = 0
    · subst hEb
      go_wp2_with fail
      refine (cH _).mono ?_
      rintro e w3 ⟨rfl, rfl⟩
      by_cases hh : aheadB Nb Na = true
      · have hr : R = ⟨Wb, 1, Nb, 0⟩ := by rw [← HR.out, if_neg (by simp), if_pos (by simp [hh])]
        subst hr
        rw [hh]
        go_wp2
        refine bodyPost_ret (results_tmp4 rfl _ _ _) rfl ?_
        exact ⟨_, _, rfl, HO1.out, hg02⟩
      · have hr : R = ⟨Wa, 0, Na, 0⟩ := by rw [← HR.out, if_neg (by simp), if_neg (by simp [hh])]
        subst hr
        rw [Bool.not_eq_true] at hh
        rw [hh]
        go_wp2
        refine bodyPost_ret (results_tmp4 rfl _ _ _) rfl ?_
        exact ⟨_, _, rfl, HO0.out, hg02⟩
    · have hr : R = ⟨Wa, 0, Na, 0⟩ := by rw [← HR.out, if_neg (by simp), if_neg (by simp [hEb])]
      subst hr
      have hb0 : ¬ (Eb : Int) = 0 := by omega
      go_wp2
      refine bodyPost_ret (results_tmp4 rfl _ _ _) rfl ?_
      exact ⟨_, _, rfl, HO0.out, hg02⟩
  · have ha0 : ¬ (Ea : Int) = 0 := by omega
    by_cases hEb : Eb = 0
    · subst hEb
      have hr : R = ⟨Wb, 1, Nb, 0⟩ := by rw [← HR.out, if_neg (by simp), if_pos (by simp [hEa])]
      subst hr
      go_wp2
      refine bodyPost_ret (results_tmp4 rfl _ _ _) rfl ?_
      exact ⟨_, _, rfl, HO1.out, hg02⟩
    · have hr : R = ⟨[], 0, 0, 16⟩ := by rw [← HR.out, if_pos ⟨hEa, hEb⟩]
      subst hr
      have hb0 : ¬ (Eb : Int) = 0 := by omega
      have ha1 : ((Ea : Int) != 0) = true := by simpa using hEa
      have hb1 : ((Eb : Int) != 0) = true := by simpa using hEb
      clear ha0 hb0 hEa hEb
      go_wp2
      refine bodyPost_ret (results_tmp4 rfl _ _ _) rfl ?_
      exact ⟨_, _, rfl, OwnL.nil _ _, hg02⟩
end Go.Proofs.YtlbipcecdcmgdaaDoor
