/- mayFields, mayInstr. -/
import Derived.Test.YtbaijehecncclaaDoorA1
import Derived.Deep.RegionWith
namespace Go.Proofs.YtbaijehecncclaaDoor
open Go.RowKit
attribute [local go_sem ↓] Go.wp_at_zero Go.wp_at_succ
set_option linter.unusedVariables false
set_option linter.unusedSimpArgs false

/-- What the program asks of the fields of instruction i: of a unit whose frame has fn words and whose text has n instructions, behind these. -/
def fieldsS (l : List (Int × Nat)) (fn n i : Nat) (x : Ins) : Bool :=
  if x.d = 2 ∨ x.d = 3 then hasW fn x.a 1
  else if x.d = 4 ∨ x.d = 5 then decide (0 < x.b) && hasW fn x.a x.b && isW x.c (-4294967295) 4294967295
  else if x.d = 16 then decide (0 < x.b) && hasW fn x.a x.b
  else if x.d = 6 then resK x.a x.b != 0
  else if x.d = 7 then isK x.a && isK x.b && x.a != x.b
  else if x.d = 11 ∨ x.d = 12 then isW x.a ((i : Int) + 1) n
  else if x.d = 13 then isW x.a 0 39 && isW x.b 1 10000
  else if x.d = 17 then callS l x.a && hasW fn x.b (l.getD x.a.toNat (0, 0)).2
  else if x.d = 18 then isW x.a 1 12 && hasW fn x.b (stdW x.a)
  else true

/-- What the one who looks over a unit has at hand. -/
structure Ov (w : World) (o : Nat) (l : List (Int × Nat)) (fn n : Nat) : Prop where
  ahead : ∃ av, w.cell? ⟨o, 0, none⟩ = some av ∧ AhAt w av l
  proc : ∃ pb po fa fc ta tc, w.cell? ⟨o, 2, none⟩ = some (.pointer (some ⟨pb, po, none⟩)) ∧ w.cell? ⟨pb, po + 2, none⟩ = some (.slice fa fn fc) ∧ w.cell? ⟨pb, po + 4, none⟩ = some (.slice ta n tc)
theorem Ov.grown {w w' : World} {o : Nat} {l : List (Int × Nat)} {fn n : Nat} (h : Ov w o l fn n) (hg : w.grownBy w' none) : Ov w' o l fn n := by
  obtain ⟨⟨av, a1, a2⟩, pb, po, fa, fc, ta, tc, p1, p2, p3⟩ := h
  exact ⟨⟨av, hg.cell a1 (by simp), a2.grown hg⟩, pb, po, fa, fc, ta, tc, hg.cell p1 (by simp), hg.cell p2 (by simp), hg.cell p3 (by simp)⟩

theorem hasWords_ov {w : World} {o : Nat} {l : List (Int × Nat)} {fn n : Nat} (h : Ov w o l fn n) (at' k : Int) (hk : 0 ≤ k) (hf : fn ≤ 1000000000000) :
    Calls Tryd.prog 41 #[.pointer (some ⟨o, 0, none⟩), .int .i64 at', .int .i64 k] w fun e w' => e = .returned (.bool (hasW fn at' k)) ∧ w = w' := by
  obtain ⟨pb, po, fa, fc, ta, tc, p1, p2, p3⟩ := h.proc
  exact hasWords_any o pb po fn fc fa at' k w p1 p2 hk hf
theorem mayCall_ov {w : World} {o : Nat} {l : List (Int × Nat)} {fn n : Nat} (h : Ov w o l fn n) (k : Int) (hl : l.length ≤ 1000000000000) :
    Calls Tryd.prog 45 #[.pointer (some ⟨o, 0, none⟩), .int .i64 k] w fun e w' => e = .returned (.bool (callS l k)) ∧ w = w' := by
  obtain ⟨av, a1, a2⟩ := h.ahead
  exact mayCall_any o av l k w a1 a2 hl

set_option maxHeartbeats 2000000 in
theorem fields_load (d a b c : Int) (hd : d = 2 ∨ d = 3) (l : List (Int × Nat)) (fn n i o : Nat) (w : World) (hO : Ov w o l fn n) (hf : fn ≤ 1000000000000) (hl : l.length ≤ 1000000000000) (hi : i ≤ 1000000000000) (hn : n ≤ 1000000000000) :
    Calls Tryd.prog 35 #[.pointer (some ⟨o, 0, none⟩), .int .i64 i, .agg #[.int .i64 d, .int .i64 a, .int .i64 b, .int .i64 c]] w fun e w' => e = .returned (.bool (fieldsS l fn n i ⟨d, a, b, c⟩)) ∧ w.grownBy w' none := by
  have HO : ∀ ob, Ov (w.alloc ob) o l fn n := fun ob => hO.grown (gr1 _ _)
  have HH : Hid (∀ ob, Ov (w.alloc ob) o l fn n) := HO
  clear hO HO
  rcases hd with rfl | rfl
  · go_enter Tryd.func35, Tryd.ntmps35
    go_wp2_with (first | (go_at_call 41; refine (hasWords_ov (HH.out _) _ _ (by omega) hf).mono ?_; rintro e w' ⟨rfl, rfl⟩))
    go_ret
    exact ⟨rfl, gr1 _ _⟩
  · go_enter Tryd.func35, Tryd.ntmps35
    go_wp2_with (first | (go_at_call 41; refine (hasWords_ov (HH.out _) _ _ (by omega) hf).mono ?_; rintro e w' ⟨rfl, rfl⟩))
    go_ret
    exact ⟨rfl, gr1 _ _⟩

set_option maxHeartbeats 2000000 in
theorem fields_loadAt (d a b c : Int) (hd : d = 4 ∨ d = 5) (l : List (Int × Nat)) (fn n i o : Nat) (w : World) (hO : Ov w o l fn n) (hf : fn ≤ 1000000000000) (hl : l.length ≤ 1000000000000) (hi : i ≤ 1000000000000) (hn : n ≤ 1000000000000) :
    Calls Tryd.prog 35 #[.pointer (some ⟨o, 0, none⟩), .int .i64 i, .agg #[.int .i64 d, .int .i64 a, .int .i64 b, .int .i64 c]] w fun e w' => e = .returned (.bool (fieldsS l fn n i ⟨d, a, b, c⟩)) ∧ w.grownBy w' none := by
  have HO : ∀ ob, Ov (w.alloc ob) o l fn n := fun ob => hO.grown (gr1 _ _)
  have HH : Hid (∀ ob, Ov (w.alloc ob) o l fn n) := HO
  clear hO HO
  rcases hd with rfl | rfl
  · by_cases hb : 0 < b
    · by_cases hh : hasW fn a b = true
      · go_enter Tryd.func35, Tryd.ntmps35
        go_wp2_with (first | (go_at_call 41; refine (hasWords_ov (HH.out _) _ _ (by omega) hf).mono ?_; rintro e w' ⟨rfl, rfl⟩) | (go_at_call 42; refine (within_any _ _ _ _).mono ?_; rintro e w' ⟨rfl, rfl⟩))
        go_ret
        exact ⟨ret_bool (by show _ = (decide (0 < b) && hasW fn a b && isW c (-4294967295) 4294967295); simp [hb, hh]), gr1 _ _⟩
      · have hh' : hasW fn a b = false := by simpa using hh
        go_enter Tryd.func35, Tryd.ntmps35
        go_wp2_with (first | (go_at_call 41; refine (hasWords_ov (HH.out _) _ _ (by omega) hf).mono ?_; rintro e w' ⟨rfl, rfl⟩) | (go_at_call 42; refine (within_any _ _ _ _).mono ?_; rintro e w' ⟨rfl, rfl⟩))
        go_ret
        exact ⟨ret_bool (by show _ = (decide (0 < b) && hasW fn a b && isW c (-4294967295) 4294967295); simp [hb, hh']), gr1 _ _⟩
    · go_enter Tryd.func35, Tryd.ntmps35
      go_wp2_with (first | (go_at_call 41; refine (hasWords_ov (HH.out _) _ _ (by omega) hf).mono ?_; rintro e w' ⟨rfl, rfl⟩) | (go_at_call 42; refine (within_any _ _ _ _).mono ?_; rintro e w' ⟨rfl, rfl⟩))
      go_ret
      exact ⟨ret_bool (by show false = (decide (0 < b) && hasW fn a b && isW c (-4294967295) 4294967295); rw [decide_eq_false (by omega : ¬ 0 < b)]; rfl), gr1 _ _⟩
  · by_cases hb : 0 < b
    · by_cases hh : hasW fn a b = true
      · go_enter Tryd.func35, Tryd.ntmps35
        go_wp2_with (first | (go_at_call 41; refine (hasWords_ov (HH.out _) _ _ (by omega) hf).mono ?_; rintro e w' ⟨rfl, rfl⟩) | (go_at_call 42; refine (within_any _ _ _ _).mono ?_; rintro e w' ⟨rfl, rfl⟩))
        go_ret
        exact ⟨ret_bool (by show _ = (decide (0 < b) && hasW fn a b && isW c (-4294967295) 4294967295); simp [hb, hh]), gr1 _ _⟩
      · have hh' : hasW fn a b = false := by simpa using hh
        go_enter Tryd.func35, Tryd.ntmps35
        go_wp2_with (first | (go_at_call 41; refine (hasWords_ov (HH.out _) _ _ (by omega) hf).mono ?_; rintro e w' ⟨rfl, rfl⟩) | (go_at_call 42; refine (within_any _ _ _ _).mono ?_; rintro e w' ⟨rfl, rfl⟩))
        go_ret
        exact ⟨ret_bool (by show _ = (decide (0 < b) && hasW fn a b && isW c (-4294967295) 4294967295); simp [hb, hh']), gr1 _ _⟩
    · go_enter Tryd.func35, Tryd.ntmps35
      go_wp2_with (first | (go_at_call 41; refine (hasWords_ov (HH.out _) _ _ (by omega) hf).mono ?_; rintro e w' ⟨rfl, rfl⟩) | (go_at_call 42; refine (within_any _ _ _ _).mono ?_; rintro e w' ⟨rfl, rfl⟩))
      go_ret
      exact ⟨ret_bool (by show false = (decide (0 < b) && hasW fn a b && isW c (-4294967295) 4294967295); rw [decide_eq_false (by omega : ¬ 0 < b)]; rfl), gr1 _ _⟩

set_option maxHeartbeats 2000000 in
theorem fields_fill (d a b c : Int) (hd : d = 16) (l : List (Int × Nat)) (fn n i o : Nat) (w : World) (hO : Ov w o l fn n) (hf : fn ≤ 1000000000000) (hl : l.length ≤ 1000000000000) (hi : i ≤ 1000000000000) (hn : n ≤ 1000000000000) :
    Calls Tryd.prog 35 #[.pointer (some ⟨o, 0, none⟩), .int .i64 i, .agg #[.int .i64 d, .int .i64 a, .int .i64 b, .int .i64 c]] w fun e w' => e = .returned (.bool (fieldsS l fn n i ⟨d, a, b, c⟩)) ∧ w.grownBy w' none := by
  have HO : ∀ ob, Ov (w.alloc ob) o l fn n := fun ob => hO.grown (gr1 _ _)
  have HH : Hid (∀ ob, Ov (w.alloc ob) o l fn n) := HO
  clear hO HO
  subst hd
  by_cases hb : 0 < b
  · go_enter Tryd.func35, Tryd.ntmps35
    go_wp2_with (first | (go_at_call 41; refine (hasWords_ov (HH.out _) _ _ (by omega) hf).mono ?_; rintro e w' ⟨rfl, rfl⟩))
    go_ret
    exact ⟨ret_bool (by show _ = (decide (0 < b) && hasW fn a b); simp [hb]), gr1 _ _⟩
  · go_enter Tryd.func35, Tryd.ntmps35
    go_wp2_with (first | (go_at_call 41; refine (hasWords_ov (HH.out _) _ _ (by omega) hf).mono ?_; rintro e w' ⟨rfl, rfl⟩))
    go_ret
    exact ⟨ret_bool (by show false = (decide (0 < b) && hasW fn a b); rw [decide_eq_false (by omega : ¬ 0 < b)]; rfl), gr1 _ _⟩

set_option maxHeartbeats 2000000 in
theorem fields_work (d a b c : Int) (hd : d = 6) (l : List (Int × Nat)) (fn n i o : Nat) (w : World) (hO : Ov w o l fn n) (hf : fn ≤ 1000000000000) (hl : l.length ≤ 1000000000000) (hi : i ≤ 1000000000000) (hn : n ≤ 1000000000000) :
    Calls Tryd.prog 35 #[.pointer (some ⟨o, 0, none⟩), .int .i64 i, .agg #[.int .i64 d, .int .i64 a, .int .i64 b, .int .i64 c]] w fun e w' => e = .returned (.bool (fieldsS l fn n i ⟨d, a, b, c⟩)) ∧ w.grownBy w' none := by
  have HO : ∀ ob, Ov (w.alloc ob) o l fn n := fun ob => hO.grown (gr1 _ _)
  have HH : Hid (∀ ob, Ov (w.alloc ob) o l fn n) := HO
  clear hO HO
  subst hd
  go_enter Tryd.func35, Tryd.ntmps35
  go_wp2_with (first | (go_at_call 43; refine (result_any _ _ _).mono ?_; rintro e w' ⟨rfl, rfl⟩))
  go_ret
  exact ⟨rfl, gr1 _ _⟩

set_option maxHeartbeats 2000000 in
theorem fields_turn (d a b c : Int) (hd : d = 7) (l : List (Int × Nat)) (fn n i o : Nat) (w : World) (hO : Ov w o l fn n) (hf : fn ≤ 1000000000000) (hl : l.length ≤ 1000000000000) (hi : i ≤ 1000000000000) (hn : n ≤ 1000000000000) :
    Calls Tryd.prog 35 #[.pointer (some ⟨o, 0, none⟩), .int .i64 i, .agg #[.int .i64 d, .int .i64 a, .int .i64 b, .int .i64 c]] w fun e w' => e = .returned (.bool (fieldsS l fn n i ⟨d, a, b, c⟩)) ∧ w.grownBy w' none := by
  have HO : ∀ ob, Ov (w.alloc ob) o l fn n := fun ob => hO.grown (gr1 _ _)
  have HH : Hid (∀ ob, Ov (w.alloc ob) o l fn n) := HO
  clear hO HO
  subst hd
  by_cases ha : isK a = true
  · by_cases hb : isK b = true
    · go_enter Tryd.func35, Tryd.ntmps35
      go_wp2_with (first | (go_at_call 44; refine (kindIs_any _ _).mono ?_; rintro e w' ⟨rfl, rfl⟩))
      go_ret
      exact ⟨ret_bool (by show _ = (isK a && isK b && a != b); simp [ha, hb]), gr1 _ _⟩
    · have hb' : isK b = false := by simpa using hb
      go_enter Tryd.func35, Tryd.ntmps35
      go_wp2_with (first | (go_at_call 44; refine (kindIs_any _ _).mono ?_; rintro e w' ⟨rfl, rfl⟩))
      go_ret
      exact ⟨ret_bool (by show _ = (isK a && isK b && a != b); simp [ha, hb']), gr1 _ _⟩
  · have ha' : isK a = false := by simpa using ha
    go_enter Tryd.func35, Tryd.ntmps35
    go_wp2_with (first | (go_at_call 44; refine (kindIs_any _ _).mono ?_; rintro e w' ⟨rfl, rfl⟩))
    go_ret
    exact ⟨ret_bool (by show _ = (isK a && isK b && a != b); simp [ha']), gr1 _ _⟩

set_option maxHeartbeats 2000000 in
theorem fields_enter (d a b c : Int) (hd : d = 13) (l : List (Int × Nat)) (fn n i o : Nat) (w : World) (hO : Ov w o l fn n) (hf : fn ≤ 1000000000000) (hl : l.length ≤ 1000000000000) (hi : i ≤ 1000000000000) (hn : n ≤ 1000000000000) :
    Calls Tryd.prog 35 #[.pointer (some ⟨o, 0, none⟩), .int .i64 i, .agg #[.int .i64 d, .int .i64 a, .int .i64 b, .int .i64 c]] w fun e w' => e = .returned (.bool (fieldsS l fn n i ⟨d, a, b, c⟩)) ∧ w.grownBy w' none := by
  have HO : ∀ ob, Ov (w.alloc ob) o l fn n := fun ob => hO.grown (gr1 _ _)
  have HH : Hid (∀ ob, Ov (w.alloc ob) o l fn n) := HO
  clear hO HO
  subst hd
  by_cases ha : isW a 0 39 = true
  · go_enter Tryd.func35, Tryd.ntmps35
    go_wp2_with (first | (go_at_call 42; refine (within_any _ _ _ _).mono ?_; rintro e w' ⟨rfl, rfl⟩))
    go_ret
    exact ⟨ret_bool (by show _ = (isW a 0 39 && isW b 1 10000); simp [ha]), gr1 _ _⟩
  · have ha' : isW a 0 39 = false := by simpa using ha
    go_enter Tryd.func35, Tryd.ntmps35
    go_wp2_with (first | (go_at_call 42; refine (within_any _ _ _ _).mono ?_; rintro e w' ⟨rfl, rfl⟩))
    go_ret
    exact ⟨ret_bool (by show _ = (isW a 0 39 && isW b 1 10000); simp [ha']), gr1 _ _⟩

set_option maxHeartbeats 2000000 in
theorem fields_else (d a b c : Int) (h1 : (d == 2) = false) (h2 : (d == 3) = false) (h3 : (d == 4) = false) (h4 : (d == 5) = false) (h5 : (d == 6) = false) (h6 : (d == 7) = false) (h7 : (d == 11) = false) (h8 : (d == 12) = false) (h9 : (d == 13) = false) (h10 : (d == 16) = false) (h11 : (d == 17) = false) (h12 : (d == 18) = false) (l : List (Int × Nat)) (fn n i o : Nat) (w : World) (hO : Ov w o l fn n) (hf : fn ≤ 1000000000000) (hl : l.length ≤ 1000000000000) (hi : i ≤ 1000000000000) (hn : n ≤ 1000000000000) :
    Calls Tryd.prog 35 #[.pointer (some ⟨o, 0, none⟩), .int .i64 i, .agg #[.int .i64 d, .int .i64 a, .int .i64 b, .int .i64 c]] w fun e w' => e = .returned (.bool (fieldsS l fn n i ⟨d, a, b, c⟩)) ∧ w.grownBy w' none := by
  have HO : ∀ ob, Ov (w.alloc ob) o l fn n := fun ob => hO.grown (gr1 _ _)
  have HH : Hid (∀ ob, Ov (w.alloc ob) o l fn n) := HO
  clear hO HO
  have HU : Hid (fieldsS l fn n i ⟨d, a, b, c⟩ = true) := (by unfold fieldsS; simp_all : fieldsS l fn n i ⟨d, a, b, c⟩ = true)
  go_enter Tryd.func35, Tryd.ntmps35
  go_wp2
  go_ret
  exact ⟨ret_bool (by rw [HU.out]), gr1 _ _⟩

end Go.Proofs.YtbaijehecncclaaDoor
