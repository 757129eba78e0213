/- BlockShift: no calls; no block; what a clock that is ahead does to each block's state. -/
import Derived.Test.YtphnadhkoigegaaP1
import Derived.Test.YtphnadhkoigegaaL1
import Derived.Test.YtphnadhkoigegaaL2
import Derived.Test.YtphnadhkoigegaaL3
import Derived.Test.YtphnadhkoigegaaL4
namespace Go.Proofs.Ytphnadhkoigegaa
open Go.RowKit
attribute [local go_sem ↓] Go.wp_at_zero Go.wp_at_succ
set_option linter.unusedSimpArgs false
set_option linter.unusedVariables false

/-- What is asked of Shape at one name, by lengths alone. -/
def LenC (nm : ByteArray) (m n : Nat) : Prop := ∀ w : World, Calls Try.prog 9 #[.string nm] w fun e w' => ∃ b1 b2 b3 i, e = .returned (.tuple #[.agg #[.slice (some ⟨b1, 0, none⟩) i i, .slice (some ⟨b2, 0, none⟩) m m, .slice (some ⟨b3, 0, none⟩) n n], .bool true]) ∧ w.grownBy w' none
theorem lenC_of {nm : ByteArray} {I O S : List (ByteArray × Int)} (h : ShapeC nm I O S) : LenC nm O.length S.length := fun w => (h w).mono fun e w' ⟨v, hv, ⟨b1, b2, b3, he, _⟩, hg⟩ => ⟨b1, b2, b3, I.length, by rw [hv, he], hg⟩

def MakeC (n : Nat) : Prop := ∀ w : World, (Instr.makeSlice 31 (.int .i64 n) (.int .i64 n)).run Try.prog w = .ok (.slice (some ⟨w.heap.size, 0, none⟩) n n) (w.alloc (.cells (intsA (List.replicate n 0)) 3))
theorem makeC1 : MakeC 1 := make1
theorem makeC2 : MakeC 2 := make2
theorem makeC3 : MakeC 3 := make3
theorem makeC4 : MakeC 4 := make4

set_option maxHeartbeats 2000000 in
theorem shift_nil (nm : ByteArray) (n m : Nat) (by' : Int) (a : Option Addr) (cap : Nat) (w : World) (hn5 : n ≤ 5) (hsh : LenC nm m n) (hmk : MakeC n) :
    Calls Try.prog 5 #[.string nm, .slice a 0 cap, .int .i64 by'] w fun e w' => e = .returned (.bool true) ∧ w.grownBy w' none := by
  unfold LenC at hsh
  unfold MakeC at hmk
  go_enter Try.func5, Try.ntmps5
  go_wp2_with fail
  refine (hsh _).mono ?_
  rintro e w1 ⟨b1, b2, b3, ni, rfl, hg1⟩
  go_wp2_with fail
  refine (shapeC_ton _).mono ?_
  rintro e w2 ⟨v, rfl, ⟨t1, t2, t3, rfl, _, _, _, _, _, _, _, _, _⟩, hg2⟩
  have hX := kept hg2 (heap_alloc_new w1 _)
  have d2 := at_cell hX 2
  simp at d2
  have hlt := at_lt hX
  go_upto_region 5 with fail
  go_region
  all_goals go_wp2_with fail
  all_goals
    refine wp_loop_rounds 1 ?_
    rw [rounds_succ]
    go_wp2_with fail
    go_ret
    exact ⟨rfl, gr_drew (gr_alloc (gr_alloc (gr_alloc ((gr_alloc hg1 _).trans hg2) _) _) _)⟩

set_option maxHeartbeats 2000000 in
theorem shift_none (s : ByteArray) (hs : NoName s) (by' : Int) (v : Value) (w : World) :
    Calls Try.prog 5 #[.string s, v, .int .i64 by'] w fun e w' => e = .returned (.bool true) ∧ w.grownBy w' none := by
  have hn := fun w => shape_none s hs w
  clear hs
  go_enter Try.func5, Try.ntmps5
  go_wp2_with fail
  refine (hn _).mono ?_
  rintro e w1 ⟨rfl, hg1⟩
  go_wp2_with fail
  refine (shapeC_ton _).mono ?_
  rintro e w2 ⟨v, rfl, ⟨t1, t2, t3, rfl, _, _, _, _, _, _, _, _, _⟩, hg2⟩
  go_wp2_with fail
  go_ret
  exact ⟨rfl, gr_alloc ((gr_alloc hg1 _).trans hg2) _⟩

/-- What is asked of a block's function: two states that stand alike answer alike, and stand alike again. -/
def AlikeC (by' : Int) (n m : Nat) (kS kI : List Int) (F : List Int → List Int → Int → List Int × List Int) (R : List Int → List Int → Prop) : Prop :=
  ∀ l l' li now, R l l' → l.length = n ∧ l'.length = n ∧ ∃ a a' o, F (wrapL kS l) (wrapL kI li) (wrapK 5 now) = (a, o) ∧ F (wrapL kS l') (wrapL kI li) (wrapK 5 (IntKind.i64.wrap (now + by'))) = (a', o) ∧ o.length = m ∧ R a a'

def Eqn (n : Nat) (l l' : List Int) : Prop := l = l' ∧ l.length = n
/-- A block that does not look at the clock. -/
theorem alike_eq (by' : Int) (n m : Nat) (kS kI : List Int) (F : List Int → List Int → Int → List Int × List Int) (h : ∀ l li x y, F (wrapL kS l) (wrapL kI li) x = F (wrapL kS l) (wrapL kI li) y ∧ (F (wrapL kS l) (wrapL kI li) x).1.length = n ∧ (F (wrapL kS l) (wrapL kI li) x).2.length = m) : AlikeC by' n m kS kI F (Eqn n) := by
  rintro l _ li now ⟨rfl, hl⟩
  obtain ⟨h1, h2, h3⟩ := h l li (wrapK 5 now) (wrapK 5 (IntKind.i64.wrap (now + by')))
  exact ⟨hl, hl, _, _, _, rfl, h1.symm, h3, rfl, h2⟩

theorem ctu_alike (by' : Int) : AlikeC by' 2 2 [1, 2] [1, 1, 2] ctuF (Eqn 2) := alike_eq _ _ _ _ _ _ fun l li x y => by
  obtain ⟨a, b, e⟩ := form2 1 2 l
  obtain ⟨c, d, f, e'⟩ := form3 1 1 2 li
  rw [e, e']
  refine ⟨rfl, ?_, ?_⟩ <;> (simp only [ctuF]; repeat' split) <;> rfl
theorem ctd_alike (by' : Int) : AlikeC by' 2 2 [1, 2] [1, 1, 2] ctdF (Eqn 2) := alike_eq _ _ _ _ _ _ fun l li x y => by
  obtain ⟨a, b, e⟩ := form2 1 2 l
  obtain ⟨c, d, f, e'⟩ := form3 1 1 2 li
  rw [e, e']
  refine ⟨rfl, ?_, ?_⟩ <;> (simp only [ctdF]; repeat' split) <;> rfl
theorem ctud_alike (by' : Int) : AlikeC by' 3 3 [1, 1, 2] [1, 1, 1, 1, 2] ctudF (Eqn 3) := alike_eq _ _ _ _ _ _ fun l li x y => by
  obtain ⟨a, b, c, e⟩ := form3 1 1 2 l
  obtain ⟨d, f, g, h, i, e'⟩ := form5 1 1 1 1 2 li
  rw [e, e']
  refine ⟨rfl, ?_, ?_⟩ <;> (simp only [ctudF]; repeat' split) <;> rfl
theorem rtrig_alike (by' : Int) : AlikeC by' 1 1 [1] [1] rtrigF (Eqn 1) := alike_eq _ _ _ _ _ _ fun l li x y => by
  obtain ⟨a, e⟩ := form1 1 l
  obtain ⟨b, e'⟩ := form1 1 li
  rw [e, e']
  exact ⟨rfl, rfl, rfl⟩
theorem ftrig_alike (by' : Int) : AlikeC by' 1 1 [1] [1] ftrigF (Eqn 1) := alike_eq _ _ _ _ _ _ fun l li x y => by
  obtain ⟨a, e⟩ := form1 1 l
  obtain ⟨b, e'⟩ := form1 1 li
  rw [e, e']
  exact ⟨rfl, rfl, rfl⟩
theorem sr_alike (by' : Int) : AlikeC by' 1 1 [1] [1, 1] srF (Eqn 1) := alike_eq _ _ _ _ _ _ fun l li x y => by
  obtain ⟨a, e⟩ := form1 1 l
  obtain ⟨b, c, e'⟩ := form2 1 1 li
  rw [e, e']
  exact ⟨rfl, rfl, rfl⟩
theorem rs_alike (by' : Int) : AlikeC by' 1 1 [1] [1, 1] rsF (Eqn 1) := alike_eq _ _ _ _ _ _ fun l li x y => by
  obtain ⟨a, e⟩ := form1 1 l
  obtain ⟨b, c, e'⟩ := form2 1 1 li
  rw [e, e']
  exact ⟨rfl, rfl, rfl⟩
theorem ramp_alike (by' : Int) : AlikeC by' 1 1 [2] [2, 2] rampF (Eqn 1) := alike_eq _ _ _ _ _ _ fun l li x y => by
  obtain ⟨a, e⟩ := form1 2 l
  obtain ⟨b, c, e'⟩ := form2 2 2 li
  rw [e, e']
  exact ⟨rfl, rfl, rfl⟩
theorem hyst_alike (by' : Int) : AlikeC by' 1 1 [1] [2, 2, 2] hystF (Eqn 1) := alike_eq _ _ _ _ _ _ fun l li x y => by
  obtain ⟨a, e⟩ := form1 1 l
  obtain ⟨b, c, d, e'⟩ := form3 2 2 2 li
  rw [e, e']
  exact ⟨rfl, rfl, rfl⟩

/-- Two timers' states, one of a clock that is ahead by 'by''. -/
def TimR (by' : Int) (l l' : List Int) : Prop := ∃ r s s' m a, l = [r, s, m, a] ∧ l' = [r, s', m, a] ∧ (r = 0 ∨ r = 1) ∧ (m = 0 ∨ m = 1) ∧ (0 ≤ a ∧ a ≤ 4294967295) ∧ (0 ≤ s ∧ s ≤ 4294967295) ∧ (0 ≤ s' ∧ s' ≤ 4294967295) ∧ (r = 1 → s' = (s + by') % 4294967296)
theorem gone_by {now by' s s' : Int} (h : s' = (s + by') % 4294967296) : goneN (wrapK 5 (IntKind.i64.wrap (now + by'))) s' = goneN (wrapK 5 now) s := by
  unfold goneN
  rw [wrapK5, wrapK5, wrapK5, wrapK5, h, IntWalk.i64_left]
  unfold wrap64
  omega
theorem now_by (now by' : Int) : wrapK 5 (IntKind.i64.wrap (now + by')) = (wrapK 5 now + by') % 4294967296 := by
  rw [wrapK5, wrapK5, IntWalk.i64_left]
  unfold wrap64
  omega
theorem gone_bd (a b : Int) : 0 ≤ goneN a b ∧ goneN a b ≤ 4294967295 := timK _
theorem wrap4' {a b c d : Int} (ha : a = 0 ∨ a = 1) (hb : 0 ≤ b ∧ b ≤ 4294967295) (hc : c = 0 ∨ c = 1) (hd : 0 ≤ d ∧ d ≤ 4294967295) : wrapL [1, 5, 1, 5] [a, b, c, d] = [a, b, c, d] := by
  simp only [wrapL, List.length_cons, List.length_nil, if_true, List.zipWith_cons_cons, List.zipWith_nil_right, wrapK1, wrapK5]
  rw [show a % 2 = a by omega, show b % 4294967296 = b by omega, show c % 2 = c by omega, show d % 4294967296 = d by omega]
theorem tim_zero (by' : Int) : TimR by' (List.replicate 4 0) (List.replicate 4 0) := ⟨0, 0, 0, 0, 0, rfl, rfl, by omega, by omega, by omega, by omega, by omega, by omega⟩
theorem min_bd {a b : Int} (ha : 0 ≤ a ∧ a ≤ 4294967295) (hb : 0 ≤ b ∧ b ≤ 4294967295) : 0 ≤ min a b ∧ min a b ≤ 4294967295 := by omega

theorem ton_alike (by' : Int) : AlikeC by' 4 2 [1, 5, 1, 5] [1, 5] tonF (TimR by') := by
  rintro _ _ li now ⟨r, s, s', m, a, rfl, rfl, hr, hm, ha, hs, hs', hrs⟩
  refine ⟨rfl, rfl, ?_⟩
  obtain ⟨i, pt, e⟩ := form2 1 5 li
  have hi := bitK i
  have hp := timK pt
  rw [e, wrap4' hr hs hm ha, wrap4' hr hs' hm ha]
  generalize wrapK 1 i = i at *
  generalize wrapK 5 pt = pt at *
  have hN := timK now
  have hN' := timK (IntKind.i64.wrap (now + by'))
  have hnb := now_by now by'
  have hgn : goneN (wrapK 5 (IntKind.i64.wrap (now + by'))) (wrapK 5 (IntKind.i64.wrap (now + by'))) = goneN (wrapK 5 now) (wrapK 5 now) := gone_by hnb
  have hb := gone_bd (wrapK 5 now) (wrapK 5 now)
  have hb' := gone_bd (wrapK 5 now) s
  rcases hi with rfl | rfl
  · exact ⟨[0, 0, 0, 0], [0, 0, 0, 0], [0, 0], by simp [tonF], by simp [tonF], rfl, ⟨0, 0, 0, 0, 0, rfl, rfl, by omega, by omega, by omega, by omega, by omega, by omega⟩⟩
  · rcases hr with rfl | rfl
    · refine ⟨_, _, _, by simp only [tonF]; simp only [if_neg (show ¬ ((1 : Int) = 0) by omega), if_true]; rfl, by simp only [tonF]; simp only [if_neg (show ¬ ((1 : Int) = 0) by omega), if_true, hgn], rfl, ⟨1, _, _, _, _, rfl, rfl, by omega, bit_yes _, min_bd hb hp, hN, hN', fun _ => hnb⟩⟩
    · have hsb := hrs rfl
      have hg := gone_by (now := now) hsb
      rcases hm with rfl | rfl
      · refine ⟨_, _, _, by simp only [tonF]; simp only [if_neg (show ¬ ((1 : Int) = 0) by omega), if_true]; rfl, by simp only [tonF]; simp only [if_neg (show ¬ ((1 : Int) = 0) by omega), if_true, hg], rfl, ⟨1, _, _, _, _, rfl, rfl, by omega, bit_yes _, min_bd hb' hp, hs, hs', fun _ => hsb⟩⟩
      · refine ⟨_, _, _, by simp only [tonF]; simp only [if_neg (show ¬ ((1 : Int) = 0) by omega)]; rfl, by simp only [tonF]; simp only [if_neg (show ¬ ((1 : Int) = 0) by omega)], rfl, ⟨1, _, _, _, _, rfl, rfl, by omega, by omega, ha, hs, hs', fun _ => hsb⟩⟩

/-- What a timer's run comes to, in the two clocks. -/
theorem tof_out (by' s s' g pt : Int) (hs : 0 ≤ s ∧ s ≤ 4294967295) (hs' : 0 ≤ s' ∧ s' ≤ 4294967295) (hsb : s' = (s + by') % 4294967296) (hg : 0 ≤ g ∧ g ≤ 4294967295) (hp : 0 ≤ pt ∧ pt ≤ 4294967295) :
    ∃ a a' o, (if pt ≤ g then ([0, 0, 0, min g pt], [0, min g pt]) else ([1, s, 1, min g pt], [1, min g pt]) : List Int × List Int) = (a, o) ∧ (if pt ≤ g then ([0, 0, 0, min g pt], [0, min g pt]) else ([1, s', 1, min g pt], [1, min g pt]) : List Int × List Int) = (a', o) ∧ o.length = 2 ∧ TimR by' a a' := by
  by_cases h : pt ≤ g
  · rw [if_pos h, if_pos h]
    exact ⟨_, _, _, rfl, rfl, rfl, 0, 0, 0, 0, _, rfl, rfl, by omega, by omega, min_bd hg hp, by omega, by omega, by omega⟩
  · rw [if_neg h, if_neg h]
    exact ⟨_, _, _, rfl, rfl, rfl, 1, s, s', 1, _, rfl, rfl, by omega, by omega, min_bd hg hp, hs, hs', fun _ => hsb⟩
theorem tof_alike (by' : Int) : AlikeC by' 4 2 [1, 5, 1, 5] [1, 5] tofF (TimR by') := by
  rintro _ _ li now ⟨r, s, s', m, a, rfl, rfl, hr, hm, ha, hs, hs', hrs⟩
  refine ⟨rfl, rfl, ?_⟩
  obtain ⟨i, pt, e⟩ := form2 1 5 li
  have hi := bitK i
  have hp := timK pt
  rw [e, wrap4' hr hs hm ha, wrap4' hr hs' hm ha]
  generalize wrapK 1 i = i at *
  generalize wrapK 5 pt = pt at *
  have hN := timK now
  have hN' := timK (IntKind.i64.wrap (now + by'))
  have hnb := now_by now by'
  have hgn : goneN (wrapK 5 (IntKind.i64.wrap (now + by'))) (wrapK 5 (IntKind.i64.wrap (now + by'))) = goneN (wrapK 5 now) (wrapK 5 now) := gone_by hnb
  have hb := gone_bd (wrapK 5 now) (wrapK 5 now)
  have hb' := gone_bd (wrapK 5 now) s
  rcases hi with rfl | rfl
  · rcases hm with rfl | rfl
    · exact ⟨[r, s, 0, a], [r, s', 0, a], [0, a], by simp [tofF], by simp [tofF], rfl, ⟨r, s, s', 0, a, rfl, rfl, hr, by omega, ha, hs, hs', hrs⟩⟩
    · rcases hr with rfl | rfl
      · simp only [tofF, if_true, if_neg (show ¬ ((1 : Int) = 0) by omega), hgn]
        exact tof_out by' _ _ _ pt hN hN' hnb hb hp
      · have hsb := hrs rfl
        have hg := gone_by (now := now) hsb
        simp only [tofF, if_true, if_neg (show ¬ ((1 : Int) = 0) by omega), hg]
        exact tof_out by' _ _ _ pt hs hs' hsb hb' hp
  · exact ⟨[0, 0, 1, 0], [0, 0, 1, 0], [1, 0], by simp [tofF], by simp [tofF], rfl, ⟨0, 0, 0, 1, 0, rfl, rfl, by omega, by omega, by omega, by omega, by omega, by omega⟩⟩

theorem out_alike (by' on now s s' pt : Int) (hon : on = 0 ∨ on = 1) (hs : 0 ≤ s ∧ s ≤ 4294967295) (hs' : 0 ≤ s' ∧ s' ≤ 4294967295) (hsb : s' = (s + by') % 4294967296) (hp : 0 ≤ pt ∧ pt ≤ 4294967295) :
    ∃ a a' o, outF on (wrapK 5 now) s pt = (a, o) ∧ outF on (wrapK 5 (IntKind.i64.wrap (now + by'))) s' pt = (a', o) ∧ o.length = 2 ∧ TimR by' a a' := by
  unfold outF
  rw [gone_by hsb]
  have hg := gone_bd (wrapK 5 now) s
  by_cases h : pt ≤ goneN (wrapK 5 now) s
  · rw [if_pos h, if_pos h]
    exact ⟨_, _, _, rfl, rfl, rfl, 0, 0, 0, on, _, rfl, rfl, by omega, hon, min_bd hg hp, by omega, by omega, by omega⟩
  · rw [if_neg h, if_neg h]
    exact ⟨_, _, _, rfl, rfl, rfl, 1, s, s', on, _, rfl, rfl, by omega, hon, min_bd hg hp, hs, hs', fun _ => hsb⟩
theorem tp_alike (by' : Int) : AlikeC by' 4 2 [1, 5, 1, 5] [1, 5] tpF (TimR by') := by
  rintro _ _ li now ⟨r, s, s', m, a, rfl, rfl, hr, hm, ha, hs, hs', hrs⟩
  refine ⟨rfl, rfl, ?_⟩
  obtain ⟨i, pt, e⟩ := form2 1 5 li
  have hi := bitK i
  have hp := timK pt
  rw [e, wrap4' hr hs hm ha, wrap4' hr hs' hm ha]
  generalize wrapK 1 i = i at *
  generalize wrapK 5 pt = pt at *
  have hN := timK now
  have hN' := timK (IntKind.i64.wrap (now + by'))
  have hnb := now_by now by'
  rcases hr with rfl | rfl
  · rcases hi with rfl | rfl
    · exact ⟨[0, s, 0, 0], [0, s', 0, 0], [0, 0], by simp [tpF], by simp [tpF], rfl, ⟨0, s, s', 0, 0, rfl, rfl, by omega, by omega, by omega, hs, hs', by omega⟩⟩
    · rcases hm with rfl | rfl
      · simp only [tpF, if_true, if_neg (show ¬ ((1 : Int) = 0) by omega)]
        exact out_alike by' 1 now _ _ pt (by omega) hN hN' hnb hp
      · exact ⟨[0, s, 1, a], [0, s', 1, a], [0, a], by simp [tpF], by simp [tpF], rfl, ⟨0, s, s', 1, a, rfl, rfl, by omega, by omega, ha, hs, hs', by omega⟩⟩
  · simp only [tpF, if_neg (show ¬ ((1 : Int) = 0) by omega)]
    exact out_alike by' i now _ _ pt hi hs hs' (hrs rfl) hp
end Go.Proofs.Ytphnadhkoigegaa
