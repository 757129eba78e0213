/- Read, the program's. -/
import Derived.Test.YtlbipcecdcmgdaaDoorT
import Derived.ChangeKeysEq
namespace Go.Proofs.YtlbipcecdcmgdaaDoor
open Go.RowKit
attribute [local go_sem ↓] Go.wp_at_zero Go.wp_at_succ
set_option linter.unusedVariables false
set_option linter.unusedSimpArgs false

theorem val_drop (l : List Nat) (k j : Nat) : val (l.drop k) j = val l (k + j) := by
  unfold val
  simp [List.getD, Nat.add_assoc]
theorem val_take (l : List Nat) (k j : Nat) (h : j + 3 < k) : val (l.take k) j = val l j := by
  unfold val
  have e : ∀ i, i < k → (l.take k).getD i 0 = l.getD i 0 := fun i hi => by simp [List.getD, hi]
  rw [e _ (by omega), e _ (by omega), e _ (by omega), e _ (by omega)]

def Beg (w : World) : Prop := w.cell? ⟨0, 0, none⟩ = some (.int .u8 80) ∧ w.cell? ⟨0, 1, none⟩ = some (.int .u8 87) ∧ w.cell? ⟨0, 2, none⟩ = some (.int .u8 82) ∧ w.cell? ⟨0, 3, none⟩ = some (.int .u8 49)
theorem Beg.grown {w w' : World} (h : Beg w) (hg : w.grownBy w' none) : Beg w' :=
  ⟨hg.cell h.1 (by simp), hg.cell h.2.1 (by simp), hg.cell h.2.2.1 (by simp), hg.cell h.2.2.2 (by simp)⟩

set_option maxHeartbeats 1000000 in
theorem isRight_any (l : List Nat) (m : Nat) (v : Value) (w : World) (hb : isB l) (hv : rdB w v l) (hl : l.length = m + 4) (hm : l.length ≤ maxLen) : Calls Tryd.prog 33 #[v] w fun e w' => e = .returned (.bool (val l m == crc (l.take m))) ∧ w.grownBy w' none := by
  obtain ⟨b, off, cap, rfl, hcap, _⟩ := rdB_at hv (by omega)
  have r1 := rdB_take hv m (by omega)
  have r2 := rdB_drop hv m 4 (cap - m) (by omega) (by omega)
  have gN : ∀ k, w.grownBy (w.drewN k) none := fun k => gr_drewN (World.grownBy.refl _ _) k
  have cN := fun k => number_any _ _ (w.drewN k) (isB_drop hb m) (rdB_grown r2 (gN k)) (by simp; omega)
  have cS := fun k => sum_any _ _ (w.drewN k) (isB_take hb m) (rdB_grown r1 (gN k)) (by simp; omega)
  simp only [val_drop, Nat.add_zero] at cN
  have hne : ¬ cap = m := by omega
  clear r1 r2 hv
  rw [hl] at hm hcap ⊢
  unfold maxLen at hm
  have i0 : (0 : Int) ≤ (m : Int) := by omega
  have i1 : (m : Int) ≤ (m : Int) + 4 := by omega
  have i2 : (m : Int) ≤ (cap : Int) := by omega
  have i3 : (m : Int) + 4 ≤ (cap : Int) := by omega
  go_enter Tryd.func33, Tryd.ntmps33
  go_wp2_with fail
  go_quiet (first | (go_at_call 34; exact Calls.quiet_of_same ((cN _).mono fun _ _ h => ⟨h.1, h.2.symm⟩)) | (go_at_call 44; exact Calls.quiet_of_same ((cS _).mono fun _ _ h => ⟨h.1, h.2.symm⟩)))
  go_wp2
  go_ret
  refine ⟨ret_bool ?_, gr_drewN (World.grownBy.refl _ _) _⟩
  rw [Bool.eq_iff_iff]
  simp
  omega

theorem part5 (W : World) (a0 a1 a2 a3 : Value) : (part 5 #[a0, a1, a2, a3] 0).run Tryd.prog W = .ok a0 W ∧ (part 5 #[a0, a1, a2, a3] 1).run Tryd.prog W = .ok a1 W ∧ (part 5 #[a0, a1, a2, a3] 2).run Tryd.prog W = .ok a2 W ∧ (part 5 #[a0, a1, a2, a3] 3).run Tryd.prog W = .ok a3 W := ⟨by kernel_rfl, by kernel_rfl, by kernel_rfl, by kernel_rfl⟩
theorem c5 : Tryd.prog.cellsOf 5 = 1 := by kernel_rfl
theorem item5 (W : World) (d : Nat) (xs ys : Array Value) (i : Nat) (is : List Nat) (a b : Int) (p : (part 5 xs i).run Tryd.prog W = .ok (.int .u8 a) W) (q : (part 5 ys i).run Tryd.prog W = .ok (.int .u8 b) W) :
    (Op.eqItems (d + 1) 5 1 xs ys (i :: is)).run Tryd.prog W = if (a == b) = true then (Op.eqItems (d + 1) 5 1 xs ys is).run Tryd.prog W else .ok false W := by
  simp only [Op.eqItems, Sem.run_bind, Nat.mul_one, p, q, Result.andThen_ok, run_equalIn_int W d 5 .u8 .u8 a b Tryd.underlying5]
  cases a == b <;> simp
theorem eq4 (W : World) (a0 a1 a2 a3 b0 b1 b2 b3 : Int) : (Op.equalIn 10000 68 (.agg #[.int .u8 a0, .int .u8 a1, .int .u8 a2, .int .u8 a3]) (.agg #[.int .u8 b0, .int .u8 b1, .int .u8 b2, .int .u8 b3])).run Tryd.prog W = .ok (a0 == b0 && (a1 == b1 && (a2 == b2 && a3 == b3))) W := by
  obtain ⟨i0, hi, _⟩ := info_parts info5
  rw [show (10000 : Nat) = 9999 + 1 from rfl, run_equalIn_array W 9999 _ _ Tryd.underlying68 hi]
  obtain ⟨p0, p1, p2, p3⟩ := part5 W (.int .u8 a0) (.int .u8 a1) (.int .u8 a2) (.int .u8 a3)
  obtain ⟨q0, q1, q2, q3⟩ := part5 W (.int .u8 b0) (.int .u8 b1) (.int .u8 b2) (.int .u8 b3)
  rw [c5, show List.range 4 = [0, 1, 2, 3] from rfl, show (9999 : Nat) = 9998 + 1 from rfl, item5 W _ _ _ _ _ _ _ p0 q0, item5 W _ _ _ _ _ _ _ p1 q1, item5 W _ _ _ _ _ _ _ p2 q2, item5 W _ _ _ _ _ _ _ p3 q3]
  cases a0 == b0 <;> cases a1 == b1 <;> cases a2 == b2 <;> cases a3 == b3 <;> simp [Op.eqItems]
set_option maxHeartbeats 1000000 in
theorem isRecord_any (l : List Nat) (v : Value) (w : World) (hb : isB l) (hv : rdB w v l) (hl : 4 ≤ l.length) (hm : l.length ≤ maxLen) (hB : Beg w) : Calls Tryd.prog 32 #[v] w fun e w' => e = .returned (.bool (l.take 4 == [80, 87, 82, 49])) ∧ w.grownBy w' none := by
  obtain ⟨b, off, cap, rfl, hcap, hc⟩ := rdB_at hv (by omega)
  obtain ⟨x0, x1, x2, x3, hx⟩ : ∃ x0 x1 x2 x3, l.take 4 = [x0, x1, x2, x3] := by
    match l, hl with
    | a :: b :: c :: d :: r, _ => exact ⟨a, b, c, d, rfl⟩
  have hget : ∀ i, i < 4 → l.getD i 0 = [x0, x1, x2, x3].getD i 0 := fun i hi => by rw [← hx]; simp [List.getD, hi]
  have hr := run_copy_row (P := Tryd.prog) (w.alloc (.cells #[.int .u8 0, .int .u8 0, .int .u8 0, .int .u8 0] 68)) 23 23 3 5 w.heap.size 0 4 4 ⟨b, off, none⟩ l.length cap #[.int .u8 0, .int .u8 0, .int .u8 0, .int .u8 0] 68 [.int .u8 x0, .int .u8 x1, .int .u8 x2, .int .u8 x3] Tryd.underlying23 (by kernel_rfl) (heap_alloc_new _ _) (Nat.min_eq_right hl).symm
    (fun j v hj => by
      have hj4 : j < 4 := (List.getElem?_eq_some_iff.1 hj).1
      have hcc := hc j (by omega)
      rw [hget j hj4] at hcc
      rw [addn]
      have hb' := (gr_alloc (World.grownBy.refl w none) (.cells #[.int .u8 0, .int .u8 0, .int .u8 0, .int .u8 0] 68)).cell hcc (by simp)
      rw [hb', ← hj]
      have h4 : j = 0 ∨ j = 1 ∨ j = 2 ∨ j = 3 := by omega
      rcases h4 with rfl | rfl | rfl | rfl <;> rfl) (by simp) (by simp [Value.oneCell'])
  have hr2 : (Builtin.copy_ #[23, 23] 3 #[.slice (some ⟨w.heap.size, 0, none⟩) 4 4, .slice (some ⟨b, off, none⟩) l.length cap]).run Tryd.prog (w.alloc (.cells #[.int .u8 0, .int .u8 0, .int .u8 0, .int .u8 0] 68)) = .ok (goInt 4) ((w.alloc (.cells #[.int .u8 0, .int .u8 0, .int .u8 0, .int .u8 0] 68)).setRow w.heap.size #[.int .u8 x0, .int .u8 x1, .int .u8 x2, .int .u8 x3]) := by simpa using hr
  clear hr
  have hblk := setRow_heap (w.alloc (.cells #[.int .u8 0, .int .u8 0, .int .u8 0, .int .u8 0] 68)) w.heap.size _ #[.int .u8 x0, .int .u8 x1, .int .u8 x2, .int .u8 x3] _ _ (heap_alloc_new w _)
  have hgr : w.grownBy ((w.alloc (.cells #[.int .u8 0, .int .u8 0, .int .u8 0, .int .u8 0] 68)).setRow w.heap.size #[.int .u8 x0, .int .u8 x1, .int .u8 x2, .int .u8 x3]) none :=
    ⟨rfl, rfl, rfl, by simp, fun k hk _ => by rw [setRow_other _ _ _ _ (by omega)]; exact hp_old hk _⟩
  generalize (w.alloc (.cells #[.int .u8 0, .int .u8 0, .int .u8 0, .int .u8 0] 68)).setRow w.heap.size #[.int .u8 x0, .int .u8 x1, .int .u8 x2, .int .u8 x3] = W at hr2 hblk hgr
  have c0 := at_cell hblk 0
  have c1 := at_cell hblk 1
  have c2 := at_cell hblk 2
  have c3 := at_cell hblk 3
  simp at c0 c1 c2 c3
  obtain ⟨g0, g1, g2, g3⟩ := hB.grown hgr
  clear hblk hget hc hv
  have e4 := eq4 W x0 x1 x2 x3 80 87 82 49
  go_enter Tryd.func32, Tryd.ntmps32
  go_wp2
  go_ret
  refine ⟨ret_bool ?_, hgr⟩
  rw [hx, Bool.eq_iff_iff]
  simp
  omega

theorem made_ints (n : Nat) : madeCells (Value.int .i64 0).cells n = intsA (List.replicate n 0) := by
  have e : (Value.int .i64 0).cells = #[Value.int .i64 0] := rfl
  rw [e]
  unfold madeCells intsA
  apply Array.ext
  · simp
  · intro i h1 h2
    simp [Nat.mod_one]
theorem make_ints (n : Nat) (hn : n ≤ 1000000000000) (w : World) : (Instr.makeSlice 22 (.int .i64 (n : Int)) (.int .i64 (n : Int))).run Tryd.prog w = .ok (.slice (some ⟨w.heap.size, 0, none⟩) n n) (w.alloc (.cells (intsA (List.replicate n 0)) 3)) := by
  obtain ⟨i0, hi, hz0, hz1, hz2⟩ := info_parts info3
  have h := run_make (P := Tryd.prog) w 22 3 i0 (.int .i64 0) Tryd.underlying22 hi hz0 .i64 .i64 (n : Int) (n : Int) (by omega) (by omega) (by rw [hz2]; simp; omega) (by omega)
  rw [hz1, made_ints] at h
  simpa using h
/-- Of n numbers the first k. -/
def upTo (l : List Nat) (n k : Nat) : List Int := (List.range n).map fun i => if i < k then ((val l (i * 4) : Nat) : Int) else 0
theorem upTo_zero (l : List Nat) (n : Nat) : upTo l n 0 = List.replicate n 0 := by
  apply List.ext_getElem <;> simp [upTo]
theorem upTo_len (l : List Nat) (n k : Nat) : (upTo l n k).length = n := by simp [upTo]
theorem upTo_set (l : List Nat) (n k : Nat) : (upTo l n k).set k ((val l (k * 4) : Nat) : Int) = upTo l n (k + 1) := by
  apply List.ext_getElem
  · simp [upTo]
  · intro i h1 h2
    rw [List.getElem_set]
    simp only [upTo, List.getElem_map, List.getElem_range]
    by_cases e : k = i
    · subst e; simp
    · rw [if_neg e]
      by_cases h : i < k
      · rw [if_pos h, if_pos (by omega)]
      · rw [if_neg h, if_neg (by omega)]
def numsOf (l : List Nat) (n : Nat) : List Int := (List.range n).map fun i => ((val l (i * 4) : Nat) : Int)
theorem upTo_full (l : List Nat) (n : Nat) : upTo l n n = numsOf l n := by
  apply List.ext_getElem
  · simp [upTo, numsOf]
  · intro i h1 h2
    simp [upTo] at h1
    simp [upTo, numsOf, h1]
theorem numsOf_len (l : List Nat) (n : Nat) : (numsOf l n).length = n := by simp [numsOf]

set_option maxHeartbeats 1000000 in
theorem numbers_any (l : List Nat) (n : Nat) (v : Value) (w : World) (hb : isB l) (hv : rdB w v l) (hl : 4 * n + 4 ≤ l.length) (hn : n ≤ 2000) (hm : l.length ≤ maxLen) : Calls Tryd.prog 36 #[v, .int .i64 (n : Int)] w fun e w' => ∃ g, e = .returned (.slice (some ⟨g, 0, none⟩) n n) ∧ OwnL w.heap.size w' (some ⟨g, 0, none⟩) n (numsOf l n) ∧ w.grownBy w' none := by
  obtain ⟨b, off, cap, rfl, hcap, _⟩ := rdB_at hv (by omega)
  have HV : Hid (rdB w (.slice (some ⟨b, off, none⟩) l.length cap) l) := hv
  have HB : Hid (isB l) := hb
  obtain ⟨N, hN⟩ : ∃ N, l.length = N := ⟨_, rfl⟩
  have HN : Hid (l.length = N) := hN
  rw [hN] at hm hcap hl HV ⊢
  clear hN hv hb
  unfold maxLen at hm
  have hmk := make_ints n (by omega) w
  go_enter Tryd.func36, Tryd.ntmps36
  go_wp2
  clear hmk
  go_loopg [6, 11] n (fun gk s6 s11 wx => ∃ k : Nat, s11 = .int .i64 k ∧ k ≤ n ∧ gk = n - k ∧ wx.heap[w.heap.size]? = some (.cells (intsA (upTo l n k)) 3) ∧ w.grownBy wx none)
  case atStart => exact ⟨0, rfl, Nat.zero_le _, by omega, by rw [upTo_zero]; exact heap_alloc_new _ _, gr_alloc (World.grownBy.refl _ _) _⟩
  case round =>
    obtain ⟨k, rfl, hk, hgk, har, hgr⟩ := hrel
    have HG : Hid (gk = n - k) := hgk
    have HA : Hid (wr.heap[w.heap.size]? = some (.cells (intsA (upTo l n k)) 3)) := har
    have HW : Hid (w.grownBy wr none) := hgr
    clear hgk
    by_cases hlt : k < n
    · have r2 := rdB_drop (rdB_grown HV.out hgr) (k * 4) (N - k * 4) (cap - k * 4) (by rw [HN.out]; omega) (by omega)
      have cN := number_any _ _ wr (isB_drop HB.out (k * 4)) r2 (by simp; rw [HN.out]; omega)
      rw [val_drop, Nat.add_zero] at cN
      have f0 := at_frozen har k
      have q0 : wr.cell? ⟨w.heap.size, k, none⟩ = some (.int .i64 ((upTo l n k).getD k 0)) := by
        rw [at_cell har]
        simp [intsA, List.getD, upTo_len, hlt]
      clear har hgr r2
      have hne : ¬ cap = k * 4 := by omega
      have d1 : (k : Int) * 4 ≤ (N : Int) := by omega
      have d2 : (N : Int) ≤ (cap : Int) := by omega
      have i1 : (0 : Int) ≤ (k : Int) := by omega
      have i2 : (k : Int) < (n : Int) := by omega
      go_wp2_with fail
      refine cN.mono ?_
      rintro e w' ⟨rfl, rfl⟩
      go_wp2
      have hgl := HG.out
      go_roundg (n - (k + 1))
      all_goals first | omega | exact ⟨k + 1, by go_num, by omega, by omega, by rw [← upTo_set, ← intsA_set]; exact at_set HA.out _ _, gr_own HW.out (Nat.le_refl _) _ _⟩
    · have hk' : ¬ ((k : Int) < (n : Int)) := by omega
      have hkn : k = n := by omega
      subst hkn
      clear hgr
      go_wp2
      go_ret
      have hA := HA.out
      rw [upTo_full] at hA
      exact ⟨w.heap.size, rfl, ⟨by simp [numsOf_len], .inr ⟨w.heap.size, k, _, by rw [numsOf_len], Nat.le_refl _, hA, by rw [numsOf_len]; exact Nat.le_refl _, by unfold maxLen; omega, by simp [intsA, numsOf_len], by simp [intsA, numsOf_len, ← List.map_take, List.take_of_length_le]⟩⟩, HW.out⟩
end Go.Proofs.YtlbipcecdcmgdaaDoor
