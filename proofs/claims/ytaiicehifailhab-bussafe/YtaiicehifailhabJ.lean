/- Open, the program's. -/
import Derived.Test.YtaiicehifailhabH
namespace Go.Proofs.Ytaiicehifailhab
open Go.RowKit
attribute [local go_sem ↓] Go.wp_at_zero Go.wp_at_succ
set_option linter.unusedVariables false
set_option linter.unusedSimpArgs false

def pairV (l : List Nat) (k : Nat) : Nat := l.getD k 0 + 256 * l.getD (k + 1) 0
theorem pairV_lt {l : List Nat} (h : isB l) (k : Nat) : pairV l k < 65536 := by
  have h0 := at_byte h k
  have h1 := at_byte h (k + 1)
  unfold pairV
  omega
theorem pairV_drop (l : List Nat) (k j : Nat) : pairV (l.drop k) j = pairV l (k + j) := by
  unfold pairV
  simp [List.getD, Nat.add_assoc]
theorem pairV_take (l : List Nat) (k j : Nat) (h : j + 1 < k) : pairV (l.take k) j = pairV l j := by
  unfold pairV
  have e : ∀ i, i < k → (l.take k).getD i 0 = l.getD i 0 := fun i hi => by simp [List.getD, hi]
  rw [e _ (by omega), e _ (by omega)]
theorem withinB_any (n lo hi : Nat) (w : World) : Calls Try.prog 28 #[.int .u8 (n : Int), .int .u8 (lo : Int), .int .u8 (hi : Int)] w fun e w' => e = .returned (.bool (decide (lo ≤ n) && decide (n ≤ hi))) ∧ w = w' := by
  go_enter Try.func28, Try.ntmps28
  by_cases h0 : lo ≤ n
  · have i0 : (lo : Int) ≤ (n : Int) := by omega
    go_wp2
    go_ret
    refine ⟨ret_bool ?_, rfl⟩
    simp [h0]
  · have i0 : ¬ (lo : Int) ≤ (n : Int) := by omega
    have i1 : (n : Int) < (lo : Int) := by omega
    go_wp2
    go_ret
    exact ⟨ret_bool (by simp [h0]), rfl⟩
theorem or_pair (x y : Nat) (hx : x < 256) (hy : y < 256) : bits BinOp.or IntKind.i64 (x : Int) ((256 * y : Nat) : Int) = ((x + 256 * y : Nat) : Int) := by
  have h := (bits_nat .i64 32 (by decide) (fun n h0 h1 => i64_id (by omega) (by omega)) x (256 * y) (by omega) (by omega)).2
  rw [Nat.or_comm, show 256 * y = 2 ^ 8 * y from rfl, ← Nat.two_pow_add_eq_or_of_lt (by simpa using hx) y] at h
  rw [Nat.add_comm x]
  exact h
set_option maxHeartbeats 1000000 in
theorem pair_any (l : List Nat) (v : Value) (w : World) (hb : isB l) (hv : rdB w v l) (hl : 2 ≤ l.length) : Calls Try.prog 30 #[v] w fun e w' => e = .returned (.int .i64 ((pairV l 0 : Nat) : Int)) ∧ ∃ m, w' = w.drewN m := by
  obtain ⟨b, off, cap, rfl, _, hc⟩ := rdB_at hv (by omega)
  have q0 := hc 0 (by omega)
  have q1 := hc 1 (by omega)
  have h0 := at_byte hb 0
  have h1 := at_byte hb 1
  have hor := or_pair _ _ h0 h1
  unfold pairV
  simp only [Nat.zero_add]
  clear hc hv
  generalize l.getD 0 0 = x at *
  generalize l.getD 1 0 = y at *
  obtain ⟨n, hn⟩ : ∃ n, l.length = n := ⟨_, rfl⟩
  rw [hn] at hl ⊢
  clear hn
  have i0 : (0 : Int) < (n : Int) := by omega
  have i1 : (1 : Int) < (n : Int) := by omega
  have j0 : 0 < n := by omega
  have j1 : 1 < n := by omega
  rw [Nat.add_zero] at q0
  have z0 : IntKind.i64.wrap (x : Int) = x := i64_id (by omega) (by omega)
  have z1 : IntKind.i64.wrap (y : Int) = y := i64_id (by omega) (by omega)
  go_enter Try.func30, Try.ntmps30
  go_wp2_with fail
  go_quiet (fail)
  go_wp2
  go_ret
  refine ⟨ret_int ?_, _, rfl⟩
  have hc : (y : Int) * 256 = ((256 * y : Nat) : Int) := by omega
  show bits BinOp.or IntKind.i64 (x : Int) ((y : Int) * 256) = _
  rw [hc]
  exact hor
theorem rd_drewN {w : World} {v : Value} {l : List Nat} (h : rdB w v l) (k : Nat) : rdB (w.drewN k) v l := rdB_grown h (gr_drewN (World.grownBy.refl _ _) k)
set_option maxHeartbeats 1000000 in
theorem isRight_any (l : List Nat) (m : Nat) (v : Value) (w : World) (hb : isB l) (hv : rdB w v l) (hl : l.length = m + 2) (hm : l.length ≤ maxLen) : Calls Try.prog 29 #[v] w fun e w' => e = .returned (.bool (pairV l m == crc (l.take m))) ∧ w.grownBy w' none := by
  obtain ⟨b, off, cap, rfl, hcap, _⟩ := rdB_at hv (by omega)
  have r1 := rdB_take hv m (by omega)
  have r2 := rdB_drop hv m 2 (cap - m) (by omega) (by omega)
  have cN := fun k => pair_any _ _ (w.drewN k) (isB_drop hb m) (rd_drewN r2 k) (by simp; omega)
  have cS := fun k => sum_any _ _ (w.drewN k) (isB_take hb m) (rd_drewN r1 k) (by simp; omega)
  simp only [pairV_drop, Nat.add_zero] at cN
  have hne : ¬ cap = m := by omega
  clear r1 r2 hv
  rw [hl] at hm hcap ⊢
  unfold maxLen at hm
  have i0 : (0 : Int) ≤ (m : Int) := by omega
  have i1 : (m : Int) ≤ (m : Int) + 2 := by omega
  have i2 : (m : Int) ≤ (cap : Int) := by omega
  have i3 : (m : Int) + 2 ≤ (cap : Int) := by omega
  have q1 := fun k => Calls.quiet_of (cN k)
  have q2 := fun k => Calls.quiet_of_same ((cS k).mono fun _ _ h => ⟨h.1, h.2.symm⟩)
  go_enter Try.func29, Try.ntmps29
  go_wp2_with fail
  go_quiet (first | (go_at_call 30; with_reducible exact q1 _) | (go_at_call 18; with_reducible exact q2 _))
  go_wp2
  go_ret
  refine ⟨ret_bool ?_, gr_drewN (World.grownBy.refl _ _) _⟩
  rw [Bool.eq_iff_iff]
  simp
  omega
/-- What is wrong with the bytes of a frame. -/
def openE (l : List Nat) : Nat :=
  if l.length < 5 then 4 else if l.length ≠ 2 * l.getD 2 0 + 5 then 4 else if pairV l (l.length - 2) ≠ crc (l.take (l.length - 2)) then 17 else if 247 < l.getD 0 0 then 3 else if 60 < l.getD 2 0 then 4 else 0
set_option maxHeartbeats 1000000 in
theorem lookAtFrame_any (l : List Nat) (v : Value) (w : World) (hb : isB l) (hv : rdB w v l) (hm : l.length ≤ maxLen) : Calls Try.prog 26 #[v] w fun e w' => e = .returned (.int .i64 (openE l : Int)) ∧ w.grownBy w' none := by
  have hv0 := hv
  have c5 := frameSize_any 0 w (by omega)
  by_cases h5 : l.length < 5
  · obtain ⟨a, cap, rfl, hcap, _⟩ := hv0
    have hE : openE l = 4 := by unfold openE; rw [if_pos h5]
    have i0 : ((l.length : Nat) : Int) < 5 := by omega
    rw [hE]
    go_enter Try.func26, Try.ntmps26
    go_wp2_with fail
    refine c5.mono ?_
    rintro e w' ⟨rfl, rfl⟩
    go_wp2
    go_ret
    exact ⟨rfl, World.grownBy.refl _ _⟩
  obtain ⟨b, off, cap, rfl, hcap, hc⟩ := rdB_at hv0 (by omega)
  have q0 := hc 0 (by omega)
  have q2 := hc 2 (by omega)
  rw [Nat.add_zero] at q0
  have b0 := at_byte hb 0
  have b2 := at_byte hb 2
  have cS := fun W => frameSize_any (l.getD 2 0) W (by omega)
  have HE : Hid (openE l = if l.length ≠ 2 * l.getD 2 0 + 5 then 4 else if pairV l (l.length - 2) ≠ crc (l.take (l.length - 2)) then 17 else if 247 < l.getD 0 0 then 3 else if 60 < l.getD 2 0 then 4 else 0) := hidI (by unfold openE; rw [if_neg h5])
  have cR := isRight_any l (l.length - 2) _ w hb hv (by omega) hm
  have cA := fun W => withinB_any (l.getD 0 0) 0 247 W
  have cB := fun W => withinB_any (l.getD 2 0) 0 60 W
  generalize pairV l (l.length - 2) = P at *
  generalize crc (l.take (l.length - 2)) = C at *
  obtain ⟨n, hn⟩ : ∃ n, l.length = n := ⟨_, rfl⟩
  have HN : Hid (l.length = n) := hn
  rw [hn] at hm hcap h5 HE cR ⊢
  clear hn hc hv hv0
  unfold maxLen at hm
  generalize l.getD 0 0 = x0 at *
  generalize l.getD 2 0 = x2 at *
  have i0 : ¬ (n : Int) < 5 := by omega
  have i1 : (0 : Int) < (n : Int) := by omega
  have i2 : (2 : Int) < (n : Int) := by omega
  have j0 : 0 < n := by omega
  have j2 : 2 < n := by omega
  have hg0 : ∀ W, w.grownBy W none → w.grownBy W none := fun _ h => h
  obtain ⟨sz, hsz⟩ : ∃ s, 2 * x2 + 5 = s := ⟨_, rfl⟩
  rw [hsz] at cS HE
  clear hsz
  by_cases h6 : n = sz
  case neg =>
    have i3 : ((n : Int) != (sz : Int)) = true := by simpa using (show ¬ ((n : Int) = (sz : Int)) by omega)
    go_enter Try.func26, Try.ntmps26
    go_wp2_with fail
    refine c5.mono ?_
    rintro e w' ⟨rfl, rfl⟩
    go_wp2_with fail
    refine (cS _).mono ?_
    rintro e w' ⟨rfl, rfl⟩
    go_wp2
    go_ret
    rw [HE.out, if_pos h6]
    exact ⟨rfl, World.grownBy.refl _ _⟩
  subst h6
  have HE2 : Hid (openE l = if P ≠ C then 17 else if 247 < x0 then 3 else if 60 < x2 then 4 else 0) := hidI (by rw [HE.out, if_neg (by simp)])
  clear HE
  go_enter Try.func26, Try.ntmps26
  go_wp2_with fail
  refine c5.mono ?_
  rintro e w' ⟨rfl, rfl⟩
  go_wp2_with fail
  refine (cS _).mono ?_
  rintro e w' ⟨rfl, rfl⟩
  go_wp2_with fail
  refine cR.mono ?_
  rintro e w1 ⟨rfl, hg1⟩
  have q0' := hg1.cell q0 (by simp)
  have q2' := hg1.cell q2 (by simp)
  by_cases hp : P = C
  case neg =>
    have e2 : (P == C) = false := by simpa using hp
    rw [e2]
    go_wp2
    go_ret
    rw [HE2.out, if_pos hp]
    exact ⟨rfl, hg1⟩
  have e2 : (P == C) = true := by simpa using hp
  rw [e2]
  have HP : Hid (P = C) := hp
  clear hp e2
  go_wp2_with fail
  refine (cA _).mono ?_
  rintro e w' ⟨rfl, rfl⟩
  by_cases h7 : x0 ≤ 247
  case neg =>
    have e3 : (decide (0 ≤ x0) && decide (x0 ≤ 247)) = false := by simp [h7]
    rw [e3]
    go_wp2
    go_ret
    rw [HE2.out, if_neg (by simp [HP.out]), if_pos (by omega)]
    exact ⟨rfl, hg1⟩
  have e3 : (decide (0 ≤ x0) && decide (x0 ≤ 247)) = true := by simp [h7]
  rw [e3]
  clear e3
  go_wp2_with fail
  refine (cB _).mono ?_
  rintro e w' ⟨rfl, rfl⟩
  by_cases h8 : x2 ≤ 60
  case neg =>
    have e3 : (decide (0 ≤ x2) && decide (x2 ≤ 60)) = false := by simp [h8]
    rw [e3]
    go_wp2
    go_ret
    rw [HE2.out, if_neg (by simp [HP.out]), if_neg (by omega), if_pos (by omega)]
    exact ⟨rfl, hg1⟩
  have e3 : (decide (0 ≤ x2) && decide (x2 ≤ 60)) = true := by simp [h8]
  rw [e3]
  clear e3
  go_wp2
  go_ret
  rw [HE2.out, if_neg (by simp [HP.out]), if_neg (by omega), if_neg (by omega)]
  exact ⟨rfl, hg1⟩
theorem made_ints (n : Nat) : madeCells (Value.int .i64 0).cells n = intsA (List.replicate n 0) := by
  have e : (Value.int .i64 0).cells = #[Value.int .i64 0] := rfl
  rw [e]
  unfold madeCells intsA
  apply Array.ext
  · simp
  · intro i h1 h2
    simp [Nat.mod_one]
theorem make_ints (n : Nat) (hn : n ≤ 1000000000000) (w : World) : (Instr.makeSlice 22 (.int .i64 (n : Int)) (.int .i64 (n : Int))).run Try.prog w = .ok (.slice (some ⟨w.heap.size, 0, none⟩) n n) (w.alloc (.cells (intsA (List.replicate n 0)) 3)) := by
  obtain ⟨i0, hi, hz0, hz1, hz2⟩ := info_parts info3
  have h := run_make (P := Try.prog) w 22 3 i0 (.int .i64 0) Try.underlying22 hi hz0 .i64 .i64 (n : Int) (n : Int) (by omega) (by omega) (by rw [hz2]; simp; omega) (by omega)
  rw [hz1, made_ints] at h
  simpa using h
/-- Of n numbers the first k. -/
def upTo (l : List Nat) (n k : Nat) : List Int := (List.range n).map fun i => if i < k then ((pairV l (i * 2) : Nat) : Int) else 0
theorem upTo_zero (l : List Nat) (n : Nat) : upTo l n 0 = List.replicate n 0 := by
  apply List.ext_getElem <;> simp [upTo]
theorem upTo_len (l : List Nat) (n k : Nat) : (upTo l n k).length = n := by simp [upTo]
theorem upTo_set (l : List Nat) (n k : Nat) : (upTo l n k).set k ((pairV l (k * 2) : Nat) : Int) = upTo l n (k + 1) := by
  apply List.ext_getElem
  · simp [upTo]
  · intro i h1 h2
    rw [List.getElem_set]
    simp only [upTo, List.getElem_map, List.getElem_range]
    by_cases e : k = i
    · subst e; simp
    · rw [if_neg e]
      by_cases h : i < k
      · rw [if_pos h, if_pos (by omega)]
      · rw [if_neg h, if_neg (by omega)]
def wordsOf (l : List Nat) (n : Nat) : List Int := (List.range n).map fun i => ((pairV l (i * 2) : Nat) : Int)
theorem upTo_full (l : List Nat) (n : Nat) : upTo l n n = wordsOf l n := by
  apply List.ext_getElem
  · simp [upTo, wordsOf]
  · intro i h1 h2
    simp [upTo] at h1
    simp [upTo, wordsOf, h1]
theorem wordsOf_len (l : List Nat) (n : Nat) : (wordsOf l n).length = n := by simp [wordsOf]
set_option maxHeartbeats 1000000 in
theorem pairs_any (l : List Nat) (n : Nat) (v : Value) (w : World) (hb : isB l) (hv : rdB w v l) (hl : 2 * n + 2 ≤ l.length) (hn : n ≤ 2000) (hm : l.length ≤ maxLen) : Calls Try.prog 27 #[v, .int .i64 (n : Int)] w fun e w' => ∃ g, e = .returned (.slice (some ⟨g, 0, none⟩) n n) ∧ OwnL w.heap.size w' (some ⟨g, 0, none⟩) n (wordsOf l n) ∧ w.grownBy w' none := by
  obtain ⟨b, off, cap, rfl, hcap, _⟩ := rdB_at hv (by omega)
  have HV : Hid (rdB w (.slice (some ⟨b, off, none⟩) l.length cap) l) := hv
  have HB : Hid (isB l) := hb
  obtain ⟨N, hN⟩ : ∃ N, l.length = N := ⟨_, rfl⟩
  have HN : Hid (l.length = N) := hN
  rw [hN] at hm hcap hl HV ⊢
  clear hN hv hb
  unfold maxLen at hm
  have hmk := make_ints n (by omega) w
  go_enter Try.func27, Try.ntmps27
  go_wp2
  clear hmk
  go_loopg [6, 11] n (fun gk s6 s11 wx => ∃ k : Nat, s11 = .int .i64 k ∧ k ≤ n ∧ gk = n - k ∧ Hid (wx.heap[w.heap.size]? = some (.cells (intsA (upTo l n k)) 3)) ∧ Hid (w.grownBy wx none))
  case atStart => exact ⟨0, rfl, Nat.zero_le _, by omega, hidI (by rw [upTo_zero]; exact heap_alloc_new _ _), hidI (gr_alloc (World.grownBy.refl _ _) _)⟩
  case round =>
    obtain ⟨k, rfl, hk, hgk, HA, HW⟩ := hrel
    have HG : Hid (gk = n - k) := hgk
    clear hgk
    by_cases hlt : k < n
    · have r2 := rdB_drop (rdB_grown HV.out HW.out) (k * 2) (N - k * 2) (cap - k * 2) (by rw [HN.out]; omega) (by omega)
      have cN := pair_any _ _ wr (isB_drop HB.out (k * 2)) r2 (by simp; rw [HN.out]; omega)
      rw [pairV_drop, Nat.add_zero] at cN
      have f0 := fun m => at_frozen (W := wr.drewN m) HA.out k
      have q0 : ∀ m, (wr.drewN m).cell? ⟨w.heap.size, k, none⟩ = some (.int .i64 ((upTo l n k).getD k 0)) := fun m => by
        rw [at_cell (W := wr.drewN m) HA.out]
        simp [intsA, List.getD, upTo_len, hlt]
      clear r2
      have hne : ¬ cap = k * 2 := by omega
      have d1 : (k : Int) * 2 ≤ (N : Int) := by omega
      have d2 : (N : Int) ≤ (cap : Int) := by omega
      have i1 : (0 : Int) ≤ (k : Int) := by omega
      have i2 : (k : Int) < (n : Int) := by omega
      go_wp2_with fail
      refine cN.mono ?_
      rintro e w' ⟨rfl, m, rfl⟩
      have f1 := f0 m
      have q1 := q0 m
      have HNEW : Hid (((wr.drewN m).setCell ⟨w.heap.size, k, none⟩ (.int .i64 ((pairV l (k * 2) : Nat) : Int))).heap[w.heap.size]? = some (.cells (intsA (upTo l n (k + 1))) 3)) := hidI (by rw [← upTo_set, ← intsA_set]; exact at_set (W := wr.drewN m) HA.out _ _)
      have HW2 : Hid (w.grownBy ((wr.drewN m).setCell ⟨w.heap.size, k, none⟩ (.int .i64 ((pairV l (k * 2) : Nat) : Int))) none) := hidI (gr_own (gr_drewN HW.out m) (Nat.le_refl _) _ _)
      clear f0 q0 cN
      go_wp2
      have hgl := HG.out
      go_roundg (n - (k + 1))
      all_goals first | omega | exact ⟨k + 1, by go_num, by omega, by omega, HNEW, HW2⟩
    · have hk' : ¬ ((k : Int) < (n : Int)) := by omega
      have hkn : k = n := by omega
      subst hkn
      go_wp2
      go_ret
      have hA := HA.out
      rw [upTo_full] at hA
      exact ⟨w.heap.size, rfl, ⟨by simp [wordsOf_len], .inr ⟨w.heap.size, k, _, by rw [wordsOf_len], Nat.le_refl _, hA, by rw [wordsOf_len]; exact Nat.le_refl _, by unfold maxLen; omega, by simp [intsA, wordsOf_len], by simp [intsA, wordsOf_len, ← List.map_take, List.take_of_length_le]⟩⟩, HW.out⟩
def openW (l : List Nat) : List Int := if openE l = 0 then wordsOf (l.drop 3) (l.getD 2 0) else []
def openS (l : List Nat) : Nat := if openE l = 0 then l.getD 0 0 else 0
def openQ (l : List Nat) : Nat := if openE l = 0 then l.getD 1 0 else 0
theorem open_no {l : List Nat} (h : openE l ≠ 0) : openW l = [] ∧ openS l = 0 ∧ openQ l = 0 := by simp [openW, openS, openQ, h]
theorem open_yes {l : List Nat} (h : openE l = 0) : openW l = wordsOf (l.drop 3) (l.getD 2 0) ∧ openS l = l.getD 0 0 ∧ openQ l = l.getD 1 0 ∧ l.length = 2 * l.getD 2 0 + 5 ∧ l.getD 2 0 ≤ 60 := by
  refine ⟨by simp [openW, h], by simp [openS, h], by simp [openQ, h], ?_⟩
  unfold openE at h
  repeat' split at h
  all_goals omega
theorem results_tmp4 {fn : Func} {t u v x : Tmp} (h : fn.results = #[.tmp t, .tmp u, .tmp v, .tmp x]) (tmps : Array Value) (P : Program) (w : World) :
    (results fn tmps).run P w = .ok (.tuple #[tmps.getD t undef, tmps.getD u undef, tmps.getD v undef, tmps.getD x undef]) w := by
  simp [results, h]
/-- Two numbers, a list of numbers, an error: what a call tells. -/
def OpP (w w' : World) (e : Ending) (S Q : Nat) (W : List Int) (c : Nat) : Prop :=
  ∃ a cap, e = .returned (.tuple #[.int .i64 (S : Int), .int .i64 (Q : Int), .slice a W.length cap, .int .i64 (c : Int)]) ∧ OwnL w.heap.size w' a cap W ∧ w.grownBy w' none
set_option maxRecDepth 10000 in
set_option maxHeartbeats 1000000 in
theorem open_any (l : List Nat) (v : Value) (w : World) (hb : isB l) (hv : rdB w v l) (hm : l.length ≤ maxLen) : Calls Try.prog 20 #[v] w fun e w' => OpP w w' e (openS l) (openQ l) (openW l) (openE l) := by
  have cL := lookAtFrame_any l v w hb hv hm
  obtain ⟨a, cap, rfl, hcap, _⟩ := id hv
  by_cases hE : openE l = 0
  case neg =>
    obtain ⟨e1, e2, e3⟩ := open_no hE
    rw [e1, e2, e3]
    generalize openE l = E at *
    have i3 : ¬ ((E : Int) = 0) := by omega
    go_enter Try.func20, Try.ntmps20
    go_wp2_with fail
    refine cL.mono ?_
    rintro e w1 ⟨rfl, hg1⟩
    go_wp2
    refine bodyPost_ret (results_tmp4 rfl _ _ _) rfl ?_
    exact ⟨none, 0, rfl, OwnL.nil _ _, hg1⟩
  obtain ⟨e1, e2, e3, hl, h60⟩ := open_yes hE
  rw [e1, e2, e3, hE]
  rw [hE] at cL
  clear e1 e2 e3 hE
  obtain ⟨b, off, cap', he, _, hc⟩ := rdB_at hv (by omega)
  injection he with z1 z2 z3
  subst z1
  have q0 := hc 0 (by omega)
  have q1 := hc 1 (by omega)
  have q2 := hc 2 (by omega)
  rw [Nat.add_zero] at q0
  have b0 := at_byte hb 0
  have b1 := at_byte hb 1
  have r3 := rdB_drop hv 3 (2 * l.getD 2 0 + 2) (cap - 3) (by omega) (by omega)
  have cP := fun (W : World) (hg : w.grownBy W none) => pairs_any (l.drop 3) (l.getD 2 0) _ W (isB_drop hb 3) (rdB_grown r3 hg) (by rw [List.length_drop]; omega) (by omega) (by rw [List.length_drop]; omega)
  have hWl := wordsOf_len (l.drop 3) (l.getD 2 0)
  rw [hl] at hcap cL ⊢
  clear hc z2 z3 r3 hv hm hl hb
  generalize wordsOf (l.drop 3) (l.getD 2 0) = WD at *
  generalize l.getD 0 0 = x0 at *
  generalize l.getD 1 0 = x1 at *
  generalize l.getD 2 0 = n at *
  have hne : ¬ cap = 3 := by omega
  have i0 : (0 : Int) < 2 * (n : Int) + 5 := by omega
  have i1 : (1 : Int) < 2 * (n : Int) + 5 := by omega
  have i2 : (2 : Int) < 2 * (n : Int) + 5 := by omega
  have i3 : (3 : Int) ≤ 2 * (n : Int) + 5 := by omega
  have i4 : 2 * (n : Int) + 5 ≤ (cap : Int) := by omega
  have m0 : IntKind.i64.wrap (x0 : Int) = x0 := i64_id (by omega) (by omega)
  have m1 : IntKind.i64.wrap (x1 : Int) = x1 := i64_id (by omega) (by omega)
  have m2 : IntKind.i64.wrap (n : Int) = n := i64_id (by omega) (by omega)
  go_enter Try.func20, Try.ntmps20
  go_wp2_with fail
  refine cL.mono ?_
  rintro e w1 ⟨rfl, hg1⟩
  have p0 := hg1.cell q0 (by simp)
  have p1 := hg1.cell q1 (by simp)
  have p2 := hg1.cell q2 (by simp)
  have cQ : ∀ W, w1.grownBy W none → Calls Try.prog 27 #[.slice (some ⟨b, off + 3, none⟩) (2 * n + 2) (cap - 3), .int .i64 (n : Int)] W (fun e w2 => ∃ g, e = .returned (.slice (some ⟨g, 0, none⟩) n n) ∧ OwnL w.heap.size w2 (some ⟨g, 0, none⟩) n WD ∧ w2.cell? ⟨b, off, none⟩ = some (.int .u8 (x0 : Int)) ∧ w2.cell? ⟨b, off + 1, none⟩ = some (.int .u8 (x1 : Int)) ∧ w2.cell? ⟨b, off + 2, none⟩ = some (.int .u8 (n : Int)) ∧ w1.grownBy w2 none) := fun W hg => (cP W (grown_join hg1 hg (.inl rfl))).mono fun e w2 ⟨g, h1, h2, h3⟩ => by
    have hj := grown_join hg h3 (.inl rfl)
    exact ⟨g, h1, own_low h2 (grown_join hg1 hg (.inl rfl)).size, hj.cell p0 (by simp), hj.cell p1 (by simp), hj.cell p2 (by simp), hj⟩
  clear cP q0 q1 q2 cL
  go_wp2_with fail
  go_region_held3 (fun w' => w'.cell? ⟨b, off, none⟩ = some (.int .u8 (x0 : Int)) ∧ w'.cell? ⟨b, off + 1, none⟩ = some (.int .u8 (x1 : Int)) ∧ w'.cell? ⟨b, off + 2, none⟩ = some (.int .u8 (n : Int)) ∧ w1.grownBy w' none) (refine ⟨?_, ?_, ?_, ?_⟩ <;> first | assumption | exact gr_drew (World.grownBy.refl _ _) | (go_keep; done)) (first | (go_at_call 27; refine (cQ _ (by first | assumption | exact gr_drew (World.grownBy.refl _ _))).mono ?_; rintro e w2 ⟨g, rfl, HO, k0, k1, k2, kg⟩))
  go_wp2
  refine bodyPost_ret (results_tmp4 rfl _ _ _) rfl ?_
  exact ⟨some ⟨g, 0, none⟩, n, by rw [hWl]; rfl, HO, grown_join hg1 kg (.inl rfl)⟩
theorem rd.cells {w : World} {a : Option Addr} {cap : Nat} {l : List Int} (h : rd w (.slice a l.length cap) l) : l.length = 0 ∨ ∃ b off, a = some ⟨b, off, none⟩ ∧ ∀ j u, (l.map (Value.int .i64))[j]? = some u → w.cell? ((⟨b, off, none⟩ : Addr).add j) = some u := by
  obtain ⟨a', cap', e, h | ⟨b, off, rfl, hc⟩⟩ := h
  · left; simp [h]
  · injection e with e1 e2 e3
    subst e1 e3
    refine .inr ⟨b, off, rfl, fun j u hj => ?_⟩
    simp at hj
    obtain ⟨x, hx, rfl⟩ := hj
    have hj : j < l.length := (List.getElem?_eq_some_iff.1 hx).1
    rw [addn, hc j hj]
    simp [List.getD_eq_getElem?_getD, hx]
theorem own_ne {B e size n : Nat} {r : Option Nat} {w w' : World} {v : Value} {xs : List Value} (h : w.ownsRow B e size v n xs) (hg : w.grownBy w' r) (hne : ∀ x, v.ownBlock = some x → r ≠ some x) : w'.ownsRow B e size v n xs :=
  World.ownsRow.kept h hg (by
    cases hv : v.ownBlock with
    | none => exact .inl rfl
    | some x => exact .inr (fun e => hne x hv e.symm))
end Go.Proofs.Ytaiicehifailhab
