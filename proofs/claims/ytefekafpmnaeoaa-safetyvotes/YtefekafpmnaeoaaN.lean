/- Votes that hold. -/
import Derived.Test.YtefekafpmnaeoaaM
namespace Go.Proofs.Ytefekafpmnaeoaa
open Go.RowKit
attribute [local go_sem ↓] Go.wp_at_zero Go.wp_at_succ
set_option linter.unusedVariables false
set_option linter.unusedSimpArgs false

/-- How many of these sensors do not tell calm. -/
def cnt (told : List Int) : List Int → Nat
  | [] => 0
  | s :: l => (if told.getD s.toNat 0 = 0 then 0 else 1) + cnt told l
theorem cnt_le (told l : List Int) : cnt told l ≤ l.length := by
  induction l with
  | nil => simp [cnt]
  | cons s l ih => simp only [cnt, List.length_cons]; split <;> omega
theorem cnt_snoc (told l : List Int) (s : Int) : cnt told (l ++ [s]) = cnt told l + if told.getD s.toNat 0 = 0 then 0 else 1 := by
  induction l with
  | nil => simp [cnt]
  | cons x l ih => simp only [List.cons_append, cnt, ih]; omega
def holdB (told : List Int) (need : Int) (of : List Int) : Bool := decide (need ≤ (cnt told of : Int))
/-- Sensors that there are. -/
def Named (n : Nat) (of : List Int) : Prop := ∀ x ∈ of, 0 ≤ x ∧ x < (n : Int)

set_option maxRecDepth 10000 in
set_option maxHeartbeats 1000000 in
theorem holds_any (told : List Int) (need : Int) (of : List Int) (u t : Value) (w : World) (hu : rd w u of) (ht : rd w t told) (hl : of.length ≤ 17592186044416) (hn : Named told.length of) :
    Calls Try.prog 34 #[.agg #[.int .i64 need, u], t] w fun e w' => e = .returned (.bool (holdB told need of)) ∧ w.grownBy w' none := by
  obtain ⟨ua, uc, rfl, _⟩ := id hu
  obtain ⟨ta, tc, rfl, _⟩ := id ht
  have hW : (w.alloc (.cells #[.int .i64 need, .slice ua of.length uc] 50)).heap[w.heap.size]? = some (.cells #[.int .i64 need, .slice ua of.length uc] 50) := heap_alloc_new _ _
  have hg0 : w.grownBy (w.alloc (.cells #[.int .i64 need, .slice ua of.length uc] 50)) none := gr_alloc (World.grownBy.refl _ _) _
  go_enter Try.func34, Try.ntmps34
  go_upto_region 1 with fail
  have hu' := rd_grown hu hg0
  have ht' := rd_grown ht hg0
  clear hu ht
  generalize w.alloc (.cells #[.int .i64 need, .slice ua of.length uc] 50) = W at *
  generalize w.heap.size = p at *
  have y0 : W.cell? ⟨p, 0, none⟩ = some (.int .i64 need) := at_cell hW 0
  have y1 : W.cell? ⟨p, 1, none⟩ = some (.slice ua of.length uc) := at_cell hW 1
  have HX := hidI (And.intro hu' (And.intro ht' (And.intro hg0 hn)))
  obtain ⟨m, hm⟩ : ∃ m, of.length = m := ⟨_, rfl⟩
  obtain ⟨n, hnn⟩ : ∃ n, told.length = n := ⟨_, rfl⟩
  have HM := hidI hm
  have HN := hidI hnn
  rw [hm] at y1 hl ⊢
  rw [hnn]
  clear hW hg0 hu' ht' hn hm hnn
  go_wp2_with fail
  go_loopg [5, 11] m (fun gk s5 s11 wx => ∃ k c : Nat, s11 = .int .i64 k ∧ s5 = .int .i64 c ∧ k ≤ m ∧ c ≤ k ∧ gk = m - k ∧ Hid (c = cnt told (of.take k)) ∧ W = wx)
  case atStart => exact ⟨0, 0, rfl, rfl, Nat.zero_le _, Nat.le_refl _, by omega, hidI (by simp [cnt]), rfl⟩
  case round =>
    obtain ⟨k, c, rfl, rfl, hk, hck, hgk, HC, hw⟩ := hrel
    subst hw
    have HG : Hid (gk = m - k) := hgk
    clear hgk
    by_cases hlt : k < m
    · have hkl : k < of.length := by rw [HM.out]; exact hlt
      obtain ⟨hu', ht', hg0, hn⟩ := HX.out
      obtain ⟨ua', uc', ev, h | ⟨b, off, rfl, hc⟩⟩ := hu'
      · subst h; simp at hkl
      simp at ev
      obtain ⟨rfl, rfl⟩ := ev
      have q0 := hc k hkl
      have hx := hn (of.getD k 0) (by
        have : of.getD k 0 = of[k] := by simp [List.getD, hkl]
        rw [this]; exact List.getElem_mem _)
      obtain ⟨x, hxe⟩ := Int.eq_ofNat_of_zero_le hx.1
      have hxn : x < told.length := by omega
      obtain ⟨ta', tc', ev, h | ⟨b', off', rfl, hc'⟩⟩ := ht'
      · subst h; simp at hxn
      simp at ev
      obtain ⟨rfl, rfl⟩ := ev
      have q1 := hc' x hxn
      have HT : Hid (cnt told (of.take (k + 1)) = cnt told (of.take k) + if told.getD x 0 = 0 then 0 else 1) := hidI (by
        have : of.take (k + 1) = of.take k ++ [of.getD k 0] := by
          rw [List.take_add_one]
          simp [List.getD, hkl]
        rw [this, cnt_snoc, hxe]; rfl)
      rw [hxe] at q0
      rw [HN.out] at hxn
      generalize told.getD x 0 = z at *
      have i1 : (0 : Int) ≤ (k : Int) := by omega
      have i2 : (k : Int) < (m : Int) := by omega
      have i3 : (0 : Int) ≤ (x : Int) := by omega
      have i4 : (x : Int) < (n : Int) := by omega
      clear hc hc' hx hxe hkl hg0 hn
      by_cases hz : z = 0
      · subst hz
        go_wp2
        have hgl := HG.out
        go_roundg (m - (k + 1))
        all_goals first | omega | exact ⟨k + 1, c, by go_num, rfl, by omega, by omega, by omega, hidI (by rw [HT.out, ← HC.out]; simp), rfl⟩
      · have hz' : (z == 0) = false := by simpa using hz
        go_wp2
        have hgl := HG.out
        go_roundg (m - (k + 1))
        all_goals first | omega | exact ⟨k + 1, c + 1, by go_num, by go_num, by omega, by omega, by omega, hidI (by rw [HT.out, ← HC.out, if_neg hz]), rfl⟩
    · have hk' : ¬ ((k : Int) < (m : Int)) := by omega
      have hkn : of.take k = of := List.take_of_length_le (by rw [HM.out]; omega)
      rw [hkn] at HC
      go_wp2
      go_ret
      refine ⟨ret_bool ?_, HX.out.2.2.1⟩
      unfold holdB
      rw [← HC.out]

set_option maxRecDepth 10000 in
set_option maxHeartbeats 1000000 in
theorem kholds_any (told : List Int) (need : Int) (of : List Int) (u t : Value) (w : World) (hu : rd w u of) (ht : rd w t told) (hl : of.length ≤ 17592186044416) (hn : Named told.length of) :
    Calls Try.prog 20 #[.agg #[.int .i64 need, u], t] w fun e w' => e = .returned (.bool (holdB told need of)) ∧ w.grownBy w' none := by
  obtain ⟨ua, uc, rfl, _⟩ := id hu
  obtain ⟨ta, tc, rfl, _⟩ := id ht
  have hW : (w.alloc (.cells #[.int .i64 need, .slice ua of.length uc] 50)).heap[w.heap.size]? = some (.cells #[.int .i64 need, .slice ua of.length uc] 50) := heap_alloc_new _ _
  have hg0 : w.grownBy (w.alloc (.cells #[.int .i64 need, .slice ua of.length uc] 50)) none := gr_alloc (World.grownBy.refl _ _) _
  go_enter Try.func20, Try.ntmps20
  go_upto_region 1 with fail
  have hu' := rd_grown hu hg0
  have ht' := rd_grown ht hg0
  clear hu ht
  generalize w.alloc (.cells #[.int .i64 need, .slice ua of.length uc] 50) = W at *
  generalize w.heap.size = p at *
  have y0 : W.cell? ⟨p, 0, none⟩ = some (.int .i64 need) := at_cell hW 0
  have y1 : W.cell? ⟨p, 1, none⟩ = some (.slice ua of.length uc) := at_cell hW 1
  have HX := hidI (And.intro hu' (And.intro ht' (And.intro hg0 hn)))
  obtain ⟨m, hm⟩ : ∃ m, of.length = m := ⟨_, rfl⟩
  obtain ⟨n, hnn⟩ : ∃ n, told.length = n := ⟨_, rfl⟩
  have HM := hidI hm
  have HN := hidI hnn
  rw [hm] at y1 hl ⊢
  rw [hnn]
  clear hW hg0 hu' ht' hn hm hnn
  go_wp2_with fail
  go_loopg [5, 6] m (fun gk s5 s11 wx => ∃ k c : Nat, s11 = .int .i64 k ∧ s5 = .int .i64 c ∧ k ≤ m ∧ c ≤ k ∧ gk = m - k ∧ Hid (c = cnt told (of.take k)) ∧ W = wx)
  case atStart => exact ⟨0, 0, rfl, rfl, Nat.zero_le _, Nat.le_refl _, by omega, hidI (by simp [cnt]), rfl⟩
  case round =>
    obtain ⟨k, c, rfl, rfl, hk, hck, hgk, HC, hw⟩ := hrel
    subst hw
    have HG : Hid (gk = m - k) := hgk
    clear hgk
    by_cases hlt : k < m
    · have hkl : k < of.length := by rw [HM.out]; exact hlt
      obtain ⟨hu', ht', hg0, hn⟩ := HX.out
      obtain ⟨ua', uc', ev, h | ⟨b, off, rfl, hc⟩⟩ := hu'
      · subst h; simp at hkl
      simp at ev
      obtain ⟨rfl, rfl⟩ := ev
      have q0 := hc k hkl
      have hx := hn (of.getD k 0) (by
        have : of.getD k 0 = of[k] := by simp [List.getD, hkl]
        rw [this]; exact List.getElem_mem _)
      obtain ⟨x, hxe⟩ := Int.eq_ofNat_of_zero_le hx.1
      have hxn : x < told.length := by omega
      obtain ⟨ta', tc', ev, h | ⟨b', off', rfl, hc'⟩⟩ := ht'
      · subst h; simp at hxn
      simp at ev
      obtain ⟨rfl, rfl⟩ := ev
      have q1 := hc' x hxn
      have HT : Hid (cnt told (of.take (k + 1)) = cnt told (of.take k) + if told.getD x 0 = 0 then 0 else 1) := hidI (by
        have : of.take (k + 1) = of.take k ++ [of.getD k 0] := by
          rw [List.take_add_one]
          simp [List.getD, hkl]
        rw [this, cnt_snoc, hxe]; rfl)
      rw [hxe] at q0
      rw [HN.out] at hxn
      generalize told.getD x 0 = z at *
      have i1 : (0 : Int) ≤ (k : Int) := by omega
      have i2 : (k : Int) < (m : Int) := by omega
      have i3 : (0 : Int) ≤ (x : Int) := by omega
      have i4 : (x : Int) < (n : Int) := by omega
      clear hc hc' hx hxe hkl hg0 hn
      by_cases hz : z = 0
      · subst hz
        go_wp2
        have hgl := HG.out
        go_roundg (m - (k + 1))
        all_goals first | omega | exact ⟨k + 1, c, by go_num, rfl, by omega, by omega, by omega, hidI (by rw [HT.out, ← HC.out]; simp), rfl⟩
      · have hz' : (z == 0) = false := by simpa using hz
        go_wp2
        have hgl := HG.out
        go_roundg (m - (k + 1))
        all_goals first | omega | exact ⟨k + 1, c + 1, by go_num, by go_num, by omega, by omega, by omega, hidI (by rw [HT.out, ← HC.out, if_neg hz]), rfl⟩
    · have hk' : ¬ ((k : Int) < (m : Int)) := by omega
      have hkn : of.take k = of := List.take_of_length_le (by rw [HM.out]; omega)
      rw [hkn] at HC
      go_wp2
      go_ret
      refine ⟨ret_bool ?_, HX.out.2.2.1⟩
      unfold holdB
      rw [← HC.out]

set_option maxHeartbeats 1000000 in
theorem most_any (se de : Int) (v : Value) (w : World) (h0 : 0 ≤ de) (h1 : de ≤ 1000) : Calls Try.prog 27 #[.agg #[.int .i64 se, .int .i64 de, v]] w fun e w' => e = .returned (.int .i64 (de + 1)) ∧ w.grownBy w' none := by
  have hg0 : w.grownBy (w.alloc (.cells #[.int .i64 se, .int .i64 de, v] 24)) none := gr_alloc (World.grownBy.refl _ _) _
  go_enter Try.func27, Try.ntmps27
  go_wp2
  go_ret
  exact ⟨rfl, hg0⟩
theorem none_any (l : List Int) (v : Value) (w : World) (hv : rd w v l) (hl : l.length ≤ 17592186044416) : Calls Try.prog 28 #[v] w fun e w' => e = .returned (.bool (!l.any (ou 0 0))) ∧ w.grownBy w' none := by
  obtain ⟨a, cap, rfl, _⟩ := id hv
  go_enter Try.func28, Try.ntmps28
  go_wp2_with fail
  refine (outside_any 0 0 _).mono ?_
  rintro e w1 ⟨p, q, rfl, o1, g1⟩
  have c := hasOut_any l _ 0 0 p q w1 (rd_grown hv g1) hl o1
  obtain ⟨Bb, hBb⟩ : ∃ b, l.any (ou 0 0) = b := ⟨_, rfl⟩
  rw [hBb] at c
  have HB := hidI hBb
  clear hBb
  go_wp2_with fail
  refine c.mono ?_
  rintro e w2 ⟨rfl, rfl⟩
  go_wp2
  go_ret
  exact ⟨ret_bool (by rw [HB.out]), g1⟩
end Go.Proofs.Ytefekafpmnaeoaa
