/- Numbers picked; tasks out of raw numbers. -/
import Derived.Test.YtholmeebkgpjjaaE
import Derived.Deep.CutBlock
import Derived.Deep.DeepCutAuto
namespace Go.Proofs.Ytholmeebkgpjjaa
open Go.RowKit
attribute [local go_sem ↓] Go.wp_at_zero Go.wp_at_succ
set_option linter.unusedVariables false
set_option linter.unusedSimpArgs false

def in64 (n : Int) : Prop := -9223372036854775808 ≤ n ∧ n ≤ 9223372036854775807
def pk (n : Int) (m : Nat) : Nat := ((if n < 0 then -(n + 1) else n) % (m : Int)).toNat
theorem pk_lt (n : Int) {m : Nat} (h : 0 < m) : pk n m < m := by
  unfold pk
  have h1 := Int.emod_lt_of_pos (if n < 0 then -(n + 1) else n) (show (0 : Int) < m by omega)
  have h2 := Int.emod_nonneg (if n < 0 then -(n + 1) else n) (show (m : Int) ≠ 0 by omega)
  omega
theorem pk_cast (n : Int) {m : Nat} (h : 0 < m) : ((pk n m : Nat) : Int) = (if n < 0 then -(n + 1) else n) % (m : Int) := by
  unfold pk
  have h2 := Int.emod_nonneg (if n < 0 then -(n + 1) else n) (show (m : Int) ≠ 0 by omega)
  omega
theorem picked_any (n : Int) (m : Nat) (w : World) (hn : in64 n) (hm : 0 < m) (hm2 : m < 9223372036854775807) : Calls Try.prog 30 #[.int .i64 n, .int .i64 (m : Int)] w fun e w' => e = .returned (.int .i64 ((pk n m : Nat) : Int)) ∧ w = w' := by
  have hc := pk_cast n hm
  obtain ⟨h1, h2⟩ := hn
  have hm0 : (0 : Int) < (m : Int) := by omega
  have hm1 : ¬ (m : Int) = 0 := by omega
  by_cases h : n < 0
  · rw [if_pos h] at hc
    have e2 : (-(n + 1)).tmod (m : Int) = -(n + 1) % (m : Int) := Int.tmod_eq_emod_of_nonneg (by omega)
    go_enter Try.func30, Try.ntmps30
    go_wp2
    go_ret
    refine ⟨ret_int ?_, rfl⟩
    rw [hc]
  · rw [if_neg h] at hc
    have e2 : n.tmod (m : Int) = n % (m : Int) := Int.tmod_eq_emod_of_nonneg (by omega)
    go_enter Try.func30, Try.ntmps30
    go_wp2
    go_ret
    exact ⟨ret_int rfl, rfl⟩

/-- A task by raw numbers. -/
structure Dy where
  per : Int
  cost : Int
  dead : Int
  off : Int
def dy0 : Dy := ⟨0, 0, 0, 0⟩
structure Dy.In (d : Dy) : Prop where
  per : in64 d.per
  cost : in64 d.cost
  dead : in64 d.dead
  off : in64 d.off
def DsAt (w : World) (v : Value) (l : List Dy) : Prop :=
  ∃ a cap, v = .slice a l.length cap ∧ (l = [] ∨ ∃ b off, a = some ⟨b, off, none⟩ ∧ ∀ i, i < l.length → w.cell? ⟨b, off + i * 4, none⟩ = some (.int .i64 (l.getD i dy0).per) ∧ w.cell? ⟨b, off + i * 4 + 1, none⟩ = some (.int .i64 (l.getD i dy0).cost) ∧ w.cell? ⟨b, off + i * 4 + 2, none⟩ = some (.int .i64 (l.getD i dy0).dead) ∧ w.cell? ⟨b, off + i * 4 + 3, none⟩ = some (.int .i64 (l.getD i dy0).off))
theorem DsAt.grown {w w' : World} {v : Value} {l : List Dy} (h : DsAt w v l) (hg : w.grownBy w' none) : DsAt w' v l := by
  obtain ⟨a, cap, rfl, h | ⟨b, off, rfl, hc⟩⟩ := h
  · exact ⟨a, cap, rfl, .inl h⟩
  · exact ⟨_, cap, rfl, .inr ⟨b, off, rfl, fun i hi => ⟨hg.cell (hc i hi).1 (by simp), hg.cell (hc i hi).2.1 (by simp), hg.cell (hc i hi).2.2.1 (by simp), hg.cell (hc i hi).2.2.2 (by simp)⟩⟩⟩
def dP (d : Dy) : Nat := 3 + pk d.per 38
def dC (d : Dy) : Nat := 1 + pk d.cost (1 + dP d / 3)
def dD (d : Dy) : Nat := dC d + pk d.dead (dP d - dC d + 1)
def dO (d : Dy) (idle : Bool) : Nat := if idle then 0 else pk d.off 40
def dT (d : Dy) (idle : Bool) : Tk := ⟨⟨#[]⟩, dP d, dO d idle, dC d, dD d⟩
def t41 : Tk := ⟨⟨#[]⟩, 4, 0, 1, 4⟩
def dutyL (l : List Dy) (most : Nat) (idle : Bool) : List Tk := t41 :: (l.take most).map (fun d => dT d idle)
theorem dP_bd (d : Dy) : 3 ≤ dP d ∧ dP d ≤ 40 := by
  have := pk_lt d.per (m := 38) (by omega)
  unfold dP
  omega
theorem dC_bd (d : Dy) : 1 ≤ dC d ∧ dC d ≤ 1 + dP d / 3 := by
  have := pk_lt d.cost (m := 1 + dP d / 3) (by omega)
  unfold dC
  omega
theorem dC_le (d : Dy) : dC d ≤ dP d := by
  have := dC_bd d
  have := dP_bd d
  omega
theorem dD_bd (d : Dy) : dC d ≤ dD d ∧ dD d ≤ dP d := by
  have h := pk_lt d.dead (m := dP d - dC d + 1) (by omega)
  have := dC_le d
  unfold dD
  omega
theorem dO_bd (d : Dy) (idle : Bool) : dO d idle < 40 := by
  have := pk_lt d.off (m := 40) (by omega)
  unfold dO
  split <;> omega
theorem dT_ok (d : Dy) (idle : Bool) : okB (dT d idle) = true := by
  have h1 := dP_bd d
  have h2 := dC_bd d
  have h3 := dC_le d
  have h4 := dD_bd d
  have h5 := dO_bd d idle
  rw [ok_iff]
  unfold dT
  dsimp only
  omega
theorem duty_oks (l : List Dy) (most : Nat) (idle : Bool) : Oks (dutyL l most idle) := by
  intro t ht
  unfold dutyL at ht
  rcases List.mem_cons.1 ht with rfl | ht
  · simp [okB, t41]
  · obtain ⟨d, _, rfl⟩ := List.mem_map.1 ht
    exact dT_ok d idle
theorem duty_len (l : List Dy) (most : Nat) (idle : Bool) : 1 ≤ (dutyL l most idle).length ∧ (dutyL l most idle).length ≤ most + 1 := by
  unfold dutyL
  simp
  omega

set_option maxHeartbeats 2000000 in
theorem duties_any (l : List Dy) (v : Value) (most : Nat) (idle : Bool) (w : World) (hv : DsAt w v l) (hi : ∀ d ∈ l, d.In) (hm : most ≤ 10) :
    Calls Try.prog 17 #[v, .int .i64 most, .bool idle] w fun e w' => ∃ a c, e = .returned (.slice a (dutyL l most idle).length c) ∧ OwnT w.heap.size w' a c (dutyL l most idle) ∧ w.grownBy w' none := by
  have HV : Hid (DsAt w v l) := hv
  have HI : Hid (∀ d ∈ l, d.In) := hi
  obtain ⟨va, vc, rfl, hh⟩ := hv
  clear hh hi
  obtain ⟨n, hn⟩ : ∃ n, l.length = n := ⟨_, rfl⟩
  have HN : Hid (l.length = n) := hn
  have HVN : Hid (DsAt w (.slice va n vc) l) := by have := HV.out; rw [hn] at this; exact this
  rw [hn]
  clear hn HV
  go_enter Try.func17, Try.ntmps17
  go_wp2_with fail
  go_loopg [7, 8] (n + 1) (fun gk s7 s8 wx => ∃ (j : Nat) (a : Option Addr) (c : Nat) (L : List Tk), s8 = .int .i64 j ∧ j ≤ n ∧ j ≤ most ∧ gk = n + 1 - j ∧ s7 = .slice a L.length c ∧ L = dutyL l j idle ∧ OwnT w.heap.size wx a c L ∧ w.grownBy wx none)
  case atStart =>
    refine ⟨0, some ⟨w.heap.size, 0, none⟩, 1, [t41], rfl, Nat.zero_le _, Nat.zero_le _, by omega, rfl, by simp [dutyL], ?_, gr_alloc (World.grownBy.refl _ _) _⟩
    exact ⟨by simp [rowT], .inr ⟨w.heap.size, 1, _, rfl, Nat.le_refl _, heap_alloc_new _ _, by simp, by unfold maxLen; omega, by simp, by simp [rowT, t41]⟩⟩
  case round =>
    obtain ⟨j, a, c, L, rfl, hj, hjm, hgj, rfl, hL, hO, hgr⟩ := hrel
    have HG : Hid (gk = n + 1 - j) := hgj
    have HL : Hid (L = dutyL l j idle) := hL
    have HO : Hid (OwnT w.heap.size wr a c L) := hO
    have HLL : Hid (L.length ≤ 11) := (by rw [hL]; have := duty_len l j idle; omega : L.length ≤ 11)
    clear hgj hL hO
    by_cases hlt : j < n ∧ j < most
    · obtain ⟨hlt1, hlt2⟩ := hlt
      have i1 : (0 : Int) ≤ (j : Int) := by omega
      have i2 : (j : Int) < (n : Int) := by omega
      have i3 : (j : Int) < (most : Int) := by omega
      have i4 : decide ((j : Int) < (n : Int)) = true := by simp; omega
      have hjl : j < l.length := by rw [HN.out]; exact hlt1
      obtain ⟨b, off, hva, hc⟩ : ∃ b off, va = some ⟨b, off, none⟩ ∧ ∀ i, i < l.length → wr.cell? ⟨b, off + i * 4, none⟩ = some (.int .i64 (l.getD i dy0).per) ∧ wr.cell? ⟨b, off + i * 4 + 1, none⟩ = some (.int .i64 (l.getD i dy0).cost) ∧ wr.cell? ⟨b, off + i * 4 + 2, none⟩ = some (.int .i64 (l.getD i dy0).dead) ∧ wr.cell? ⟨b, off + i * 4 + 3, none⟩ = some (.int .i64 (l.getD i dy0).off) := by
        obtain ⟨a', c', e, h | ⟨b, off, h1, h2⟩⟩ := HVN.out.grown hgr
        · rw [h] at hjl; simp at hjl
        · simp at e
          exact ⟨b, off, by rw [e.1]; exact h1, h2⟩
      subst hva
      obtain ⟨d, hd⟩ : ∃ d, l[j]? = some d := ⟨l[j], by simp [hjl]⟩
      have hgd : l.getD j dy0 = d := by simp [List.getD, hd]
      have hin := HI.out d (List.mem_of_getElem? hd)
      obtain ⟨c0, c1, c2, c3⟩ := hc j hjl
      rw [hgd] at c0 c1 c2 c3
      have HTK : Hid (dutyL l (j + 1) idle = L ++ [dT d idle]) := (by rw [HL.out]; unfold dutyL; rw [List.take_add_one, hd]; simp : dutyL l (j + 1) idle = L ++ [dT d idle])
      have hP := dP_bd d
      have hC := dC_bd d
      have hCl := dC_le d
      have hD := dD_bd d
      have p1 : ∀ W, Calls Try.prog 30 #[.int .i64 d.per, .int .i64 38] W fun e w' => e = .returned (.int .i64 ((pk d.per 38 : Nat) : Int)) ∧ W = w' := fun W => picked_any d.per 38 W hin.per (by omega) (by omega)
      have p2 : ∀ W, Calls Try.prog 30 #[.int .i64 d.cost, .int .i64 ((1 + dP d / 3 : Nat) : Int)] W fun e w' => e = .returned (.int .i64 ((pk d.cost (1 + dP d / 3) : Nat) : Int)) ∧ W = w' := fun W => picked_any d.cost _ W hin.cost (by omega) (by omega)
      have p3 : ∀ W, Calls Try.prog 30 #[.int .i64 d.dead, .int .i64 ((dP d - dC d + 1 : Nat) : Int)] W fun e w' => e = .returned (.int .i64 ((pk d.dead (dP d - dC d + 1) : Nat) : Int)) ∧ W = w' := fun W => picked_any d.dead _ W hin.dead (by omega) (by omega)
      have p4 : ∀ W, Calls Try.prog 30 #[.int .i64 d.off, .int .i64 40] W fun e w' => e = .returned (.int .i64 ((pk d.off 40 : Nat) : Int)) ∧ W = w' := fun W => picked_any d.off 40 W hin.off (by omega) (by omega)
      have f1 : (3 : Int) + ((pk d.per 38 : Nat) : Int) = (dP d : Int) := by unfold dP; omega
      have f3 : (1 : Int) + ((pk d.cost (1 + dP d / 3) : Nat) : Int) = (dC d : Int) := by unfold dC; omega
      have f5 : (dC d : Int) + ((pk d.dead (dP d - dC d + 1) : Nat) : Int) = (dD d : Int) := by unfold dD; omega
      obtain ⟨tQ, hQ⟩ : ∃ q : Nat, 1 + dP d / 3 = q := ⟨_, rfl⟩
      obtain ⟨tR, hR⟩ : ∃ q : Nat, dP d - dC d + 1 = q := ⟨_, rfl⟩
      have f2 : (1 : Int) + (dP d : Int) / 3 = (tQ : Int) := by omega
      have f4 : (dP d : Int) - (dC d : Int) + 1 = (tR : Int) := by omega
      rw [hQ] at p2 f3
      rw [hR] at p3 f5
      have HT : Hid (dT d idle = ⟨⟨#[]⟩, dP d, dO d idle, dC d, dD d⟩) := (rfl : dT d idle = _)
      have HOO : Hid (dO d idle = if idle then 0 else pk d.off 40) := (rfl : dO d idle = _)
      have v1 : IntKind.i64.wrap ((dP d : Int) - (dC d : Int)) = (dP d : Int) - (dC d : Int) := IntWalk.i64_in _ (by omega)
      have v2 : IntKind.i64.wrap (tR : Int) = (tR : Int) := by clear v1; exact IntWalk.i64_in _ (by omega)
      have v3 : IntKind.i64.wrap (dD d : Int) = (dD d : Int) := by clear v1 v2; exact IntWalk.i64_in _ (by omega)
      have hpO := pk_lt d.off (m := 40) (by omega)
      clear hc hgd hd hin hQ hR hC
      generalize dO d idle = tO at HT HOO
      generalize dT d idle = tt at HT HTK
      generalize dP d = tP at *
      generalize dC d = tC at *
      generalize dD d = tD at *
      generalize pk d.off 40 = pO at *
      generalize pk d.per 38 = x1 at *
      generalize pk d.cost tQ = x2 at *
      generalize pk d.dead tR = x3 at *
      obtain ⟨d0, d1, d2, d3⟩ := d
      dsimp only at c0 c1 c2 c3 p1 p2 p3 p4
      obtain ⟨nL, hnL⟩ : ∃ q, L.length = q := ⟨_, rfl⟩
      have HNL : Hid (L.length = nL) := hnL
      rw [hnL]
      clear hnL
      go_wp2_with fail
      refine (p1 _).mono ?_
      rintro e w1 ⟨rfl, rfl⟩
      go_wp2_with fail
      refine (p2 _).mono ?_
      rintro e w1 ⟨rfl, rfl⟩
      go_wp2_with fail
      generalize hX : wr.heap.size = X
      have HX : Hid (wr.heap.size = X) := hX
      go_region_held3 (fun w' => w'.cell? ⟨b, off + j * 4 + 2, none⟩ = some (.int .i64 d2) ∧ w'.cell? ⟨b, off + j * 4 + 3, none⟩ = some (.int .i64 d3)) (go_keep) (first | (go_at_call 30; (with_reducible refine (p3 _).mono ?_); rintro e w1 ⟨rfl, rfl⟩) | (go_at_call 30; (with_reducible refine (p4 _).mono ?_); rintro e w1 ⟨rfl, rfl⟩))
      all_goals
        generalize hW1 : (wr.alloc (.cells #[.string ⟨#[]⟩, .int .i64 tP, .int .i64 pO, .int .i64 tC, .int .i64 tD] 42)).drew = w1
        have hg1 : wr.grownBy w1 none := by rw [← hW1]; exact gr_drew (gr_alloc (World.grownBy.refl _ _) _)
        have hb1 : w1.heap[X]? = some (.cells #[.string ⟨#[]⟩, .int .i64 tP, .int .i64 pO, .int .i64 tC, .int .i64 tD] 42) := by rw [← hW1, hp_drew]; exact hp_new hX.symm _
        have q0 := at_cell hb1 0
        have q1 := at_cell hb1 1
        have q2 := at_cell hb1 2
        have q3 := at_cell hb1 3
        have q4 := at_cell hb1 4
        have f2' := at_frozen hb1 2
        simp at q0 q1 q2 q3 q4
        have HB1 : Hid (w1.heap[X]? = some (.cells #[.string ⟨#[]⟩, .int .i64 tP, .int .i64 pO, .int .i64 tC, .int .i64 tD] 42)) := hb1
        have hXl : w.heap.size ≤ X := by rw [← hX]; exact hgr.size
        clear hW1 hb1 p1 p2 p3 p4 c0 c1 c2 c3 f1 f2 f3 f4 f5 v1 v2 v3
        cases idle with
        | true =>
          have HTT : Hid (tt = ⟨⟨#[]⟩, tP, 0, tC, tD⟩) := (by rw [HT.out, HOO.out]; rfl : tt = ⟨⟨#[]⟩, tP, 0, tC, tD⟩)
          go_upto_region 10 with fail
          generalize hW2 : w1.setCell ⟨X, 2, none⟩ (.int .i64 0) = w2
          have hg2 : w1.grownBy w2 (some X) := by rw [← hW2]; exact gr_set (World.grownBy.refl _ _) _ _
          have hgw2 : w.grownBy w2 none := by rw [← hW2]; exact gr_own (grown_join hgr hg1 (.inl rfl)) hXl _ _
          have hb2 : w2.heap[X]? = some (.cells #[.string ⟨#[]⟩, .int .i64 tP, .int .i64 0, .int .i64 tC, .int .i64 tD] 42) := by rw [← hW2, at_set HB1.out]; simp
          clear q0 q1 q2 q3 q4 f2' hW2
          have q0 := at_cell hb2 0
          have q1 := at_cell hb2 1
          have q2 := at_cell hb2 2
          have q3 := at_cell hb2 3
          have q4 := at_cell hb2 4
          simp at q0 q1 q2 q3 q4
          have hO2 : OwnT w.heap.size w2 a c L := World.ownsRow.kept (HO.out.kept hg1) hg2 (by
            cases hv : (Value.slice a L.length c).ownBlock with
            | none => exact .inl rfl
            | some y => exact .inr (fun e => by have := (World.ownsRow.lt HO.out y hv).2; simp at e; omega))
          obtain ⟨a', c', w3, hrun, hO3, hg3⟩ := hO2.more ⟨⟨#[]⟩, tP, 0, tC, tD⟩ (by have := HLL.out; omega) hgw2.size
          have hgw3 := hg3 w (Nat.le_refl _) hgw2
          rw [HNL.out] at hrun
          have HRUN : Hid (_ = _) := hrun
          have HO3 : Hid (OwnT w.heap.size w3 a' c' (L ++ [⟨⟨#[]⟩, tP, 0, tC, tD⟩])) := hO3
          clear hrun hO3 hg3 hO2 hg2 hb2 hX
          go_wp2_with (first | (at_builtin; refine wpList_append_run rfl _ _ 22 rfl _ _ _ w3 rfl rfl HRUN.out ?_))
          have hgl := HG.out
          go_roundg (n + 1 - (j + 1))
          all_goals first | omega | exact ⟨j + 1, a', c', _, by go_num, by omega, by omega, by omega, by rw [List.length_append, HNL.out]; rfl, by rw [HTK.out, HTT.out], HO3.out, hgw3⟩
        | false =>
          have HTT : Hid (tt = ⟨⟨#[]⟩, tP, pO, tC, tD⟩) := (by rw [HT.out, HOO.out]; rfl : tt = ⟨⟨#[]⟩, tP, pO, tC, tD⟩)
          have hgw2 : w.grownBy w1 none := grown_join hgr hg1 (.inl rfl)
          obtain ⟨a', c', w3, hrun, hO3, hg3⟩ := (HO.out.kept hg1).more ⟨⟨#[]⟩, tP, pO, tC, tD⟩ (by have := HLL.out; omega) hgw2.size
          have hgw3 := hg3 w (Nat.le_refl _) hgw2
          rw [HNL.out] at hrun
          have HRUN : Hid (_ = _) := hrun
          have HO3 : Hid (OwnT w.heap.size w3 a' c' (L ++ [⟨⟨#[]⟩, tP, pO, tC, tD⟩])) := hO3
          clear hrun hO3 hg3 hX
          go_wp2_with (first | (at_builtin; refine wpList_append_run rfl _ _ 22 rfl _ _ _ w3 rfl rfl HRUN.out ?_))
          have hgl := HG.out
          go_roundg (n + 1 - (j + 1))
          all_goals first | omega | exact ⟨j + 1, a', c', _, by go_num, by omega, by omega, by omega, by rw [List.length_append, HNL.out]; rfl, by rw [HTK.out, HTT.out], HO3.out, hgw3⟩
    · have hk : ¬ ((j : Int) < (n : Int)) ∨ ((j : Int) < (n : Int) ∧ ¬ ((j : Int) < (most : Int))) := by omega
      have HE : Hid (dutyL l j idle = dutyL l most idle) := (by
        unfold dutyL
        by_cases h : j = most
        · rw [h]
        · rw [List.take_of_length_le (by rw [HN.out]; omega), List.take_of_length_le (by rw [HN.out]; omega)] : dutyL l j idle = dutyL l most idle)
      rcases hk with hk | ⟨hk1, hk2⟩
      · have i4 : decide ((j : Int) < (n : Int)) = false := by simp only [hk, decide_false]
        go_wp2
        go_ret
        rw [← HE.out, ← HL.out]
        exact ⟨a, c, rfl, HO.out, hgr⟩
      · have i4 : decide ((j : Int) < (n : Int)) = true := by simp only [hk1, decide_true]
        have i5 : decide ((j : Int) < (most : Int)) = false := by simp only [hk2, decide_false]
        go_wp2
        go_ret
        rw [← HE.out, ← HL.out]
        exact ⟨a, c, rfl, HO.out, hgr⟩
end Go.Proofs.Ytholmeebkgpjjaa
