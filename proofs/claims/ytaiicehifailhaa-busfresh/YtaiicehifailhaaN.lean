/- Links: copied, compared, started. -/
import Derived.Test.YtaiicehifailhaaM
import Derived.Deep.Cut
namespace Go.Proofs.Ytaiicehifailhaa
open Go.RowKit
attribute [local go_sem ↓] Go.wp_at_zero Go.wp_at_succ
set_option linter.unusedVariables false
set_option linter.unusedSimpArgs false

set_option maxRecDepth 10000 in
set_option maxHeartbeats 1000000 in
theorem linkOf_any (L : Lk) (s t : Value) (w : World) (h : LkR w L s t) (hl1 : L.sa.length ≤ 17592186043904) (hl2 : L.wo.length ≤ 17592186043904) : Calls Try.prog 42 #[lkV L s t] w fun e w' => ∃ v, e = .returned v ∧ LkP w w' L v := by
  obtain ⟨st, wa, sa, wo, sq, ag, fr⟩ := L
  dsimp only [lkV, lkA] at *
  obtain ⟨h1, h2⟩ := h
  dsimp only at h1 h2 hl1 hl2
  obtain ⟨p, hp⟩ : ∃ p, w.heap.size = p := ⟨_, rfl⟩
  have hW1 : ((w.alloc (.cells #[.int .i64 st, .int .i64 wa, s, t, .int .i64 sq, .int .i64 ag, .bool fr] 40)).alloc (.cells #[.int .i64 0, .int .i64 0, .slice none 0 0, .slice none 0 0, .int .i64 0, .int .i64 0, .bool false] 40)).heap[p]? = some (.cells #[.int .i64 st, .int .i64 wa, s, t, .int .i64 sq, .int .i64 ag, .bool fr] 40) := by
    rw [hp_old (by simp; omega)]; exact hp_new hp.symm _
  have hW2 : ((w.alloc (.cells #[.int .i64 st, .int .i64 wa, s, t, .int .i64 sq, .int .i64 ag, .bool fr] 40)).alloc (.cells #[.int .i64 0, .int .i64 0, .slice none 0 0, .slice none 0 0, .int .i64 0, .int .i64 0, .bool false] 40)).heap[p + 1]? = some (.cells #[.int .i64 0, .int .i64 0, .slice none 0 0, .slice none 0 0, .int .i64 0, .int .i64 0, .bool false] 40) := hp_new (by simp; omega) _
  have hgW : w.grownBy ((w.alloc (.cells #[.int .i64 st, .int .i64 wa, s, t, .int .i64 sq, .int .i64 ag, .bool fr] 40)).alloc (.cells #[.int .i64 0, .int .i64 0, .slice none 0 0, .slice none 0 0, .int .i64 0, .int .i64 0, .bool false] 40)) none := gr_alloc (gr_alloc (World.grownBy.refl _ _) _) _
  have hHP := hidI hp
  go_enter Try.func42, Try.ntmps42
  go_upto_region 1 with fail
  have HP := hidI hp
  clear hp
  generalize (w.alloc (.cells #[.int .i64 st, .int .i64 wa, s, t, .int .i64 sq, .int .i64 ag, .bool fr] 40)).alloc (.cells #[.int .i64 0, .int .i64 0, .slice none 0 0, .slice none 0 0, .int .i64 0, .int .i64 0, .bool false] 40) = W at *
  obtain ⟨sa1, sc1, rfl, _⟩ := id h1
  obtain ⟨ta1, tc1, rfl, _⟩ := id h2
  obtain ⟨a1, c1, w1, hrun1, o1, g1⟩ := copyL (rd_grown h1 hgW) hl1
  have b1 := kept g1 hW1
  have b2 := kept g1 hW2
  have x1 : (w1.setCell ⟨p, 2, none⟩ (.slice a1 sa.length c1)).heap[p]? = some (.cells #[.int .i64 st, .int .i64 wa, .slice a1 sa.length c1, .slice ta1 wo.length tc1, .int .i64 sq, .int .i64 ag, .bool fr] 40) := by
    have := at_set b1 2 (.slice a1 sa.length c1); simpa using this
  have x2 : (w1.setCell ⟨p, 2, none⟩ (.slice a1 sa.length c1)).heap[p + 1]? = some (.cells #[.int .i64 0, .int .i64 0, .slice none 0 0, .slice none 0 0, .int .i64 0, .int .i64 0, .bool false] 40) := by
    rw [Below.heap_setCell _ _ _ _ (by simp)]; exact b2
  have hpw : w.heap.size ≤ p := by rw [HP.out]; exact Nat.le_refl _
  have y1 : w.grownBy (w1.setCell ⟨p, 2, none⟩ (.slice a1 sa.length c1)) none := gr_own (grown_join hgW g1 (.inl rfl)) hpw _ _
  obtain ⟨a2, c2, w2, hrun2, o2, g2⟩ := copyL (rd_grown h2 y1) hl2
  have hpW := at_lt hW2
  have o1' : OwnL W.heap.size w2 a1 c1 sa := own_keep (own_but (p := p) o1 (gr_set (World.grownBy.refl _ _) _ _) (by omega)) g2
  have e6 : ∀ x, (Value.slice a1 sa.length c1).ownBlock = some x → (Value.slice a2 wo.length c2).ownBlock ≠ some x := fun x hx hy => by
    have h1 := World.ownsRow.lt o1 x hx
    have h2 := World.ownsRow.lt o2 x hy
    simp at h2
    omega
  have z1 := kept g2 x1
  have z2 := kept g2 x2
  have v1 : (w2.setCell ⟨p, 3, none⟩ (.slice a2 wo.length c2)).heap[p]? = some (.cells #[.int .i64 st, .int .i64 wa, .slice a1 sa.length c1, .slice a2 wo.length c2, .int .i64 sq, .int .i64 ag, .bool fr] 40) := by
    have := at_set z1 3 (.slice a2 wo.length c2); simpa using this
  have v2 : (w2.setCell ⟨p, 3, none⟩ (.slice a2 wo.length c2)).heap[p + 1]? = some (.cells #[.int .i64 0, .int .i64 0, .slice none 0 0, .slice none 0 0, .int .i64 0, .int .i64 0, .bool false] 40) := by
    rw [Below.heap_setCell _ _ _ _ (by simp)]; exact z2
  have v3 : w.grownBy (w2.setCell ⟨p, 3, none⟩ (.slice a2 wo.length c2)) none := gr_own (grown_join y1 g2 (.inl rfl)) hpw _ _
  have s1 := g1.size
  have v4 : OwnL W.heap.size (w2.setCell ⟨p, 3, none⟩ (.slice a2 wo.length c2)) a1 c1 sa := own_but (p := p) o1' (gr_set (World.grownBy.refl _ _) _ _) (by omega)
  have v5 : OwnL w1.heap.size (w2.setCell ⟨p, 3, none⟩ (.slice a2 wo.length c2)) a2 c2 wo := own_but (p := p) (own_low o2 (by simp)) (gr_set (World.grownBy.refl _ _) _ _) (by omega)
  have p2 : W.cell? ⟨p, 2, none⟩ = some (.slice sa1 sa.length sc1) := at_cell hW1 2
  have q2 : w1.cell? ⟨p, 2, none⟩ = some (.slice sa1 sa.length sc1) := at_cell b1 2
  have f2 := at_frozen b1 2
  have q3 : (w1.setCell ⟨p, 2, none⟩ (.slice a1 sa.length c1)).cell? ⟨p, 3, none⟩ = some (.slice ta1 wo.length tc1) := at_cell x1 3
  have r3 : w2.cell? ⟨p, 3, none⟩ = some (.slice ta1 wo.length tc1) := at_cell z1 3
  have f3 := at_frozen z1 3
  have HR1 := hidI hrun1
  have HR2 := hidI hrun2
  have HV := hidI (And.intro v1 (And.intro v2 (And.intro v3 (And.intro v4 (And.intro v5 e6)))))
  have HPW := hidI (And.intro hpw (And.intro hpW s1))
  clear v1 v2 v3 v4 v5 e6 hrun1 hrun2 o1 o2 o1' g1 g2 b1 b2 x1 x2 y1 z1 z2 hgW hW1 hW2 h1 h2 hpw hpW s1
  go_wp2_with (first | (at_builtin; refine hidG ?_))
  refine hidI ?_
  refine wpList_append_run rfl _ _ 22 rfl _ _ _ w1 rfl rfl HR1.out ?_
  go_wp2_with (first | (at_builtin; refine hidG ?_))
  refine hidI ?_
  refine wpList_append_run rfl _ _ 22 rfl _ _ _ w2 rfl rfl HR2.out ?_
  clear p2 q2 f2 q3
  go_upto_region 3 with fail
  obtain ⟨e1, e2, e3, e4, e5, e6⟩ := HV.out
  generalize w2.setCell ⟨p, 3, none⟩ (.slice a2 wo.length c2) = X at *
  obtain ⟨i0, i1, i2, i3, i4, i5, i6⟩ := at7 e1
  obtain ⟨j0, j1, j2, j3, j4, j5, j6⟩ := at7 e2
  obtain ⟨f0, f1, f2, f3, f4, f5, f6⟩ := fz7 e2
  clear e1 e2 e3 e4 e5 e6 r3
  go_wp2
  obtain ⟨e1, e2, e3, e4, e5, e6⟩ := HV.out
  refine bodyPost_ret (results1 rfl _ _ (p + 1) ⟨st, wa, sa, wo, sq, ag, fr⟩ (.slice a1 sa.length c1) (.slice a2 wo.length c2) rfl (box7 e2)) rfl ?_
  have hp := HP.out
  have hh := HPW.out
  exact ⟨_, rfl, a1, c1, a2, c2, rfl, own_low (own_but e4 (gr7 (World.grownBy.refl _ _)) (by omega)) (by omega), own_low (own_but e5 (gr7 (World.grownBy.refl _ _)) (by omega)) (by omega), e6, gr7n e3 (by omega)⟩

set_option maxRecDepth 10000 in
set_option maxHeartbeats 1000000 in
theorem sameLink_yes (L : Lk) (s t s' t' : Value) (w : World) (h : LkR w L s t) (h' : LkR w L s' t') (hl1 : L.sa.length ≤ 17592186043904) (hl2 : L.wo.length ≤ 17592186043904) : Calls Try.prog 43 #[lkV L s t, lkV L s' t'] w fun e w' => e = .returned (.bool true) ∧ w.grownBy w' none := by
  obtain ⟨st, wa, sa, wo, sq, ag, fr⟩ := L
  dsimp only [lkV, lkA] at *
  obtain ⟨h1, h2⟩ := h
  obtain ⟨h3, h4⟩ := h'
  dsimp only at h1 h2 h3 h4 hl1 hl2
  obtain ⟨p, hp⟩ : ∃ p, w.heap.size = p := ⟨_, rfl⟩
  have hW1 : ((w.alloc (.cells #[.int .i64 st, .int .i64 wa, s, t, .int .i64 sq, .int .i64 ag, .bool fr] 40)).alloc (.cells #[.int .i64 st, .int .i64 wa, s', t', .int .i64 sq, .int .i64 ag, .bool fr] 40)).heap[p]? = some (.cells #[.int .i64 st, .int .i64 wa, s, t, .int .i64 sq, .int .i64 ag, .bool fr] 40) := by
    rw [hp_old (by simp; omega)]; exact hp_new hp.symm _
  have hW2 : ((w.alloc (.cells #[.int .i64 st, .int .i64 wa, s, t, .int .i64 sq, .int .i64 ag, .bool fr] 40)).alloc (.cells #[.int .i64 st, .int .i64 wa, s', t', .int .i64 sq, .int .i64 ag, .bool fr] 40)).heap[p + 1]? = some (.cells #[.int .i64 st, .int .i64 wa, s', t', .int .i64 sq, .int .i64 ag, .bool fr] 40) := hp_new (by simp; omega) _
  have hgW : w.grownBy ((w.alloc (.cells #[.int .i64 st, .int .i64 wa, s, t, .int .i64 sq, .int .i64 ag, .bool fr] 40)).alloc (.cells #[.int .i64 st, .int .i64 wa, s', t', .int .i64 sq, .int .i64 ag, .bool fr] 40)) none := gr_alloc (gr_alloc (World.grownBy.refl _ _) _) _
  go_enter Try.func43, Try.ntmps43
  go_upto_region 1 with fail
  have HP := hidI hp
  clear hp
  generalize (w.alloc (.cells #[.int .i64 st, .int .i64 wa, s, t, .int .i64 sq, .int .i64 ag, .bool fr] 40)).alloc (.cells #[.int .i64 st, .int .i64 wa, s', t', .int .i64 sq, .int .i64 ag, .bool fr] 40) = W at *
  obtain ⟨i0, i1, i2, i3, i4, i5, i6⟩ := at7 hW1
  obtain ⟨j0, j1, j2, j3, j4, j5, j6⟩ := at7 hW2
  have c1 := sameInts_yes s s' sa W (rd_grown h1 hgW) (rd_grown h3 hgW) (by omega)
  have c2 := fun (X : World) (hX : W.grownBy X none) => sameInts_yes t t' wo X (rd_grown h2 (grown_join hgW hX (.inl rfl))) (rd_grown h4 (grown_join hgW hX (.inl rfl))) (by omega)
  have HH := hidI (And.intro hW1 (And.intro hW2 hgW))
  clear hW1 hW2 hgW h1 h2 h3 h4
  go_wp2_with fail
  refine c1.mono ?_
  rintro e w1 ⟨rfl, hg1⟩
  have k1 := hg1.cell i3 (by simp)
  have k2 := hg1.cell j3 (by simp)
  go_wp2_with fail
  refine (c2 _ hg1).mono ?_
  rintro e w2 ⟨rfl, hg2⟩
  go_wp2
  go_ret
  exact ⟨rfl, grown_join (grown_join HH.out.2.2 hg1 (.inl rfl)) hg2 (.inl rfl)⟩

def startE (st wa : Int) (sa : List Int) : Nat := if wi 0 247 st && wi 1 1000 wa then lookE sa else 3
def zeroL : Lk := ⟨0, 0, [], [], 0, 0, false⟩
def startL (st wa : Int) (sa : List Int) : Lk := if startE st wa sa = 0 then ⟨st, wa, sa, sa, 0, 0, false⟩ else zeroL
/-- A link and an error: what a call tells. -/
def LkE (w w' : World) (e : Ending) (L : Lk) (c : Nat) : Prop := ∃ V, e = .returned (.tuple #[V, .int .i64 (c : Int)]) ∧ LkP w w' L V
theorem LkP.zero {w w' : World} (hg : w.grownBy w' none) : LkP w w' zeroL (lkV zeroL (.slice none 0 0) (.slice none 0 0)) := ⟨none, 0, none, 0, rfl, OwnL.nil _ _, OwnL.nil _ _, fun x hx => by simp [Value.ownBlock] at hx, hg⟩
set_option maxHeartbeats 1000000 in
theorem lookAtStart_any (st wa : Int) (sa : List Int) (v : Value) (w : World) (hv : rd w v sa) (hl : sa.length ≤ 17592186044416) : Calls Try.prog 40 #[.int .i64 st, .int .i64 wa, v] w fun e w' => e = .returned (.int .i64 (startE st wa sa : Int)) ∧ w = w' := by
  have c1 := within_any st 0 247
  have c2 := within_any wa 1 1000
  have cL := lookAt_any sa v w hv hl
  obtain ⟨a, cap, rfl, _⟩ := id hv
  unfold startE
  cases h1 : wi 0 247 st with
  | false =>
    simp only [h1] at c1
    simp only [Bool.false_and]
    rw [if_neg (by simp)]
    go_enter Try.func40, Try.ntmps40
    go_wp2_with fail
    refine (c1 _).mono ?_
    rintro e w' ⟨rfl, rfl⟩
    go_wp2
    go_ret
    exact ⟨rfl, rfl⟩
  | true =>
  simp only [h1] at c1
  cases h2 : wi 1 1000 wa with
  | false =>
    simp only [h2] at c2
    rw [if_neg (by simp)]
    go_enter Try.func40, Try.ntmps40
    go_wp2_with fail
    refine (c1 _).mono ?_
    rintro e w' ⟨rfl, rfl⟩
    go_wp2_with fail
    refine (c2 _).mono ?_
    rintro e w' ⟨rfl, rfl⟩
    go_wp2
    go_ret
    exact ⟨rfl, rfl⟩
  | true =>
  simp only [h2] at c2
  rw [if_pos (by simp)]
  go_enter Try.func40, Try.ntmps40
  go_wp2_with fail
  refine (c1 _).mono ?_
  rintro e w' ⟨rfl, rfl⟩
  go_wp2_with fail
  refine (c2 _).mono ?_
  rintro e w' ⟨rfl, rfl⟩
  go_wp2_with fail
  refine cL.mono ?_
  rintro e w' ⟨rfl, rfl⟩
  go_wp2
  go_ret
  exact ⟨rfl, rfl⟩
theorem startE_ok {st wa : Int} {sa : List Int} (h : startE st wa sa = 0) : sa.length ≤ 60 := by
  unfold startE lookE at h
  split at h
  · split at h <;> omega
  · omega
set_option maxRecDepth 10000 in
set_option maxHeartbeats 1000000 in
theorem start_any (st wa : Int) (sa : List Int) (v : Value) (w : World) (hv : rd w v sa) (hl : sa.length ≤ 17592186043904) : Calls Try.prog 19 #[.int .i64 st, .int .i64 wa, v] w fun e w' => LkE w w' e (startL st wa sa) (startE st wa sa) := by
  obtain ⟨p, hp⟩ : ∃ p, w.heap.size = p := ⟨_, rfl⟩
  have hW : (w.alloc (.cells #[.int .i64 0, .int .i64 0, .slice none 0 0, .slice none 0 0, .int .i64 0, .int .i64 0, .bool false] 40)).heap[p]? = some (.cells #[.int .i64 0, .int .i64 0, .slice none 0 0, .slice none 0 0, .int .i64 0, .int .i64 0, .bool false] 40) := hp_new hp.symm _
  have hgW : w.grownBy (w.alloc (.cells #[.int .i64 0, .int .i64 0, .slice none 0 0, .slice none 0 0, .int .i64 0, .int .i64 0, .bool false] 40)) none := gr_alloc (World.grownBy.refl _ _) _
  have cL := lookAtStart_any st wa sa v _ (rd_grown hv hgW) (by omega)
  have cC := copied_any ⟨st, wa, sa, sa, 0, 0, false⟩ v v _ ⟨rd_grown hv hgW, rd_grown hv hgW⟩ hl hl
  obtain ⟨a, cap, rfl, _⟩ := id hv
  go_enter Try.func19, Try.ntmps19
  go_upto_region 1 with fail
  have HP := hidI hp
  clear hp
  generalize w.alloc (.cells #[.int .i64 0, .int .i64 0, .slice none 0 0, .slice none 0 0, .int .i64 0, .int .i64 0, .bool false] 40) = W at *
  obtain ⟨j0, j1, j2, j3, j4, j5, j6⟩ := at7 hW
  obtain ⟨f0, f1, f2, f3, f4, f5, f6⟩ := fz7 hW
  have HW := hidI (And.intro hW hgW)
  clear hW hgW hv
  go_wp2_with fail
  refine cL.mono ?_
  rintro e w' ⟨rfl, rfl⟩
  by_cases hE : startE st wa sa = 0
  case neg =>
    have HS : Hid (startL st wa sa = zeroL) := hidI (by unfold startL; rw [if_neg hE])
    obtain ⟨E, hEE⟩ : ∃ E, startE st wa sa = E := ⟨_, rfl⟩
    have HE := hidI hEE
    rw [hEE] at hE ⊢
    have i3 : ¬ ((E : Int) = 0) := by omega
    clear hEE
    go_wp2
    obtain ⟨hW, hgW⟩ := HW.out
    refine bodyPost_ret (results2 rfl _ _ p zeroL (.slice none 0 0) (.slice none 0 0) rfl (box7 hW)) rfl ?_
    rw [HS.out, HE.out]
    exact ⟨_, rfl, LkP.zero (gr7n hgW (by rw [HP.out]; exact Nat.le_refl _))⟩
  have HS : Hid (startL st wa sa = ⟨st, wa, sa, sa, 0, 0, false⟩) := hidI (by unfold startL; rw [if_pos hE])
  have HE := hidI hE
  rw [hE]
  clear hE cL
  dsimp only [lkV, lkA] at cC
  go_wp2_with fail
  refine cC.mono ?_
  rintro e w1 ⟨V, rfl, a1, c1, a2, c2, rfl, o1, o2, e6, g1⟩
  obtain ⟨hW, hgW⟩ := HW.out
  have hW1 := kept g1 hW
  have hpW := at_lt hW
  dsimp only [lkV, lkA] at *
  clear j0 j1 j2 j3 j4 j5 j6 f0 f1 f2 f3 f4 f5 f6 hW
  obtain ⟨j0, j1, j2, j3, j4, j5, j6⟩ := at7 hW1
  obtain ⟨f0, f1, f2, f3, f4, f5, f6⟩ := fz7 hW1
  have HH := hidI (And.intro hW1 (And.intro o1 (And.intro o2 (And.intro e6 (And.intro (grown_join hgW g1 (.inl rfl)) (And.intro hpW hgW.size))))))
  clear hW1 o1 o2 e6 g1 hpW cC hgW
  go_wp2
  obtain ⟨hW1, o1, o2, e6, g1, hpW, hs⟩ := HH.out
  refine bodyPost_ret (results2 rfl _ _ p ⟨st, wa, sa, sa, 0, 0, false⟩ (.slice a1 sa.length c1) (.slice a2 sa.length c2) rfl (box7 hW1)) rfl ?_
  rw [HS.out, HE.out]
  have hp := HP.out
  exact ⟨_, rfl, a1, c1, a2, c2, rfl, own_low (own_but o1 (gr7 (World.grownBy.refl _ _)) (by omega)) (by omega), own_low (own_but o2 (gr7 (World.grownBy.refl _ _)) (by omega)) (by omega), e6, gr7n g1 (by omega)⟩
set_option maxRecDepth 10000 in
set_option maxHeartbeats 1000000 in
theorem linked_any (st wa : Int) (sa : List Int) (v : Value) (w : World) (hv : rd w v sa) (hl : sa.length ≤ 17592186043904) : Calls Try.prog 17 #[.int .i64 st, .int .i64 wa, v] w fun e w' => LkE w w' e (startL st wa sa) (startE st wa sa) := by
  obtain ⟨p, hp⟩ : ∃ p, w.heap.size = p := ⟨_, rfl⟩
  have hW : (w.alloc (.cells #[.int .i64 0, .int .i64 0, .slice none 0 0, .slice none 0 0, .int .i64 0, .int .i64 0, .bool false] 40)).heap[p]? = some (.cells #[.int .i64 0, .int .i64 0, .slice none 0 0, .slice none 0 0, .int .i64 0, .int .i64 0, .bool false] 40) := hp_new hp.symm _
  have hgW : w.grownBy (w.alloc (.cells #[.int .i64 0, .int .i64 0, .slice none 0 0, .slice none 0 0, .int .i64 0, .int .i64 0, .bool false] 40)) none := gr_alloc (World.grownBy.refl _ _) _
  have cL := spelt_any sa v _ (rd_grown hv hgW)
  have cC := fun (X : World) (hX : w.grownBy X none) => copyOf_any sa v X (rd_grown hv hX) hl
  obtain ⟨a, cap, rfl, _⟩ := id hv
  go_enter Try.func17, Try.ntmps17
  go_upto_region 1 with fail
  have HP := hidI hp
  clear hp
  generalize w.alloc (.cells #[.int .i64 0, .int .i64 0, .slice none 0 0, .slice none 0 0, .int .i64 0, .int .i64 0, .bool false] 40) = W at *
  obtain ⟨j0, j1, j2, j3, j4, j5, j6⟩ := at7 hW
  obtain ⟨f0, f1, f2, f3, f4, f5, f6⟩ := fz7 hW
  have HW := hidI (And.intro hW hgW)
  clear hW hgW hv
  by_cases h1 : 0 ≤ st ∧ st ≤ 247 ∧ 1 ≤ wa ∧ wa ≤ 1000
  case neg =>
    have hE : startE st wa sa = 3 := by
      unfold startE
      rw [if_neg]
      rw [Bool.and_eq_true, wi_iff, wi_iff]
      omega
    have HS : Hid (startL st wa sa = zeroL) := hidI (by unfold startL; rw [if_neg (by omega)])
    have HE := hidI hE
    have h5 : st < 0 ∨ (¬ st < 0 ∧ 247 < st) ∨ (¬ st < 0 ∧ ¬ 247 < st ∧ wa < 1) ∨ (¬ st < 0 ∧ ¬ 247 < st ∧ ¬ wa < 1 ∧ 1000 < wa) := by omega
    clear h1 hE
    rcases h5 with h5 | ⟨h5, h6⟩ | ⟨h5, h6, h7⟩ | ⟨h5, h6, h7, h8⟩
    all_goals (
      go_wp2
      obtain ⟨hW, hgW⟩ := HW.out
      refine bodyPost_ret (results2 rfl _ _ p zeroL (.slice none 0 0) (.slice none 0 0) rfl (box7 hW)) rfl ?_
      rw [HS.out, HE.out]
      exact ⟨_, rfl, LkP.zero (gr7n hgW (by rw [HP.out]; exact Nat.le_refl _))⟩)
  obtain ⟨s1, s2, s3, s4⟩ := h1
  have t1 : ¬ st < 0 := by omega
  have t2 : ¬ 247 < st := by omega
  have t3 : ¬ wa < 1 := by omega
  have t4 : ¬ 1000 < wa := by omega
  have hE : startE st wa sa = lookE sa := by unfold startE; rw [wi_yes s1 s2, wi_yes s3 s4]; rfl
  have HE := hidI hE
  clear hE
  go_wp2_with fail
  refine cL.mono ?_
  rintro e w' ⟨rfl, rfl⟩
  by_cases h3 : lookE sa = 0
  case neg =>
    have HS : Hid (startL st wa sa = zeroL) := hidI (by unfold startL; rw [if_neg (by rw [HE.out]; exact h3)])
    generalize lookE sa = E at *
    have i3 : ¬ ((E : Int) = 0) := by omega
    go_wp2
    obtain ⟨hW, hgW⟩ := HW.out
    refine bodyPost_ret (results2 rfl _ _ p zeroL (.slice none 0 0) (.slice none 0 0) rfl (box7 hW)) rfl ?_
    rw [HS.out, HE.out]
    exact ⟨_, rfl, LkP.zero (gr7n hgW (by rw [HP.out]; exact Nat.le_refl _))⟩
  have HS : Hid (startL st wa sa = ⟨st, wa, sa, sa, 0, 0, false⟩) := hidI (by unfold startL; rw [if_pos (by rw [HE.out]; exact h3)])
  rw [h3] at HE ⊢
  clear h3 cL
  go_wp2_with fail
  refine (cC _ HW.out.2).mono ?_
  rintro e w1 ⟨a1, c1, rfl, o1, g1⟩
  have hg1 := grown_join HW.out.2 g1 (.inl rfl)
  go_wp2_with fail
  refine (cC _ hg1).mono ?_
  rintro e w2 ⟨a2, c2, rfl, o2, g2⟩
  obtain ⟨hW, hgW⟩ := HW.out
  have hW1 := kept (grown_join g1 g2 (.inl rfl)) hW
  have hpW := at_lt hW
  have e6 : ∀ x, (Value.slice a1 sa.length c1).ownBlock = some x → (Value.slice a2 sa.length c2).ownBlock ≠ some x := fun x hx hy => by
    have h1 := World.ownsRow.lt o1 x hx
    have h2 := World.ownsRow.lt o2 x hy
    omega
  clear j0 j1 j2 j3 j4 j5 j6 f0 f1 f2 f3 f4 f5 f6 hW
  obtain ⟨j0, j1, j2, j3, j4, j5, j6⟩ := at7 hW1
  obtain ⟨f0, f1, f2, f3, f4, f5, f6⟩ := fz7 hW1
  have HH := hidI (And.intro hW1 (And.intro (own_keep o1 g2) (And.intro o2 (And.intro e6 (And.intro (grown_join hg1 g2 (.inl rfl)) (And.intro hpW (And.intro hgW.size g1.size)))))))
  clear hW1 o1 o2 e6 g1 g2 hg1 hpW cC hgW
  go_wp2
  obtain ⟨hW1, o1, o2, e6, g1, hpW, hs, hs1⟩ := HH.out
  refine bodyPost_ret (results2 rfl _ _ p ⟨st, wa, sa, sa, 0, 0, false⟩ (.slice a1 sa.length c1) (.slice a2 sa.length c2) rfl (box7 hW1)) rfl ?_
  rw [HS.out, HE.out]
  have hp := HP.out
  exact ⟨_, rfl, a1, c1, a2, c2, rfl, own_low (own_but (e := 3) o1 (gr7 (World.grownBy.refl _ _)) (by omega)) (by omega), own_low (own_but o2 (gr7 (World.grownBy.refl _ _)) (by omega)) (by omega), e6, gr7n g1 (by omega)⟩
end Go.Proofs.Ytaiicehifailhaa
