/- Links: copied, compared. -/
import Derived.Test.YtaiicehifailhabJ
namespace Go.Proofs.Ytaiicehifailhab
open Go.RowKit
attribute [local go_sem ↓] Go.wp_at_zero Go.wp_at_succ
set_option linter.unusedVariables false
set_option linter.unusedSimpArgs false

/-- All of a list behind an empty one of one's own. -/
theorem run_clone {w : World} {a : Option Addr} {cap : Nat} {l : List Int} (h : rd w (.slice a l.length cap) l) (hl : l.length ≤ 17592186043904) (ha : a ≠ none) :
    ∃ oa oc w', (Builtin.append_ #[22, 22] 22 #[.slice (some ⟨w.heap.size, 0, none⟩) 0 0, .slice a l.length cap]).run Try.prog (w.alloc (.cells #[] 3)) = .ok (.slice oa l.length oc) w' ∧ OwnL w.heap.size w' oa oc l ∧ w.grownBy w' none := by
  obtain ⟨i0, hi, hz0, hz1, hz2⟩ := info_parts info3
  have h0 : (w.alloc (.cells #[] 3)).ownsRow w.heap.size 3 1 (.slice (some ⟨w.heap.size, 0, none⟩) 0 0) 0 [] := ⟨rfl, .inr ⟨w.heap.size, 0, #[], rfl, Nat.le_refl _, heap_alloc_new w _, Nat.le_refl _, by unfold maxLen; omega, rfl, rfl⟩⟩
  have hg : w.grownBy (w.alloc (.cells #[] 3)) none := gr_alloc (World.grownBy.refl _ _) _
  obtain ⟨ad, rfl⟩ : ∃ ad, a = some ad := by
    cases a with
    | none => exact absurd rfl ha
    | some ad => exact ⟨ad, rfl⟩
  have hcell : ∀ j u, (l.map (Value.int .i64))[j]? = some u → (w.alloc (.cells #[] 3)).cell? (ad.add j) = some u := by
    rcases h.cells with h1 | ⟨b, off, e, hc⟩
    · have : l = [] := List.length_eq_zero_iff.1 h1
      subst this
      intro j u hj
      simp at hj
    · injection e with e
      subst e
      intro j u hj
      exact hg.cell (hc j u hj) (by simp)
  obtain ⟨v', w', r1, r2, r3, r4, r5⟩ := run_append_own_at (P := Try.prog) (w.alloc (.cells #[] 3)) w.heap.size 22 22 3 i0 _ 1 8 Try.underlying22 hi hz0 hz1 hz2 rfl (by omega) _ _ _ h0 ad l.length cap (l.map (Value.int .i64)) (by simp) hcell (by intro u hu; simp at hu; obtain ⟨x, _, rfl⟩ := hu; rfl) (by unfold maxLen; omega) (by omega) (by simp)
  rw [Nat.zero_add, List.nil_append] at r2
  have r2' := r2
  obtain ⟨_, ⟨hv, hm⟩ | ⟨g, cap', cur, hv, _⟩⟩ := r2'
  · subst hv
    rw [hm] at r2 ⊢
    rw [hm] at r1
    exact ⟨none, 0, w', r1, by unfold OwnL; rw [hm]; exact r2, grown_join hg r3 (.inr fun x hx => by simp [Value.ownBlock] at hx; omega)⟩
  · subst hv
    exact ⟨_, _, w', r1, r2, grown_join hg r3 (.inr fun x hx => by simp [Value.ownBlock] at hx; omega)⟩
def ClP (w w' : World) (e : Ending) (l : List Int) : Prop := ∃ a c, e = .returned (.slice a l.length c) ∧ OwnL w.heap.size w' a c l ∧ w.grownBy w' none
set_option maxHeartbeats 1000000 in
theorem clone_any (l : List Int) (v : Value) (w : World) (hv : rd w v l) (hl : l.length ≤ 17592186043904) : Calls Try.prog 22 #[v] w fun e w' => ClP w w' e l := by
  obtain ⟨a, cap, rfl, ha⟩ := id hv
  cases a with
  | none =>
    have hl0 : l = [] := by
      rcases ha with h | ⟨b, off, h, _⟩
      · exact h
      · cases h
    subst hl0
    have hq := Lib.run_eql_slice_nil (P := Try.prog) w 22 3 none 0 cap 0 0 Try.underlying22
    simp only [List.length_nil]
    go_enter Try.func22, Try.ntmps22
    go_wp2
    go_ret
    exact ⟨none, 0, rfl, OwnL.nil _ _, World.grownBy.refl _ _⟩
  | some ad =>
    obtain ⟨oa, oc, w2, hrun, ho, hg⟩ := run_clone hv hl (by simp)
    have HRUN : Hid (_ = _) := hrun
    have hq := Lib.run_eql_slice_nil (P := Try.prog) w 22 3 (some ad) l.length cap 0 0 Try.underlying22
    clear hrun ha hv
    go_enter Try.func22, Try.ntmps22
    go_wp2_with (first | (at_builtin; refine hidG ?_))
    refine hidI ?_
    refine wpList_append_run rfl _ _ 22 rfl _ _ _ w2 rfl rfl HRUN.out ?_
    go_wp2
    go_ret
    exact ⟨oa, oc, rfl, ho, hg⟩
/-- A link. -/
structure Lk where
  st : Int
  wa : Int
  sa : List Int
  wo : List Int
  sq : Int
  ag : Int
  fr : Bool
def lkA (L : Lk) (s t : Value) : Array Value := #[.int .i64 L.st, .int .i64 L.wa, s, t, .int .i64 L.sq, .int .i64 L.ag, .bool L.fr]
def lkV (L : Lk) (s t : Value) : Value := .agg (lkA L s t)
/-- A link of one's own: what a call tells. -/
def LkP (w w' : World) (L : Lk) (v : Value) : Prop :=
  ∃ a1 c1 a2 c2, v = lkV L (.slice a1 L.sa.length c1) (.slice a2 L.wo.length c2) ∧ OwnL w.heap.size w' a1 c1 L.sa ∧ OwnL w.heap.size w' a2 c2 L.wo ∧ (∀ x, (Value.slice a1 L.sa.length c1).ownBlock = some x → (Value.slice a2 L.wo.length c2).ownBlock ≠ some x) ∧ w.grownBy w' none
/-- A link that can be read. -/
def LkR (w : World) (L : Lk) (s t : Value) : Prop := rd w s L.sa ∧ rd w t L.wo
theorem LkR.grown {w w' : World} {L : Lk} {s t : Value} (h : LkR w L s t) (hg : w.grownBy w' none) : LkR w' L s t := ⟨rd_grown h.1 hg, rd_grown h.2 hg⟩
theorem info40 : (Try.prog.info? 26).map (·.size) = some 7 := by kernel_rfl
theorem load40 (W : World) (p : Nat) (L : Lk) (s t : Value) (hg : W.heap[p]? = some (.cells (lkA L s t) 26)) : (loadVar 26 ⟨p, 0, none⟩).run Try.prog W = .ok (lkV L s t) W :=
  run_loadVar_row (P := Try.prog) W p 26 26 (lkA L s t) (0, 0) _ hg Try.underlying26 rfl info40
theorem box7 {W : World} {q : Nat} {y0 y1 y2 y3 y4 y5 y6 x0 x1 x2 x3 x4 x5 x6 : Value} {T : TypeId} (h : W.heap[q]? = some (.cells #[y0, y1, y2, y3, y4, y5, y6] T)) : ((((((((W).setCell ⟨q, 0, none⟩ x0).setCell ⟨q, 1, none⟩ x1).setCell ⟨q, 2, none⟩ x2).setCell ⟨q, 3, none⟩ x3).setCell ⟨q, 4, none⟩ x4).setCell ⟨q, 5, none⟩ x5).setCell ⟨q, 6, none⟩ x6).heap[q]? = some (.cells #[x0, x1, x2, x3, x4, x5, x6] T) := by
  have := at_set (at_set (at_set (at_set (at_set (at_set (at_set h 0 x0) 1 x1) 2 x2) 3 x3) 4 x4) 5 x5) 6 x6
  simpa using this
theorem gr7 {w W : World} {q : Nat} {x0 x1 x2 x3 x4 x5 x6 : Value} (h : w.grownBy W (some q)) : w.grownBy ((((((((W).setCell ⟨q, 0, none⟩ x0).setCell ⟨q, 1, none⟩ x1).setCell ⟨q, 2, none⟩ x2).setCell ⟨q, 3, none⟩ x3).setCell ⟨q, 4, none⟩ x4).setCell ⟨q, 5, none⟩ x5).setCell ⟨q, 6, none⟩ x6) (some q) :=
  gr_set (gr_set (gr_set (gr_set (gr_set (gr_set (gr_set h _ _) _ _) _ _) _ _) _ _) _ _) _ _
theorem gr7n {w W : World} {q : Nat} {x0 x1 x2 x3 x4 x5 x6 : Value} (h : w.grownBy W none) (hq : w.heap.size ≤ q) : w.grownBy ((((((((W).setCell ⟨q, 0, none⟩ x0).setCell ⟨q, 1, none⟩ x1).setCell ⟨q, 2, none⟩ x2).setCell ⟨q, 3, none⟩ x3).setCell ⟨q, 4, none⟩ x4).setCell ⟨q, 5, none⟩ x5).setCell ⟨q, 6, none⟩ x6) none :=
  gr_own (gr_own (gr_own (gr_own (gr_own (gr_own (gr_own h hq _ _) hq _ _) hq _ _) hq _ _) hq _ _) hq _ _) hq _ _
theorem at7 {W : World} {q : Nat} {y0 y1 y2 y3 y4 y5 y6 : Value} {T : TypeId} (h : W.heap[q]? = some (.cells #[y0, y1, y2, y3, y4, y5, y6] T)) : (W.cell? ⟨q, 0, none⟩ = some y0 ∧ W.cell? ⟨q, 1, none⟩ = some y1 ∧ W.cell? ⟨q, 2, none⟩ = some y2 ∧ W.cell? ⟨q, 3, none⟩ = some y3 ∧ W.cell? ⟨q, 4, none⟩ = some y4 ∧ W.cell? ⟨q, 5, none⟩ = some y5 ∧ W.cell? ⟨q, 6, none⟩ = some y6) :=
  ⟨at_cell h 0, at_cell h 1, at_cell h 2, at_cell h 3, at_cell h 4, at_cell h 5, at_cell h 6⟩
theorem fz7 {W : World} {q : Nat} {cs : Array Value} {T : TypeId} (h : W.heap[q]? = some (.cells cs T)) : (W.frozen? ⟨q, 0, none⟩ = false ∧ W.frozen? ⟨q, 1, none⟩ = false ∧ W.frozen? ⟨q, 2, none⟩ = false ∧ W.frozen? ⟨q, 3, none⟩ = false ∧ W.frozen? ⟨q, 4, none⟩ = false ∧ W.frozen? ⟨q, 5, none⟩ = false ∧ W.frozen? ⟨q, 6, none⟩ = false) :=
  ⟨at_frozen h 0, at_frozen h 1, at_frozen h 2, at_frozen h 3, at_frozen h 4, at_frozen h 5, at_frozen h 6⟩
theorem results1 {f : Func} {k : Tmp} (hr : f.results = #[.cell k 26]) (tmps : Array Value) (W : World) (q : Nat) (L : Lk) (s t : Value) (h6 : tmps.getD k undef = .pointer (some ⟨q, 0, none⟩)) (hg : W.heap[q]? = some (.cells (lkA L s t) 26)) :
    (results f tmps).run Try.prog W = .ok (lkV L s t) W := by
  have hl := load40 W q L s t hg
  have h6' : tmps[k]?.getD undef = .pointer (some ⟨q, 0, none⟩) := by simpa using h6
  simp [results, hr]
  rw [h6']
  simp [asAddr, hl, Result.andThen]
theorem results2 {f : Func} {k m : Tmp} (hr : f.results = #[.cell k 26, .tmp m]) (tmps : Array Value) (W : World) (q : Nat) (L : Lk) (s t : Value) (h6 : tmps.getD k undef = .pointer (some ⟨q, 0, none⟩)) (hg : W.heap[q]? = some (.cells (lkA L s t) 26)) :
    (results f tmps).run Try.prog W = .ok (.tuple #[lkV L s t, tmps.getD m undef]) W := by
  have hl := load40 W q L s t hg
  have h6' : tmps[k]?.getD undef = .pointer (some ⟨q, 0, none⟩) := by simpa using h6
  simp [results, hr]
  rw [h6']
  simp [asAddr, hl, Result.andThen]
set_option maxRecDepth 10000 in
set_option maxHeartbeats 1000000 in
theorem copied_any (L : Lk) (s t : Value) (w : World) (h : LkR w L s t) (hl1 : L.sa.length ≤ 17592186043904) (hl2 : L.wo.length ≤ 17592186043904) : Calls Try.prog 12 #[lkV L s t] w fun e w' => ∃ v, e = .returned v ∧ LkP w w' L v := by
  obtain ⟨st, wa, sa, wo, sq, ag, fr⟩ := L
  dsimp only [lkV, lkA] at *
  obtain ⟨h1, h2⟩ := h
  dsimp only at h1 h2 hl1 hl2
  obtain ⟨p, hp⟩ : ∃ p, w.heap.size = p := ⟨_, rfl⟩
  have hW1 : ((w.alloc (.cells #[.int .i64 st, .int .i64 wa, s, t, .int .i64 sq, .int .i64 ag, .bool fr] 26)).alloc (.cells #[.int .i64 0, .int .i64 0, .slice none 0 0, .slice none 0 0, .int .i64 0, .int .i64 0, .bool false] 26)).heap[p]? = some (.cells #[.int .i64 st, .int .i64 wa, s, t, .int .i64 sq, .int .i64 ag, .bool fr] 26) := by
    rw [hp_old (by simp; omega)]; exact hp_new hp.symm _
  have hW2 : ((w.alloc (.cells #[.int .i64 st, .int .i64 wa, s, t, .int .i64 sq, .int .i64 ag, .bool fr] 26)).alloc (.cells #[.int .i64 0, .int .i64 0, .slice none 0 0, .slice none 0 0, .int .i64 0, .int .i64 0, .bool false] 26)).heap[p + 1]? = some (.cells #[.int .i64 0, .int .i64 0, .slice none 0 0, .slice none 0 0, .int .i64 0, .int .i64 0, .bool false] 26) := hp_new (by simp; omega) _
  have hgW : w.grownBy ((w.alloc (.cells #[.int .i64 st, .int .i64 wa, s, t, .int .i64 sq, .int .i64 ag, .bool fr] 26)).alloc (.cells #[.int .i64 0, .int .i64 0, .slice none 0 0, .slice none 0 0, .int .i64 0, .int .i64 0, .bool false] 26)) none := gr_alloc (gr_alloc (World.grownBy.refl _ _) _) _
  go_enter Try.func12, Try.ntmps12
  go_wp2_with fail
  have HP := hidI hp
  clear hp
  generalize (w.alloc (.cells #[.int .i64 st, .int .i64 wa, s, t, .int .i64 sq, .int .i64 ag, .bool fr] 26)).alloc (.cells #[.int .i64 0, .int .i64 0, .slice none 0 0, .slice none 0 0, .int .i64 0, .int .i64 0, .bool false] 26) = W at *
  obtain ⟨sa1, sc1, rfl, _⟩ := id h1
  obtain ⟨ta1, tc1, rfl, _⟩ := id h2
  generalize hs : Value.slice sa1 sa.length sc1 = s at *
  generalize ht : Value.slice ta1 wo.length tc1 = t at *
  have cS : ∀ X, W.grownBy X none → Calls Try.prog 22 #[s] X (fun e w1 => ∃ a c, e = .returned (.slice a sa.length c) ∧ Hid (OwnL X.heap.size w1 a c sa ∧ X.grownBy w1 none ∧ W.grownBy w1 none ∧ W.heap.size ≤ X.heap.size) ∧ w1.cell? ⟨p, 2, none⟩ = some s ∧ w1.cell? ⟨p, 3, none⟩ = some t ∧ w1.frozen? ⟨p, 2, none⟩ = false ∧ w1.frozen? ⟨p, 3, none⟩ = false ∧ W.grownBy w1 none) := fun X hX => (clone_any sa s X (rd_grown h1 (grown_join hgW hX (.inl rfl))) hl1).mono fun e w1 ⟨a, c, e1, e2, e3⟩ => by
    have hg := grown_join hX e3 (.inl rfl)
    exact ⟨a, c, e1, hidI ⟨e2, e3, hg, hX.size⟩, at_cell (kept hg hW1) 2, at_cell (kept hg hW1) 3, at_frozen (kept hg hW1) 2, at_frozen (kept hg hW1) 3, hg⟩
  have cT : ∀ X, W.grownBy X none → Calls Try.prog 22 #[t] X (fun e w1 => ∃ a c, e = .returned (.slice a wo.length c) ∧ Hid (OwnL X.heap.size w1 a c wo ∧ X.grownBy w1 none ∧ W.grownBy w1 none ∧ W.heap.size ≤ X.heap.size) ∧ w1.cell? ⟨p, 2, none⟩ = some s ∧ w1.cell? ⟨p, 3, none⟩ = some t ∧ w1.frozen? ⟨p, 2, none⟩ = false ∧ w1.frozen? ⟨p, 3, none⟩ = false ∧ W.grownBy w1 none) := fun X hX => (clone_any wo t X (rd_grown h2 (grown_join hgW hX (.inl rfl))) hl2).mono fun e w1 ⟨a, c, e1, e2, e3⟩ => by
    have hg := grown_join hX e3 (.inl rfl)
    exact ⟨a, c, e1, hidI ⟨e2, e3, hg, hX.size⟩, at_cell (kept hg hW1) 2, at_cell (kept hg hW1) 3, at_frozen (kept hg hW1) 2, at_frozen (kept hg hW1) 3, hg⟩
  have p2 : W.cell? ⟨p, 2, none⟩ = some s := at_cell hW1 2
  have p3 : W.cell? ⟨p, 3, none⟩ = some t := at_cell hW1 3
  have HW := hidI (And.intro hW1 (And.intro hW2 hgW))
  clear hW1 hW2 hgW h1 h2
  go_region_with (go_at_call 22; first | (with_reducible refine (cS _ (by first | exact gr_drew (World.grownBy.refl _ _) | assumption | exact gr_drew (by assumption))).mono ?_; rintro e w1 ⟨a1, c1, rfl, HS1, k2, k3, k4, k5, kg⟩) | (with_reducible refine (cT _ (by first | exact gr_drew (World.grownBy.refl _ _) | assumption | exact gr_drew (by assumption))).mono ?_; rintro e w2 ⟨a2, c2, rfl, HT1, m2, m3, m4, m5, mg⟩))
  all_goals (
    obtain ⟨o1, g1, g2, g3⟩ := HS1.out
    obtain ⟨o2, g4, g5, g6⟩ := HT1.out
    obtain ⟨hW1, hW2, hgW⟩ := HW.out
    have e1 : ((w2.setCell ⟨p, 2, none⟩ (.slice a1 sa.length c1)).setCell ⟨p, 3, none⟩ (.slice a2 wo.length c2)).heap[p]? = some (.cells #[.int .i64 st, .int .i64 wa, .slice a1 sa.length c1, .slice a2 wo.length c2, .int .i64 sq, .int .i64 ag, .bool fr] 26) := by
      have := at_set (at_set (kept g5 hW1) 2 (.slice a1 sa.length c1)) 3 (.slice a2 wo.length c2)
      simpa using this
    have e2 : ((w2.setCell ⟨p, 2, none⟩ (.slice a1 sa.length c1)).setCell ⟨p, 3, none⟩ (.slice a2 wo.length c2)).heap[p + 1]? = some (.cells #[.int .i64 0, .int .i64 0, .slice none 0 0, .slice none 0 0, .int .i64 0, .int .i64 0, .bool false] 26) := by
      rw [Below.heap_setCell _ _ _ _ (by simp), Below.heap_setCell _ _ _ _ (by simp)]
      exact kept g5 hW2
    have hpW := at_lt hW2
    have e3 : w.grownBy ((w2.setCell ⟨p, 2, none⟩ (.slice a1 sa.length c1)).setCell ⟨p, 3, none⟩ (.slice a2 wo.length c2)) none := gr_own (gr_own (grown_join hgW g5 (.inl rfl)) (by rw [HP.out]; exact Nat.le_refl _) _ _) (by rw [HP.out]; exact Nat.le_refl _) _ _
    have e4 : OwnL W.heap.size ((w2.setCell ⟨p, 2, none⟩ (.slice a1 sa.length c1)).setCell ⟨p, 3, none⟩ (.slice a2 wo.length c2)) a1 c1 sa := own_but (p := p) (own_keep o1 g4) (gr_set (gr_set (World.grownBy.refl _ _) _ _) _ _) (by show p < W.heap.size; omega)
    have e5 : OwnL w1.heap.size ((w2.setCell ⟨p, 2, none⟩ (.slice a1 sa.length c1)).setCell ⟨p, 3, none⟩ (.slice a2 wo.length c2)) a2 c2 wo := own_but (p := p) o2 (gr_set (gr_set (World.grownBy.refl _ _) _ _) _ _) (by omega)
    have e6 : ∀ x, (Value.slice a1 sa.length c1).ownBlock = some x → (Value.slice a2 wo.length c2).ownBlock ≠ some x := fun x hx hy => by
      have h1 := World.ownsRow.lt o1 x hx
      have h2 := World.ownsRow.lt o2 x hy
      omega
    clear hW1 hW2 o1 o2 g1 g2 g4 g5 k2 k3 k4 k5 kg m2 m3 m4 m5 mg p2 p3 cS cT HS1 HT1
    generalize (w2.setCell ⟨p, 2, none⟩ (.slice a1 sa.length c1)).setCell ⟨p, 3, none⟩ (.slice a2 wo.length c2) = X at *
    obtain ⟨i0, i1, i2, i3, i4, i5, i6⟩ := at7 e1
    obtain ⟨j0, j1, j2, j3, j4, j5, j6⟩ := at7 e2
    obtain ⟨f0, f1, f2, f3, f4, f5, f6⟩ := fz7 e2
    have HE := hidI (And.intro e2 (And.intro e3 (And.intro e4 (And.intro e5 e6))))
    clear e1 e2 e3 e4 e5 e6
    go_wp2
    refine bodyPost_ret (results1 rfl _ _ (p + 1) ⟨st, wa, sa, wo, sq, ag, fr⟩ (.slice a1 sa.length c1) (.slice a2 wo.length c2) rfl (box7 HE.out.1)) rfl ?_
    obtain ⟨e2, e3, e4, e5, e6⟩ := HE.out
    have hp := HP.out
    exact ⟨_, rfl, a1, c1, a2, c2, rfl, own_low (own_but e4 (gr7 (World.grownBy.refl _ _)) (by omega)) (by omega), own_low (own_but e5 (gr7 (World.grownBy.refl _ _)) (by omega)) (by omega), e6, gr7n e3 (by omega)⟩)
end Go.Proofs.Ytaiicehifailhab
