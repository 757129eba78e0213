/- Played, the document's. -/
import Derived.Test.YtholmeebkgpjjaaT2
namespace Go.Proofs.Ytholmeebkgpjjaa
open Go.RowKit Go.Shelf
attribute [local go_sem ↓] Go.wp_at_zero Go.wp_at_succ
set_option linter.unusedVariables false
set_option linter.unusedSimpArgs false
def dcells (L : Nat) (f : Nat → Int) : List Value := (List.range L).map fun i => .int .i64 (f i)
theorem made_zeros (n : Nat) : madeCells (Value.int .i64 0).cells n = (dcells n (fun _ => 0)).toArray := by
  have e : (Value.int .i64 0).cells = #[Value.int .i64 0] := rfl
  rw [e]
  unfold madeCells dcells
  apply Array.ext
  · simp
  · intro i h1 h2
    simp [Nat.mod_one]
theorem make_ints (n : Nat) (hn : n ≤ 1000000000000) (w : World) : (Instr.makeSlice 23 (.int .i64 (n : Int)) (.int .i64 (n : Int))).run Try.prog w = .ok (.slice (some ⟨w.heap.size, 0, none⟩) n n) (w.alloc (.cells (dcells n (fun _ => 0)).toArray 3)) := by
  obtain ⟨i0, hi, hz0, hz1, hz2⟩ := info_parts info3
  have h := run_make (P := Try.prog) w 23 3 i0 (.int .i64 0) Try.underlying23 hi hz0 .i64 .i64 (n : Int) (n : Int) (by omega) (by omega) (by rw [hz2]; simp; omega) (by omega)
  rw [hz1, made_zeros] at h
  simpa using h
theorem dcells_get {L : Nat} {f : Nat → Int} {i : Nat} (hi : i < L) : (dcells L f).toArray[i]? = some (.int .i64 (f i)) := by simp [dcells, hi]
theorem dcells_set {L : Nat} {f : Nat → Int} {i : Nat} (x : Int) : (dcells L f).toArray.setIfInBounds i (.int .i64 x) = (dcells L (upd f i x)).toArray := by
  rw [List.setIfInBounds_toArray]
  refine congrArg List.toArray (List.ext_getElem (by simp [dcells]) fun k h1 h2 => ?_)
  rw [List.getElem_set]
  simp only [dcells, List.getElem_map, List.getElem_range]
  unfold upd
  by_cases e : i = k
  · subst e; simp
  · rw [if_neg e, if_neg (fun h => e h.symm)]
/-- The document's run in memory. -/
structure DocAt (w0 : World) (db L : Nat) (D : Nat → Int) (out : List Sl) (pa : Option Addr) (pc : Nat) (wx : World) : Prop where
  d : wx.heap[db]? = some (.cells (dcells L D).toArray 3)
  out : wx.ownsRow (db + 1) 36 4 (.slice pa out.length pc) out.length (out.flatMap rowL)
  grown : w0.grownBy wx none
  base : w0.heap.size ≤ db
section
variable {w0 : World} {db L : Nat} {D : Nat → Int} {out : List Sl} {pa : Option Addr} {pc : Nat} {w w' : World}
theorem DocAt.lt (h : DocAt w0 db L D out pa pc w) : db < w.heap.size := at_lt h.d
theorem DocAt.ne (h : DocAt w0 db L D out pa pc w) {y : Nat} (hy : (Value.slice pa out.length pc).ownBlock = some y) : db < y ∧ y < w.heap.size := by
  have := World.ownsRow.lt h.out y hy
  omega
theorem DocAt.grow (h : DocAt w0 db L D out pa pc w) (hg : w.grownBy w' none) : DocAt w0 db L D out pa pc w' := ⟨kept hg h.d, own_keep h.out hg, grown_join h.grown hg (.inl rfl), h.base⟩
theorem DocAt.tick (h : DocAt w0 db L D out pa pc w) (i : Nat) (x : Int) : DocAt w0 db L (upd D i x) out pa pc (w.setCell ⟨db, i, none⟩ (.int .i64 x)) := by
  have hg : w.grownBy (w.setCell ⟨db, i, none⟩ (.int .i64 x)) (some db) := gr_set (World.grownBy.refl _ _) _ _
  refine ⟨?_, own_row h.out hg (fun y hy e => by injection e with e; have := (h.ne hy).1; omega), gr_own h.grown h.base _ _, h.base⟩
  have := at_set h.d i (.int .i64 x)
  rwa [dcells_set] at this
theorem DocAt.more (h : DocAt w0 db L D out pa pc w) (x : Sl) (hl : out.length ≤ 1000000) :
    ∃ pa' pc' w2, (Builtin.append_ #[31, 31] 31 #[.slice pa out.length pc, .slice (some ⟨w.heap.size, 0, none⟩) 1 1]).run Try.prog (w.alloc (.cells #[.int .i64 x.task, .int .i64 x.job, .int .i64 x.fr, .int .i64 x.to] 36)) = .ok (.slice pa' (out.length + 1) pc') w2 ∧
      DocAt w0 db L D (out ++ [x]) pa' pc' w2 := by
  obtain ⟨i0, hi, hz0, hz1, hz2⟩ := info_parts info36
  have hlt := h.lt
  obtain ⟨pa', pc', w2, r1, r2, r3, r4⟩ := own_more2 Try.underlying31 hi hz0 hz1 hz2 rfl (by omega) h.out (rowL x) rfl (by simp [rowL, Value.oneCell']) hl (by omega) (by omega)
  refine ⟨pa', pc', w2, r1, (r3.block db hlt (fun e => by have := (h.ne e.symm).1; omega)).trans h.d, ?_, grown_join h.grown r3 (.inr fun y hy => by have := (h.ne hy).1; have := h.base; omega), h.base⟩
  have e1 : (out ++ [x]).flatMap rowL = out.flatMap rowL ++ rowL x := by simp
  rw [e1, List.length_append]
  exact r2
theorem DocAt.lastAt {o : List Sl} {k : Sl} (h : DocAt w0 db L D (o ++ [k]) pa pc w) : ∃ g, pa = some ⟨g, 0, none⟩ ∧ db < g ∧ w.cell? ⟨g, o.length * 4, none⟩ = some (.int .i64 k.task) ∧ w.cell? ⟨g, o.length * 4 + 1, none⟩ = some (.int .i64 k.job) ∧ w.cell? ⟨g, o.length * 4 + 3, none⟩ = some (.int .i64 k.to) ∧ w.frozen? ⟨g, o.length * 4 + 3, none⟩ = false ∧
    ∀ x : Int, DocAt w0 db L D (o ++ [{ k with to := x }]) pa pc (w.setCell ⟨g, o.length * 4 + 3, none⟩ (.int .i64 x)) := by
  have hol := h.out
  have hl := flat_len rowL 4 rowL_len o
  have hol' := hol
  obtain ⟨_, ⟨_, hn⟩ | ⟨g, cap', cur, hv, hb, hc, _⟩⟩ := hol'
  · simp at hn
  injection hv with e1 e2 e3
  subst e1 e3
  have cell : ∀ r u, r < 4 → (rowL k)[r]? = some u → w.cell? ⟨g, o.length * 4 + r, none⟩ = some u := fun r u hr hu => by
    rw [World.ownsRow.cellAt hol (o.length * 4 + r) (by simp; omega)]
    simp only [List.flatMap_append]
    rw [List.getElem?_append_right (by omega), hl, show o.length * 4 + r - o.length * 4 = r by omega]
    simpa using hu
  refine ⟨g, rfl, by omega, cell 0 _ (by omega) rfl, cell 1 _ (by omega) rfl, cell 3 _ (by omega) rfl, at_frozen hc _, fun x => ?_⟩
  have hg : w.grownBy (w.setCell ⟨g, o.length * 4 + 3, none⟩ (.int .i64 x)) (some g) := gr_set (World.grownBy.refl _ _) _ _
  have hlen : (o ++ [{ k with to := x }]).length = (o ++ [k]).length := by simp
  have hbs := h.base
  refine ⟨keptBut hg h.d (by omega), ?_, gr_own h.grown (by omega) _ _, h.base⟩
  rw [hlen, ← set_last]
  exact own_set hol _
end
theorem doc_bd (l : List Tk) : ∀ (n : Nat) (i : Nat), 0 ≤ (doc l n).1 i ∧ (doc l n).1 i ≤ n
  | 0, i => by simp [doc, runD]
  | n + 1, i => by
    have ih := doc_bd l n
    rw [doc_succ]
    unfold stepD
    cases hp : pick l (doc l n).1 n with
    | none => have := ih i; dsimp only; omega
    | some j =>
      dsimp only
      unfold upd
      have h1 := ih i
      have h2 := ih j
      split <;> omega
set_option maxRecDepth 20000 in
set_option maxHeartbeats 40000000 in
theorem played_runs (l : List Tk) (v : Value) (u : Int) (w : World) (hm : l.length ≤ maxLen) (hv : TsAt w v l) (hk : (lookS l).1 = 0) (hu0 : 0 ≤ u) (hu1 : u ≤ 20000) :
    Calls Try.prog 13 #[v, .int .i64 u] w fun e w' => PlayP w w' e ((doc l u.toNat).2, 0, 0) := by
  obtain ⟨a, cap, rfl, hcap, _⟩ := id hv
  have cL : ∀ W, w.grownBy W none → Calls Try.prog 20 #[.slice a l.length cap] W fun e w' => e = .returned (flV (lookS l)) ∧ W.grownBy w' none := fun W hW => tasked_any l _ W hm (hv.grown hW)
  unfold maxLen at hm
  obtain ⟨h16, h1, hok⟩ := look_fine hk
  rw [look_zero h16 h1 hok] at cL
  unfold flV at cL
  dsimp only at cL
  have hmk := make_ints l.length (by omega)
  go_enter Try.func13, Try.ntmps13
  go_wp2_with (first | (go_at_call 20; refine (cL _ (gr_alloc (World.grownBy.refl _ _) _)).mono ?_; rintro e w1 ⟨rfl, hg1⟩))
  obtain ⟨w0, hw0⟩ : ∃ w0, w0 = w1.alloc (.cells #[.int .i64 0, .int .i64 0, .int .i64 0] 26) := ⟨_, rfl⟩
  rw [← hw0]
  have hw0s : w0.heap.size = w1.heap.size + 1 := by rw [hw0]; simp
  have hgw : w.grownBy w0 none := by rw [hw0]; exact gr_alloc (grown_join (gr_alloc (World.grownBy.refl _ _) _) hg1 (.inl rfl)) _
  have hF0 : w0.heap[w.heap.size]? = some (.cells #[.int .i64 0, .int .i64 0, .int .i64 0] 26) := by
    have h3 := kept hg1 (heap_alloc_new w (.cells #[.int .i64 0, .int .i64 0, .int .i64 0] 26))
    rw [hw0]; exact (hp_old (at_lt h3) _).trans h3
  have hT0 := hv.grown hgw
  have HV := hide hT0
  have HF := hide hF0
  have HGW := hide hgw
  have HOK := hide hok
  have hwl : w.heap.size ≤ w1.heap.size := by have := hg1.size; simp at this; omega
  have hD0 : DocAt w0 (w1.heap.size + 1) l.length (doc l 0).1 (doc l 0).2 none 0 (w0.alloc (.cells (dcells l.length (fun _ => 0)).toArray 3)) :=
    ⟨hp_new hw0s.symm _, World.ownsRow_nil _ _ _ _, gr_alloc (World.grownBy.refl _ _) _, by omega⟩
  have HW0S := hide hw0s
  clear hw0 hgw hF0 hT0 hv cL hmk hg1 hk hok hw0s
  obtain ⟨db, hdb⟩ : ∃ db, db = w1.heap.size + 1 := ⟨_, rfl⟩
  rw [← hdb] at hD0 ⊢
  have HDB := hide hdb
  clear hdb
  go_loopw [8, 9] (fun so sn wx => ∃ (k : Nat) (a' : Option Addr) (cap' : Nat), (k : Int) ≤ u ∧ sn = .int .i64 k ∧ so = .slice a' (doc l k).2.length cap' ∧ Hid (DocAt w0 db l.length (doc l k).1 (doc l k).2 a' cap' wx)) (fun _ sn _ => u.toNat - (intOf sn).toNat)
  case atStart => exact ⟨0, none, 0, by omega, rfl, rfl, hD0⟩
  case round =>
    obtain ⟨k, a', cap', hk, rfl, hso, HD⟩ := hrel
    have hol := doc_len l k
    have hbd := doc_bd l k
    have hsu := doc_succ l k
    obtain ⟨D, hD⟩ : ∃ D, D = (doc l k).1 := ⟨_, rfl⟩
    obtain ⟨out, hout⟩ : ∃ out, out = (doc l k).2 := ⟨_, rfl⟩
    have hpr : doc l k = (D, out) := by rw [hD, hout]
    rw [hpr] at hsu
    rw [← hout] at hol HD
    rw [← hD] at hbd HD
    have HS := hide hsu
    have HB := hide hbd
    have HPR := hide hpr
    rw [← hout] at hso
    subst hso
    clear hD hout hsu hbd hpr
    generalize wr = W at *
    by_cases hlt : (k : Int) < u
    · go_wp2_with fail
      go_loopw [8, 10] (fun so si wx => ∃ i : Nat, i ≤ l.length ∧ so = .slice a' out.length cap' ∧ si = .int .i64 i ∧ Hid (∀ j, j < i → pend l D k j = false) ∧ W.grownBy wx none) (fun _ si _ => l.length - (intOf si).toNat)
      case atStart => exact ⟨0, Nat.zero_le _, rfl, rfl, fun j hj => by omega, World.grownBy.refl _ _⟩
      case round =>
        obtain ⟨i, hi, rfl, rfl, HP, hg⟩ := hrel
        have HD2 := hide (HD.out.grow hg)
        by_cases hlt2 : i < l.length
        · obtain ⟨b, off, capx, he, hc⟩ := (HV.out.grown HD2.out.grown).at (by omega)
          injection he with e1 e2 e3
          subst e1 e3
          obtain ⟨c0, c1, c2, c3, c4⟩ := hc i hlt2
          have dc : wr.cell? ⟨db, i, none⟩ = some (.int .i64 (D i)) := (at_cell HD2.out.d i).trans (dcells_get hlt2)
          have df : wr.frozen? ⟨db, i, none⟩ = false := at_frozen HD2.out.d i
          have hkt := (ok_iff _).1 (HOK.out.at i hlt2)
          have hdi := HB.out i
          have hpe : pend l D k i = decide (D i < rls (l.getD i tk0) k * (l.getD i tk0).cost) := rfl
          have HN : Hid (pend l D k i = false → ∀ j, j < i + 1 → pend l D k j = false) := fun hn j hj => by
            rcases Nat.lt_or_ge j i with h | h
            · exact HP.out j h
            · rw [show j = i by omega]; exact hn
          clear hc
          have htk : tk l i = l.getD i tk0 := rfl
          generalize l.getD i tk0 = t at *
          have HTK := hide htk
          clear htk
          by_cases hoff : t.off ≤ (k : Int)
          · have h5 : 0 ≤ ((k : Int) - t.off) / t.per := Int.ediv_nonneg (by omega) (by omega)
            have h6 : ((k : Int) - t.off) / t.per ≤ (k : Int) - t.off := Int.ediv_le_self _ (by omega)
            have hr : rls t k = ((k : Int) - t.off) / t.per + 1 := by unfold rls; rw [if_pos hoff]
            have hpb := prod_bd (c := t.cost) (u := ((k : Int) - t.off) / t.per + 1) (by omega) (by omega) (by omega) (by omega)
            rw [Int.mul_comm] at hpb
            rw [hr] at hpe
            clear hr
            by_cases hp : D i < (((k : Int) - t.off) / t.per + 1) * t.cost
            · have hjd : 0 ≤ D i / t.cost := Int.ediv_nonneg (by omega) (by omega)
              have hjd2 : D i / t.cost ≤ D i := Int.ediv_le_self _ (by omega)
              have HX := hide (show doc l (k + 1) = (upd D i (D i + 1), pushD out ⟨i, D i / t.cost, k, k + 1⟩) by
                rw [HS.out]
                unfold stepD
                rw [pick_some.2 ⟨hlt2, by rw [hpe]; simpa using hp, HP.out⟩]
                dsimp only
                rw [HTK.out])
              clear HN hpe
              have HC2 := hide c2
              go_wp2_with fail
              go_quiet (fail)
              generalize nq = nq0 at *
              go_wp2_with fail
              go_quiet (fail)
              generalize nq = nq1 at *
              go_wp2_with fail
              have HD3 := hide (HD2.out.grow (gr_drewN (gr_drewN (World.grownBy.refl wr none) nq0) nq1))
              have dc3 : ((wr.drewN nq0).drewN nq1).cell? ⟨db, i, none⟩ = some (.int .i64 (D i)) := dc
              have c33 : ((wr.drewN nq0).drewN nq1).cell? ⟨b, off + i * 5 + 3, none⟩ = some (.int .i64 t.cost) := c3
              clear dc df c0 c1 c2 c3 c4
              generalize (wr.drewN nq0).drewN nq1 = W3 at *
              have hc0 : t.cost ≠ 0 := by omega
              have hdt : (D i).tdiv t.cost = D i / t.cost := Int.tdiv_eq_ediv_of_nonneg (by omega)
              obtain ⟨jb, hjb⟩ : ∃ jb, jb = D i / t.cost := ⟨_, rfl⟩
              have hwd : IntKind.i64.wrap (D i / t.cost) = D i / t.cost := i64_id (by omega) (by omega)
              have hwt : IntKind.i64.wrap ((D i).tdiv t.cost) = D i / t.cost := by rw [hdt]; exact hwd
              have hwk : IntKind.i64.wrap ((k : Int) + 1) = (k : Int) + 1 := i64_id (by omega) (by omega)
              go_region_held3 (fun w' => w'.cell? ⟨db, i, none⟩ = some (.int .i64 (D i)) ∧ w'.cell? ⟨b, off + i * 5 + 3, none⟩ = some (.int .i64 t.cost)) (refine ⟨?_, ?_⟩ <;> first | assumption | (go_keep; done)) (fail)
              have sb : ((W3.alloc (.cells #[.int .i64 i, .int .i64 (D i / t.cost), .int .i64 k, .int .i64 ((k : Int) + 1)] 36)).drew).heap[W3.heap.size]? = some (.cells #[.int .i64 i, .int .i64 (D i / t.cost), .int .i64 k, .int .i64 ((k : Int) + 1)] 36) := (hp_new rfl _ : (W3.alloc (.cells #[.int .i64 i, .int .i64 (D i / t.cost), .int .i64 k, .int .i64 ((k : Int) + 1)] 36)).heap[W3.heap.size]? = _)
              have HD4 := hide (HD3.out.grow (gr_drew (gr_alloc (World.grownBy.refl W3 none) (.cells #[.int .i64 i, .int .i64 (D i / t.cost), .int .i64 k, .int .i64 ((k : Int) + 1)] 36))))
              generalize (W3.alloc (.cells #[.int .i64 i, .int .i64 (D i / t.cost), .int .i64 k, .int .i64 ((k : Int) + 1)] 36)).drew = W4 at *
              have x0 : W4.cell? ⟨W3.heap.size, 0, none⟩ = some (.int .i64 i) := at_cell sb 0
              have x1 : W4.cell? ⟨W3.heap.size, 1, none⟩ = some (.int .i64 (D i / t.cost)) := at_cell sb 1
              have x2 : W4.cell? ⟨W3.heap.size, 2, none⟩ = some (.int .i64 k) := at_cell sb 2
              have x3 : W4.cell? ⟨W3.heap.size, 3, none⟩ = some (.int .i64 ((k : Int) + 1)) := at_cell sb 3
              clear sb dc3 c33
              rcases List.eq_nil_or_concat out with ho | ⟨o, y, ho⟩
              · subst ho
                have HPU := hide (show pushD ([] : List Sl) ⟨i, D i / t.cost, k, k + 1⟩ = [] ++ [⟨i, D i / t.cost, k, k + 1⟩] from rfl)
                go_wp2_with fail
                go_quiet (fail)
                have q0 : (W4.drewN nq).cell? ⟨W3.heap.size, 0, none⟩ = some (.int .i64 i) := x0
                have q1 : (W4.drewN nq).cell? ⟨W3.heap.size, 1, none⟩ = some (.int .i64 (D i / t.cost)) := x1
                have q2 : (W4.drewN nq).cell? ⟨W3.heap.size, 2, none⟩ = some (.int .i64 k) := x2
                have q3 : (W4.drewN nq).cell? ⟨W3.heap.size, 3, none⟩ = some (.int .i64 ((k : Int) + 1)) := x3
                have HD5 := hide (HD4.out.grow (gr_drewN (World.grownBy.refl W4 none) nq))
                clear x0 x1 x2 x3
                generalize W4.drewN nq = W5 at *
                obtain ⟨pa', pc', w2, r1, r2⟩ := HD5.out.more ⟨i, D i / t.cost, k, k + 1⟩ (by simp)
                have HR1 : Hid ((Builtin.append_ #[31, 31] 31 #[.slice a' 0 cap', .slice (some ⟨W5.heap.size, 0, none⟩) 1 1]).run Try.prog (W5.alloc (.cells #[.int .i64 i, .int .i64 (D i / t.cost), .int .i64 k, .int .i64 ((k : Int) + 1)] 36)) = .ok (.slice pa' (0 + 1) pc') w2) := r1
                have HR2 := hide r2
                have d6 : w2.cell? ⟨db, i, none⟩ = some (.int .i64 (D i)) := (at_cell r2.d i).trans (dcells_get hlt2)
                have d7 : w2.frozen? ⟨db, i, none⟩ = false := at_frozen r2.d i
                have hwi : IntKind.i64.wrap (D i + 1) = D i + 1 := i64_id (by omega) (by omega)
                clear r1 r2
                go_wp2_with (first | (at_builtin; refine wpList_append_run rfl _ _ 31 rfl _ _ _ w2 rfl rfl HR1.out ?_))
                go_roundw
                case rel => exact ⟨k + 1, pa', pc', by omega, by go_num, by rw [HX.out, HPU.out]; simp, by rw [HX.out, HPU.out]; exact HR2.out.tick i (D i + 1)⟩
                case measure => simp [intOf]; omega
              · rw [List.concat_eq_append] at ho
                subst ho
                have hol' : o.length + 1 ≤ k := by simpa using hol
                have hlen : (o ++ [y]).length = o.length + 1 := by simp
                rw [hlen]
                clear hlen
                have i1 : (0 : Int) ≤ (o.length : Int) := by omega
                have i2 : (o.length : Int) < ((o.length + 1 : Nat) : Int) := by omega
                have i3 : IntKind.i64.wrap (((o.length + 1 : Nat) : Int) - 1) = (o.length : Int) := by rw [show ((o.length + 1 : Nat) : Int) - 1 = o.length by omega]; exact i64_id (by omega) (by omega)
                have i4 : IntKind.i64.wrap ((o.length : Int) + 1 - 1) = (o.length : Int) := by rw [show (o.length : Int) + 1 - 1 = o.length by omega]; exact i64_id (by omega) (by omega)
                obtain ⟨g, rfl, hgd, l0, l1, l3, lz, hset⟩ := HD4.out.lastAt
                have hne1 : g ≠ db := by omega
                have hne2 : db ≠ g := by omega
                have hpo : ¬ (y.to = k ∧ y.task = i ∧ y.job = D i / t.cost) → pushD (o ++ [y]) ⟨i, D i / t.cost, k, k + 1⟩ = (o ++ [y]) ++ [⟨i, D i / t.cost, k, k + 1⟩] := fun h => by unfold pushD; simp [h]
                have hps : y.to = k → y.task = i → y.job = D i / t.cost → pushD (o ++ [y]) ⟨i, D i / t.cost, k, k + 1⟩ = o ++ [{ y with to := (k : Int) + 1 }] := fun h1 h2 h3 => by unfold pushD; simp [h1, h2, h3]
                by_cases c1 : y.to = (k : Int)
                · have b1 : (y.to == (k : Int)) = true := by simp [c1]
                  by_cases c2 : y.task = (i : Int)
                  · have b2 : (y.task == (i : Int)) = true := by simp [c2]
                    by_cases c3 : y.job = D i / t.cost
                    · have b3 : (y.job == D i / t.cost) = true := by simp [c3]
                      have HPU := hide (hps c1 c2 c3)
                      clear hpo hps
                      go_wp2_with fail
                      go_quiet (fail)
                      have q0 : (W4.drewN nq).cell? ⟨W3.heap.size, 0, none⟩ = some (.int .i64 i) := x0
                      have q1 : (W4.drewN nq).cell? ⟨W3.heap.size, 1, none⟩ = some (.int .i64 (D i / t.cost)) := x1
                      have q2 : (W4.drewN nq).cell? ⟨W3.heap.size, 2, none⟩ = some (.int .i64 k) := x2
                      have q3 : (W4.drewN nq).cell? ⟨W3.heap.size, 3, none⟩ = some (.int .i64 ((k : Int) + 1)) := x3
                      have HD5 := hide (HD4.out.grow (gr_drewN (World.grownBy.refl W4 none) nq))
                      have m3 : (W4.drewN nq).cell? ⟨g, o.length * 4 + 3, none⟩ = some (.int .i64 y.to) := l3
                      have mz : (W4.drewN nq).frozen? ⟨g, o.length * 4 + 3, none⟩ = false := lz
                      obtain ⟨g', hg', _, _, _, _, _, hset5⟩ := HD5.out.lastAt
                      injection hg' with hg'
                      injection hg' with hg'
                      subst hg'
                      have HS5 := hide (hset5 ((k : Int) + 1))
                      have d6 : (W4.drewN nq).cell? ⟨db, i, none⟩ = some (.int .i64 (D i)) := (at_cell HD5.out.d i).trans (dcells_get hlt2)
                      have d7 : (W4.drewN nq).frozen? ⟨db, i, none⟩ = false := at_frozen HD5.out.d i
                      have hwi : IntKind.i64.wrap (D i + 1) = D i + 1 := i64_id (by omega) (by omega)
                      clear x0 x1 x2 x3 l0 l1 l3 lz hset hset5
                      generalize W4.drewN nq = W5 at *
                      go_wp2_with fail
                      go_roundw
                      case rel => exact ⟨k + 1, some ⟨g, 0, none⟩, cap', by omega, by go_num, by rw [HX.out, HPU.out]; simp, by rw [HX.out, HPU.out]; exact HS5.out.tick i (D i + 1)⟩
                      case measure => simp [intOf]; omega
                    · have b3 : (y.job == D i / t.cost) = false := by simp [c3]
                      have HPU := hide (hpo (fun h => absurd h (by simp [c3])))
                      clear hpo hps hset
                      go_wp2_with fail
                      go_quiet (fail)
                      have q0 : (W4.drewN nq).cell? ⟨W3.heap.size, 0, none⟩ = some (.int .i64 i) := x0
                      have q1 : (W4.drewN nq).cell? ⟨W3.heap.size, 1, none⟩ = some (.int .i64 (D i / t.cost)) := x1
                      have q2 : (W4.drewN nq).cell? ⟨W3.heap.size, 2, none⟩ = some (.int .i64 k) := x2
                      have q3 : (W4.drewN nq).cell? ⟨W3.heap.size, 3, none⟩ = some (.int .i64 ((k : Int) + 1)) := x3
                      have HD5 := hide (HD4.out.grow (gr_drewN (World.grownBy.refl W4 none) nq))
                      clear x0 x1 x2 x3 l0 l1 l3 lz
                      generalize W4.drewN nq = W5 at *
                      obtain ⟨pa', pc', w2, r1, r2⟩ := HD5.out.more ⟨i, D i / t.cost, k, k + 1⟩ (by simp; omega)
                      rw [List.length_append] at r1
                      have HR1 : Hid ((Builtin.append_ #[31, 31] 31 #[.slice (some ⟨g, 0, none⟩) (o.length + 1) cap', .slice (some ⟨W5.heap.size, 0, none⟩) 1 1]).run Try.prog (W5.alloc (.cells #[.int .i64 i, .int .i64 (D i / t.cost), .int .i64 k, .int .i64 ((k : Int) + 1)] 36)) = .ok (.slice pa' (o.length + 1 + 1) pc') w2) := r1
                      have HR2 := hide r2
                      have d6 : w2.cell? ⟨db, i, none⟩ = some (.int .i64 (D i)) := (at_cell r2.d i).trans (dcells_get hlt2)
                      have d7 : w2.frozen? ⟨db, i, none⟩ = false := at_frozen r2.d i
                      have hwi : IntKind.i64.wrap (D i + 1) = D i + 1 := i64_id (by omega) (by omega)
                      clear r1 r2
                      go_wp2_with (first | (at_builtin; refine wpList_append_run rfl _ _ 31 rfl _ _ _ w2 rfl rfl HR1.out ?_))
                      go_roundw
                      case rel => exact ⟨k + 1, pa', pc', by omega, by go_num, by rw [HX.out, HPU.out]; simp, by rw [HX.out, HPU.out]; exact HR2.out.tick i (D i + 1)⟩
                      case measure => simp [intOf]; omega
                  · have b2 : (y.task == (i : Int)) = false := by simp [c2]
                    have HPU := hide (hpo (fun h => absurd h (by simp [c2])))
                    clear hpo hps hset
                    go_wp2_with fail
                    go_quiet (fail)
                    have q0 : (W4.drewN nq).cell? ⟨W3.heap.size, 0, none⟩ = some (.int .i64 i) := x0
                    have q1 : (W4.drewN nq).cell? ⟨W3.heap.size, 1, none⟩ = some (.int .i64 (D i / t.cost)) := x1
                    have q2 : (W4.drewN nq).cell? ⟨W3.heap.size, 2, none⟩ = some (.int .i64 k) := x2
                    have q3 : (W4.drewN nq).cell? ⟨W3.heap.size, 3, none⟩ = some (.int .i64 ((k : Int) + 1)) := x3
                    have HD5 := hide (HD4.out.grow (gr_drewN (World.grownBy.refl W4 none) nq))
                    clear x0 x1 x2 x3 l0 l1 l3 lz
                    generalize W4.drewN nq = W5 at *
                    obtain ⟨pa', pc', w2, r1, r2⟩ := HD5.out.more ⟨i, D i / t.cost, k, k + 1⟩ (by simp; omega)
                    rw [List.length_append] at r1
                    have HR1 : Hid ((Builtin.append_ #[31, 31] 31 #[.slice (some ⟨g, 0, none⟩) (o.length + 1) cap', .slice (some ⟨W5.heap.size, 0, none⟩) 1 1]).run Try.prog (W5.alloc (.cells #[.int .i64 i, .int .i64 (D i / t.cost), .int .i64 k, .int .i64 ((k : Int) + 1)] 36)) = .ok (.slice pa' (o.length + 1 + 1) pc') w2) := r1
                    have HR2 := hide r2
                    have d6 : w2.cell? ⟨db, i, none⟩ = some (.int .i64 (D i)) := (at_cell r2.d i).trans (dcells_get hlt2)
                    have d7 : w2.frozen? ⟨db, i, none⟩ = false := at_frozen r2.d i
                    have hwi : IntKind.i64.wrap (D i + 1) = D i + 1 := i64_id (by omega) (by omega)
                    clear r1 r2
                    go_wp2_with (first | (at_builtin; refine wpList_append_run rfl _ _ 31 rfl _ _ _ w2 rfl rfl HR1.out ?_))
                    go_roundw
                    case rel => exact ⟨k + 1, pa', pc', by omega, by go_num, by rw [HX.out, HPU.out]; simp, by rw [HX.out, HPU.out]; exact HR2.out.tick i (D i + 1)⟩
                    case measure => simp [intOf]; omega
                · have b1 : (y.to == (k : Int)) = false := by simp [c1]
                  have HPU := hide (hpo (fun h => absurd h (by simp [c1])))
                  clear hpo hps hset
                  go_wp2_with fail
                  go_quiet (fail)
                  have q0 : (W4.drewN nq).cell? ⟨W3.heap.size, 0, none⟩ = some (.int .i64 i) := x0
                  have q1 : (W4.drewN nq).cell? ⟨W3.heap.size, 1, none⟩ = some (.int .i64 (D i / t.cost)) := x1
                  have q2 : (W4.drewN nq).cell? ⟨W3.heap.size, 2, none⟩ = some (.int .i64 k) := x2
                  have q3 : (W4.drewN nq).cell? ⟨W3.heap.size, 3, none⟩ = some (.int .i64 ((k : Int) + 1)) := x3
                  have HD5 := hide (HD4.out.grow (gr_drewN (World.grownBy.refl W4 none) nq))
                  clear x0 x1 x2 x3 l0 l1 l3 lz
                  generalize W4.drewN nq = W5 at *
                  obtain ⟨pa', pc', w2, r1, r2⟩ := HD5.out.more ⟨i, D i / t.cost, k, k + 1⟩ (by simp; omega)
                  rw [List.length_append] at r1
                  have HR1 : Hid ((Builtin.append_ #[31, 31] 31 #[.slice (some ⟨g, 0, none⟩) (o.length + 1) cap', .slice (some ⟨W5.heap.size, 0, none⟩) 1 1]).run Try.prog (W5.alloc (.cells #[.int .i64 i, .int .i64 (D i / t.cost), .int .i64 k, .int .i64 ((k : Int) + 1)] 36)) = .ok (.slice pa' (o.length + 1 + 1) pc') w2) := r1
                  have HR2 := hide r2
                  have d6 : w2.cell? ⟨db, i, none⟩ = some (.int .i64 (D i)) := (at_cell r2.d i).trans (dcells_get hlt2)
                  have d7 : w2.frozen? ⟨db, i, none⟩ = false := at_frozen r2.d i
                  have hwi : IntKind.i64.wrap (D i + 1) = D i + 1 := i64_id (by omega) (by omega)
                  clear r1 r2
                  go_wp2_with (first | (at_builtin; refine wpList_append_run rfl _ _ 31 rfl _ _ _ w2 rfl rfl HR1.out ?_))
                  go_roundw
                  case rel => exact ⟨k + 1, pa', pc', by omega, by go_num, by rw [HX.out, HPU.out]; simp, by rw [HX.out, HPU.out]; exact HR2.out.tick i (D i + 1)⟩
                  case measure => simp [intOf]; omega
            · have HN' := hide (HN.out (by rw [hpe]; simpa using hp))
              clear HN hpe
              go_wp2_with fail
              go_quiet (fail)
              go_wp2_with fail
              go_quiet (fail)
              go_wp2_with fail
              go_roundw
              case rel => exact ⟨i + 1, by omega, rfl, by go_num, HN'.out, gr_drewN hg _⟩
              case measure => simp [intOf]; omega
          · have hr : rls t k = 0 := by unfold rls; rw [if_neg hoff]
            have HN' := hide (HN.out (by rw [hpe, hr]; simp; omega))
            clear HN hpe hr
            go_wp2_with fail
            go_quiet (fail)
            go_wp2_with fail
            go_roundw
            case rel => exact ⟨i + 1, by omega, rfl, by go_num, HN'.out, gr_drewN hg _⟩
            case measure => simp [intOf]; omega
        · have HN := hide (show doc l (k + 1) = (D, out) by
            rw [HS.out]
            unfold stepD
            rw [pick_none.2 (fun j hj => HP.out j (by omega))])
          go_wp2_with fail
          go_roundw
          case rel => exact ⟨k + 1, a', cap', by omega, by go_num, by rw [HN.out], by rw [HN.out]; exact HD2.out⟩
          case measure => simp [intOf]; omega
    · have fk := kept HD.out.grown HF.out
      have f0 : W.cell? ⟨w.heap.size, 0, none⟩ = some (.int .i64 0) := at_cell fk 0
      have f1 : W.cell? ⟨w.heap.size, 1, none⟩ = some (.int .i64 0) := at_cell fk 1
      have f2 : W.cell? ⟨w.heap.size, 2, none⟩ = some (.int .i64 0) := at_cell fk 2
      have ff : ∀ i, W.frozen? ⟨w.heap.size, i, none⟩ = false := fun i => at_frozen fk i
      have hfl := at_lt fk
      clear fk
      go_wp2_with fail
      refine bodyPost_ret (v := .tuple #[.slice a' out.length cap', .agg #[.int .i64 0, .int .i64 0, .int .i64 0]]) (by simp [results, Try.results13, go_sem, f0, f1, f2, hfl]) rfl ?_
      have hku : u.toNat = k := by omega
      rw [hku, HPR.out]
      refine ⟨a', cap', rfl, own_low (own_but HD.out.out (gr_set (gr_set (gr_set (World.grownBy.refl _ _) _ _) _ _) _ _) (by have := HDB.out; omega)) (by have := HDB.out; omega), gr_own (gr_own (gr_own (grown_join HGW.out HD.out.grown (.inl rfl)) (Nat.le_refl _) _ _) (Nat.le_refl _) _ _) (Nat.le_refl _) _ _⟩
end Go.Proofs.Ytholmeebkgpjjaa
