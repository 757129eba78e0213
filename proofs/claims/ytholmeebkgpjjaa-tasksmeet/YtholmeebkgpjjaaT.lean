/- Play. -/
import Derived.Test.YtholmeebkgpjjaaR
import Derived.RangeFuncNested
import Derived.RangeFuncBound
import Derived.RangeFuncCalls
import Derived.RangeFuncLeaves
import Derived.OwnWalkIn
import Derived.TacticsInMore
import Derived.LoopNIn
import Derived.LoopIn
namespace Go.Proofs.Ytholmeebkgpjjaa
open Go.RowKit Go.Shelf
attribute [local go_sem ↓] Go.wp_at_zero Go.wp_at_succ
attribute [local go_sem] Oper.semAt_some
set_option linter.unusedVariables false
set_option linter.unusedSimpArgs false

theorem jobs_any (a : Option Addr) (n cap : Nat) (w : World) : Calls Try.prog 28 #[.slice a n cap] w fun e w' => e = .returned (.func (.func 37) #[] #[.pointer (some ⟨w.heap.size, 0, none⟩)]) ∧ w' = w.alloc (.cells #[.slice a n cap] 22) := by
  go_enter Try.func28, Try.ntmps28
  go_wp2
  go_ret
  exact ⟨rfl, rfl⟩
def qm0 : Qm := ⟨none, 0, 0, 0, #[]⟩
theorem info65 : (Try.prog.info? 65).map (fun i => (i.zero, i.size, i.bytes)) = some (some (.slice none 0 0), 1, 24) := by kernel_rfl
theorem made_nils (n : Nat) : madeCells (Value.slice none 0 0).cells n = (qcells n (fun _ => []) (fun _ => qm0)).toArray := by
  have e : (Value.slice none 0 0).cells = #[Value.slice none 0 0] := rfl
  rw [e]
  unfold madeCells qcells
  apply Array.ext
  · simp
  · intro i h1 h2
    simp [Nat.mod_one, Qm.val, qm0]
theorem make_nils (n : Nat) (hn : n ≤ 1000000000000) (w : World) : (Instr.makeSlice 56 (.int .i64 (n : Int)) (.int .i64 (n : Int))).run Try.prog w = .ok (.slice (some ⟨w.heap.size, 0, none⟩) n n) (w.alloc (.cells (qcells n (fun _ => []) (fun _ => qm0)).toArray 65)) := by
  obtain ⟨i0, hi, hz0, hz1, hz2⟩ := info_parts info65
  have h := run_make (P := Try.prog) w 56 65 i0 (.slice none 0 0) Try.underlying56 hi hz0 .i64 .i64 (n : Int) (n : Int) (by omega) (by omega) (by rw [hz2]; simp; omega) (by omega)
  rw [hz1, made_nils] at h
  simpa using h
theorem que_jb {l : List Tk} (ho : Oks l) {nx : Nat → Int} {s : Ps} (h : Rel l nx s) : JbOk l.length s.q := fun i hi j hj => by
  have hok := (ok_iff _).1 (ho.at i hi)
  obtain ⟨h0, h1, h2, h3⟩ := h.que i hi
  obtain ⟨k, hk, rfl⟩ := List.getElem_of_mem hj
  obtain ⟨_, h4⟩ := h3 k _ (List.getElem?_eq_getElem hk)
  have hc : 1 ≤ (tk l i).cost := hok.2.2.2.2.1
  have hc2 : (tk l i).cost ≤ (tk l i).per := hok.2.2.2.2.2.1
  have hp : (tk l i).per ≤ 1000000 := hok.2.1
  have m1 := Int.emod_nonneg ((doc l s.now.toNat).1 i) (b := (tk l i).cost) (by omega)
  have m2 := Int.emod_lt_of_pos ((doc l s.now.toNat).1 i) (b := (tk l i).cost) (by omega)
  rw [h4]
  split <;> omega
theorem que_len {l : List Tk} (ho : Oks l) {nx : Nat → Int} {s : Ps} (h : Rel l nx s) {i : Nat} (hi : i < l.length) : ((s.q i).length : Int) ≤ nx i := by
  have hok := (ok_iff _).1 (ho.at i hi)
  obtain ⟨h0, h1, h2, h3⟩ := h.que i hi
  have hc : 1 ≤ (tk l i).cost := hok.2.2.2.2.1
  have := Int.ediv_nonneg h0 (show 0 ≤ (tk l i).cost by omega)
  omega
theorem rel_out {l : List Tk} {nx : Nat → Int} {s : Ps} (h : Rel l nx s) : (s.out.length : Int) ≤ s.now := by
  have := doc_len l s.now.toNat
  rw [h.out]
  have := h.now0
  omega
def recOf (fn : FuncId) (tmps : Array Value) (ps : Array Tmp) (assign body : Code) (D : Nat) (st : LoopState) (pe : Option Code) : Loop := { state := st, pending := pe, fn, tmps, params := ps, assign, body, defers := D }
/-- A range over a function that ends by a jump of the body. -/
theorem loop_law {g : Operand} {ps : Array Tmp} {assign body : Code} {Q : Exit → Act → World → Prop} {a : Act} {w : World} {gf : Nat} {lb : Array Value} {c : Code} (hg : a.eval g = .func (.func gf) #[] lb) (eg : ∀ args w, (callFunc gf args).run Try.prog w = .ok (.enter gf args) w)
    (h : ∀ fn, CallsIn Fence.wide 1 Try.prog gf (#[.func (.yield (w.heap.size + 1)) #[] #[]] ++ lb) ((w.alloc (.deferred (some []))).alloc (.loop (recOf fn a.tmps ps assign body w.heap.size .ready none))) fun e W' => (∃ v, e = .returned v) ∧
      W'.heap[w.heap.size + 1]? = some (.loop (recOf fn a.tmps ps assign body w.heap.size .done (some c))) ∧
      c.wpIn Fence.wide 2 Try.prog Q { a with defers := { target := .collected w.heap.size, args := #[] } :: a.defers } (W'.putObj (w.heap.size + 1) (.loop (recOf fn a.tmps ps assign body w.heap.size .exhausted (some c))))) :
    (Code.rangeFunc g ps assign body).wpIn Fence.wide 2 Try.prog Q a w := by
  refine wpIn_rangeFunc ?_
  intro fn _
  obtain ⟨W1, hW1⟩ : ∃ W1, (w.alloc (.deferred (some []))).alloc (.loop (recOf fn a.tmps ps assign body w.heap.size .ready none)) = W1 := ⟨_, rfl⟩
  refine ⟨w.heap.size + 1, [{ target := .collected w.heap.size, args := #[] }], W1, { target := .fn (.func gf) lb, args := #[.func (.yield (w.heap.size + 1)) #[] #[]] }, W1, gf, #[.func (.yield (w.heap.size + 1)) #[] #[]] ++ lb, W1, ?_, ?_, fun _ _ => trivial, ?_, fun _ => by omega, ?_⟩
  · rw [← hW1]; exact run_enterLoop_outer fn a.tmps ps assign body
  · simp only [resolve, hg]
    simp [go_sem]
  · simp [invoke, go_sem, eg]
  · have := h fn
    rw [hW1] at this
    refine this.mono ?_
    rintro e W2 ⟨⟨v, rfl⟩, hl, hc⟩
    exact ⟨some c, _, run_endLoop hl (by simp [recOf]), hc⟩
/-- A round. -/
theorem round_law {R : Ending → World → Prop} {l m : Nat} {fn : FuncId} {tmps args : Array Value} {ps : Array Tmp} {assign body : Code} {D : Nat} {w : World} (hl : w.heap[l]? = some (.loop (recOf fn tmps ps assign body D .ready none))) (hs : args.size = ps.size)
    (h : assign.wpIn (Fence.wide.inRound l) m Try.prog (Exit.then (fun a1 w1 => w1.heap[l]? = some (.loop (recOf fn tmps ps assign body D .ready none)) ∧
      body.wpIn (Fence.wide.inRound l) m Try.prog (fun e a3 W3 => match e with
        | .normal => W3.heap[l]? = some (.loop (recOf fn tmps ps assign body D .busy none)) ∧ R (.returned (.bool true)) (W3.putObj l (.loop (recOf fn tmps ps assign body D .ready none)))
        | .exit id => W3.heap[l]? = some (.loop (recOf fn tmps ps assign body D .busy none)) ∧ R (.returned (.bool false)) (W3.putObj l (.loop (recOf fn tmps ps assign body D .done (some (.exit id)))))
        | _ => False) a1 (w1.putObj l (.loop (recOf fn tmps ps assign body D .busy none)))) (fun _ _ _ => False)) { tmps := (ps.zip args).foldl (fun t (p, v) => t.setIfInBounds p v) tmps, defers := [] } w) :
    YieldAt Fence.wide m Try.prog l args w R := by
  refine ⟨fn, _, assign, body, run_yield hl hs, roundIn_of_wpIn trivial (wpIn_mono h ?_)⟩
  rintro e a1 w1 h1
  cases e with
  | normal =>
    obtain ⟨h2, h3⟩ := h1
    refine ⟨_, run_beginRound h2 rfl, wpIn_mono h3 ?_⟩
    rintro e a3 W3 h4
    cases e with
    | normal => exact ⟨_, _, run_endRound none h4.1, h4.2⟩
    | exit id => exact ⟨_, _, run_endRound (some (.exit id)) h4.1, h4.2⟩
    | _ => exact h4.elim
  | _ => exact h1.elim
theorem round_law2 {R : Ending → World → Prop} {l m : Nat} {fn : FuncId} {tmps args : Array Value} {ps : Array Tmp} {assign body : Code} {D : Nat} {w : World} {or ob : Obj} {od : Nat → Obj} (hl : w.heap[l]? = some or) (hor : or = .loop (recOf fn tmps ps assign body D .ready none)) (hob : ob = .loop (recOf fn tmps ps assign body D .busy none)) (hod : ∀ id, od id = .loop (recOf fn tmps ps assign body D .done (some (.exit id)))) (hs : args.size = ps.size)
    (h : assign.wpIn (Fence.wide.inRound l) m Try.prog (Exit.then (fun a1 w1 => w1.heap[l]? = some or ∧
      body.wpIn (Fence.wide.inRound l) m Try.prog (fun e a3 W3 => match e with
        | .normal => W3.heap[l]? = some ob ∧ R (.returned (.bool true)) (W3.putObj l or)
        | .exit id => W3.heap[l]? = some ob ∧ R (.returned (.bool false)) (W3.putObj l (od id))
        | _ => False) a1 (w1.putObj l ob)) (fun _ _ _ => False)) { tmps := (ps.zip args).foldl (fun t (p, v) => t.setIfInBounds p v) tmps, defers := [] } w) :
    YieldAt Fence.wide m Try.prog l args w R := by
  subst hor hob
  refine round_law (hl) hs (wpIn_mono h ?_)
  rintro e a1 w1 h1
  cases e with
  | normal =>
    refine ⟨h1.1, wpIn_mono h1.2 ?_⟩
    rintro e a3 W3 h4
    cases e with
    | normal => exact h4
    | exit id =>
      have h5 : _ ∧ R (.returned (.bool false)) (W3.putObj l (od id)) := h4
      rw [hod] at h5
      exact h5
    | _ => exact h4.elim
  | _ => exact h1.elim
def PlayP (w w' : World) (e : Ending) (r : List Sl × Int × Int) : Prop :=
  ∃ a cap, e = .returned (.tuple #[.slice a r.1.length cap, .agg #[.int .i64 r.2.1, .int .i64 r.2.2, .int .i64 0]]) ∧ w'.ownsRow w.heap.size 36 4 (.slice a r.1.length cap) r.1.length (r.1.flatMap rowL) ∧ w.grownBy w' none
set_option maxHeartbeats 4000000 in
theorem play_runs (l : List Tk) (v : Value) (u : Int) (w : World) (hm : l.length ≤ maxLen) (hv : TsAt w v l) (hk : (lookS l).1 = 0) (hu0 : 0 ≤ u) (hu1 : u ≤ 20000) :
    Calls Try.prog 14 #[v, .int .i64 u] w fun e w' => PlayP w w' e ((doc l u.toNat).2, 0, 0) := by
  obtain ⟨a, cap, rfl, hcap, _⟩ := id hv
  have cL : ∀ W, w.grownBy W none → Calls Try.prog 24 #[.slice a l.length cap] W fun e w' => e = .returned (flV (lookS l)) ∧ W.grownBy w' none := fun W hW => lookAt_any l _ W hm (hv.grown hW)
  unfold maxLen at hm
  obtain ⟨h16, h1, hok⟩ := look_fine hk
  rw [look_zero h16 h1 hok] at cL
  unfold flV at cL
  dsimp only at cL
  have hin : inB u 0 20000 = true := by unfold inB; simp; omega
  have hmk := make_nils l.length (by omega)
  refine (callsIn_wide (n := 0)).1 (callsIn_of_wp_marks Try.func14 rfl trivial ?_ rfl)
  simp only [Try.ntmps14, List.size_toArray, List.length_cons, List.length_nil, Nat.reduceAdd, Nat.reduceSub, Array.replicate_succ, Array.replicate_zero, List.push_toArray, List.append_toArray, List.nil_append, List.cons_append]
  refine wpIn_wide.2 ?_
  go_wp2_with (first | (go_at_call 24; refine (cL _ (gr_alloc (gr_alloc (World.grownBy.refl _ _) _) _)).mono ?_; rintro e w1 ⟨rfl, hg1⟩; have hub : w1.heap[w.heap.size]? = some (.cells #[.int .i64 u] 3) := (kept hg1 ((hp_old (by simp) _).trans (heap_alloc_new w _))); have hfb : w1.heap[w.heap.size + 1]? = some (.cells #[.int .i64 0, .int .i64 0, .int .i64 0] 26) := (kept hg1 (hp_new (by simp) _)); have hul := at_lt hub; have hfl := at_lt hfb; have uc : w1.cell? ⟨w.heap.size, 0, none⟩ = some (.int .i64 u) := (at_cell hub 0)) | (go_at_call 27; refine (within_any _ _ _ _).mono ?_; rintro e w' ⟨rfl, rfl⟩) | (go_at_call 28; refine (jobs_any _ _ _ _).mono ?_; rintro e w' ⟨rfl, rfl⟩))
  have HV : Hid (TsAt w (.slice a l.length cap) l) := hv
  have hsz := hg1.size
  simp at hsz
  -- what there is when the loop begins
  have hgw0 : w.grownBy (w1.alloc (.cells #[.int .i64 0, .int .i64 0, .int .i64 0] 26)) none := gr_alloc (grown_join (gr_alloc (gr_alloc (World.grownBy.refl _ _) _) _) hg1 (.inl rfl)) _
  have hP0 : ProcAt (w1.alloc (.cells #[.int .i64 0, .int .i64 0, .int .i64 0] 26)) (fun k o => (k = w1.heap.size + 1 + 1 + 1 ∧ o = .cells #[.pointer (some ⟨w1.heap.size + 1 + 1, 0, none⟩)] 55) ∨ (k = w1.heap.size + 1 + 1 + 1 + 1 ∧ o = .cells #[.slice a l.length cap] 22)) (w1.heap.size + 1) (w1.heap.size + 1 + 1) (w1.heap.size + 1) l.length ⟨0, fun _ => [], []⟩ (fun _ => qm0) none 0
      (((((w1.alloc (.cells #[.int .i64 0, .int .i64 0, .int .i64 0] 26)).alloc (.cells (qcells l.length (fun _ => []) (fun _ => qm0)).toArray 65)).alloc (.cells #[.int .i64 0, .slice (some ⟨w1.heap.size + 1, 0, none⟩) l.length l.length, .slice none 0 0] 58)).alloc (.cells #[.pointer (some ⟨w1.heap.size + 1 + 1, 0, none⟩)] 55)).alloc (.cells #[.slice a l.length cap] 22)) := by
    refine ⟨?_, ?_, fun i hi => .inl ⟨rfl, rfl⟩, fun i j _ _ _ y hy => by simp [Qm.blk, qm0] at hy, fun i _ y hy => by simp [Qm.blk, qm0] at hy, World.ownsRow_nil _ _ _ _, fun y hy => by simp [Value.ownBlock] at hy, ⟨by omega, by omega, by omega⟩, by simp, gr_alloc (gr_alloc (gr_alloc (gr_alloc (World.grownBy.refl _ _) _) _) _) _, fun k o hf => ?_, fun k o hf => ?_⟩
    · exact (hp_old (by simp) _).trans ((hp_old (by simp) _).trans (hp_new (by simp) _))
    · exact (hp_old (by simp) _).trans ((hp_old (by simp) _).trans ((hp_old (by simp) _).trans (hp_new (by simp) _)))
    · rcases hf with ⟨rfl, rfl⟩ | ⟨rfl, rfl⟩
      · exact (hp_old (by simp) _).trans (hp_new (by simp) _)
      · exact hp_new (by simp) _
    · rcases hf with ⟨rfl, rfl⟩ | ⟨rfl, rfl⟩
      · exact ⟨by omega, by omega, fun i _ => by simp [Qm.blk, qm0], by simp [Value.ownBlock]⟩
      · exact ⟨by omega, by omega, fun i _ => by simp [Qm.blk, qm0], by simp [Value.ownBlock]⟩
  obtain ⟨w0, hw0⟩ : ∃ w0, w0 = w1.alloc (.cells #[.int .i64 0, .int .i64 0, .int .i64 0] 26) := ⟨_, rfl⟩
  rw [← hw0] at hP0 hgw0 ⊢
  obtain ⟨WR, hWR⟩ : ∃ WR, WR = (((w0.alloc (.cells (qcells l.length (fun _ => []) (fun _ => qm0)).toArray 65)).alloc (.cells #[.int .i64 0, .slice (some ⟨w1.heap.size + 1, 0, none⟩) l.length l.length, .slice none 0 0] 58)).alloc (.cells #[.pointer (some ⟨w1.heap.size + 1 + 1, 0, none⟩)] 55)).alloc (.cells #[.slice a l.length cap] 22) := ⟨_, rfl⟩
  rw [← hWR] at hP0 ⊢
  have hw0s : w0.heap.size = w1.heap.size + 1 := by rw [hw0]; simp
  have hWRs : WR.heap.size = w1.heap.size + 1 + 1 + 1 + 1 + 1 := by rw [hWR]; simp [hw0s]
  refine (wpIn_wide (n := 2)).1 (loop_law (gf := 37) (c := .exit 0) rfl (enters_of Try.func37 (by kernel_rfl) rfl) fun fn => ?_)
  generalize hrec : recOf fn _ _ _ _ _ = rec
  rw [← hrec]
  obtain ⟨or, hor⟩ : ∃ or, or = Obj.loop (rec .ready none) := ⟨_, rfl⟩
  obtain ⟨ob, hob⟩ : ∃ ob, ob = Obj.loop (rec .busy none) := ⟨_, rfl⟩
  obtain ⟨od, hod⟩ : ∃ od : Nat → Obj, ∀ id, od id = Obj.loop (rec .done (some (.exit id))) := ⟨fun id => Obj.loop (rec .done (some (.exit id))), fun _ => rfl⟩
  have HW0 : Hid (w0 = w1.alloc (.cells #[.int .i64 0, .int .i64 0, .int .i64 0] 26)) := hw0
  have HWR : Hid (WR = (((w0.alloc (.cells (qcells l.length (fun _ => []) (fun _ => qm0)).toArray 65)).alloc (.cells #[.int .i64 0, .slice (some ⟨w1.heap.size + 1, 0, none⟩) l.length l.length, .slice none 0 0] 58)).alloc (.cells #[.pointer (some ⟨w1.heap.size + 1 + 1, 0, none⟩)] 55)).alloc (.cells #[.slice a l.length cap] 22)) := hWR
  have hu0W : w0.heap[w.heap.size]? = some (.cells #[.int .i64 u] 3) := by rw [hw0]; exact (hp_old hul _).trans hub
  have hf0W : w0.heap[w.heap.size + 1]? = some (.cells #[.int .i64 0, .int .i64 0, .int .i64 0] 26) := by rw [hw0]; exact (hp_old hfl _).trans hfb
  clear hw0 hWR
  obtain ⟨D, hD⟩ : ∃ D, D = WR.heap.size := ⟨_, rfl⟩
  rw [← hD] at hWRs
  refine (jobs_in w0 (fun k o => (k = w1.heap.size + 1 + 1 + 1 ∧ o = .cells #[.pointer (some ⟨w1.heap.size + 1 + 1, 0, none⟩)] 55) ∨ (k = w1.heap.size + 1 + 1 + 1 + 1 ∧ o = .cells #[.slice a l.length cap] 22) ∨ (k = D ∧ o = .deferred (some [])) ∨ (k = WR.heap.size + 1 ∧ o = or)) (w1.heap.size + 1) (w1.heap.size + 1 + 1) (w1.heap.size + 1) l u a cap (WR.heap.size + 1) (w1.heap.size + 1 + 1 + 1 + 1) 0
    (fun W' => ∃ nx s, JI w0 (fun k o => (k = w1.heap.size + 1 + 1 + 1 ∧ o = .cells #[.pointer (some ⟨w1.heap.size + 1 + 1, 0, none⟩)] 55) ∨ (k = D ∧ o = .deferred (some [])) ∨ (k = WR.heap.size + 1 ∧ o = od 0)) (w1.heap.size + 1) (w1.heap.size + 1 + 1) (w1.heap.size + 1) l u nx s W' ∧ u ≤ relOf l nx (jobAt l nx))
    ⟨0, fun _ => [], []⟩ _ h16 h1 hok hu1 (hv.grown hgw0) (.inr (.inl ⟨rfl, rfl⟩)) ?_ ?_).mono ?_
  · have hD1 : (WR.alloc (.deferred (some []))).heap[D]? = some (.deferred (some [])) := hp_new (by rw [hD]) _
    have hA := hP0.add (gr_alloc (World.grownBy.refl WR none) (.deferred (some []))) (k := D) (by omega) hD1
    have hB := hA.add (gr_alloc (World.grownBy.refl (WR.alloc (.deferred (some []))) none) or) (k := WR.heap.size + 1) (by simp) (hp_new (by simp) _)
    rw [hrec, ← hor]
    refine ⟨⟨_, _, _, hB.refr fun k o hf => ?_⟩, Inv.start hok, fun i hi j hj => by simp at hj, hu0⟩
    have : ((fun k o => (k = w1.heap.size + 1 + 1 + 1 ∧ o = .cells #[.pointer (some ⟨w1.heap.size + 1 + 1, 0, none⟩)] 55) ∨ (k = w1.heap.size + 1 + 1 + 1 + 1 ∧ o = .cells #[.slice a l.length cap] 22)) k o ∨ (k = D ∧ o = .deferred (some []))) ∨ (k = WR.heap.size + 1 ∧ o = or) := by
      rcases hf with h | h | h | h
      · exact .inl (.inl (.inl h))
      · exact .inl (.inl (.inr h))
      · exact .inl (.inr h)
      · exact .inr h
    exact ⟨hB.keep k o this, o, this⟩
  · intro Fr nx s W1 hFr hJI
    have HFR : Hid (∀ k o, ((k = w1.heap.size + 1 + 1 + 1 ∧ o = .cells #[.pointer (some ⟨w1.heap.size + 1 + 1, 0, none⟩)] 55) ∨ (k = w1.heap.size + 1 + 1 + 1 + 1 ∧ o = .cells #[.slice a l.length cap] 22) ∨ (k = D ∧ o = .deferred (some [])) ∨ (k = WR.heap.size + 1 ∧ o = or)) → Fr k o) := hFr
    have HJ : Hid (JI w0 Fr (w1.heap.size + 1) (w1.heap.size + 1 + 1) (w1.heap.size + 1) l u nx s W1) := hJI
    clear hFr hJI hP0 hgw0
    obtain ⟨lr, hlr⟩ : ∃ lr, lr = WR.heap.size + 1 := ⟨_, rfl⟩
    rw [← hlr] at HFR ⊢
    have hlW : W1.heap[lr]? = some or := HJ.out.keep (HFR.out _ _ (.inr (.inr (.inr ⟨rfl, rfl⟩))))
    generalize hR : (fun e W' => _ ∨ _ : Ending → World → Prop) = R
    have HR := hide hR
    clear hR
    refine round_law2 (ob := ob) (od := od) hlW (by rw [hor, ← hrec]) (by rw [hob, ← hrec]) (fun id => by rw [hod, ← hrec]) rfl ?_
    have HREC := hide hrec
    have HOD := hide hod
    have HLR := hide hlr
    have HWRs := hide hWRs
    have HD := hide hD
    have HW0S := hide hw0s
    have HU := hide hu0W
    clear hrec hor hob hod hlr hWRs hD hw0s hu0W hf0W
    have hm := jobAt_lt nx h1
    gi_wp2_with fail
    have hllt : lr < W1.heap.size := (Array.getElem?_eq_some_iff.1 hlW).1
    refine ⟨(hp_old hllt _).trans hlW, ?_⟩
    obtain ⟨qm, pa, pc, hP⟩ := HJ.out.proc
    have hPa := hP.add (gr_alloc (World.grownBy.refl W1 none) (.cells #[.int .i64 (jobAt l nx), .int .i64 (nx (jobAt l nx)), .int .i64 (relOf l nx (jobAt l nx)), .int .i64 (tk l (jobAt l nx)).cost] 63)) (Nat.le_refl _) (heap_alloc_new W1 _)
    obtain ⟨FrB, hFrB⟩ : ∃ FrB : Nat → Obj → Prop, FrB = fun k o => (k ≠ lr ∧ (Fr k o ∨ (k = W1.heap.size ∧ o = .cells #[.int .i64 (jobAt l nx), .int .i64 (nx (jobAt l nx)), .int .i64 (relOf l nx (jobAt l nx)), .int .i64 (tk l (jobAt l nx)).cost] 63))) ∨ (k = lr ∧ o = ob) := ⟨_, rfl⟩
    have hPb : ProcAt w0 FrB (w1.heap.size + 1) (w1.heap.size + 1 + 1) (w1.heap.size + 1) l.length s qm pa pc ((W1.alloc (.cells #[.int .i64 (jobAt l nx), .int .i64 (nx (jobAt l nx)), .int .i64 (relOf l nx (jobAt l nx)), .int .i64 (tk l (jobAt l nx)).cost] 63)).putObj lr ob) := by
      refine hPa.foreign (k := lr) (o := or) (.inl (HFR.out _ _ (.inr (.inr (.inr ⟨rfl, rfl⟩))))) (by have := HLR.out; have := HD.out; have := HWRs.out; have := HW0S.out; omega) (grownBy_putObj' _ _ _) fun k' o' hf => ?_
      rw [hFrB] at hf
      rcases hf with h | ⟨rfl, rfl⟩
      · exact .inl h
      · exact .inr ⟨rfl, World.putObj_heap_same (by simp; omega)⟩
    generalize ((W1.alloc (.cells #[.int .i64 (jobAt l nx), .int .i64 (nx (jobAt l nx)), .int .i64 (relOf l nx (jobAt l nx)), .int .i64 (tk l (jobAt l nx)).cost] 63)).putObj lr ob) = W2 at hPb ⊢
    have uc2 : W2.cell? ⟨w.heap.size, 0, none⟩ = some (.int .i64 u) := at_cell (kept hPb.grown HU.out) 0
    have xF : FrB (w1.heap.size + 1 + 1 + 1) (.cells #[.pointer (some ⟨w1.heap.size + 1 + 1, 0, none⟩)] 55) := by
      rw [hFrB]; exact .inl ⟨by have := HLR.out; have := HD.out; have := HWRs.out; omega, .inl (HFR.out _ _ (.inl ⟨rfl, rfl⟩))⟩
    have jF : FrB W1.heap.size (.cells #[.int .i64 (jobAt l nx), .int .i64 (nx (jobAt l nx)), .int .i64 (relOf l nx (jobAt l nx)), .int .i64 (tk l (jobAt l nx)).cost] 63) := by
      rw [hFrB]; exact .inl ⟨by omega, .inr ⟨rfl, rfl⟩⟩
    have xc2 : W2.cell? ⟨w1.heap.size + 1 + 1 + 1, 0, none⟩ = some (.pointer (some ⟨w1.heap.size + 1 + 1, 0, none⟩)) := at_cell (hPb.keep _ _ xF) 0
    have jc2 : W2.cell? ⟨W1.heap.size, 2, none⟩ = some (.int .i64 (relOf l nx (jobAt l nx))) := at_cell (hPb.keep _ _ jF) 2
    have HPB := hide hPb
    have HFB := hide hFrB
    have XF := hide xF
    have JF := hide jF
    have hrn : 0 ≤ relOf l nx (jobAt l nx) := by have h1 := HJ.out.inv.next _ hm; have h2 := HJ.out.inv.rel.now0; omega
    obtain ⟨rl, hrl⟩ : ∃ rl, rl = relOf l nx (jobAt l nx) := ⟨_, rfl⟩
    rw [← hrl] at jc2 hrn
    have HRL := hide hrl
    clear hPb hFrB xF jF hP hPa hrl
    by_cases hru : rl < u
    · have cW : Calls Try.prog 29 #[.pointer (some ⟨w1.heap.size + 1 + 1, 0, none⟩), .int .i64 rl] W2 (WorkP w0 FrB (w1.heap.size + 1) (w1.heap.size + 1 + 1) (w1.heap.size + 1) l.length (workTo l.length rl s)) := by
        have hI := HJ.out.inv
        have hn := HJ.out.now
        refine workTo_any w0 FrB _ _ _ _ s qm pa pc rl W2 HPB.out h16 (by have := rel_out hI.rel; omega) hI.rel.now0 (by omega) (que_jb hok hI.rel) fun k hk => ?_
        have h3 := que_len hok hI.rel hk
        have h4 := hI.few hok hk
        omega
      gi_wp2_with fail
      refine ⟨trivial, rfl, (CallsIn.inRound lr (callsIn_wide.2 cW)).mono ?_⟩
      rintro e W3 ⟨rfl, qm3, pa3, pc3, hP3⟩
      have HP3 := hide hP3
      clear hP3 cW
      gi_wp2_with fail
      have hI := HJ.out.inv
      have hR3 := (hI.rel.workTo hok (hI.next _ hm) (hI.win hok (fun i hi => jobAt_le nx hi))).1
      have hone := hI.one hok h1
      obtain rfl := HRL.out
      refine enq_region (j := jobOf l nx (jobAt l nx)) HP3.out hm h16 rfl ?_ XF.out JF.out (by simp) rfl rfl fun a' qm' W4 hP4 => ?_
      · have h3 := que_len hok hR3 hm
        have h4 := hI.few hok hm
        have h5 := HJ.out.now
        omega
      · refine ⟨hP4.keep _ _ (by rw [HFB.out]; exact .inr ⟨rfl, rfl⟩), ?_⟩
        rw [← HR.out]
        refine .inl ⟨rfl, hru, ⟨⟨qm', pa3, pc3, ?_⟩, hone.1, que_jb hok hone.1.rel, by rw [hone.2]; omega⟩⟩
        refine hP4.foreign (k := lr) (o := ob) (by rw [HFB.out]; exact .inr ⟨rfl, rfl⟩) (by have := HLR.out; have := HD.out; have := HWRs.out; have := HW0S.out; omega) (grownBy_putObj' _ _ _) fun k' o' hf => ?_
        by_cases e : k' = lr
        · subst e
          have h6 := HJ.out.keep hf
          rw [hlW] at h6
          injection h6 with h6
          subst h6
          exact .inr ⟨rfl, World.putObj_heap_same (Array.getElem?_eq_some_iff.1 (hP4.keep _ _ (by rw [HFB.out]; exact .inr ⟨rfl, rfl⟩))).1⟩
        · exact .inl ⟨e, by rw [HFB.out]; exact .inl ⟨e, .inl hf⟩⟩
    · gi_wp2_with fail
      refine ⟨HPB.out.keep _ _ (by rw [HFB.out]; exact .inr ⟨rfl, rfl⟩), ?_⟩
      rw [← HR.out]
      refine .inr ⟨rfl, nx, s, ⟨⟨qm, pa, pc, ?_⟩, HJ.out.inv, HJ.out.jbs, HJ.out.now⟩, by rw [← HRL.out]; omega⟩
      refine HPB.out.foreign (k := lr) (o := ob) (by rw [HFB.out]; exact .inr ⟨rfl, rfl⟩) (by have := HLR.out; have := HD.out; have := HWRs.out; have := HW0S.out; omega) (grownBy_putObj' _ _ _) fun k' o' hf => ?_
      rcases hf with ⟨rfl, rfl⟩ | ⟨rfl, rfl⟩ | ⟨rfl, rfl⟩
      · exact .inl ⟨by have := HLR.out; have := HD.out; have := HWRs.out; omega, XF.out⟩
      · exact .inl ⟨by have := HLR.out; have := HD.out; have := HWRs.out; omega, by rw [HFB.out]; exact .inl ⟨by have := HLR.out; have := HD.out; have := HWRs.out; omega, .inl (HFR.out _ _ (.inr (.inr (.inl ⟨rfl, rfl⟩))))⟩⟩
      · exact .inr ⟨rfl, World.putObj_heap_same (Array.getElem?_eq_some_iff.1 (HPB.out.keep _ _ (by rw [HFB.out]; exact .inr ⟨rfl, rfl⟩))).1⟩
  · rintro e W' ⟨⟨v, rfl⟩, nx, s, hJ, hr⟩
    refine ⟨⟨v, rfl⟩, ?_, ?_⟩
    · rw [hrec, ← hod]; exact hJ.keep (.inr (.inr ⟨rfl, rfl⟩))
    · have HREC := hide hrec
      have HLR := hide hD
      have HWRs := hide hWRs
      have HW0S := hide hw0s
      have HU := hide hu0W
      obtain ⟨lr, hlr⟩ : ∃ lr, lr = WR.heap.size + 1 := ⟨_, rfl⟩
      rw [← hlr] at hJ ⊢
      have HL := hide hlr
      obtain ⟨oe, hoe⟩ : ∃ oe, oe = Obj.loop (rec .exhausted (some (.exit 0))) := ⟨_, rfl⟩
      rw [hrec, ← hoe, ← hD]
      obtain ⟨qm, pa, pc, hP⟩ := hJ.proc
      have hPe : ProcAt w0 (fun k o => (k = w1.heap.size + 1 + 1 + 1 ∧ o = .cells #[.pointer (some ⟨w1.heap.size + 1 + 1, 0, none⟩)] 55) ∨ (k = D ∧ o = .deferred (some []))) (w1.heap.size + 1) (w1.heap.size + 1 + 1) (w1.heap.size + 1) l.length s qm pa pc (W'.putObj lr oe) := by
        refine hP.foreign (k := lr) (o := od 0) (.inr (.inr ⟨rfl, rfl⟩)) (by omega) (grownBy_putObj' _ _ _) fun k' o' hf => ?_
        rcases hf with ⟨rfl, rfl⟩ | ⟨rfl, rfl⟩
        · exact .inl ⟨by omega, .inl ⟨rfl, rfl⟩⟩
        · exact .inl ⟨by omega, .inr (.inl ⟨rfl, rfl⟩)⟩
      generalize W'.putObj lr oe = WE at hPe ⊢
      have hI := hJ.inv
      have hn := hJ.now
      have cW : Calls Try.prog 29 #[.pointer (some ⟨w1.heap.size + 1 + 1, 0, none⟩), .int .i64 u] WE (WorkP w0 (fun k o => (k = w1.heap.size + 1 + 1 + 1 ∧ o = .cells #[.pointer (some ⟨w1.heap.size + 1 + 1, 0, none⟩)] 55) ∨ (k = D ∧ o = .deferred (some []))) (w1.heap.size + 1) (w1.heap.size + 1 + 1) (w1.heap.size + 1) l.length (workTo l.length u s)) := by
        refine workTo_any w0 _ _ _ _ _ s qm pa pc u WE hPe h16 (by have := rel_out hI.rel; omega) hI.rel.now0 (by omega) (que_jb hok hI.rel) fun k hk => ?_
        have h3 := que_len hok hI.rel hk
        have h4 := hI.few hok hk
        omega
      have uc2 : WE.cell? ⟨w.heap.size, 0, none⟩ = some (.int .i64 u) := at_cell (kept hPe.grown hu0W) 0
      have xc2 : WE.cell? ⟨w1.heap.size + 1 + 1 + 1, 0, none⟩ = some (.pointer (some ⟨w1.heap.size + 1 + 1, 0, none⟩)) := at_cell (hPe.keep _ _ (.inl ⟨rfl, rfl⟩)) 0
      have hlast := hI.last hok h1 hn hr
      have HLAST := hide hlast
      have HGW := hide hgw0
      clear hrec hD hWRs hw0s hu0W hlr hoe hor hob hod hP hJ hPe hI hlast hP0 hgw0
      refine wpIn_wide.2 ?_
      go_wp2_with fail
      refine cW.mono ?_
      rintro e W5 ⟨rfl, qm5, pa5, pc5, hP5⟩
      have HP5 := hide hP5
      have xc5 : W5.cell? ⟨w1.heap.size + 1 + 1 + 1, 0, none⟩ = some (.pointer (some ⟨w1.heap.size + 1 + 1, 0, none⟩)) := at_cell (hP5.keep _ _ (.inl ⟨rfl, rfl⟩)) 0
      have pc5' : W5.cell? ⟨w1.heap.size + 1 + 1, 2, none⟩ = some (.slice pa5 (workTo l.length u s).out.length pc5) := at_cell hP5.p 2
      have dk : W5.heap[D]? = some (.deferred (some [])) := hP5.keep _ _ (.inr ⟨rfl, rfl⟩)
      have DK := hide dk
      have fk := kept hP5.grown hf0W
      have FK := hide fk
      have f0 : W5.cell? ⟨w.heap.size + 1, 0, none⟩ = some (.int .i64 0) := at_cell fk 0
      have f1 : W5.cell? ⟨w.heap.size + 1, 1, none⟩ = some (.int .i64 0) := at_cell fk 1
      have f2 : W5.cell? ⟨w.heap.size + 1, 2, none⟩ = some (.int .i64 0) := at_cell fk 2
      have ff : ∀ i, W5.frozen? ⟨w.heap.size + 1, i, none⟩ = false := fun i => at_frozen fk i
      clear hP5 cW dk fk hf0W
      go_wp2_with fail
      obtain ⟨WG, hWG⟩ : ∃ WG, WG = ((W5.setCell ⟨w.heap.size + 1, 0, none⟩ (.int .i64 0)).setCell ⟨w.heap.size + 1, 1, none⟩ (.int .i64 0)).setCell ⟨w.heap.size + 1, 2, none⟩ (.int .i64 0) := ⟨_, rfl⟩
      rw [← hWG]
      have gF : W5.grownBy WG (some (w.heap.size + 1)) := by rw [hWG]; exact gr_set (gr_set (gr_set (World.grownBy.refl _ _) _ _) _ _) _ _
      have kF : WG.heap[w.heap.size + 1]? = some (.cells #[.int .i64 0, .int .i64 0, .int .i64 0] 26) := by
        rw [hWG]; exact at_set (at_set (at_set FK.out 0 _) 1 _) 2 _
      have hsep := HP5.out.sep D _ (.inr ⟨rfl, rfl⟩)
      have eD := HLR.out
      have eR := HWRs.out
      have e0 := HW0S.out
      have hDF : D ≠ w.heap.size + 1 := by omega
      have dG : WG.heap[D]? = some (.deferred (some [])) := keptBut gF DK.out hDF
      have gD : WG.grownBy (WG.putObj D (.deferred none)) (some D) := grownBy_putObj' _ _ _
      have kF2 : (WG.putObj D (.deferred none)).heap[w.heap.size + 1]? = some (.cells #[.int .i64 0, .int .i64 0, .int .i64 0] 26) := keptBut gD kF (fun e => hDF e.symm)
      refine ⟨by simp, .inl ⟨_, _, rfl, run_takeDeferred dG, ?_⟩⟩
      have c0 : (WG.putObj D (.deferred none)).cell? ⟨w.heap.size + 1, 0, none⟩ = some (.int .i64 0) := at_cell kF2 0
      have c1 : (WG.putObj D (.deferred none)).cell? ⟨w.heap.size + 1, 1, none⟩ = some (.int .i64 0) := at_cell kF2 1
      have c2 : (WG.putObj D (.deferred none)).cell? ⟨w.heap.size + 1, 2, none⟩ = some (.int .i64 0) := at_cell kF2 2
      refine ⟨.tuple #[.slice pa5 (workTo l.length u s).out.length pc5, .agg #[.int .i64 0, .int .i64 0, .int .i64 0]], ?_, ?_⟩
      · generalize WG.putObj D (.deferred none) = WH at c0 c1 c2 ⊢
        simp [results, show Try.f14.results = #[.tmp 4, .cell 5 26] from rfl]
        go_simp
      · rw [← HLAST.out]
        refine ⟨pa5, pc5, rfl, own_low (own_row (own_row HP5.out.out gF fun y hy e => ?_) gD fun y hy e => ?_) (by omega), ?_⟩
        · injection e with e
          have := (World.ownsRow.lt HP5.out.out y hy).1
          omega
        · injection e with e
          subst e
          exact hsep.2.2.2 hy
        · exact grown_join (grown_join (grown_join HGW.out HP5.out.grown (.inl rfl)) gF (.inr fun x hx => by injection hx with hx; omega)) gD (.inr fun x hx => by injection hx with hx; omega)
end Go.Proofs.Ytholmeebkgpjjaa
