/- The last statement of Play's round: a region that draws, in a round. -/
import Derived.Test.YtholmeebkgpjjaaS2
import Derived.Shelf.Abstract
import Derived.RangeFuncNested
import Derived.OrdersIn
import Derived.TacticsInMore
namespace Go.Proofs.Ytholmeebkgpjjaa
open Go.RowKit Go.Shelf
set_option linter.unusedVariables false
set_option linter.unusedSimpArgs false
def ops11 : Array Oper := #[{ dst := some 35, op := Op.load 55 (Operand.tmp 7), type := 55, pos := "tasks.go:55", after := #[], guard := none }, { dst := some 36, op := Op.nilCheck (Operand.tmp 35), type := 0, pos := "tasks.go:55", after := #[{ on := 0, ground := Ground.data }], guard := none }, { dst := some 37, op := Op.fieldAddr 58 (Operand.tmp 36) 1, type := 0, pos := "tasks.go:55", after := #[{ on := 1, ground := Ground.data }], guard := none }, { dst := some 38, op := Op.load 56 (Operand.tmp 37), type := 56, pos := "tasks.go:55", after := #[{ on := 2, ground := Ground.data }], guard := none }, { dst := some 39, op := Op.fieldAddr 63 (Operand.tmp 8) 0, type := 0, pos := "tasks.go:55", after := #[], guard := none }, { dst := some 40, op := Op.load 3 (Operand.tmp 39), type := 3, pos := "tasks.go:55", after := #[{ on := 4, ground := Ground.data }], guard := none }, { dst := some 41, op := Op.load 55 (Operand.tmp 7), type := 55, pos := "tasks.go:55", after := #[], guard := none }, { dst := some 42, op := Op.nilCheck (Operand.tmp 41), type := 0, pos := "tasks.go:55", after := #[{ on := 6, ground := Ground.data }], guard := none }, { dst := some 43, op := Op.fieldAddr 58 (Operand.tmp 42) 1, type := 0, pos := "tasks.go:55", after := #[{ on := 7, ground := Ground.data }], guard := none }, { dst := some 44, op := Op.load 56 (Operand.tmp 43), type := 56, pos := "tasks.go:55", after := #[{ on := 8, ground := Ground.data }], guard := none }, { dst := some 45, op := Op.fieldAddr 63 (Operand.tmp 8) 0, type := 0, pos := "tasks.go:55", after := #[], guard := none }, { dst := some 46, op := Op.load 3 (Operand.tmp 45), type := 3, pos := "tasks.go:55", after := #[{ on := 10, ground := Ground.data }], guard := none }, { dst := some 47, op := Op.indexAddr 56 (Operand.tmp 44) (Operand.tmp 46), type := 0, pos := "tasks.go:55", after := #[{ on := 9, ground := Ground.data }, { on := 11, ground := Ground.data }], guard := none }, { dst := some 48, op := Op.load 65 (Operand.tmp 47), type := 65, pos := "tasks.go:55", after := #[{ on := 12, ground := Ground.data }], guard := none }, { dst := some 49, op := Op.load 63 (Operand.tmp 8), type := 63, pos := "tasks.go:55", after := #[], guard := none }, { dst := some 50, op := Op.buildSlice 65 1 #[(0, Operand.tmp 49)], type := 65, pos := "tasks.go:55", after := #[{ on := 14, ground := Ground.data }], guard := none }, { dst := some 51, op := Op.call { callee := Callee.builtin Builtin.append, args := #[Operand.tmp 48, Operand.tmp 50], argTypes := #[65, 65] }, type := 65, pos := "tasks.go:55", after := #[{ on := 13, ground := Ground.data }, { on := 15, ground := Ground.data }], guard := none }, { dst := some 52, op := Op.indexAddr 56 (Operand.tmp 38) (Operand.tmp 40), type := 0, pos := "tasks.go:55", after := #[{ on := 3, ground := Ground.data }, { on := 5, ground := Ground.data }, { on := 0, ground := Ground.phase }, { on := 1, ground := Ground.phase }, { on := 2, ground := Ground.phase }, { on := 3, ground := Ground.phase }, { on := 4, ground := Ground.phase }, { on := 5, ground := Ground.phase }, { on := 6, ground := Ground.phase }, { on := 7, ground := Ground.phase }, { on := 8, ground := Ground.phase }, { on := 9, ground := Ground.phase }, { on := 10, ground := Ground.phase }, { on := 11, ground := Ground.phase }, { on := 12, ground := Ground.phase }, { on := 13, ground := Ground.phase }, { on := 14, ground := Ground.phase }, { on := 15, ground := Ground.phase }, { on := 16, ground := Ground.phase }], guard := none }, { dst := none, op := Op.store 65 (Operand.tmp 52) (Operand.tmp 51), type := 0, pos := "tasks.go:55", after := #[{ on := 17, ground := Ground.data }, { on := 16, ground := Ground.data }, { on := 16, ground := Ground.chain }, { on := 0, ground := Ground.phase }, { on := 1, ground := Ground.phase }, { on := 2, ground := Ground.phase }, { on := 3, ground := Ground.phase }, { on := 4, ground := Ground.phase }, { on := 5, ground := Ground.phase }, { on := 6, ground := Ground.phase }, { on := 7, ground := Ground.phase }, { on := 8, ground := Ground.phase }, { on := 9, ground := Ground.phase }, { on := 10, ground := Ground.phase }, { on := 11, ground := Ground.phase }, { on := 12, ground := Ground.phase }, { on := 13, ground := Ground.phase }, { on := 14, ground := Ground.phase }, { on := 15, ground := Ground.phase }, { on := 16, ground := Ground.phase }], guard := none }]
/-- What is not yet done. -/
def left11 (b : Array Bool) : Nat := (b.toList.filter (fun x => !x)).length
theorem filter_set : ∀ (l : List Bool) (i : Nat) (h : i < l.length), l[i] = false → ((l.set i true).filter (fun x => !x)).length + 1 = (l.filter (fun x => !x)).length
  | [], i, h, _ => by simp at h
  | x :: l, 0, h, hv => by simp at hv; simp [hv]
  | x :: l, i + 1, h, hv => by
    have := filter_set l i (by simpa using h) (by simpa using hv)
    simp only [List.set_cons_succ, List.filter_cons]
    cases x <;> simp <;> omega
theorem left_set {b : Array Bool} {i : Nat} (hi : b.getD i true = false) : left11 (b.setIfInBounds i true) + 1 = left11 b := by
  have hlt : i < b.size := by
    rcases Nat.lt_or_ge i b.size with h | h
    · exact h
    · rw [Array.getD_eq_getD_getElem?, Array.getElem?_eq_none h] at hi; cases hi
  unfold left11
  rw [Array.toList_setIfInBounds]
  refine filter_set _ _ (by simpa using hlt) ?_
  rw [Array.getD_eq_getD_getElem?, Array.getElem?_eq_getElem hlt] at hi
  simpa using hi
theorem ready_free {md : Region.Mode} {ops : Array Oper} {b : Array Bool} {i : Nat} (h : i ∈ Region.ready md ops b) : b.getD i true = false := by
  unfold Region.ready at h
  simp only [List.mem_filter, Bool.and_eq_true, Bool.not_eq_true'] at h
  exact h.2.1
/-- Any order, by what holds between two operations. -/
theorem wpAnyIn_inv {F : Fence} {n : Nat} {P : Program} {md : Region.Mode} {ops : Array Oper} {Q : Exit → Act → World → Prop} (J : Array Bool → Act → World → Prop)
    (hstep : ∀ b a w i, J b a w → i ∈ Region.ready md ops b → wpOpIn F n P ops Q i (J (b.setIfInBounds i true)) a w) (hend : ∀ b a w, J b a w → Region.ready md ops b = [] → Q .normal a w) :
    ∀ (k : Nat) (b : Array Bool) (a : Act) (w : World), left11 b ≤ k → J b a w → wpAnyIn F n P md ops Q k b a w
  | 0, b, a, w, hk, hJ => by
    have h0 : Region.ready md ops b = [] := by
      cases hr : Region.ready md ops b with
      | nil => rfl
      | cons i r =>
        have := left_set (ready_free (i := i) (by rw [hr]; simp))
        omega
    exact ⟨h0, hend b a w hJ h0⟩
  | k + 1, b, a, w, hk, hJ => ⟨fun h0 => hend b a w hJ h0, fun i hi => wpOpIn_mono (fun a' w' hJ' => wpAnyIn_inv J hstep hend k _ a' w' (by have := left_set (ready_free hi); omega) hJ') (hstep b a w i hJ hi)⟩
/-- The temporaries, as far as it has gone. -/
structure T11 (V : Nat → Value) (x7 x8 : Value) (b : Array Bool) (a : Act) : Prop where
  size : 53 ≤ a.tmps.size
  bs : b.size = 19
  t7 : a.eval (.tmp 7) = x7
  t8 : a.eval (.tmp 8) = x8
  had : ∀ i, i < 18 → b.getD i false = true → a.eval (.tmp (35 + i)) = V i
theorem T11.put {V : Nat → Value} {x7 x8 : Value} {b : Array Bool} {a : Act} (h : T11 V x7 x8 b a) {i : Nat} (hi : i < 18) {v : Value} (hv : v = V i) : T11 V x7 x8 (b.setIfInBounds i true) (a.put (some (35 + i)) v) := by
  have hs := h.size
  have hb := h.bs
  have hne : ∀ t, t ≠ 35 + i → (a.put (some (35 + i)) v).eval (.tmp t) = a.eval (.tmp t) := fun t ht => Act.eval_put (fun d hd e => by injection hd with hd; injection e with e; exact ht (e.trans hd.symm))
  refine ⟨by simp [Act.put]; omega, by simp [hb], (hne 7 (by omega)).trans h.t7, (hne 8 (by omega)).trans h.t8, fun k hk hbk => ?_⟩
  by_cases e : k = i
  · subst e
    simp only [Act.eval, Act.put, Array.getD_eq_getD_getElem?]
    rw [Array.getElem?_setIfInBounds_self_of_lt (by omega)]
    exact hv
  · rw [hne _ (by omega)]
    refine h.had k hk ?_
    rw [Array.getD_eq_getD_getElem?, Array.getElem?_setIfInBounds_ne (fun h => e h.symm)] at hbk
    rw [Array.getD_eq_getD_getElem?]
    exact hbk
theorem T11.skip {V : Nat → Value} {x7 x8 : Value} {b : Array Bool} {a : Act} (h : T11 V x7 x8 b a) : T11 V x7 x8 (b.setIfInBounds 18 true) (a.put none undef) := by
  refine ⟨h.size, by simp [h.bs], h.t7, h.t8, fun k hk hbk => h.had k hk ?_⟩
  rw [Array.getD_eq_getD_getElem?, Array.getElem?_setIfInBounds_ne (by omega)] at hbk
  rw [Array.getD_eq_getD_getElem?]
  exact hbk
/-- What must have gone ahead has gone ahead. -/
theorem ready_deps {b : Array Bool} {i : Nat} (h : i ∈ Region.ready .any ops11 b) {o : Oper} (ho : ops11[i]? = some o) : ∀ e ∈ o.after, Region.binds .any e = true → b.getD e.on false = true := by
  unfold Region.ready at h
  simp only [List.mem_filter, Bool.and_eq_true, ho] at h
  intro e he hb
  have := h.2.2
  simp only [Option.map_some, Option.getD_some, Array.all_eq_true_iff_forall_mem] at this
  have := this e he
  simpa [hb] using this
theorem step11 {F : Fence} {n : Nat} {P : Program} {ops : Array Oper} {Q : Exit → Act → World → Prop} {i : Nat} {o : Oper} {K : Act → World → Prop} {a : Act} {w w' : World} {v : Value} (ho : ops[i]? = some o) (hg : o.guard = none) (hF : ∀ f, F.fn f) (hd : ∀ c, o.op ≠ .defer c)
    (hr : (execOp a.eval o).run P w = .ok (.value v) w') (hK : K (a.put o.dst v) w') : wpOpIn F n P ops Q i K a w := by
  unfold wpOpIn
  rw [ho]
  have hw : Region.wanted o (yielded ops a.tmps) = true := by simp [Region.wanted, hg]
  simp only [hw, if_true]
  refine ⟨fun f _ => hF f, ?_⟩
  rw [Oper.semAt_eq _ _ _ hd, hr]
  exact hK
theorem step11s {F : Fence} {n : Nat} {P : Program} {ops : Array Oper} {Q : Exit → Act → World → Prop} {i : Nat} {o : Oper} {K : Act → World → Prop} {a : Act} {w w' : World} (ho : ops[i]? = some o) (hg : o.guard = none) (hF : ∀ f, F.fn f) (hd : ∀ c, o.op ≠ .defer c)
    (hr : (execOp a.eval o).run P w = .ok .skip w') (hK : K (a.put o.dst undef) w') : wpOpIn F n P ops Q i K a w := by
  unfold wpOpIn
  rw [ho]
  have hw : Region.wanted o (yielded ops a.tmps) = true := by simp [Region.wanted, hg]
  simp only [hw, if_true]
  refine ⟨fun f _ => hF f, ?_⟩
  rw [Oper.semAt_eq _ _ _ hd, hr]
  exact hK
section
variable {ρ : Operand → Value} {w : World} {dst : Option Tmp} {ps : String} {af : Array Edge} {x : Nat} {p : Addr} {v : Value} {T : TypeId}
theorem e_load55 (h : ρ (.tmp x) = .pointer (some p)) (hc : w.cell? p = some v) : (execOp ρ { dst := dst, op := .load 55 (.tmp x), type := T, pos := ps, after := af, guard := none }).run Try.prog w = .ok (.value v) w := by
  simp only [execOp, h]
  go_simp
theorem e_load3 (h : ρ (.tmp x) = .pointer (some p)) (hc : w.cell? p = some v) : (execOp ρ { dst := dst, op := .load 3 (.tmp x), type := T, pos := ps, after := af, guard := none }).run Try.prog w = .ok (.value v) w := by
  simp only [execOp, h]
  go_simp
theorem e_load56 (h : ρ (.tmp x) = .pointer (some p)) (hc : w.cell? p = some v) : (execOp ρ { dst := dst, op := .load 56 (.tmp x), type := T, pos := ps, after := af, guard := none }).run Try.prog w = .ok (.value v) w := by
  simp only [execOp, h]
  go_simp
theorem e_load65 (h : ρ (.tmp x) = .pointer (some p)) (hc : w.cell? p = some v) : (execOp ρ { dst := dst, op := .load 65 (.tmp x), type := T, pos := ps, after := af, guard := none }).run Try.prog w = .ok (.value v) w := by
  simp only [execOp, h]
  go_simp
theorem e_load63 {b : Nat} {v0 v1 v2 v3 : Value} (h : ρ (.tmp x) = .pointer (some ⟨b, 0, none⟩)) (h0 : w.cell? ⟨b, 0, none⟩ = some v0) (h1 : w.cell? ⟨b, 1, none⟩ = some v1) (h2 : w.cell? ⟨b, 2, none⟩ = some v2) (h3 : w.cell? ⟨b, 3, none⟩ = some v3) : (execOp ρ { dst := dst, op := .load 63 (.tmp x), type := T, pos := ps, after := af, guard := none }).run Try.prog w = .ok (.value (.agg #[v0, v1, v2, v3])) w := by
  simp only [execOp, h]
  go_simp
theorem e_nil (h : ρ (.tmp x) = .pointer (some p)) : (execOp ρ { dst := dst, op := .nilCheck (.tmp x), type := T, pos := ps, after := af, guard := none }).run Try.prog w = .ok (.value (.pointer (some p))) w := by
  simp only [execOp, h]
  go_simp
theorem e_f58 {b : Nat} (h : ρ (.tmp x) = .pointer (some ⟨b, 0, none⟩)) : (execOp ρ { dst := dst, op := .fieldAddr 58 (.tmp x) 1, type := T, pos := ps, after := af, guard := none }).run Try.prog w = .ok (.value (.pointer (some ⟨b, 1, none⟩))) w := by
  simp only [execOp, h]
  go_simp
theorem e_f63 {b : Nat} (h : ρ (.tmp x) = .pointer (some ⟨b, 0, none⟩)) : (execOp ρ { dst := dst, op := .fieldAddr 63 (.tmp x) 0, type := T, pos := ps, after := af, guard := none }).run Try.prog w = .ok (.value (.pointer (some ⟨b, 0, none⟩))) w := by
  simp only [execOp, h]
  go_simp
theorem e_ix {b L t y : Nat} (h : ρ (.tmp x) = .slice (some ⟨b, 0, none⟩) L L) (h2 : ρ (.tmp y) = .int .i64 (t : Int)) (ht : t < L) (hL : L ≤ 16) : (execOp ρ { dst := dst, op := .indexAddr 56 (.tmp x) (.tmp y), type := T, pos := ps, after := af, guard := none }).run Try.prog w = .ok (.value (.pointer (some ⟨b, t, none⟩))) w := by
  simp only [execOp, h, h2]
  go_simp
theorem e_build {v0 v1 v2 v3 : Value} (h : ρ (.tmp x) = .agg #[v0, v1, v2, v3]) : (execOp ρ { dst := dst, op := .buildSlice 65 1 #[(0, .tmp x)], type := T, pos := ps, after := af, guard := none }).run Try.prog w = .ok (.value (.slice (some ⟨w.heap.size, 0, none⟩) 1 1)) (w.alloc (.cells #[v0, v1, v2, v3] 63)) := by
  simp only [execOp]
  go_simp
theorem e_store {a : Option Addr} {n c : Nat} {y : Nat} {u : Value} (h : ρ (.tmp x) = .pointer (some p)) (h2 : ρ (.tmp y) = .slice a n c) (hc : w.cell? p = some u) (hf : w.frozen? p = false) : (execOp ρ { dst := dst, op := .store 65 (.tmp x) (.tmp y), type := T, pos := ps, after := af, guard := none }).run Try.prog w = .ok .skip (w.setCell p (.slice a n c)) := by
  simp only [execOp, h, h2]
  go_simp
theorem e_app {v u v' : Value} {y : Nat} {w' : World} (h : ρ (.tmp x) = v) (h2 : ρ (.tmp y) = u) (hrun : (Builtin.append_ #[65, 65] 65 #[v, u]).run Try.prog w = .ok v' w') : (execOp ρ { dst := dst, op := .call { callee := .builtin .append, args := #[.tmp x, .tmp y], argTypes := #[65, 65] }, type := 65, pos := ps, after := af, guard := none }).run Try.prog w = .ok (.value v') w' := by
  simp [execOp, resolve, invoke, builtin, h, h2, hrun, Result.andThen]
end
def g11 (b : Array Bool) (k : Nat) : Prop := b.getD k false = true
theorem g_other {b : Array Bool} {i k : Nat} (h : k ≠ i) : g11 (b.setIfInBounds i true) k ↔ g11 b k := by
  unfold g11
  rw [Array.getD_eq_getD_getElem?, Array.getElem?_setIfInBounds_ne (fun e => h e.symm), Array.getD_eq_getD_getElem?]
theorem g_same {b : Array Bool} {i : Nat} (h : i < b.size) : g11 (b.setIfInBounds i true) i := by
  unfold g11
  rw [Array.getD_eq_getD_getElem?, Array.getElem?_setIfInBounds_self_of_lt h]
  rfl
theorem g_not {b : Array Bool} {i : Nat} (h : i ∈ Region.ready .any ops11 b) : ¬ g11 b i := by
  have := ready_free h
  unfold g11
  rw [Array.getD_eq_getD_getElem?] at this ⊢
  cases e : b[i]? with
  | none => simp
  | some x => rw [e] at this; simp at this; simp [this]
theorem lt_ready {b : Array Bool} {i : Nat} (h : i ∈ Region.ready .any ops11 b) : i < 19 := by
  unfold Region.ready at h
  exact List.mem_range.1 (List.mem_filter.1 h).1
theorem g_none (k : Nat) : ¬ g11 (Array.replicate ops11.size false) k := by
  unfold g11
  rw [Array.getD_eq_getD_getElem?, Array.getElem?_replicate]
  split <;> simp
theorem low11 : ∀ k : Fin 19, ∀ o, ops11[k.1]? = some o → ∀ e ∈ o.after, e.on < k.1 ∧ Region.binds .any e = true := by
  have h : ∀ k : Fin 19, ((ops11[k.1]?).map fun o => o.after.toList.all fun e => decide (e.on < k.1) && Region.binds .any e) = some true := by decide
  intro k o ho e he
  have := h k
  rw [ho] at this
  simp only [Option.map_some, Option.some.injEq, List.all_eq_true] at this
  have := this e (Array.mem_def.1 he)
  simpa using this
theorem all_done {b : Array Bool} (hb : b.size = 19) (h0 : Region.ready .any ops11 b = []) (k : Nat) (hk : k < 19) : g11 b k := by
  induction k using Nat.strongRecOn with
  | _ k ih =>
    have hn : k ∉ Region.ready .any ops11 b := by rw [h0]; simp
    have hsz : k < ops11.size := hk
    apply Classical.byContradiction
    intro hg
    apply hn
    unfold Region.ready
    rw [List.mem_filter]
    refine ⟨List.mem_range.2 hsz, ?_⟩
    obtain ⟨o, ho⟩ : ∃ o, ops11[k]? = some o := ⟨_, Array.getElem?_eq_getElem hsz⟩
    rw [ho]
    simp only [Option.map_some, Option.getD_some, Bool.and_eq_true, Array.all_eq_true_iff_forall_mem]
    refine ⟨?_, fun e he => ?_⟩
    · unfold g11 at hg
      rw [Array.getD_eq_getD_getElem?, Array.getElem?_eq_getElem (by omega)] at hg ⊢
      simpa using hg
    · obtain ⟨h1, h2⟩ := low11 ⟨k, hk⟩ o ho e he
      have h3 : b.getD e.on false = true := ih e.on h1 (by omega)
      rw [h3]
      simp
/-- The cells that it reads. -/
structure B11 (xb pb qb jb L i : Nat) (q : Value) (j : Jb) (W : World) : Prop where
  x : W.heap[xb]? = some (.cells #[.pointer (some ⟨pb, 0, none⟩)] 55)
  p : W.cell? ⟨pb, 1, none⟩ = some (.slice (some ⟨qb, 0, none⟩) L L)
  q : W.cell? ⟨qb, i, none⟩ = some q
  f : W.frozen? ⟨qb, i, none⟩ = false
  j : W.heap[jb]? = some (.cells #[.int .i64 j.task, .int .i64 j.num, .int .i64 j.rel, .int .i64 j.left] 63)
/-- What holds between two of its operations. -/
structure J11 (V : Nat → Value) (x7 x8 : Value) (W1 W2 W3 W4 : World) (b : Array Bool) (a : Act) (W : World) : Prop where
  t : T11 V x7 x8 b a
  c15 : g11 b 15 → g11 b 14
  c16 : g11 b 16 → g11 b 13 ∧ g11 b 15
  c17 : g11 b 17 → ∀ k, k < 17 → g11 b k
  c18 : g11 b 18 → ∀ k, k < 18 → g11 b k
  w : (¬ g11 b 15 ∧ W = W1) ∨ (g11 b 15 ∧ ¬ g11 b 16 ∧ W = W2) ∨ (g11 b 16 ∧ ¬ g11 b 18 ∧ W = W3) ∨ (g11 b 18 ∧ W = W4)
section
variable {F : Fence} {n : Nat} {Q : Exit → Act → World → Prop} {V : Nat → Value} {x7 x8 : Value} {W1 W2 W3 W4 : World} {b : Array Bool} {a : Act} {W : World} {i : Nat} {o : Oper}
/-- An operation that leaves the world as it is. -/
theorem J11.plain (hF : ∀ f, F.fn f) (h : J11 V x7 x8 W1 W2 W3 W4 b a W) (hi : i ∈ Region.ready .any ops11 b) (ho : ops11[i]? = some o) (hi15 : i ≠ 15) (hi16 : i ≠ 16) (hi17 : i < 18) (hg : o.guard = none) (hd : ∀ c, o.op ≠ .defer c) (hdst : o.dst = some (35 + i))
    (h17 : i = 17 → ∀ k, k < 17 → g11 b k)
    (hr : (W = W1 ∨ W = W2 ∨ W = W3) → (execOp a.eval o).run Try.prog W = .ok (.value (V i)) W) : wpOpIn F n Try.prog ops11 Q i (J11 V x7 x8 W1 W2 W3 W4 (b.setIfInBounds i true)) a W := by
  have hn := g_not hi
  have h18 : ¬ g11 b 18 := fun e => hn (h.c18 e i hi17)
  have hb := h.t.bs
  refine step11 ho hg hF hd (hr ?_) ?_
  · rcases h.w with ⟨_, e⟩ | ⟨_, _, e⟩ | ⟨_, _, e⟩ | ⟨e, _⟩
    · exact .inl e
    · exact .inr (.inl e)
    · exact .inr (.inr e)
    · exact absurd e h18
  · rw [hdst]
    have up : ∀ k, g11 b k → g11 (b.setIfInBounds i true) k := fun k hk => by
      by_cases e : k = i
      · subst e; exact g_same (by omega)
      · exact (g_other e).2 hk
    refine ⟨h.t.put hi17 rfl, fun e => up _ (h.c15 ((g_other (by omega)).1 e)), fun e => ?_, fun e k hk => ?_, fun e => absurd ((g_other (by omega)).1 e) h18, ?_⟩
    · have := h.c16 ((g_other (by omega)).1 e)
      exact ⟨up _ this.1, up _ this.2⟩
    · by_cases e17 : i = 17
      · exact up _ (h17 e17 k hk)
      · exact up _ (h.c17 ((g_other (by omega)).1 e) k hk)
    · rw [g_other (by omega), g_other (by omega), g_other (by omega)]
      exact h.w
end
theorem v_had {V : Nat → Value} {x7 x8 : Value} {b : Array Bool} {a : Act} (h : T11 V x7 x8 b a) {k : Nat} (hk : k < 18) (hb : g11 b k) : a.eval (.tmp (35 + k)) = V k := h.had k hk hb
set_option maxHeartbeats 1000000 in
/-- The whole of it. -/
theorem enq_region {w0 : World} {Fr : Nat → Obj → Prop} {B pb qb L : Nat} {s : Ps} {qm : Nat → Qm} {pa : Option Addr} {pc : Nat} {w : World} {lr m : Nat} {Q : Exit → Act → World → Prop} {a : Act} {xb jb i : Nat} {j : Jb}
    (h : ProcAt w0 Fr B pb qb L s qm pa pc w) (hi : i < L) (hL : L ≤ 16) (hj : j.task = (i : Int)) (hl : (s.q i).length ≤ 1000000)
    (hx : Fr xb (.cells #[.pointer (some ⟨pb, 0, none⟩)] 55)) (hjb : Fr jb (.cells #[.int .i64 j.task, .int .i64 j.num, .int .i64 j.rel, .int .i64 j.left] 63))
    (ha : 53 ≤ a.tmps.size) (h7 : a.eval (.tmp 7) = .pointer (some ⟨xb, 0, none⟩)) (h8 : a.eval (.tmp 8) = .pointer (some ⟨jb, 0, none⟩))
    (hQ : ∀ a' qm' w', ProcAt w0 Fr B pb qb L { s with q := upd s.q i (s.q i ++ [j]) } qm' pa pc w' → Q .normal a' w') : (Code.region 11 ops11 true).wpIn (Fence.wide.inRound lr) m Try.prog Q a w := by
  have hd : ProcAt w0 Fr B pb qb L s qm pa pc w.drew := h.grow (gr_drew (World.grownBy.refl _ _))
  obtain ⟨m', w2, r1, r2, r3, r4, r5, r6⟩ := hd.enq hi j hl
  obtain ⟨W4, hW4⟩ : ∃ W4, W4 = w2.setCell ⟨qb, i, none⟩ (.slice m'.ao ((s.q i).length + 1) m'.cap) := ⟨_, rfl⟩
  rw [← hW4] at r6
  have hlt := hd.lt
  have kx := hd.keep _ _ hx
  have kj := hd.keep _ _ hjb
  have b1 : B11 xb pb qb jb L i (.slice (qm i).ao (s.q i).length (qm i).cap) j w.drew := ⟨kx, at_cell hd.p 1, (at_cell hd.q i).trans (qcells_get hi), at_frozen hd.q i, kj⟩
  have b2 : B11 xb pb qb jb L i (.slice (qm i).ao (s.q i).length (qm i).cap) j (w.drew.alloc (.cells #[.int .i64 j.task, .int .i64 j.num, .int .i64 j.rel, .int .i64 j.left] 63)) := by
    have hg : w.drew.grownBy (w.drew.alloc (.cells #[.int .i64 j.task, .int .i64 j.num, .int .i64 j.rel, .int .i64 j.left] 63)) none := gr_alloc (World.grownBy.refl _ _) _
    exact ⟨kept hg kx, at_cell (kept hg hd.p) 1, (at_cell (kept hg hd.q) i).trans (qcells_get hi), at_frozen (kept hg hd.q) i, kept hg kj⟩
  have b3 : B11 xb pb qb jb L i (.slice (qm i).ao (s.q i).length (qm i).cap) j w2 :=
    ⟨r5 _ _ (at_lt kx) ((hd.sep _ _ hx).2.2.1 i hi) kx, at_cell r2 1, (at_cell r3 i).trans (qcells_get hi), at_frozen r3 i, r5 _ _ (at_lt kj) ((hd.sep _ _ hjb).2.2.1 i hi) kj⟩
  obtain ⟨V, hV⟩ : ∃ V : Nat → Value, V = fun k => ([.pointer (some ⟨pb, 0, none⟩), .pointer (some ⟨pb, 0, none⟩), .pointer (some ⟨pb, 1, none⟩), .slice (some ⟨qb, 0, none⟩) L L, .pointer (some ⟨jb, 0, none⟩), .int .i64 j.task,
    .pointer (some ⟨pb, 0, none⟩), .pointer (some ⟨pb, 0, none⟩), .pointer (some ⟨pb, 1, none⟩), .slice (some ⟨qb, 0, none⟩) L L, .pointer (some ⟨jb, 0, none⟩), .int .i64 j.task, .pointer (some ⟨qb, i, none⟩), .slice (qm i).ao (s.q i).length (qm i).cap,
    .agg #[.int .i64 j.task, .int .i64 j.num, .int .i64 j.rel, .int .i64 j.left], .slice (some ⟨w.drew.heap.size, 0, none⟩) 1 1, .slice m'.ao ((s.q i).length + 1) m'.cap, .pointer (some ⟨qb, i, none⟩)] : List Value).getD k undef := ⟨_, rfl⟩
  refine wpIn_region_any (by kernel_rfl) (wpAnyIn_inv (J11 V (.pointer (some ⟨xb, 0, none⟩)) (.pointer (some ⟨jb, 0, none⟩)) w.drew (w.drew.alloc (.cells #[.int .i64 j.task, .int .i64 j.num, .int .i64 j.rel, .int .i64 j.left] 63)) w2 W4) ?_ ?_ _ _ _ _ (by decide) ?_)
  · intro b a W k hJ hk
    have hk19 := lt_ready hk
    have hW : (W = w.drew ∨ W = w.drew.alloc (.cells #[.int .i64 j.task, .int .i64 j.num, .int .i64 j.rel, .int .i64 j.left] 63) ∨ W = w2) → B11 xb pb qb jb L i (.slice (qm i).ao (s.q i).length (qm i).cap) j W := fun e => by
      rcases e with rfl | rfl | rfl
      · exact b1
      · exact b2
      · exact b3
    have hT := hJ.t
    have dep : ∀ (x : Nat) (g : Ground) (y : Nat), (ops11[k]?).bind (fun o => o.after[y]?) = some ({ on := x, ground := g } : Edge) → Region.binds .any ({ on := x, ground := g } : Edge) = true → g11 b x := fun x g y he hb => by
      cases ho : ops11[k]? with
      | none => rw [ho] at he; cases he
      | some o =>
        rw [ho] at he
        exact ready_deps hk ho _ (Array.mem_of_getElem? he) hb
    have vd : ∀ {x}, x < 18 → g11 b x → a.eval (.tmp (35 + x)) = V x := fun hx hb => v_had hT hx hb
    rw [hV] at vd
    match k, hk19, hk, dep with
    | 0, _, hk, dep => exact hJ.plain (fun _ => trivial) hk rfl (by omega) (by omega) (by omega) rfl (fun _ e => by cases e) rfl (fun e => by omega) fun e => by rw [hV]; exact e_load55 hT.t7 (at_cell (hW e).x 0)
    | 1, _, hk, dep => exact hJ.plain (fun _ => trivial) hk rfl (by omega) (by omega) (by omega) rfl (fun _ e => by cases e) rfl (fun e => by omega) fun e => by rw [hV]; exact e_nil (vd (x := 0) (by omega) (dep 0 .data 0 rfl rfl))
    | 2, _, hk, dep => exact hJ.plain (fun _ => trivial) hk rfl (by omega) (by omega) (by omega) rfl (fun _ e => by cases e) rfl (fun e => by omega) fun e => by rw [hV]; exact e_f58 (vd (x := 1) (by omega) (dep 1 .data 0 rfl rfl))
    | 3, _, hk, dep => exact hJ.plain (fun _ => trivial) hk rfl (by omega) (by omega) (by omega) rfl (fun _ e => by cases e) rfl (fun e => by omega) fun e => by rw [hV]; exact e_load56 (vd (x := 2) (by omega) (dep 2 .data 0 rfl rfl)) (hW e).p
    | 4, _, hk, dep => exact hJ.plain (fun _ => trivial) hk rfl (by omega) (by omega) (by omega) rfl (fun _ e => by cases e) rfl (fun e => by omega) fun e => by rw [hV]; exact e_f63 hT.t8
    | 5, _, hk, dep => exact hJ.plain (fun _ => trivial) hk rfl (by omega) (by omega) (by omega) rfl (fun _ e => by cases e) rfl (fun e => by omega) fun e => by rw [hV]; exact e_load3 (vd (x := 4) (by omega) (dep 4 .data 0 rfl rfl)) (at_cell (hW e).j 0)
    | 6, _, hk, dep => exact hJ.plain (fun _ => trivial) hk rfl (by omega) (by omega) (by omega) rfl (fun _ e => by cases e) rfl (fun e => by omega) fun e => by rw [hV]; exact e_load55 hT.t7 (at_cell (hW e).x 0)
    | 7, _, hk, dep => exact hJ.plain (fun _ => trivial) hk rfl (by omega) (by omega) (by omega) rfl (fun _ e => by cases e) rfl (fun e => by omega) fun e => by rw [hV]; exact e_nil (vd (x := 6) (by omega) (dep 6 .data 0 rfl rfl))
    | 8, _, hk, dep => exact hJ.plain (fun _ => trivial) hk rfl (by omega) (by omega) (by omega) rfl (fun _ e => by cases e) rfl (fun e => by omega) fun e => by rw [hV]; exact e_f58 (vd (x := 7) (by omega) (dep 7 .data 0 rfl rfl))
    | 9, _, hk, dep => exact hJ.plain (fun _ => trivial) hk rfl (by omega) (by omega) (by omega) rfl (fun _ e => by cases e) rfl (fun e => by omega) fun e => by rw [hV]; exact e_load56 (vd (x := 8) (by omega) (dep 8 .data 0 rfl rfl)) (hW e).p
    | 10, _, hk, dep => exact hJ.plain (fun _ => trivial) hk rfl (by omega) (by omega) (by omega) rfl (fun _ e => by cases e) rfl (fun e => by omega) fun e => by rw [hV]; exact e_f63 hT.t8
    | 11, _, hk, dep => exact hJ.plain (fun _ => trivial) hk rfl (by omega) (by omega) (by omega) rfl (fun _ e => by cases e) rfl (fun e => by omega) fun e => by rw [hV]; exact e_load3 (vd (x := 10) (by omega) (dep 10 .data 0 rfl rfl)) (at_cell (hW e).j 0)
    | 12, _, hk, dep => exact hJ.plain (fun _ => trivial) hk rfl (by omega) (by omega) (by omega) rfl (fun _ e => by cases e) rfl (fun e => by omega) fun e => by rw [hV]; exact e_ix (vd (x := 9) (by omega) (dep 9 .data 0 rfl rfl)) ((vd (x := 11) (by omega) (dep 11 .data 1 rfl rfl)).trans (by rw [← hj]; rfl)) hi hL
    | 13, _, hk, dep => exact hJ.plain (fun _ => trivial) hk rfl (by omega) (by omega) (by omega) rfl (fun _ e => by cases e) rfl (fun e => by omega) fun e => by rw [hV]; exact e_load65 (vd (x := 12) (by omega) (dep 12 .data 0 rfl rfl)) (hW e).q
    | 14, _, hk, dep => exact hJ.plain (fun _ => trivial) hk rfl (by omega) (by omega) (by omega) rfl (fun _ e => by cases e) rfl (fun e => by omega) fun e => by rw [hV]; exact e_load63 hT.t8 (at_cell (hW e).j 0) (at_cell (hW e).j 1) (at_cell (hW e).j 2) (at_cell (hW e).j 3)
    | 15, _, hk, dep =>
      have hn := g_not hk
      have h14 := dep 14 .data 0 rfl rfl
      have h16 : ¬ g11 b 16 := fun e => hn (hJ.c16 e).2
      have h18 : ¬ g11 b 18 := fun e => hn (hJ.c18 e 15 (by omega))
      obtain rfl : W = w.drew := by
        rcases hJ.w with ⟨_, e⟩ | ⟨e, _⟩ | ⟨e, _⟩ | ⟨e, _⟩
        · exact e
        · exact absurd e hn
        · exact absurd e h16
        · exact absurd e h18
      refine step11 rfl rfl (fun _ => trivial) (fun _ e => by cases e) (e_build (vd (x := 14) (by omega) h14)) ?_
      refine ⟨hT.put (i := 15) (by omega) (by rw [hV]; rfl), fun _ => (g_other (by omega)).2 h14, fun e => absurd ((g_other (by omega)).1 e) h16, fun e => ?_, fun e => absurd ((g_other (by omega)).1 e) h18, .inr (.inl ⟨g_same (by rw [hT.bs]; omega), fun e => h16 ((g_other (by omega)).1 e), rfl⟩)⟩
      exact absurd (hJ.c17 ((g_other (by omega)).1 e) 15 (by omega)) hn
    | 16, _, hk, dep =>
      have hn := g_not hk
      have h13 := dep 13 .data 0 rfl rfl
      have h15 := dep 15 .data 1 rfl rfl
      have h18 : ¬ g11 b 18 := fun e => hn (hJ.c18 e 16 (by omega))
      obtain rfl : W = w.drew.alloc (.cells #[.int .i64 j.task, .int .i64 j.num, .int .i64 j.rel, .int .i64 j.left] 63) := by
        rcases hJ.w with ⟨e, _⟩ | ⟨_, _, e⟩ | ⟨e, _⟩ | ⟨e, _⟩
        · exact absurd h15 e
        · exact e
        · exact absurd e hn
        · exact absurd e h18
      refine step11 rfl rfl (fun _ => trivial) (fun _ e => by cases e) (e_app (vd (x := 13) (by omega) h13) (vd (x := 15) (by omega) h15) r1) ?_
      refine ⟨hT.put (i := 16) (by omega) (by rw [hV]; rfl), fun _ => (g_other (by omega)).2 (hJ.c15 h15), fun _ => ⟨(g_other (by omega)).2 h13, (g_other (by omega)).2 h15⟩, fun e => ?_, fun e => absurd ((g_other (by omega)).1 e) h18, .inr (.inr (.inl ⟨g_same (by rw [hT.bs]; omega), fun e => h18 ((g_other (by omega)).1 e), rfl⟩))⟩
      exact absurd (hJ.c17 ((g_other (by omega)).1 e) 16 (by omega)) hn
    | 17, _, hk, dep =>
      have hall : ∀ x, x < 17 → g11 b x := fun x hx => by
        match x, hx with
        | 0, _ => exact dep 0 .phase 2 rfl rfl
        | 1, _ => exact dep 1 .phase 3 rfl rfl
        | 2, _ => exact dep 2 .phase 4 rfl rfl
        | 3, _ => exact dep 3 .phase 5 rfl rfl
        | 4, _ => exact dep 4 .phase 6 rfl rfl
        | 5, _ => exact dep 5 .phase 7 rfl rfl
        | 6, _ => exact dep 6 .phase 8 rfl rfl
        | 7, _ => exact dep 7 .phase 9 rfl rfl
        | 8, _ => exact dep 8 .phase 10 rfl rfl
        | 9, _ => exact dep 9 .phase 11 rfl rfl
        | 10, _ => exact dep 10 .phase 12 rfl rfl
        | 11, _ => exact dep 11 .phase 13 rfl rfl
        | 12, _ => exact dep 12 .phase 14 rfl rfl
        | 13, _ => exact dep 13 .phase 15 rfl rfl
        | 14, _ => exact dep 14 .phase 16 rfl rfl
        | 15, _ => exact dep 15 .phase 17 rfl rfl
        | 16, _ => exact dep 16 .phase 18 rfl rfl
        | x + 17, h => omega
      exact hJ.plain (fun _ => trivial) hk rfl (by omega) (by omega) (by omega) rfl (fun _ e => by cases e) rfl (fun _ => hall) fun e => by rw [hV]; exact e_ix (vd (x := 3) (by omega) (hall 3 (by omega))) ((vd (x := 5) (by omega) (hall 5 (by omega))).trans (by rw [← hj]; rfl)) hi hL
    | 18, _, hk, dep =>
      have hn := g_not hk
      have h17 := dep 17 .data 0 rfl rfl
      have h16 := dep 16 .data 1 rfl rfl
      obtain rfl : W = w2 := by
        rcases hJ.w with ⟨e, _⟩ | ⟨_, e, _⟩ | ⟨_, _, e⟩ | ⟨e, _⟩
        · exact absurd (hJ.c16 h16).2 e
        · exact absurd h16 e
        · exact e
        · exact absurd e hn
      have hall : ∀ x, x < 18 → g11 b x := fun x hx => by
        by_cases e : x = 17
        · subst e; exact h17
        · exact hJ.c17 h17 x (by omega)
      have he := e_store (ρ := a.eval) (dst := none) (ps := "tasks.go:55") (T := 0) (af := ops11[18].after) (vd (x := 17) (by omega) h17) (vd (x := 16) (by omega) h16) b3.q b3.f
      refine step11s rfl rfl (fun _ => trivial) (fun _ e => by cases e) he ?_
      rw [← hW4]
      have up : ∀ x, x < 18 → g11 (b.setIfInBounds 18 true) x := fun x hx => (g_other (by omega)).2 (hall x hx)
      exact ⟨hT.skip, fun _ => up _ (by omega), fun _ => ⟨up _ (by omega), up _ (by omega)⟩, fun _ x hx => up x (by omega), fun _ => up, .inr (.inr (.inr ⟨g_same (by rw [hT.bs]; omega), rfl⟩))⟩
    | k + 19, h, _, _ => omega
  · intro b a W hJ h0
    have hall := all_done hJ.t.bs h0
    rcases hJ.w with ⟨e, _⟩ | ⟨_, e, _⟩ | ⟨_, e, _⟩ | ⟨_, rfl⟩
    · exact absurd (hall 15 (by omega)) e
    · exact absurd (hall 16 (by omega)) e
    · exact absurd (hall 18 (by omega)) e
    · exact hQ _ _ _ r6
  · exact ⟨⟨ha, by decide, h7, h8, fun x hx e => absurd e (g_none x)⟩, fun e => absurd e (g_none _), fun e => absurd e (g_none _), fun e => absurd e (g_none _), fun e => absurd e (g_none _), .inl ⟨g_none _, rfl⟩⟩
end Go.Proofs.Ytholmeebkgpjjaa
