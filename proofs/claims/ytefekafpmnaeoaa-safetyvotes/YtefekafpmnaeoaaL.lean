/- Rows of votes of one's own. -/
import Derived.Test.YtefekafpmnaeoaaK
namespace Go.Proofs.Ytefekafpmnaeoaa
open Go.RowKit
attribute [local go_sem ↓] Go.wp_at_zero Go.wp_at_succ
set_option linter.unusedVariables false
set_option linter.unusedSimpArgs false

/-- The cells of votes. -/
def vC (ns : List (Int × Value)) : List Value := ns.flatMap fun x => [Value.int .i64 x.1, x.2]
theorem vC_len (ns : List (Int × Value)) : (vC ns).length = ns.length * 2 := by
  induction ns with
  | nil => rfl
  | cons x ns ih => simp [vC] at ih ⊢; omega
theorem vC_snoc (ns : List (Int × Value)) (x : Int × Value) : vC (ns ++ [x]) = vC ns ++ [.int .i64 x.1, x.2] := by simp [vC]
theorem vC_get (ns : List (Int × Value)) (i : Nat) (hi : i < ns.length) : (vC ns)[i * 2]? = some (.int .i64 (ns.getD i (0, undef)).1) ∧ (vC ns)[i * 2 + 1]? = some (ns.getD i (0, undef)).2 := by
  induction ns generalizing i with
  | nil => simp at hi
  | cons x ns ih =>
    cases i with
    | zero => simp [vC]
    | succ i =>
      have h := ih i (by simpa using hi)
      have e1 : (i + 1) * 2 = i * 2 + 1 + 1 := by omega
      have e2 : (i + 1) * 2 + 1 = i * 2 + 1 + 1 + 1 := by omega
      have e3 : vC (x :: ns) = .int .i64 x.1 :: x.2 :: vC ns := by simp [vC]
      rw [e1, e3]
      simpa using h
/-- A row of votes of one's own. -/
def OwnVs (B : Nat) (w : World) (a : Option Addr) (cap : Nat) (ns : List (Int × Value)) : Prop := w.ownsRow B 50 2 (.slice a ns.length cap) ns.length (vC ns)
theorem info50 : (Try.prog.info? 50).map (fun i => (i.zero, i.size, i.bytes)) = some (some (.agg #[.int .i64 0, .slice none 0 0]), 2, 32) := by kernel_rfl
/-- What holds of a row of votes: so many are there, each with its own list. -/
structure Row (B : Nat) (w : World) (a : Option Addr) (cap : Nat) (l : List (Int × List Int)) (ns : List (Int × Value)) : Prop where
  len : ns.length = l.length
  own : OwnVs B w a cap ns
  each : ∀ i, i < l.length → (ns.getD i (0, undef)).1 = (l.getD i (0, [])).1 ∧ ∃ ua uc, (ns.getD i (0, undef)).2 = .slice ua (l.getD i (0, [])).2.length uc ∧ OwnL B w ua uc (l.getD i (0, [])).2 ∧ ∀ x, (Value.slice ua (l.getD i (0, [])).2.length uc).ownBlock = some x → (Value.slice a ns.length cap).ownBlock ≠ some x
theorem Row.nil (B : Nat) (w : World) : Row B w none 0 [] [] := ⟨rfl, World.ownsRow_nil _ _ _ _, fun i hi => by simp at hi⟩
theorem Row.grown {B : Nat} {w w' : World} {a : Option Addr} {cap : Nat} {l : List (Int × List Int)} {ns : List (Int × Value)} (h : Row B w a cap l ns) (hg : w.grownBy w' none) : Row B w' a cap l ns :=
  ⟨h.len, own_keep h.own hg, fun i hi => by
    obtain ⟨h1, ua, uc, h2, h3, h4⟩ := h.each i hi
    exact ⟨h1, ua, uc, h2, h3.kept hg, h4⟩⟩
theorem Row.rd {B : Nat} {w : World} {a : Option Addr} {cap : Nat} {l : List (Int × List Int)} {ns : List (Int × Value)} (h : Row B w a cap l ns) : rdVs w (.slice a l.length cap) l := by
  refine ⟨a, cap, rfl, ?_⟩
  have ho := h.own
  unfold OwnVs at ho
  have ho' := ho
  obtain ⟨_, ⟨hx, hn⟩ | ⟨g, cap', cur, hv, hb, hc, hnc, hm, hs, ht⟩⟩ := ho
  · left; exact List.length_eq_zero_iff.1 (by rw [← h.len]; exact hn)
  · right
    simp at hv
    obtain ⟨rfl, rfl⟩ := hv
    refine ⟨g, 0, rfl, fun i hi => ?_⟩
    obtain ⟨h1, ua, uc, h2, h3, _⟩ := h.each i hi
    have hin : i < ns.length := by rw [h.len]; exact hi
    obtain ⟨c1, c2⟩ := vC_get ns i hin
    have cell : ∀ j v, j < ns.length * 2 → (vC ns)[j]? = some v → w.cell? ⟨g, j, none⟩ = some v := fun j v hj hv => by
      rw [at_cell hc, ← ht] at *
      rw [List.getElem?_take, if_pos hj] at hv
      simpa using hv
    refine ⟨_, ?_, ?_, h3.rd⟩
    · rw [Nat.zero_add, cell _ _ (by omega) c1, h1]
    · rw [Nat.zero_add, cell _ _ (by omega) c2, h2]
/-- One vote more. -/
theorem Row.more {B : Nat} {w : World} {a : Option Addr} {cap : Nat} {l : List (Int × List Int)} {ns : List (Int × Value)} (h : Row B w a cap l ns) (need : Int) (of : List Int) (ua : Option Addr) (uc q : Nat) (hl : l.length ≤ 4398046510976)
    (hu : OwnL B w ua uc of) (hne : ∀ x, (Value.slice ua of.length uc).ownBlock = some x → (Value.slice a ns.length cap).ownBlock ≠ some x) (hq : w.heap[q]? = some (.cells #[.int .i64 need, .slice ua of.length uc] 50)) (hB : B ≤ w.heap.size) :
    ∃ a' cap' w', (Builtin.append_ #[22, 22] 22 #[.slice a l.length cap, .slice (some ⟨q, 0, none⟩) 1 1]).run Try.prog w = .ok (.slice a' (l.length + 1) cap') w' ∧ Row B w' a' cap' (l ++ [(need, of)]) (ns ++ [(need, .slice ua of.length uc)]) ∧ w.grownBy w' (Value.slice a ns.length cap).ownBlock ∧ ∀ x, (Value.slice a ns.length cap).ownBlock = some x → B ≤ x := by
  obtain ⟨i0, hi, hz0, hz1, hz2⟩ := info_parts info50
  have hlen := h.len
  obtain ⟨v', w', r1, r2, r3, _, r5⟩ := run_append_own_at (P := Try.prog) w B 22 22 50 i0 _ 2 32 Try.underlying22 hi hz0 hz1 hz2 rfl (by omega) _ ns.length (vC ns) h.own ⟨q, 0, none⟩ 1 1 [.int .i64 need, .slice ua of.length uc] rfl
    (fun j u hj => by
      rw [addn, at_cell hq (0 + j)]
      simpa using hj)
    (by simp [Value.oneCell']) (by unfold maxLen; omega) (by omega) hB
  have hf : ∃ a' cap', v' = .slice a' (ns.length + 1) cap' := by
    obtain ⟨_, ⟨hx, hn⟩ | ⟨g', cap', cur, rfl, _⟩⟩ := id r2
    · omega
    · exact ⟨_, _, rfl⟩
  obtain ⟨a', cap', rfl⟩ := hf
  rw [hlen] at r1
  refine ⟨a', cap', w', r1, ⟨by simp [hlen], by unfold OwnVs; rw [vC_snoc, List.length_append]; exact r2, fun i hi => ?_⟩, r3, fun x hx => (World.ownsRow.lt h.own x hx).1⟩
  have hb5 : ∀ x, x < w.heap.size → (Value.slice a ns.length cap).ownBlock ≠ some x → (Value.slice a' (ns ++ [(need, Value.slice ua of.length uc)]).length cap').ownBlock ≠ some x := fun x hx h1 h2 => by
    rw [List.length_append] at h2
    rcases r5 with h5 | h5
    · exact h1 (by rw [← h5]; exact h2)
    · have h2' : (Value.slice a' (ns.length + 1) cap').ownBlock = some x := h2
      rw [h5] at h2'
      simp at h2'
      omega
  by_cases hil : i < l.length
  · have e1 : (ns ++ [(need, Value.slice ua of.length uc)]).getD i (0, undef) = ns.getD i (0, undef) := by
      simp [List.getD, List.getElem?_append, hlen, hil]
    have e2 : (l ++ [(need, of)]).getD i (0, []) = l.getD i (0, []) := by simp [List.getD, List.getElem?_append, hil]
    rw [e1, e2]
    obtain ⟨h1, ua', uc', h2, h3, h4⟩ := h.each i hil
    refine ⟨h1, ua', uc', h2, own_ne h3 r3 (fun x hx => h4 x hx), fun x hx => hb5 x ?_ (h4 x hx)⟩
    exact (World.ownsRow.lt h3 x hx).2
  · have hie : i = l.length := by simp at hi; omega
    subst hie
    have e1 : (ns ++ [(need, Value.slice ua of.length uc)]).getD l.length (0, undef) = (need, Value.slice ua of.length uc) := by
      rw [← hlen]; simp [List.getD]
    have e2 : (l ++ [(need, of)]).getD l.length (0, []) = (need, of) := by simp [List.getD]
    rw [e1, e2]
    exact ⟨rfl, ua, uc, rfl, own_ne hu r3 (fun x hx => hne x hx), fun x hx => hb5 x ((World.ownsRow.lt hu x hx).2) (hne x hx)⟩
/-- A copy, at a step of a region. -/
theorem step_copy {w : World} {ops : Array Oper} {o : Oper} {a : Act} {K : Act → World → Prop} {Q : Exit → Act → World → Prop} {E : Prop} (hgd : o.guard = none) (s x : Operand)
    (ho : o.op = .call { callee := .builtin .append, args := #[s, x], argTypes := #[26, 26] }) (hty : o.type = 26) (of : List Int) (ua : Option Addr) (uc : Nat)
    (hs : a.eval s = .slice none 0 0) (hx : a.eval x = .slice ua of.length uc) (hr : rd w (.slice ua of.length uc) of) (hl : of.length ≤ 17592186043904)
    (h : ∀ oa oc w', OwnL w.heap.size w' oa oc of → w.grownBy w' none → K (a.put o.dst (.slice oa of.length oc)) w') : if Region.wanted o (yielded ops a.tmps) = true then Oper.wp Try.prog o a w K Q else E := by
  obtain ⟨oa, oc, w', h1, h2, h3⟩ := copyL hr hl
  exact step_append_run hgd s x 26 ho _ _ _ w' hs hx (by rw [hty]; exact h1) (h oa oc w' h2 h3)
/-- One vote more, at a step of a region. -/
theorem step_more {w : World} {ops : Array Oper} {o : Oper} {a : Act} {K : Act → World → Prop} {Q : Exit → Act → World → Prop} {E : Prop} (hgd : o.guard = none) (s x : Operand)
    (ho : o.op = .call { callee := .builtin .append, args := #[s, x], argTypes := #[22, 22] }) (hty : o.type = 22) {B : Nat} (va : Option Addr) (k cap q : Nat) (l : List (Int × List Int)) (ns : List (Int × Value)) (need : Int) (of : List Int) (ua : Option Addr) (uc : Nat)
    (hs : a.eval s = .slice va k cap) (hx : a.eval x = .slice (some ⟨q, 0, none⟩) 1 1) (hk : l.length = k) (hr : Row B w va cap l ns) (hl : l.length ≤ 4398046510976)
    (hu : OwnL B w ua uc of) (hne : ∀ x, (Value.slice ua of.length uc).ownBlock = some x → (Value.slice va ns.length cap).ownBlock ≠ some x) (hq : w.heap[q]? = some (.cells #[.int .i64 need, .slice ua of.length uc] 50)) (hB : B ≤ w.heap.size)
    (h : ∀ a' cap' w', Row B w' a' cap' (l ++ [(need, of)]) (ns ++ [(need, .slice ua of.length uc)]) → w.grownBy w' (Value.slice va ns.length cap).ownBlock → (∀ x, (Value.slice va ns.length cap).ownBlock = some x → B ≤ x) → K (a.put o.dst (.slice a' (k + 1) cap')) w') : if Region.wanted o (yielded ops a.tmps) = true then Oper.wp Try.prog o a w K Q else E := by
  subst hk
  obtain ⟨a', cap', w', h1, h2, h3, h4⟩ := hr.more need of ua uc q hl hu hne hq hB
  exact step_append_run hgd s x 22 ho _ _ _ w' hs hx (by rw [hty]; exact h1) (h a' cap' w' h2 h3 h4)
end Go.Proofs.Ytefekafpmnaeoaa
