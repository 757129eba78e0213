/- The state of the law of a torn save. -/
import Derived.Test.YtlbipcecdcmgdaaDoorTx
import Derived.Deep.Cut
import Derived.Deep.CutRange
import Derived.Deep.CutBlock
namespace Go.Proofs.YtlbipcecdcmgdaaDoor
open Go.RowKit
set_option linter.unusedVariables false
set_option linter.unusedSimpArgs false

theorem step_append_run {P : Program} {w : World} {ops : Array Oper} {o : Oper} {a : Act} {K : Act → World → Prop} {Q : Exit → Act → World → Prop} {E : Prop} (hgd : o.guard = none) (s x : Operand) (t : TypeId)
    (ho : o.op = .call { callee := .builtin .append, args := #[s, x], argTypes := #[t, t] })
    (v u v' : Value) (w' : World) (hs : a.eval s = v) (hx : a.eval x = u) (hrun : (Builtin.append_ #[t, t] o.type #[v, u]).run P w = .ok v' w')
    (h : K (a.put o.dst v') w') : if Region.wanted o (yielded ops a.tmps) = true then Oper.wp P o a w K Q else E := by
  have hw : Region.wanted o (yielded ops a.tmps) = true := by simp [Region.wanted, hgd]
  rw [if_pos hw]
  unfold Oper.wp
  simp [execOp, ho, resolve, invoke, builtin, hs, hx, hrun, Result.andThen]
  exact h
/-- A number ahead of numbers, wherever it lies. -/
theorem lead2 {w V : World} {g : Nat} {a : Option Addr} {c : Nat} {l : List Int} (x : Int) (hg : V.heap[g]? = some (.cells #[.int .i64 x] 3)) (hgw : w.heap.size ≤ g) (hV : w.grownBy V none) (h : rd V (.slice a l.length c) l) (hl : l.length ≤ 1000) :
    ∃ a' cap' w', (Builtin.append_ #[22, 22] 22 #[.slice (some ⟨g, 0, none⟩) 1 1, .slice a l.length c]).run Tryd.prog V = .ok (.slice a' (l.length + 1) cap') w' ∧ OwnL w.heap.size w' a' cap' (x :: l) ∧ w.grownBy w' none := by
  have hown : OwnL w.heap.size V (some ⟨g, 0, none⟩) 1 [x] := ⟨rfl, .inr ⟨g, 1, #[.int .i64 x], rfl, hgw, hg, Nat.le_refl _, by first | rfl | decide | simp, by first | rfl | simp, by first | rfl | simp⟩⟩
  obtain ⟨i0, hi, hz0, hz1, hz2⟩ := info_parts info3
  have h' := h
  obtain ⟨a0, c0, he, hc⟩ := h'
  injection he with e1 e2 e3
  subst e1 e3
  cases a with
  | none =>
    rcases hc with rfl | ⟨b, off, e, _⟩
    · exact ⟨_, _, _, run_lead_none (Nat.le_refl _), hown, hV⟩
    · cases e
  | some ad =>
    obtain ⟨v', w', r1, r2, r3, r4, r5⟩ := run_append_own_at (P := Tryd.prog) V w.heap.size 22 22 3 i0 _ 1 8 Tryd.underlying22 hi hz0 hz1 hz2 rfl (by omega) _ _ _ hown ad l.length c (l.map (Value.int .i64)) (by simp)
      (fun j u hj => by
        rcases hc with rfl | ⟨b, off, e, hcell⟩
        · simp at hj
        · injection e with e
          subst e
          have hj' : j < l.length := by
            rcases Nat.lt_or_ge j l.length with h | h
            · exact h
            · rw [List.getElem?_eq_none (by simpa using h)] at hj
              cases hj
          rw [addn, hcell j hj']
          rw [List.getElem?_map] at hj
          simp [hj'] at hj
          simp [List.getD, hj', hj])
      (by intro u hu; simp at hu; obtain ⟨y, _, rfl⟩ := hu; rfl) (by unfold maxLen; simp; omega) (by simp; omega) (by have := at_lt hg; omega)
    have r2' := r2
    obtain ⟨_, ⟨hx, hn⟩ | ⟨g', cap', cur, rfl, _⟩⟩ := r2'
    · simp at hn
    · refine ⟨some ⟨g', 0, none⟩, cap', w', ?_, ?_, grown_join hV r3 (.inr fun y hy => ?_)⟩
      · refine Eq.trans r1 ?_; simp [Nat.add_comm]
      · unfold OwnL
        simpa [Nat.add_comm] using r2
      · have := World.ownsRow.lt hown y hy
        omega
theorem rdB_put {w : World} {q j : Nat} {xa ya : Option Addr} {xn xc yn yc : Nat} {X v : Value} {A : List Nat} (hb : w.heap[q]? = some (.cells #[.slice xa xn xc, .slice ya yn yc] 46)) (h : rdB w X A) : rdB (w.setCell ⟨q, j, none⟩ v) X A := by
  have hg : w.grownBy (w.setCell ⟨q, j, none⟩ v) (some q) := gr_set (World.grownBy.refl _ _) _ _
  obtain ⟨a, cap, rfl, hcap, h | ⟨b, off, rfl, hc⟩⟩ := h
  · exact ⟨a, cap, rfl, hcap, .inl h⟩
  · refine ⟨_, cap, rfl, hcap, .inr ⟨b, off, rfl, fun i hi => ?_⟩⟩
    refine hg.cell (hc i hi) ?_
    intro e
    injection e with e
    have h1 := hc i hi
    have e' : q = b := by simpa using e.symm
    subst e'
    rw [at_cell hb (off + i)] at h1
    match hj : off + i with
    | 0 => rw [hj] at h1; simp at h1
    | 1 => rw [hj] at h1; simp at h1
    | n + 2 => rw [hj] at h1; simp at h1
/-- The flash in its box; the two lists of words. -/
structure FS (w wx : World) (q : Nat) (a1 : Option Addr) (c1 : Nat) (ws1 : List Int) (a2 : Option Addr) (c2 : Nat) (ws2 : List Int) (xa : Option Addr) (xc : Nat) (A : List Nat) (ya : Option Addr) (yc : Nat) (B : List Nat) : Prop where
  box : wx.heap[q]? = some (.cells #[.slice xa A.length xc, .slice ya B.length yc] 46)
  ra : rdB wx (.slice xa A.length xc) A
  rb : rdB wx (.slice ya B.length yc) B
  fine : Fine A B
  o1 : OwnL (q + 1) wx a1 c1 ws1
  o2 : OwnL (q + 1) wx a2 c2 ws2
  gr : w.grownBy wx none
  low : w.heap.size ≤ q
theorem FS.grow {w wx wy : World} {q : Nat} {a1 : Option Addr} {c1 : Nat} {ws1 : List Int} {a2 : Option Addr} {c2 : Nat} {ws2 : List Int} {xa : Option Addr} {xc : Nat} {A : List Nat} {ya : Option Addr} {yc : Nat} {B : List Nat} (h : FS w wx q a1 c1 ws1 a2 c2 ws2 xa xc A ya yc B) (hg : wx.grownBy wy none) : FS w wy q a1 c1 ws1 a2 c2 ws2 xa xc A ya yc B :=
  ⟨kept hg h.box, rdB_grown h.ra hg, rdB_grown h.rb hg, h.fine, h.o1.kept hg, h.o2.kept hg, grown_join h.gr hg (.inl rfl), h.low⟩
theorem FS.put {w wx wy : World} {q : Nat} {a1 : Option Addr} {c1 : Nat} {ws1 : List Int} {a2 : Option Addr} {c2 : Nat} {ws2 : List Int} {xa : Option Addr} {xc : Nat} {A : List Nat} {ya : Option Addr} {yc : Nat} {B : List Nat} (h : FS w wx q a1 c1 ws1 a2 c2 ws2 xa xc A ya yc B) (hg : wx.grownBy wy none) {xa' : Option Addr} {xc' : Nat} {A' : List Nat} {ya' : Option Addr} {yc' : Nat} {B' : List Nat} (ha : rdB wy (.slice xa' A'.length xc') A') (hb : rdB wy (.slice ya' B'.length yc') B') (hF : Fine A' B') :
    FS w ((wy.setCell ⟨q, 0, none⟩ (.slice xa' A'.length xc')).setCell ⟨q, 1, none⟩ (.slice ya' B'.length yc')) q a1 c1 ws1 a2 c2 ws2 xa' xc' A' ya' yc' B' := by
  have hy := h.grow hg
  have b1 := at_set hy.box 0 (.slice xa' A'.length xc')
  have b2 := at_set b1 1 (.slice ya' B'.length yc')
  have gS : wy.grownBy ((wy.setCell ⟨q, 0, none⟩ (.slice xa' A'.length xc')).setCell ⟨q, 1, none⟩ (.slice ya' B'.length yc')) (some q) := gr_set (gr_set (World.grownBy.refl _ _) _ _) _ _
  exact ⟨b2, rdB_put b1 (rdB_put hy.box ha), rdB_put b1 (rdB_put hy.box hb), hF, own_but hy.o1 gS (Nat.lt_succ_self _), own_but hy.o2 gS (Nat.lt_succ_self _), grown_join hy.gr gS (.inr fun x hx => by injection hx with hx; have := h.low; omega), h.low⟩
end Go.Proofs.YtlbipcecdcmgdaaDoor
