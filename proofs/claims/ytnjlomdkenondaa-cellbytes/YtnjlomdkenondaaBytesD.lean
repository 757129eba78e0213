/- What is kept of rows and of readings; append, where its run is known. -/
import Derived.Test.YtnjlomdkenondaaBytesC
import Derived.Maps.AppendAt
import Derived.Laws.AppendOwnNone
namespace Go.Proofs.Ytnjlomdkenondaa
open Go.RowKit

theorem wpList_append_run {P : Program} {w : World} {ops : Array Oper} {rest : List Oper} {o : Oper} {a : Act} {Q : Exit → Act → World → Prop} (hgd : o.guard = none) (s x : Operand) (t : TypeId)
    (ho : o.op = .call { callee := .builtin .append, args := #[s, x], argTypes := #[t, t] })
    (v u v' : Value) (w' : World) (hs : a.eval s = v) (hx : a.eval x = u) (hrun : (Builtin.append_ #[t, t] o.type #[v, u]).run P w = .ok v' w')
    (h : wpList P ops Q rest (a.put o.dst v') w') : wpList P ops Q (o :: rest) a w := by
  refine wpList_plain hgd fun K hK => ?_
  unfold Oper.wp
  simp [execOp, ho, resolve, invoke, builtin, hs, hx, hrun, Result.andThen]
  exact hK _ _ h

theorem own_below {w w' : World} {base : Nat} {e : TypeId} {size : Nat} {v : Value} {n : Nat} {xs : List Value} (h : w.ownsRow base e size v n xs) (hb : Below w.heap.size w w') : w'.ownsRow base e size v n xs := by
  refine ⟨h.1, ?_⟩
  rcases h.2 with ⟨rfl, h0⟩ | ⟨g, cap, cur, rfl, hg, hh, hn, hm, hs, ht⟩
  · exact .inl ⟨rfl, h0⟩
  · have hlt : g < w.heap.size := (Array.getElem?_eq_some_iff.1 hh).1
    exact .inr ⟨g, cap, cur, rfl, hg, (hb.block g hlt).trans hh, hn, hm, hs, ht⟩

theorem rd_below {w w' : World} {v : Value} {l : List Int} (h : rd w v l) (hb : Below w.heap.size w w') : rd w' v l := by
  rcases h with h | ⟨b, off, cap, rfl, hp, hl, hc⟩
  · exact .inl h
  · refine .inr ⟨b, off, cap, rfl, hp, hl, fun i hi => ?_⟩
    have h1 := hc i hi
    have hlt : b < w.heap.size := World.block_lt_of_cell? w _ h1
    rw [← h1]
    exact hb.cell (p := ⟨b, off + i, none⟩) hlt

theorem below_to {A B : Nat} {a b c : World} (h : Below A a b) (k : Below B b c) (hAB : A ≤ B) : Below A a c := h.trans (k.mono hAB)

theorem Try.info5 : (Try.prog.info? 5).map (fun i => (i.zero, i.size, i.bytes)) = some (some (.int .u8 0), 1, 1) := by kernel_rfl

/-- Appending a reading to what is owned. -/
theorem append_rd {w : World} (base : Nat) (v : Value) (n : Nat) (xs : List Value) (hown : w.ownsRow base 5 1 v n xs) (u : Value) (l : List Int) (hr : rd w u l)
    (hb : n + l.length ≤ 140737488355328) (hbase : base ≤ w.heap.size) (hnil : ∀ a cap, u = .slice a 0 cap → (a = none → cap = 0)) :
    ∃ v' w', (Builtin.append_ #[31, 31] 31 #[v, u]).run Try.prog w = .ok v' w' ∧ w'.ownsRow base 5 1 v' (n + l.length) (xs ++ l.map (Value.int .u8)) ∧ w.grownBy w' v.ownBlock ∧ (v'.ownBlock = v.ownBlock ∨ v'.ownBlock = some w.heap.size) := by
  obtain ⟨i0, hi, hz0, hz1, hz2⟩ := info_parts Try.info5
  rcases hr with ⟨rfl, a, cap, rfl⟩ | ⟨b, off, cap, rfl, hp, hl, hc⟩
  · cases a with
    | none =>
      have := hnil none cap rfl rfl
      subst this
      refine ⟨v, w, run_append_owned_none w base 31 31 5 i0 1 Try.underlying31 hi v n xs hown, by simpa using hown, World.grownBy.refl _ _, .inl rfl⟩
    | some a =>
      obtain ⟨v', w', h1, h2, h3, _, h5⟩ := run_append_own_at (P := Try.prog) w base 31 31 5 i0 (.int .u8 0) 1 1 Try.underlying31 hi hz0 hz1 hz2 rfl (by decide) v n xs hown a 0 cap [] (by simp) (by simp) (by simp) (by unfold maxLen; simp at hb; omega) (by simp at hb; omega) hbase
      exact ⟨v', w', h1, by simpa using h2, h3, h5⟩
  · obtain ⟨v', w', h1, h2, h3, _, h5⟩ := run_append_own_at (P := Try.prog) w base 31 31 5 i0 (.int .u8 0) 1 1 Try.underlying31 hi hz0 hz1 hz2 rfl (by decide) v n xs hown ⟨b, off, none⟩ l.length cap (l.map (Value.int .u8)) (by simp)
      (fun j x hj => by
        have hjl : j < l.length := by
          rcases Nat.lt_or_ge j l.length with h | h
          · exact h
          · simp [List.getElem?_eq_none (show (l.map (Value.int .u8)).length ≤ j by simpa using h)] at hj
        have hplain : (⟨b, off, none⟩ : Addr).add j = ⟨b, off + j, none⟩ := by unfold Addr.add; split <;> simp_all
        rw [hplain, hc j hjl]
        simp [List.getElem?_eq_getElem hjl] at hj
        subst hj
        simp [hjl])
      (ints_oneCell .u8 l) (by unfold maxLen; omega) (by omega) hbase
    exact ⟨v', w', h1, h2, h3, h5⟩

/-- Two bytes, or one, that were just laid. -/
theorem rd_new2 (w : World) (x y : Int) : rd (w.alloc (.cells #[.int .u8 x, .int .u8 y] 5)) (.slice (some ⟨w.heap.size, 0, none⟩) 2 2) [x, y] := by
  refine .inr ⟨w.heap.size, 0, 2, rfl, by simp, by simp, fun i hi => ?_⟩
  have h : i = 0 ∨ i = 1 := by simp at hi; omega
  rcases h with rfl | rfl <;> simp
theorem rd_new1 (w : World) (x : Int) : rd (w.alloc (.cells #[.int .u8 x] 5)) (.slice (some ⟨w.heap.size, 0, none⟩) 1 1) [x] := by
  refine .inr ⟨w.heap.size, 0, 1, rfl, by simp, by simp, fun i hi => ?_⟩
  have h : i = 0 := by simp at hi; omega
  subst h; simp
theorem grown_join {a b c : World} {row row' : Option Nat} (h : a.grownBy b row) (k : b.grownBy c row') (hr : row' = row ∨ ∀ x, row' = some x → a.heap.size ≤ x) : a.grownBy c row :=
  ⟨k.os.trans h.os, k.tape.trans h.tape, k.output.trans h.output, Nat.le_trans h.size k.size, fun x hx hne => by
    rw [k.block x (Nat.lt_of_lt_of_le hx h.size) ?_, h.block x hx hne]
    intro e
    rcases hr with hr | hr
    · exact hne (e.trans hr)
    · have := hr x e.symm; omega⟩
theorem below_of_grown {w w' : World} {row : Option Nat} {B : Nat} (h : w.grownBy w' row) (hB : B ≤ w.heap.size) (hr : ∀ k, row = some k → B ≤ k) : Below B w w' :=
  (Below.refl B w).grown h hB hr
end Go.Proofs.Ytnjlomdkenondaa
