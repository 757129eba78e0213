/- An owner writes over its pins, and behind them. -/
import Derived.Test.YtphnadhkoigegaaM
import Derived.Deep.LoopGhost
import Derived.Deep.QuietTactic
import Derived.BigQuiet
import Derived.Deep.RegionHeld3
import Derived.Maps.AppendAt
import Derived.Laws.AppendOwnNone
namespace Go.Proofs.Ytphnadhkoigegaa
open Go.RowKit
attribute [local go_sem ↓] Go.wp_at_zero Go.wp_at_succ
set_option linter.unusedVariables false
set_option linter.unusedSimpArgs false

theorem wpList_append_run {P : Program} {w : World} {ops : Array Oper} {rest : List Oper} {o : Oper} {a : Act} {Q : Exit → Act → World → Prop} (hgd : o.guard = none) (s x : Operand) (t : TypeId)
    (ho : o.op = .call { callee := .builtin .append, args := #[s, x], argTypes := #[t, t] })
    (v u v' : Value) (w' : World) (hs : a.eval s = v) (hx : a.eval x = u) (hrun : (Builtin.append_ #[t, t] o.type #[v, u]).run P w = .ok v' w')
    (h : wpList P ops Q rest (a.put o.dst v') w') : wpList P ops Q (o :: rest) a w := by
  refine wpList_plain hgd fun K hK => ?_
  unfold Oper.wp
  simp [execOp, ho, resolve, invoke, builtin, hs, hx, hrun, Result.andThen]
  exact hK _ _ h
theorem grown_join {a b c : World} {row row' : Option Nat} (h : a.grownBy b row) (k : b.grownBy c row') (hr : row' = row ∨ ∀ x, row' = some x → a.heap.size ≤ x) : a.grownBy c row :=
  ⟨k.os.trans h.os, k.tape.trans h.tape, k.output.trans h.output, Nat.le_trans h.size k.size, fun x hx hne => by
    have h2 : some x ≠ row' := by
      rcases hr with rfl | hr
      · exact hne
      · intro e
        have := hr x e.symm
        omega
    exact (k.block x (Nat.lt_of_lt_of_le hx h.size) h2).trans (h.block x hx hne)⟩
theorem info_parts {P : Program} {e : TypeId} {z : Option Value} {n m : Nat} (h : (P.info? e).map (fun i => (i.zero, i.size, i.bytes)) = some (z, n, m)) : ∃ i, P.info? e = some i ∧ i.zero = z ∧ i.size = n ∧ i.bytes = m := by
  cases hi : P.info? e with
  | none => simp [hi] at h
  | some i =>
    simp [hi] at h
    exact ⟨i, rfl, h.1, h.2.1, h.2.2⟩
theorem info49 : (Try.prog.info? 49).map (fun i => (i.zero, i.size, i.bytes)) = some (some (.agg #[.string ByteArray.empty, .int .i64 0]), 2, 24) := by kernel_rfl
theorem info3 : (Try.prog.info? 3).map (fun i => (i.zero, i.size, i.bytes)) = some (some (.int .i64 0), 1, 8) := by kernel_rfl

/-- What an owner's list is, behind some appends: its own block, or one made since. -/
def Mine (e size c : Nat) (w wx : World) (v : Value) (n : Nat) : Prop := ∃ xs, wx.ownsRow 0 e size v n xs ∧ (v.ownBlock = some c ∨ ∀ x, v.ownBlock = some x → w.heap.size ≤ x) ∧ w.grownBy wx (some c)

theorem mine_more {e size bytes t c : Nat} {z : Value} {w wx : World} {v : Value} {n : Nat} {i : TypeInfo} (ht : Try.prog.underlying t = some (.slice e)) (hi : Try.prog.info? e = some i) (hz : i.zero = some z) (hs : i.size = size) (hb : i.bytes = bytes) (hzs : z.cells.size = size) (hpos : 0 < size)
    (h : Mine e size c w wx v n) (cur : List Value) (hcur : cur.length = size) (h1 : ∀ u ∈ cur, u.oneCell' = true) (hn : n ≤ 1000) (hb64 : bytes ≤ 64) :
    ∃ v' w', (Builtin.append_ #[t, t] t #[v, .slice (some ⟨wx.heap.size, 0, none⟩) 1 1]).run Try.prog (wx.alloc (.cells cur.toArray e)) = .ok v' w' ∧ Mine e size c w w' v' (n + 1) := by
  obtain ⟨xs, hown, hor, hgr⟩ := h
  obtain ⟨v', w', r1, r2, r3, _, r5⟩ := run_append_own_at (P := Try.prog) (wx.alloc (.cells cur.toArray e)) 0 t t e i z size bytes ht hi hz hs hb hzs hpos v n xs (hown.alloc _) ⟨wx.heap.size, 0, none⟩ 1 1 cur (by omega)
    (fun j u hj => by
      have e1 : (⟨wx.heap.size, 0, none⟩ : Addr).add j = ⟨wx.heap.size, j, none⟩ := by unfold Addr.add; split <;> simp_all
      rw [e1, at_cell (heap_alloc_new wx _) j]
      simpa using hj)
    h1 (by unfold maxLen; omega) (by
      have : (n + 1) * bytes ≤ 1001 * 64 := Nat.mul_le_mul (by omega) hb64
      omega) (Nat.zero_le _)
  refine ⟨v', w', r1, _, r2, ?_, ?_⟩
  · rcases r5 with h5 | h5
    · rw [h5]; exact hor
    · right
      intro x hx
      rw [h5] at hx
      simp at hx
      have := hgr.size
      omega
  · refine grown_join (gr_alloc hgr _) r3 ?_
    rcases hor with h | h
    · exact .inl h
    · exact .inr h

theorem mine_start {e size c : Nat} {w wx : World} {arr : Array Value} {n : Nat} (h : wx.heap[c]? = some (.cells arr e)) (hs : arr.size = n * size) (hn : n ≤ 1000) (hg : w.grownBy wx (some c)) : Mine e size c w wx (.slice (some ⟨c, 0, none⟩) n n) n :=
  ⟨arr.toList.take (n * size), ⟨by simp [hs], .inr ⟨c, n, arr, rfl, Nat.zero_le _, h, Nat.le_refl _, by unfold maxLen; omega, hs, rfl⟩⟩, .inl rfl, hg⟩

set_option maxHeartbeats 2000000 in
theorem overPins_any (c n : Nat) (arr : Array Value) (w : World) (hn : n ≤ 5) (hc : w.heap[c]? = some (.cells arr 49)) (hs : arr.size = n * 2) :
    Calls Try.prog 11 #[.slice (some ⟨c, 0, none⟩) n n] w fun e w' => e = .returned (.tuple #[]) ∧ w.grownBy w' (some c) := by
  go_enter Try.func11, Try.ntmps11
  go_wp2
  go_loopg [2] n (fun gk s2 wx => ∃ (k : Nat) (ar : Array Value), s2 = .int .i64 k ∧ k ≤ n ∧ gk = n - k ∧ wx.heap[c]? = some (.cells ar 49) ∧ ar.size = n * 2 ∧ w.grownBy wx (some c))
  case atStart => exact ⟨0, arr, rfl, Nat.zero_le _, by omega, hc, hs, World.grownBy.refl _ _⟩
  case round =>
    obtain ⟨k, ar, rfl, hk, hgk, har, has, hgr⟩ := hrel
    have HG : Hid (gk = n - k) := hgk
    have HA : Hid (wr.heap[c]? = some (.cells ar 49)) := har
    clear hgk hc hs
    by_cases hlt : k < n
    · have q0 : wr.cell? ⟨c, k * 2, none⟩ = some (ar[k * 2]'(by omega)) := by rw [at_cell har]; simp [show k * 2 < ar.size by omega, show k * 2 + 1 < ar.size by omega]
      have q1 : wr.cell? ⟨c, k * 2 + 1, none⟩ = some (ar[k * 2 + 1]'(by omega)) := by rw [at_cell har]; simp [show k * 2 < ar.size by omega, show k * 2 + 1 < ar.size by omega]
      have f0 := at_frozen har (k * 2)
      have f1 := at_frozen har (k * 2 + 1)
      clear har
      generalize ar[k * 2]'(by omega) = x0 at q0
      generalize ar[k * 2 + 1]'(by omega) = x1 at q1
      have i1 : (0 : Int) ≤ (k : Int) := by omega
      have i2 : (k : Int) < (n : Int) := by omega
      go_wp2
      have hgl := HG.out
      go_roundg (n - (k + 1))
      all_goals first | omega | exact ⟨k + 1, _, by go_num, by omega, by omega, at_set (at_set HA.out _ _) _ _, by simp; omega, gr_set (gr_set hgr _ _) _ _⟩
    · have hk' : ¬ ((k : Int) < (n : Int)) := by omega
      clear har HG
      go_wp2
      go_loopg [0, 3] 20 (fun gk s0 s3 wx => ∃ (j m : Nat), s3 = .int .i64 j ∧ j ≤ 20 ∧ gk = 20 - j ∧ Mine 49 2 c w wx s0 m ∧ m ≤ 5 + j)
      case atStart => exact ⟨0, n, rfl, Nat.zero_le _, by omega, mine_start HA.out has (by omega) hgr, by omega⟩
      case round =>
        obtain ⟨j, m, rfl, hj, hgj, hmine, hm⟩ := hrel
        have HG : Hid (_ = _) := hgj
        clear hgj
        by_cases hlt : j < 20
        · obtain ⟨i0, hi, hz0, hz1, hz2⟩ := info_parts info49
          obtain ⟨v', w', hrun, hmine'⟩ := mine_more Try.underlying22 hi hz0 hz1 hz2 rfl (by omega) hmine [.string { data := #[111, 118, 101, 114] }, .int .i64 0] rfl (by simp [Value.oneCell']) (by omega) (by omega)
          have HRUN : Hid (_ = _) := hrun
          have HM : Hid (Mine 49 2 c w w' v' (m + 1)) := hmine'
          clear hmine hrun hmine' hi hz0 hz1 hz2
          have j2 : (j : Int) < 20 := by omega
          go_wp2_with (first | (at_builtin; refine wpList_append_run rfl _ _ 22 rfl _ _ v' w' rfl rfl HRUN.out ?_))
          have hgl := HG.out
          go_roundg (20 - (j + 1))
          all_goals first | omega | exact ⟨j + 1, m + 1, by go_num, by omega, by omega, HM.out, by omega⟩
        · have hj' : ¬ ((j : Int) < 20) := by omega
          obtain ⟨_, _, _, hg⟩ := hmine
          go_wp2
          go_end0
          exact ⟨rfl, hg⟩

set_option maxHeartbeats 2000000 in
theorem overPins_nil (w : World) : Calls Try.prog 11 #[.slice none 0 0] w fun e w' => e = .returned (.tuple #[]) ∧ w.grownBy w' none := by
  have hmine : ∃ xs, w.ownsRow w.heap.size 49 2 (.slice none 0 0) 0 xs := ⟨[], World.ownsRow_nil _ _ _ _⟩
  obtain ⟨i0, hi, hz0, hz1, hz2⟩ := info_parts info49
  go_enter Try.func11, Try.ntmps11
  go_wp2
  refine wp_loop_rounds 1 ?_
  rw [rounds_succ]
  go_wp2
  go_loopg [0, 3] 20 (fun gk s0 s3 wx => ∃ (j m : Nat) (xs : List Value), s3 = .int .i64 j ∧ j ≤ 20 ∧ gk = 20 - j ∧ wx.ownsRow w.heap.size 49 2 s0 m xs ∧ m ≤ j ∧ w.grownBy wx none)
  case atStart => exact ⟨0, 0, [], rfl, Nat.zero_le _, by omega, World.ownsRow_nil _ _ _ _, by omega, World.grownBy.refl _ _⟩
  case round =>
    obtain ⟨j, m, xs, rfl, hj, hgj, hown, hm, hgr⟩ := hrel
    have HG : Hid (_ = _) := hgj
    clear hgj
    by_cases hlt : j < 20
    · obtain ⟨v', w', r1, r2, r3, _, r5⟩ := run_append_own_at (P := Try.prog) (wr.alloc (.cells #[.string { data := #[111, 118, 101, 114] }, .int .i64 0] 49)) w.heap.size 22 22 49 i0 _ 2 24 Try.underlying22 hi hz0 hz1 hz2 rfl (by omega) _ m xs (hown.alloc _) ⟨wr.heap.size, 0, none⟩ 1 1 [.string { data := #[111, 118, 101, 114] }, .int .i64 0] rfl
        (fun j u hj => by
          have e1 : (⟨wr.heap.size, 0, none⟩ : Addr).add j = ⟨wr.heap.size, j, none⟩ := by unfold Addr.add; split <;> simp_all
          rw [e1, at_cell (heap_alloc_new wr _) j]
          simpa using hj)
        (by simp [Value.oneCell']) (by unfold maxLen; omega) (by omega) (by have := hgr.size; simp; omega)
      have hgr' : w.grownBy w' none := grown_join (gr_alloc hgr _) r3 (.inr fun x hx => (hown.lt x hx).1)
      have HRUN : Hid (_ = _) := r1
      have HO : Hid (World.ownsRow w' w.heap.size 49 2 v' (m + 1) _) := r2
      clear hown r1 r2 r3 r5 hi hz0 hz1 hz2
      have j2 : (j : Int) < 20 := by omega
      go_wp2_with (first | (at_builtin; refine wpList_append_run rfl _ _ 22 rfl _ _ v' w' rfl rfl HRUN.out ?_))
      have hgl := HG.out
      go_roundg (20 - (j + 1))
      all_goals first | omega | exact ⟨j + 1, m + 1, _, by go_num, by omega, by omega, HO.out, by omega, hgr'⟩
    · have hj' : ¬ ((j : Int) < 20) := by omega
      clear hi hz0 hz1 hz2 hmine
      go_wp2
      go_end0
      exact ⟨rfl, hgr⟩
end Go.Proofs.Ytphnadhkoigegaa
