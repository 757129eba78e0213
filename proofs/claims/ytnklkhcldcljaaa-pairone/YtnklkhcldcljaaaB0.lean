/- Picked by program out of texts of mine for another chapter: memory, lists, units and their copies. -/
import Derived.Test.YtnklkhcldcljaaaRows
import Derived.WalkKit
import Derived.WalkSpells
import Derived.WalkLawsBesides
import Derived.Outline
import Derived.Deep.LoopGhost
import Derived.Deep.QuietTactic
import Derived.BigQuiet
import Derived.Deep.RegionHeld3
import Derived.Deep.DrawnRows
import Derived.Maps.AppendAt
import Derived.Laws.AppendOwnNone
import Derived.Laws.CopyOwn
import Derived.Laws.MakeOwn
import Derived.OpenShut
import Derived.Laws.DeepNot64
import Derived.Laws.BitsLemmas
import Derived.Laws.BytesArg
import Derived.Deep.Cut
import Derived.Deep.CutRange
import Derived.Deep.CutBlock
import Derived.Deep.Slices
import Derived.ChangeSame
import Derived.SizedLaws
import Derived.ProofKit
import Derived.ShutString
import Derived.ChangeOld
import Derived.Below
import Derived.Stop.Joined
import Derived.Lib.SmallJoins
namespace Go.Proofs.Ytnklkhcldcljaaa
open Go.ChangeShapes Go.WideShapes Go.ChangeAt Go.RowKit
attribute [local go_sem ↓] Go.wp_at_zero Go.wp_at_succ
set_option linter.unusedVariables false
set_option linter.unusedSimpArgs false

theorem gr_set {w W : World} {p : Nat} (h : w.grownBy W (some p)) (i : Nat) (v : Value) : w.grownBy (W.setCell ⟨p, i, none⟩ v) (some p) :=
  ⟨h.os, h.tape, h.output, by simpa using h.size, fun k hk hne => by rw [Below.heap_setCell _ _ _ _ (fun e => hne (by rw [e]))]; exact h.block k hk hne⟩
theorem gr_alloc {w W : World} {r : Option Nat} (h : w.grownBy W r) (o : Obj) : w.grownBy (W.alloc o) r :=
  ⟨h.os, h.tape, h.output, by simp; have := h.size; omega, fun k hk hne => by rw [Below.heap_alloc _ _ _ (Nat.lt_of_lt_of_le hk h.size)]; exact h.block k hk hne⟩
theorem gr_drew {w W : World} {r : Option Nat} (h : w.grownBy W r) : w.grownBy W.drew r := ⟨h.os, h.tape, h.output, h.size, h.block⟩
theorem at_set {W : World} {p : Nat} {cs : Array Value} {T : TypeId} (h : W.heap[p]? = some (.cells cs T)) (i : Nat) (v : Value) : (W.setCell ⟨p, i, none⟩ v).heap[p]? = some (.cells (cs.setIfInBounds i v) T) :=
  heap_setCell_same W p i cs T v h
theorem at_cell {W : World} {p : Nat} {cs : Array Value} {T : TypeId} (h : W.heap[p]? = some (.cells cs T)) (i : Nat) : W.cell? ⟨p, i, none⟩ = cs[i]? := by
  simp [World.cell?, h]
theorem at_frozen {W : World} {p : Nat} {cs : Array Value} {T : TypeId} (h : W.heap[p]? = some (.cells cs T)) (i : Nat) : W.frozen? ⟨p, i, none⟩ = false := by
  simp [World.frozen?, h]
theorem at_lt {W : World} {p : Nat} {o : Obj} (h : W.heap[p]? = some o) : p < W.heap.size := (Array.getElem?_eq_some_iff.1 h).1
theorem gr_none {w W : World} {p : Nat} (h : w.grownBy W none) : w.grownBy W (some p) := ⟨h.os, h.tape, h.output, h.size, fun k hk _ => h.block k hk (by simp)⟩
theorem gr_own {w W : World} {p : Nat} (h : w.grownBy W none) (hp : w.heap.size ≤ p) (i : Nat) (v : Value) : w.grownBy (W.setCell ⟨p, i, none⟩ v) none :=
  ⟨h.os, h.tape, h.output, by simpa using h.size, fun k hk hne => by rw [Below.heap_setCell _ _ _ _ (by simp; omega)]; exact h.block k hk hne⟩
theorem hp_new {w : World} {k : Nat} (h : k = w.heap.size) (o : Obj) : (w.alloc o).heap[k]? = some o := by
  subst h
  exact heap_alloc_new w o
theorem hp_old {w : World} {k : Nat} (h : k < w.heap.size) (o : Obj) : (w.alloc o).heap[k]? = w.heap[k]? := Below.heap_alloc _ _ _ h
theorem hp_drew (w : World) (k : Nat) : w.drew.heap[k]? = w.heap[k]? := rfl
def rd (w : World) (v : Value) (l : List Int) : Prop :=
  ∃ a cap, v = .slice a l.length cap ∧ (l = [] ∨ ∃ b off, a = some ⟨b, off, none⟩ ∧ ∀ i, i < l.length → w.cell? ⟨b, off + i, none⟩ = some (.int .i64 (l.getD i 0)))
theorem rd_at {w : World} {v : Value} {l : List Int} (h : rd w v l) (hl : 0 < l.length) : ∃ b off cap, v = .slice (some ⟨b, off, none⟩) l.length cap ∧ ∀ i, i < l.length → w.cell? ⟨b, off + i, none⟩ = some (.int .i64 (l.getD i 0)) := by
  obtain ⟨a, cap, rfl, h | ⟨b, off, rfl, hc⟩⟩ := h
  · subst h; simp at hl
  · exact ⟨b, off, cap, rfl, hc⟩
theorem kept {w w' : World} {k : Nat} {o : Obj} (hg : w.grownBy w' none) (h : w.heap[k]? = some o) : w'.heap[k]? = some o := (hg.block k (at_lt h) (by simp)).trans h
theorem keptBut {w w' : World} {k p : Nat} {o : Obj} (hg : w.grownBy w' (some p)) (h : w.heap[k]? = some o) (hne : k ≠ p) : w'.heap[k]? = some o := (hg.block k (at_lt h) (by simpa using hne)).trans h
theorem rd_grown {w w' : World} {v : Value} {l : List Int} (h : rd w v l) (hg : w.grownBy w' none) : rd w' v l := by
  obtain ⟨a, cap, rfl, h | ⟨b, off, rfl, hc⟩⟩ := h
  · exact ⟨a, cap, rfl, .inl h⟩
  · exact ⟨_, cap, rfl, .inr ⟨b, off, rfl, fun i hi => hg.cell (hc i hi) (by simp)⟩⟩
theorem ck_set {W : World} {b i j p : Nat} {v x : Value} (hne : b ≠ p) (h : W.cell? ⟨b, j, none⟩ = some v) : (W.setCell ⟨p, i, none⟩ x).cell? ⟨b, j, none⟩ = some v := by
  rw [← h]
  exact World.cell?_of_block (Below.heap_setCell _ _ _ _ (by simpa using hne))
theorem wpList_append_run {P : Program} {w : World} {ops : Array Oper} {rest : List Oper} {o : Oper} {a : Act} {Q : Exit → Act → World → Prop} (hgd : o.guard = none) (s x : Operand) (t : TypeId)
    (ho : o.op = .call { callee := .builtin .append, args := #[s, x], argTypes := #[t, t] })
    (v u v' : Value) (w' : World) (hs : a.eval s = v) (hx : a.eval x = u) (hrun : (Builtin.append_ #[t, t] o.type #[v, u]).run P w = .ok v' w')
    (h : wpList P ops Q rest (a.put o.dst v') w') : wpList P ops Q (o :: rest) a w := by
  refine wpList_plain hgd fun K hK => ?_
  unfold Oper.wp
  simp [execOp, ho, resolve, invoke, builtin, hs, hx, hrun, Result.andThen]
  exact hK _ _ h
theorem grown_join {a b c : World} {row row' : Option Nat} (h : a.grownBy b row) (k : b.grownBy c row') (hr : row' = row ∨ ∀ x, row' = some x → a.heap.size ≤ x) : a.grownBy c row :=
  ⟨k.os.trans h.os, k.tape.trans h.tape, k.output.trans h.output, Nat.le_trans h.size k.size, fun x hx hne => by
    have h2 : some x ≠ row' := by
      rcases hr with rfl | hr
      · exact hne
      · intro e
        have := hr x e.symm
        omega
    exact (k.block x (Nat.lt_of_lt_of_le hx h.size) h2).trans (h.block x hx hne)⟩
theorem info_parts {P : Program} {e : TypeId} {z : Option Value} {n m : Nat} (h : (P.info? e).map (fun i => (i.zero, i.size, i.bytes)) = some (z, n, m)) : ∃ i, P.info? e = some i ∧ i.zero = z ∧ i.size = n ∧ i.bytes = m := by
  cases hi : P.info? e with
  | none => simp [hi] at h
  | some i =>
    simp [hi] at h
    exact ⟨i, rfl, h.1, h.2.1, h.2.2⟩
theorem info3 : (Try.prog.info? 3).map (fun i => (i.zero, i.size, i.bytes)) = some (some (.int .i64 0), 1, 8) := by kernel_rfl
def Mine (e size c : Nat) (w wx : World) (v : Value) (n : Nat) : Prop := ∃ xs, wx.ownsRow 0 e size v n xs ∧ (v.ownBlock = some c ∨ ∀ x, v.ownBlock = some x → w.heap.size ≤ x) ∧ w.grownBy wx (some c)
theorem gr_below {w w' : World} (h : Below w.heap.size w w') : w.grownBy w' none := ⟨h.os, h.tape, h.output, h.size, fun k hk _ => h.block k hk⟩
theorem below_gr {w w' : World} (h : w.grownBy w' none) : Below w.heap.size w w' := ⟨h.os, h.tape, h.output, h.size, fun k hk => h.block k hk (by simp)⟩
theorem gr_drewN {w W : World} {r : Option Nat} (h : w.grownBy W r) (n : Nat) : w.grownBy (W.drewN n) r := ⟨h.os, h.tape, h.output, h.size, h.block⟩
theorem addn (b off k : Nat) : (⟨b, off, none⟩ : Addr).add k = ⟨b, off + k, none⟩ := by unfold Addr.add; split <;> simp_all
/-- One element more, of whatever type. -/
theorem own_more {B t e size bytes n : Nat} {z : Value} {i : TypeInfo} (ht : Try.prog.underlying t = some (.slice e)) (hi : Try.prog.info? e = some i) (hz : i.zero = some z) (hs : i.size = size) (hb : i.bytes = bytes) (hzs : z.cells.size = size) (hpos : 0 < size)
    {w : World} {a : Option Addr} {cap : Nat} {xs : List Value} (h : w.ownsRow B e size (.slice a n cap) n xs) (cur : List Value) (hcur : cur.length = size) (h1 : ∀ u ∈ cur, u.oneCell' = true) (hn : n ≤ 1000000) (hb64 : bytes ≤ 64) (hB : B ≤ w.heap.size) :
    ∃ a' cap' w', (Builtin.append_ #[t, t] t #[.slice a n cap, .slice (some ⟨w.heap.size, 0, none⟩) 1 1]).run Try.prog (w.alloc (.cells cur.toArray e)) = .ok (.slice a' (n + 1) cap') w' ∧
      w'.ownsRow B e size (.slice a' (n + 1) cap') (n + 1) (xs ++ cur) ∧ ∀ w0 : World, w0.heap.size ≤ B → w0.grownBy w none → w0.grownBy w' none := by
  obtain ⟨v', w', r1, r2, r3, r4, r5⟩ := run_append_own_at (P := Try.prog) (w.alloc (.cells cur.toArray e)) B t t e i z size bytes ht hi hz hs hb hzs hpos _ _ _ (World.ownsRow.alloc h _) ⟨w.heap.size, 0, none⟩ 1 1 cur (by omega)
    (fun j u hj => by
      rw [addn, at_cell (heap_alloc_new w _) (0 + j)]
      simpa using hj)
    h1 (by unfold maxLen; omega) (by
      have : (n + 1) * bytes ≤ 1000001 * 64 := Nat.mul_le_mul (by omega) hb64
      omega) (by simp; omega)
  have r2' := r2
  obtain ⟨_, ⟨hx, hn⟩ | ⟨g', cap', cur, rfl, _⟩⟩ := r2'
  · omega
  · refine ⟨_, cap', w', r1, r2, fun w0 h0 hg => ?_⟩
    refine grown_join (gr_alloc hg _) r3 (.inr fun y hy => ?_)
    have := World.ownsRow.lt h y hy
    omega
theorem own_keep {B e size n : Nat} {w w' : World} {v : Value} {xs : List Value} (h : w.ownsRow B e size v n xs) (hg : w.grownBy w' none) : w'.ownsRow B e size v n xs :=
  World.ownsRow.kept h hg (by
    cases hv : v.ownBlock with
    | none => exact .inl rfl
    | some x => exact .inr (by simp))
/-- A list of numbers of one's own, from block B on. -/
def OwnL (B : Nat) (w : World) (a : Option Addr) (cap : Nat) (l : List Int) : Prop := w.ownsRow B 3 1 (.slice a l.length cap) l.length (l.map (Value.int .i64))
theorem OwnL.nil (B : Nat) (w : World) : OwnL B w none 0 [] := World.ownsRow_nil _ _ _ _
theorem OwnL.kept {B : Nat} {w w' : World} {a : Option Addr} {cap : Nat} {l : List Int} (h : OwnL B w a cap l) (hg : w.grownBy w' none) : OwnL B w' a cap l := own_keep h hg
theorem own_but {B e size n p : Nat} {w w' : World} {v : Value} {xs : List Value} (h : w.ownsRow B e size v n xs) (hg : w.grownBy w' (some p)) (hp : p < B) : w'.ownsRow B e size v n xs :=
  World.ownsRow.kept h hg (.inr fun e => by have := World.ownsRow.lt h p e; omega)
theorem own_low {B B' e size n : Nat} {w : World} {v : Value} {xs : List Value} (h : w.ownsRow B e size v n xs) (hB : B' ≤ B) : w.ownsRow B' e size v n xs := by
  obtain ⟨hl, h | ⟨g, cap, cur, hv, hb, hr⟩⟩ := h
  · exact ⟨hl, .inl h⟩
  · exact ⟨hl, .inr ⟨g, cap, cur, hv, by omega, hr⟩⟩
theorem OwnL.rd {B : Nat} {w : World} {a : Option Addr} {cap : Nat} {l : List Int} (h : OwnL B w a cap l) : rd w (.slice a l.length cap) l := by
  refine ⟨a, cap, rfl, ?_⟩
  have h' := h
  obtain ⟨_, ⟨hx, hn⟩ | ⟨g, cap', cur, hv, hb, hc, _⟩⟩ := h
  · left; exact List.length_eq_zero_iff.1 hn
  · injection hv with e1 e2 e3
    subst e1 e3
    right
    refine ⟨g, 0, rfl, fun i hi => ?_⟩
    rw [Nat.zero_add, World.ownsRow.cellAt h' i (by omega)]
    simp [hi]
/-- One more. -/
theorem OwnL.more {B : Nat} {w : World} {a : Option Addr} {cap : Nat} {l : List Int} (h : OwnL B w a cap l) (x : Int) (hl : l.length ≤ 1000000) (hB : B ≤ w.heap.size) :
    ∃ a' cap' w', (Builtin.append_ #[22, 22] 22 #[.slice a l.length cap, .slice (some ⟨w.heap.size, 0, none⟩) 1 1]).run Try.prog (w.alloc (.cells #[.int .i64 x] 3)) = .ok (.slice a' (l.length + 1) cap') w' ∧
      OwnL B w' a' cap' (l ++ [x]) ∧ ∀ w0 : World, w0.heap.size ≤ B → w0.grownBy w none → w0.grownBy w' none := by
  obtain ⟨i0, hi, hz0, hz1, hz2⟩ := info_parts info3
  obtain ⟨a', cap', w', r1, r2, r3⟩ := own_more Try.underlying22 hi hz0 hz1 hz2 rfl (by omega) h [.int .i64 x] rfl (by simp [Value.oneCell']) hl (by omega) hB
  refine ⟨a', cap', w', r1, ?_, r3⟩
  unfold OwnL
  simpa using r2
/-- All of a list, behind none. -/
theorem run_append_all {P : Program} (w : World) (t ty e : TypeId) (i : TypeInfo) (z : Value) (size bytes : Nat) (ht : P.underlying t = some (.slice e)) (hi : P.info? e = some i) (hz : i.zero = some z)
    (hsize : i.size = size) (hby : i.bytes = bytes) (hzs : z.cells.size = size) (hsz : 0 < size) (a : Option Addr) (m c : Nat) (news : List Value) (hl : news.length = m * size)
    (hnews : m = 0 ∨ ∃ b off, a = some ⟨b, off, none⟩ ∧ ∀ j u, news[j]? = some u → w.cell? ((⟨b, off, none⟩ : Addr).add j) = some u) (h1 : ∀ u ∈ news, u.oneCell' = true)
    (h63 : m ≤ maxLen) (hbytes : m * bytes ≤ 140737488355328) :
    ∃ oa oc w', (Builtin.append_ #[t, t] ty #[.slice none 0 0, .slice a m c]).run P w = .ok (.slice oa m oc) w' ∧ w'.ownsRow w.heap.size e size (.slice oa m oc) m news ∧ w.grownBy w' none := by
  rcases hnews with h0 | ⟨b, off, rfl, hc⟩
  · subst h0
    refine ⟨none, 0, w, ?_, ⟨hl, .inl ⟨rfl, rfl⟩⟩, World.grownBy.refl _ _⟩
    cases a <;> simp [Builtin.append_, run_underlying ht, sizeOf, typeInfo, hi, Builtin.lenOf, Builtin.firstCells, loadCells, loadCellsFrom]
  · obtain ⟨v', w', r1, r2, r3, _, _⟩ := run_append_own_at (P := P) w w.heap.size t ty e i z size bytes ht hi hz hsize hby hzs hsz _ 0 [] (World.ownsRow_nil _ _ _ _) ⟨b, off, none⟩ m c news hl hc h1 (by omega) (by simpa using hbytes) (Nat.le_refl _)
    have r2' : w'.ownsRow w.heap.size e size v' m news := by simpa using r2
    obtain ⟨_, ⟨hv, hm⟩ | ⟨g, cap, cur, hv, _⟩⟩ := r2'
    · subst hv hm
      exact ⟨none, 0, w', r1, by simpa using r2, r3⟩
    · subst hv
      exact ⟨some ⟨g, 0, none⟩, cap, w', r1, by simpa using r2, r3⟩
def OwnV (B : Nat) (w : World) (v : Value) (l : List Int) : Prop := w.ownsRow B 3 1 v l.length (l.map (Value.int .i64))
theorem OwnV.store {B : Nat} {w : World} {g cap : Nat} {l : List Int} (h : OwnV B w (.slice (some ⟨g, 0, none⟩) l.length cap) l) (k : Nat) (x : Int) :
    OwnV B (w.setCell ⟨g, k, none⟩ (.int .i64 x)) (.slice (some ⟨g, 0, none⟩) l.length cap) (l.set k x) := by
  obtain ⟨h1, h2 | ⟨g', cap', cur, e, hb, hc, hn, hm, hs, ht⟩⟩ := h
  · simp at h2
  · simp at e
    obtain ⟨rfl, rfl⟩ := e
    refine ⟨by simp, .inr ⟨g, cap, cur.setIfInBounds k (.int .i64 x), by simp, hb, at_set hc k _, by simpa using hn, hm, by simpa using hs, ?_⟩⟩
    rw [List.length_set, Array.toList_setIfInBounds, List.take_set, ht, List.map_set]
theorem OwnV.frozen {B : Nat} {w : World} {g cap : Nat} {l : List Int} (h : OwnV B w (.slice (some ⟨g, 0, none⟩) l.length cap) l) (k : Nat) : w.frozen? ⟨g, k, none⟩ = false := by
  obtain ⟨h1, h2 | ⟨g', cap', cur, e, hb, hc, hn, hm, hs, ht⟩⟩ := h
  · simp at h2
  · simp at e
    obtain ⟨rfl, rfl⟩ := e
    exact at_frozen hc k
theorem OwnV.get {B : Nat} {w : World} {g cap : Nat} {l : List Int} (h : OwnV B w (.slice (some ⟨g, 0, none⟩) l.length cap) l) (i : Nat) (hi : i < l.length) : w.cell? ⟨g, i, none⟩ = some (.int .i64 (l.getD i 0)) := by
  rw [World.ownsRow.cellAt h i (by omega)]
  simp [hi]
theorem OwnV.mine {B : Nat} {w wx : World} {g cap : Nat} {l : List Int} (h : OwnV B wx (.slice (some ⟨g, 0, none⟩) l.length cap) l) (hg : w.grownBy wx (some g)) : Mine 3 1 g w wx (.slice (some ⟨g, 0, none⟩) l.length cap) l.length := by
  obtain ⟨h1, h2 | ⟨g', cap', cur, e, hb, hc, hn, hm, hs, ht⟩⟩ := h
  · simp at h2
  · simp at e
    obtain ⟨rfl, rfl⟩ := e
    exact ⟨_, ⟨h1, .inr ⟨g, cap, cur, rfl, Nat.zero_le _, hc, hn, hm, hs, ht⟩⟩, .inl rfl, hg⟩
theorem hidG {p : Prop} (h : Hid p) : p := h
theorem hidI {p : Prop} (h : p) : Hid p := h
theorem ret_int {k : IntKind} {a b : Int} (h : a = b) : Ending.returned (.int k a) = .returned (.int k b) := by rw [h]
theorem ret_bool {a b : Bool} (h : a = b) : Ending.returned (.bool a) = .returned (.bool b) := by rw [h]
def wi (lo hi n : Int) : Bool := decide (lo ≤ n) && decide (n ≤ hi)
theorem wi_yes {lo hi n : Int} (h : lo ≤ n) (k : n ≤ hi) : wi lo hi n = true := by simp [wi, h, k]
theorem wi_iff {lo hi n : Int} : wi lo hi n = true ↔ lo ≤ n ∧ n ≤ hi := by simp [wi]
theorem within_any (n lo hi : Int) (w : World) : Calls Try.prog 49 #[.int .i64 n, .int .i64 lo, .int .i64 hi] w fun e w' => e = .returned (.bool (wi lo hi n)) ∧ w = w' := by
  unfold wi
  go_enter Try.func49, Try.ntmps49
  by_cases h0 : lo ≤ n
  · go_wp2
    go_ret
    refine ⟨ret_bool ?_, rfl⟩
    simp [h0]
  · have h1 : n < lo := by omega
    go_wp2
    go_ret
    refine ⟨ret_bool ?_, rfl⟩
    simp
    omega
theorem step_append_run {P : Program} {w : World} {ops : Array Oper} {o : Oper} {a : Act} {K : Act → World → Prop} {Q : Exit → Act → World → Prop} {E : Prop} (hgd : o.guard = none) (s x : Operand) (t : TypeId)
    (ho : o.op = .call { callee := .builtin .append, args := #[s, x], argTypes := #[t, t] })
    (v u v' : Value) (w' : World) (hs : a.eval s = v) (hx : a.eval x = u) (hrun : (Builtin.append_ #[t, t] o.type #[v, u]).run P w = .ok v' w')
    (h : K (a.put o.dst v') w') : if Region.wanted o (yielded ops a.tmps) = true then Oper.wp P o a w K Q else E := by
  have hw : Region.wanted o (yielded ops a.tmps) = true := by simp [Region.wanted, hgd]
  rw [if_pos hw]
  unfold Oper.wp
  simp [execOp, ho, resolve, invoke, builtin, hs, hx, hrun, Result.andThen]
  exact h
theorem sameInts_yes (v u : Value) (l : List Int) (w : World) (hv : rd w v l) (hu : rd w u l) (hb : l.length ≤ 17592186044416) :
    Calls Try.prog 34 #[v, u] w fun e w' => e = .returned (.bool true) ∧ w.grownBy w' none := by
  obtain ⟨a, cap, rfl, ha⟩ := hv
  obtain ⟨a', cap', rfl, ha'⟩ := hu
  have HA : Hid (l = [] ∨ ∃ b off, a = some ⟨b, off, none⟩ ∧ ∀ i, i < l.length → w.cell? ⟨b, off + i, none⟩ = some (.int .i64 (l.getD i 0))) := ha
  have HA' : Hid (l = [] ∨ ∃ b off, a' = some ⟨b, off, none⟩ ∧ ∀ i, i < l.length → w.cell? ⟨b, off + i, none⟩ = some (.int .i64 (l.getD i 0))) := ha'
  clear ha ha'
  obtain ⟨n, hn⟩ : ∃ n, l.length = n := ⟨_, rfl⟩
  have HN : Hid (l.length = n) := hn
  rw [hn] at hb ⊢
  clear hn
  go_enter Try.func34, Try.ntmps34
  go_wp2
  go_loopg [5] n (fun gk s5 wx => ∃ k : Nat, s5 = .int .i64 k ∧ k ≤ n ∧ gk = n - k ∧ w.grownBy wx none)
  case atStart => exact ⟨0, rfl, Nat.zero_le _, by omega, World.grownBy.refl _ _⟩
  case round =>
    obtain ⟨k, rfl, hk, hgk, hgr⟩ := hrel
    have HG : Hid (gk = n - k) := hgk
    clear hgk
    by_cases hlt : k < n
    · have hkl : k < l.length := by rw [HN.out]; exact hlt
      rcases HA.out with h | ⟨b, off, rfl, hc⟩
      · subst h; simp at hkl
      rcases HA'.out with h | ⟨b', off', rfl, hc'⟩
      · subst h; simp at hkl
      have q0 := hgr.cell (hc k hkl) (by simp)
      have q1 := hgr.cell (hc' k hkl) (by simp)
      clear hc hc'
      generalize l.getD k 0 = x at q0 q1
      have i1 : (0 : Int) ≤ (k : Int) := by omega
      have i2 : (k : Int) < (n : Int) := by omega
      go_wp2
      go_region_held3 (fun w' => w'.cell? ⟨b, off + k, none⟩ = some (.int .i64 x) ∧ w'.cell? ⟨b', off' + k, none⟩ = some (.int .i64 x)) (go_keep) (fail)
      go_wp2
      have hgl := HG.out
      go_roundg (n - (k + 1))
      all_goals first | omega | exact ⟨k + 1, by go_num, by omega, by omega, gr_drew hgr⟩
    · have hk' : ¬ ((k : Int) < (n : Int)) := by omega
      go_wp2
      go_ret
      exact ⟨rfl, hgr⟩
/-- One number more, however many there are. -/
theorem mine_more8 {c : Nat} {w wx : World} {v : Value} {n : Nat} (h : Mine 3 1 c w wx v n) (z : Int) (hn : n ≤ 17592186044000) :
    ∃ v' w', (Builtin.append_ #[22, 22] 22 #[v, .slice (some ⟨wx.heap.size, 0, none⟩) 1 1]).run Try.prog (wx.alloc (.cells #[.int .i64 z] 3)) = .ok v' w' ∧ Mine 3 1 c w w' v' (n + 1) := by
  obtain ⟨i0, hi, hz0, hz1, hz2⟩ := info_parts info3
  obtain ⟨xs, hown, hor, hgr⟩ := h
  obtain ⟨v', w', r1, r2, r3, _, r5⟩ := run_append_own_at (P := Try.prog) (wx.alloc (.cells #[.int .i64 z] 3)) 0 22 22 3 i0 _ 1 8 Try.underlying22 hi hz0 hz1 hz2 rfl (by omega) v n xs (hown.alloc _) ⟨wx.heap.size, 0, none⟩ 1 1 [.int .i64 z] rfl
    (fun j u hj => by
      rw [addn, at_cell (heap_alloc_new wx _) _]
      simpa using hj)
    (by simp [Value.oneCell']) (by unfold maxLen; omega) (by omega) (Nat.zero_le _)
  refine ⟨v', w', r1, _, r2, ?_, ?_⟩
  · rcases r5 with h5 | h5
    · rw [h5]; exact hor
    · right
      intro x hx
      rw [h5] at hx
      simp at hx
      have := hgr.size
      omega
  · refine grown_join (gr_alloc hgr _) r3 ?_
    rcases hor with h | h
    · exact .inl h
    · exact .inr h
set_option maxHeartbeats 2000000 in
theorem over_own (B g cap : Nat) (l : List Int) (z : Int) (w : World) (hl : l.length ≤ 17592186043904) (h : OwnV B w (.slice (some ⟨g, 0, none⟩) l.length cap) l) :
    Calls Try.prog 17 #[.slice (some ⟨g, 0, none⟩) l.length cap, .int .i64 z] w fun e w' => e = .returned (.tuple #[]) ∧ w.grownBy w' (some g) := by
  obtain ⟨n, hn⟩ : ∃ n, l.length = n := ⟨_, rfl⟩
  have HO : Hid (OwnV B w (.slice (some ⟨g, 0, none⟩) n cap) l) := by rw [← hn]; exact h
  have HN : Hid (l.length = n) := hn
  rw [hn] at hl ⊢
  clear h hn
  go_enter Try.func17, Try.ntmps17
  go_wp2
  go_loopg [4] n (fun gk s4 wx => ∃ (k : Nat) (ar : List Int), s4 = .int .i64 k ∧ k ≤ n ∧ gk = n - k ∧ ar.length = n ∧ OwnV B wx (.slice (some ⟨g, 0, none⟩) ar.length cap) ar ∧ w.grownBy wx (some g))
  case atStart => exact ⟨0, l, rfl, Nat.zero_le _, by omega, HN.out, by rw [HN.out]; exact HO.out, World.grownBy.refl _ _⟩
  case round =>
    obtain ⟨k, ar, rfl, hk, hgk, has, har, hgr⟩ := hrel
    have HG : Hid (gk = n - k) := hgk
    have HA : Hid (OwnV B wr (.slice (some ⟨g, 0, none⟩) ar.length cap) ar) := har
    have HS : Hid (ar.length = n) := has
    clear hgk
    by_cases hlt : k < n
    · have q0 := har.get k (by omega)
      have f0 := har.frozen k
      clear har has
      have i1 : (0 : Int) ≤ (k : Int) := by omega
      have i2 : (k : Int) < (n : Int) := by omega
      go_wp2
      have hgl := HG.out
      go_roundg (n - (k + 1))
      all_goals first | omega | exact ⟨k + 1, ar.set k z, by go_num, by omega, by omega, by simp [HS.out], by rw [List.length_set]; exact HA.out.store k z, gr_set hgr _ _⟩
    · have hk' : ¬ ((k : Int) < (n : Int)) := by omega
      have HM : Hid (Mine 3 1 g w wr (.slice (some ⟨g, 0, none⟩) n cap) n) := by have := HA.out.mine hgr; rw [HS.out] at this; exact this
      clear har HG
      go_wp2
      go_loopg [0, 5] 20 (fun gk s0 s5 wx => ∃ (j m : Nat), s5 = .int .i64 j ∧ j ≤ 20 ∧ gk = 20 - j ∧ Mine 3 1 g w wx s0 m ∧ m ≤ 17592186043904 + j)
      case atStart => exact ⟨0, n, rfl, Nat.zero_le _, by omega, HM.out, by omega⟩
      case round =>
        obtain ⟨j, m, rfl, hj, hgj, hmine, hm⟩ := hrel
        have HG : Hid (_ = _) := hgj
        clear hgj
        by_cases hlt : j < 20
        · obtain ⟨v', w', hrun, hmine'⟩ := mine_more8 hmine z (by omega)
          have HRUN : Hid (_ = _) := hrun
          have HM : Hid (Mine 3 1 g w w' v' (m + 1)) := hmine'
          clear hmine hrun hmine'
          have j2 : (j : Int) < 20 := by omega
          go_wp2_with (first | (at_builtin; refine wpList_append_run rfl _ _ 22 rfl _ _ v' w' rfl rfl HRUN.out ?_))
          have hgl := HG.out
          go_roundg (20 - (j + 1))
          all_goals first | omega | exact ⟨j + 1, m + 1, by go_num, by omega, by omega, HM.out, by omega⟩
        · have hj' : ¬ ((j : Int) < 20) := by omega
          obtain ⟨_, _, _, hg⟩ := hmine
          go_wp2
          go_end0
          exact ⟨rfl, hg⟩
set_option maxHeartbeats 2000000 in
theorem over_nil (z : Int) (w : World) : Calls Try.prog 17 #[.slice none 0 0, .int .i64 z] w fun e w' => e = .returned (.tuple #[]) ∧ w.grownBy w' none := by
  obtain ⟨i0, hi, hz0, hz1, hz2⟩ := info_parts info3
  go_enter Try.func17, Try.ntmps17
  go_wp2
  refine wp_loop_rounds 1 ?_
  rw [rounds_succ]
  go_wp2
  go_loopg [0, 5] 20 (fun gk s0 s5 wx => ∃ (j m : Nat) (xs : List Value), s5 = .int .i64 j ∧ j ≤ 20 ∧ gk = 20 - j ∧ wx.ownsRow w.heap.size 3 1 s0 m xs ∧ m ≤ j ∧ w.grownBy wx none)
  case atStart => exact ⟨0, 0, [], rfl, Nat.zero_le _, by omega, World.ownsRow_nil _ _ _ _, by omega, World.grownBy.refl _ _⟩
  case round =>
    obtain ⟨j, m, xs, rfl, hj, hgj, hown, hm, hgr⟩ := hrel
    have HG : Hid (_ = _) := hgj
    clear hgj
    by_cases hlt : j < 20
    · obtain ⟨v', w', r1, r2, r3, _, r5⟩ := run_append_own_at (P := Try.prog) (wr.alloc (.cells #[.int .i64 z] 3)) w.heap.size 22 22 3 i0 _ 1 8 Try.underlying22 hi hz0 hz1 hz2 rfl (by omega) _ m xs (hown.alloc _) ⟨wr.heap.size, 0, none⟩ 1 1 [.int .i64 z] rfl
        (fun j u hj => by
          rw [addn, at_cell (heap_alloc_new wr _) _]
          simpa using hj)
        (by simp [Value.oneCell']) (by unfold maxLen; omega) (by omega) (by have := hgr.size; simp; omega)
      have hgr' : w.grownBy w' none := grown_join (gr_alloc hgr _) r3 (.inr fun x hx => (hown.lt x hx).1)
      have HRUN : Hid (_ = _) := r1
      have HO : Hid (World.ownsRow w' w.heap.size 3 1 v' (m + 1) _) := r2
      clear hown r1 r2 r3 r5 hi hz0 hz1 hz2
      have j2 : (j : Int) < 20 := by omega
      go_wp2_with (first | (at_builtin; refine wpList_append_run rfl _ _ 22 rfl _ _ v' w' rfl rfl HRUN.out ?_))
      have hgl := HG.out
      go_roundg (20 - (j + 1))
      all_goals first | omega | exact ⟨j + 1, m + 1, _, by go_num, by omega, by omega, HO.out, by omega, hgr'⟩
    · have hj' : ¬ ((j : Int) < 20) := by omega
      clear hi hz0 hz1 hz2
      go_wp2
      go_end0
      exact ⟨rfl, hgr⟩
/-- over, whatever list of one's own. -/
theorem over_any (B : Nat) (v : Value) (l : List Int) (z : Int) (w : World) (hl : l.length ≤ 17592186043904) (h : OwnV B w v l) :
    Calls Try.prog 17 #[v, .int .i64 z] w fun e w' => e = .returned (.tuple #[]) ∧ w.grownBy w' v.ownBlock := by
  have h' := h
  obtain ⟨_, ⟨rfl, hn⟩ | ⟨g, cap, cur, rfl, _⟩⟩ := h'
  · exact over_nil z w
  · exact over_own B g cap l z w hl h
theorem own_ne {B e size n : Nat} {r : Option Nat} {w w' : World} {v : Value} {xs : List Value} (h : w.ownsRow B e size v n xs) (hg : w.grownBy w' r) (hne : ∀ x, v.ownBlock = some x → r ≠ some x) : w'.ownsRow B e size v n xs :=
  World.ownsRow.kept h hg (by
    cases hv : v.ownBlock with
    | none => exact .inl rfl
    | some x => exact .inr (fun e => hne x hv e.symm))
theorem rd.cells {w : World} {a : Option Addr} {cap : Nat} {l : List Int} (h : rd w (.slice a l.length cap) l) : l.length = 0 ∨ ∃ b off, a = some ⟨b, off, none⟩ ∧ ∀ j u, (l.map (Value.int .i64))[j]? = some u → w.cell? ((⟨b, off, none⟩ : Addr).add j) = some u := by
  obtain ⟨a', cap', e, h | ⟨b, off, rfl, hc⟩⟩ := h
  · left; simp [h]
  · injection e with e1 e2 e3
    subst e1 e3
    refine .inr ⟨b, off, rfl, fun j u hj => ?_⟩
    simp at hj
    obtain ⟨x, hx, rfl⟩ := hj
    have hj : j < l.length := (List.getElem?_eq_some_iff.1 hx).1
    rw [addn, hc j hj]
    simp [List.getD_eq_getElem?_getD, hx]
/-- All numbers of a list, behind none. -/
theorem copyL {w : World} {a : Option Addr} {cap : Nat} {l : List Int} (h : rd w (.slice a l.length cap) l) (hl : l.length ≤ 17592186043904) :
    ∃ oa oc w', (Builtin.append_ #[22, 22] 22 #[.slice none 0 0, .slice a l.length cap]).run Try.prog w = .ok (.slice oa l.length oc) w' ∧ OwnL w.heap.size w' oa oc l ∧ w.grownBy w' none := by
  obtain ⟨i0, hi, hz0, hz1, hz2⟩ := info_parts info3
  obtain ⟨oa, oc, w', h1, h2, h3⟩ := run_append_all (P := Try.prog) w 22 22 3 i0 _ 1 8 Try.underlying22 hi hz0 hz1 hz2 rfl (by omega) a l.length cap (l.map (Value.int .i64)) (by simp) h.cells (by intro u hu; simp at hu; obtain ⟨x, _, rfl⟩ := hu; rfl) (by unfold maxLen; omega) (by omega)
  exact ⟨oa, oc, w', h1, h2, h3⟩
/-- All of a list behind an empty one of one's own. -/
theorem run_clone {w : World} {a : Option Addr} {cap : Nat} {l : List Int} (h : rd w (.slice a l.length cap) l) (hl : l.length ≤ 17592186043904) (ha : a ≠ none) :
    ∃ oa oc w', (Builtin.append_ #[22, 22] 22 #[.slice (some ⟨w.heap.size, 0, none⟩) 0 0, .slice a l.length cap]).run Try.prog (w.alloc (.cells #[] 3)) = .ok (.slice oa l.length oc) w' ∧ OwnL w.heap.size w' oa oc l ∧ w.grownBy w' none := by
  obtain ⟨i0, hi, hz0, hz1, hz2⟩ := info_parts info3
  have h0 : (w.alloc (.cells #[] 3)).ownsRow w.heap.size 3 1 (.slice (some ⟨w.heap.size, 0, none⟩) 0 0) 0 [] := ⟨rfl, .inr ⟨w.heap.size, 0, #[], rfl, Nat.le_refl _, heap_alloc_new w _, Nat.le_refl _, by unfold maxLen; omega, rfl, rfl⟩⟩
  have hg : w.grownBy (w.alloc (.cells #[] 3)) none := gr_alloc (World.grownBy.refl _ _) _
  obtain ⟨ad, rfl⟩ : ∃ ad, a = some ad := by
    cases a with
    | none => exact absurd rfl ha
    | some ad => exact ⟨ad, rfl⟩
  have hcell : ∀ j u, (l.map (Value.int .i64))[j]? = some u → (w.alloc (.cells #[] 3)).cell? (ad.add j) = some u := by
    rcases h.cells with h1 | ⟨b, off, e, hc⟩
    · have : l = [] := List.length_eq_zero_iff.1 h1
      subst this
      intro j u hj
      simp at hj
    · injection e with e
      subst e
      intro j u hj
      exact hg.cell (hc j u hj) (by simp)
  obtain ⟨v', w', r1, r2, r3, r4, r5⟩ := run_append_own_at (P := Try.prog) (w.alloc (.cells #[] 3)) w.heap.size 22 22 3 i0 _ 1 8 Try.underlying22 hi hz0 hz1 hz2 rfl (by omega) _ _ _ h0 ad l.length cap (l.map (Value.int .i64)) (by simp) hcell (by intro u hu; simp at hu; obtain ⟨x, _, rfl⟩ := hu; rfl) (by unfold maxLen; omega) (by omega) (by simp)
  rw [Nat.zero_add, List.nil_append] at r2
  have r2' := r2
  obtain ⟨_, ⟨hv, hm⟩ | ⟨g, cap', cur, hv, _⟩⟩ := r2'
  · subst hv
    rw [hm] at r2 ⊢
    rw [hm] at r1
    exact ⟨none, 0, w', r1, by unfold OwnL; rw [hm]; exact r2, grown_join hg r3 (.inr fun x hx => by simp [Value.ownBlock] at hx; omega)⟩
  · subst hv
    exact ⟨_, _, w', r1, r2, grown_join hg r3 (.inr fun x hx => by simp [Value.ownBlock] at hx; omega)⟩
def ClP (w w' : World) (e : Ending) (l : List Int) : Prop := ∃ a c, e = .returned (.slice a l.length c) ∧ OwnL w.heap.size w' a c l ∧ w.grownBy w' none
set_option maxHeartbeats 1000000 in
theorem clone_any (l : List Int) (v : Value) (w : World) (hv : rd w v l) (hl : l.length ≤ 17592186043904) : Calls Try.prog 33 #[v] w fun e w' => ClP w w' e l := by
  obtain ⟨a, cap, rfl, ha⟩ := id hv
  cases a with
  | none =>
    have hl0 : l = [] := by
      rcases ha with h | ⟨b, off, h, _⟩
      · exact h
      · cases h
    subst hl0
    have hq := Lib.run_eql_slice_nil (P := Try.prog) w 22 3 none 0 cap 0 0 Try.underlying22
    simp only [List.length_nil]
    go_enter Try.func33, Try.ntmps33
    go_wp2
    go_ret
    exact ⟨none, 0, rfl, OwnL.nil _ _, World.grownBy.refl _ _⟩
  | some ad =>
    obtain ⟨oa, oc, w2, hrun, ho, hg⟩ := run_clone hv hl (by simp)
    have HRUN : Hid (_ = _) := hrun
    have hq := Lib.run_eql_slice_nil (P := Try.prog) w 22 3 (some ad) l.length cap 0 0 Try.underlying22
    clear hrun ha hv
    go_enter Try.func33, Try.ntmps33
    go_wp2_with (first | (at_builtin; refine hidG ?_))
    refine hidI ?_
    refine wpList_append_run rfl _ _ 22 rfl _ _ _ w2 rfl rfl HRUN.out ?_
    go_wp2
    go_ret
    exact ⟨oa, oc, rfl, ho, hg⟩
theorem box7 {W : World} {q : Nat} {y0 y1 y2 y3 y4 y5 y6 x0 x1 x2 x3 x4 x5 x6 : Value} {T : TypeId} (h : W.heap[q]? = some (.cells #[y0, y1, y2, y3, y4, y5, y6] T)) : ((((((((W).setCell ⟨q, 0, none⟩ x0).setCell ⟨q, 1, none⟩ x1).setCell ⟨q, 2, none⟩ x2).setCell ⟨q, 3, none⟩ x3).setCell ⟨q, 4, none⟩ x4).setCell ⟨q, 5, none⟩ x5).setCell ⟨q, 6, none⟩ x6).heap[q]? = some (.cells #[x0, x1, x2, x3, x4, x5, x6] T) := by
  have := at_set (at_set (at_set (at_set (at_set (at_set (at_set h 0 x0) 1 x1) 2 x2) 3 x3) 4 x4) 5 x5) 6 x6
  simpa using this
theorem gr7 {w W : World} {q : Nat} {x0 x1 x2 x3 x4 x5 x6 : Value} (h : w.grownBy W (some q)) : w.grownBy ((((((((W).setCell ⟨q, 0, none⟩ x0).setCell ⟨q, 1, none⟩ x1).setCell ⟨q, 2, none⟩ x2).setCell ⟨q, 3, none⟩ x3).setCell ⟨q, 4, none⟩ x4).setCell ⟨q, 5, none⟩ x5).setCell ⟨q, 6, none⟩ x6) (some q) :=
  gr_set (gr_set (gr_set (gr_set (gr_set (gr_set (gr_set h _ _) _ _) _ _) _ _) _ _) _ _) _ _
theorem gr7n {w W : World} {q : Nat} {x0 x1 x2 x3 x4 x5 x6 : Value} (h : w.grownBy W none) (hq : w.heap.size ≤ q) : w.grownBy ((((((((W).setCell ⟨q, 0, none⟩ x0).setCell ⟨q, 1, none⟩ x1).setCell ⟨q, 2, none⟩ x2).setCell ⟨q, 3, none⟩ x3).setCell ⟨q, 4, none⟩ x4).setCell ⟨q, 5, none⟩ x5).setCell ⟨q, 6, none⟩ x6) none :=
  gr_own (gr_own (gr_own (gr_own (gr_own (gr_own (gr_own h hq _ _) hq _ _) hq _ _) hq _ _) hq _ _) hq _ _) hq _ _
theorem at7 {W : World} {q : Nat} {y0 y1 y2 y3 y4 y5 y6 : Value} {T : TypeId} (h : W.heap[q]? = some (.cells #[y0, y1, y2, y3, y4, y5, y6] T)) : (W.cell? ⟨q, 0, none⟩ = some y0 ∧ W.cell? ⟨q, 1, none⟩ = some y1 ∧ W.cell? ⟨q, 2, none⟩ = some y2 ∧ W.cell? ⟨q, 3, none⟩ = some y3 ∧ W.cell? ⟨q, 4, none⟩ = some y4 ∧ W.cell? ⟨q, 5, none⟩ = some y5 ∧ W.cell? ⟨q, 6, none⟩ = some y6) :=
  ⟨at_cell h 0, at_cell h 1, at_cell h 2, at_cell h 3, at_cell h 4, at_cell h 5, at_cell h 6⟩
theorem fz7 {W : World} {q : Nat} {cs : Array Value} {T : TypeId} (h : W.heap[q]? = some (.cells cs T)) : (W.frozen? ⟨q, 0, none⟩ = false ∧ W.frozen? ⟨q, 1, none⟩ = false ∧ W.frozen? ⟨q, 2, none⟩ = false ∧ W.frozen? ⟨q, 3, none⟩ = false ∧ W.frozen? ⟨q, 4, none⟩ = false ∧ W.frozen? ⟨q, 5, none⟩ = false ∧ W.frozen? ⟨q, 6, none⟩ = false) :=
  ⟨at_frozen h 0, at_frozen h 1, at_frozen h 2, at_frozen h 3, at_frozen h 4, at_frozen h 5, at_frozen h 6⟩
theorem take_next {l : List Int} {k : Nat} (h : k < l.length) : l.take (k + 1) = l.take k ++ [l.getD k 0] := by
  rw [List.take_add_one]
  simp [List.getD, h]
theorem OwnL.set {B : Nat} {w : World} {a : Option Addr} {cap q i : Nat} {l : List Int} {v : Value} (h : OwnL B w a cap l) (hq : q < B) : OwnL B (w.setCell ⟨q, i, none⟩ v) a cap l := own_but h (gr_set (World.grownBy.refl _ _) _ _) hq
def in64 (n : Int) : Prop := -9223372036854775808 ≤ n ∧ n ≤ 9223372036854775807
def pk (n : Int) (m : Nat) : Nat := ((if n < 0 then -(n + 1) else n) % (m : Int)).toNat
theorem pk_lt (n : Int) {m : Nat} (h : 0 < m) : pk n m < m := by
  unfold pk
  have h1 := Int.emod_lt_of_pos (if n < 0 then -(n + 1) else n) (show (0 : Int) < m by omega)
  have h2 := Int.emod_nonneg (if n < 0 then -(n + 1) else n) (show (m : Int) ≠ 0 by omega)
  omega
theorem pk_cast (n : Int) {m : Nat} (h : 0 < m) : ((pk n m : Nat) : Int) = (if n < 0 then -(n + 1) else n) % (m : Int) := by
  unfold pk
  have h2 := Int.emod_nonneg (if n < 0 then -(n + 1) else n) (show (m : Int) ≠ 0 by omega)
  omega
theorem picked_any (n : Int) (m : Nat) (w : World) (hn : in64 n) (hm : 0 < m) (hm2 : m < 9223372036854775807) : Calls Try.prog 26 #[.int .i64 n, .int .i64 (m : Int)] w fun e w' => e = .returned (.int .i64 ((pk n m : Nat) : Int)) ∧ w = w' := by
  have hc := pk_cast n hm
  obtain ⟨h1, h2⟩ := hn
  have hm0 : (0 : Int) < (m : Int) := by omega
  have hm1 : ¬ (m : Int) = 0 := by omega
  by_cases h : n < 0
  · rw [if_pos h] at hc
    have e2 : (-(n + 1)).tmod (m : Int) = -(n + 1) % (m : Int) := Int.tmod_eq_emod_of_nonneg (by omega)
    go_enter Try.func26, Try.ntmps26
    go_wp2
    go_ret
    refine ⟨ret_int ?_, rfl⟩
    rw [hc]
  · rw [if_neg h] at hc
    have e2 : n.tmod (m : Int) = n % (m : Int) := Int.tmod_eq_emod_of_nonneg (by omega)
    go_enter Try.func26, Try.ntmps26
    go_wp2
    go_ret
    exact ⟨ret_int rfl, rfl⟩
set_option maxHeartbeats 1000000 in
theorem keepEq_any (la lb : List Int) (u v : Value) (w : World) (hu : rd w u la) (hv : rd w v lb) (hl : la.length ≤ 17592186044416) (hl2 : lb.length ≤ 17592186044416) : Calls Try.prog 30 #[u, v] w fun e w' => e = .returned (.bool (decide (la = lb))) ∧ w.grownBy w' none := by
  obtain ⟨a, cap, rfl, ha⟩ := hu
  obtain ⟨b, cap', rfl, hb⟩ := hv
  by_cases hne : la.length = lb.length
  · have HA : Hid (la = [] ∨ ∃ b off, a = some ⟨b, off, none⟩ ∧ ∀ i, i < la.length → w.cell? ⟨b, off + i, none⟩ = some (.int .i64 (la.getD i 0))) := ha
    have HB : Hid (lb = [] ∨ ∃ b' off, b = some ⟨b', off, none⟩ ∧ ∀ i, i < lb.length → w.cell? ⟨b', off + i, none⟩ = some (.int .i64 (lb.getD i 0))) := hb
    obtain ⟨n, hn⟩ : ∃ n, la.length = n := ⟨_, rfl⟩
    have hn' : lb.length = n := by omega
    have HN : Hid (la.length = n) := hn
    have HN' : Hid (lb.length = n) := hn'
    rw [hn, hn']
    rw [hn] at hl
    clear hn hn' hne ha hb hl2
    go_enter Try.func30, Try.ntmps30
    go_wp2
    go_loopg [5] n (fun gk s5 wx => ∃ k : Nat, s5 = .int .i64 k ∧ k ≤ n ∧ gk = n - k ∧ Hid (la.take k = lb.take k) ∧ w.grownBy wx none)
    case atStart => exact ⟨0, rfl, Nat.zero_le _, by omega, hidI rfl, World.grownBy.refl _ _⟩
    case round =>
      obtain ⟨k, rfl, hk, hgk, HT, hgr⟩ := hrel
      have HG : Hid (gk = n - k) := hgk
      clear hgk
      by_cases hlt : k < n
      · have hka : k < la.length := by rw [HN.out]; exact hlt
        have hkb : k < lb.length := by rw [HN'.out]; exact hlt
        rcases HA.out with h | ⟨b1, o1, rfl, hc⟩
        · subst h; simp at hka
        rcases HB.out with h | ⟨b2, o2, rfl, hc'⟩
        · subst h; simp at hkb
        have q0 := hgr.cell (hc k hka) (by simp)
        have q1 := hgr.cell (hc' k hkb) (by simp)
        have eA : la.take (k + 1) = la.take k ++ [la.getD k 0] := by rw [List.take_add_one]; simp [List.getD, hka]
        have eB : lb.take (k + 1) = lb.take k ++ [lb.getD k 0] := by rw [List.take_add_one]; simp [List.getD, hkb]
        have HXY : Hid (la.getD k 0 ≠ lb.getD k 0 → decide (la = lb) = false) := hidI (fun hne => by
          rw [decide_eq_false_iff_not]
          intro he
          exact hne (by rw [he]))
        have HT2 : Hid (la.getD k 0 = lb.getD k 0 → la.take (k + 1) = lb.take (k + 1)) := hidI (fun he => by rw [eA, eB, HT.out, he])
        clear hc hc' hka hkb eA eB
        generalize la.getD k 0 = x at *
        generalize lb.getD k 0 = y at *
        have j1 : (0 : Int) ≤ (k : Int) := by omega
        have j2 : (k : Int) < (n : Int) := by omega
        by_cases hxy : x = y
        · subst hxy
          have HT3 : Hid (_ = _) := HT2.out rfl
          clear HT2
          go_wp2
          go_region_held3 (fun w' => w'.cell? ⟨b1, o1 + k, none⟩ = some (.int .i64 x) ∧ w'.cell? ⟨b2, o2 + k, none⟩ = some (.int .i64 x)) (go_keep) (fail)
          go_wp2
          have hgl := HG.out
          go_roundg (n - (k + 1))
          all_goals first | omega | exact ⟨k + 1, by go_num, by omega, by omega, HT3, gr_drew hgr⟩
        · have HF : Hid (_ = _) := HXY.out hxy
          go_wp2
          go_region_held3 (fun w' => w'.cell? ⟨b1, o1 + k, none⟩ = some (.int .i64 x) ∧ w'.cell? ⟨b2, o2 + k, none⟩ = some (.int .i64 y)) (go_keep) (fail)
          go_wp2
          go_ret
          exact ⟨ret_bool HF.out.symm, gr_drew hgr⟩
      · have j2 : ¬ (k : Int) < (n : Int) := by omega
        have HE : Hid (decide (la = lb) = true) := hidI (by
          rw [decide_eq_true_iff]
          have := HT.out
          rwa [List.take_of_length_le (by rw [HN.out]; omega), List.take_of_length_le (by rw [HN'.out]; omega)] at this)
        go_wp2
        go_ret
        exact ⟨ret_bool HE.out.symm, hgr⟩
  · have i0 : ¬ (la.length : Int) = (lb.length : Int) := by omega
    have hd : decide (la = lb) = false := by
      rw [decide_eq_false_iff_not]
      intro h
      exact hne (by rw [h])
    rw [hd]
    go_enter Try.func30, Try.ntmps30
    go_wp2
    go_ret
    exact ⟨rfl, World.grownBy.refl _ _⟩
theorem keepEq_yes (l : List Int) (u v : Value) (w : World) (hu : rd w u l) (hv : rd w v l) (hl : l.length ≤ 17592186044416) : Calls Try.prog 30 #[u, v] w fun e w' => e = .returned (.bool true) ∧ w.grownBy w' none :=
  (keepEq_any l l u v w hu hv hl hl).mono fun e w' h => ⟨by rw [h.1]; simp, h.2⟩
theorem two_rd (w : World) (x y : Int) : rd (w.alloc (.cells #[.int .i64 x, .int .i64 y] 3)) (.slice (some ⟨w.heap.size, 0, none⟩) 2 2) [x, y] :=
  ⟨_, _, rfl, .inr ⟨_, 0, rfl, fun i hi => by
    rw [at_cell (heap_alloc_new w _)]
    have : i = 0 ∨ i = 1 := by simp at hi; omega
    rcases this with rfl | rfl <;> rfl⟩⟩
theorem bytes3 : Try.prog.bytesOf 3 = 8 := by kernel_rfl
theorem cells3 : Try.prog.cellsOf 3 = 1 := by kernel_rfl
theorem spot_none {w : World} {x : Addr} {v : Value} (h : w.cell? (x.add 0) = some v) : ∃ b off, x = ⟨b, off, none⟩ := by
  have hs := World.cell?_spot h
  obtain ⟨b, off, sp⟩ := x
  cases sp with
  | none => exact ⟨b, off, rfl⟩
  | some y => simp [Addr.add] at hs
section
variable {H : Type} {enc : TypeId × Value → H} {w : World}
theorem rd_sized {fuel : Nat} {v : Value} {x : DataW H × List MemPlace} (h : DataW.trod enc Try.prog w 0 (fun _ => true) true fuel 22 [v] = some x) (hw : ∀ n ∈ x.1.weights Try.prog 22, n ≤ reachBytes) : ∃ l, rd w v l ∧ l.length ≤ 17592186043904 := by
  rcases open_ints Try.underlying22 Try.underlying3 cells3 h with ⟨hcs, _⟩ | ⟨a, len, cap, zs, hcs, _, hl, hm, hz, hx, hcell, hwz⟩
  · simp at hcs
    subst hcs
    exact ⟨[], ⟨_, _, rfl, .inl rfl⟩, by simp⟩
  · simp at hcs hz
    subst hcs
    have hlen : (zs.take len).length = len := by simp; omega
    have hb : len ≤ 17592186043904 := by
      have := hw ((zs.take len).length * 8 + (zs.drop len).length * 8) (by
        rw [hx]
        simp only [DataW.weights, Try.underlying22, bytes3, lits, List.length_map, List.mem_cons]
        left
        omega)
      unfold reachBytes at this
      omega
    refine ⟨zs.take len, ⟨a, cap, by rw [hlen], ?_⟩, by rw [hlen]; exact hb⟩
    by_cases h0 : len = 0
    · left
      simp [h0]
    · right
      obtain ⟨b, off, rfl⟩ := spot_none (hcell 0 (by omega))
      refine ⟨b, off, rfl, fun i hi => ?_⟩
      have hi' : i < len := by rw [hlen] at hi; exact hi
      have hc := hcell i (by omega)
      rw [addn] at hc
      rw [hc]
      have e : (zs.take len).getD i 0 = zs.getD i 0 := by
        simp [List.getD, hi']
      rw [e]
end
theorem all_laidOut : laidOutB Try.prog = true := by kernel_rfl
theorem all_own : ownKnob Try.prog.godebug = none := by kernel_rfl
theorem len7 {α : Type} {l : List α} (h : l.length = 7) : ∃ a b c d e f g, l = [a, b, c, d, e, f, g] := by
  match l, h with
  | [a, b, c, d, e, f, g], _ => exact ⟨a, b, c, d, e, f, g, rfl⟩
theorem array7 {α : Type} {cs : Array α} (h : cs.size = 7) : ∃ a b c d e f g, cs = #[a, b, c, d, e, f, g] := by
  obtain ⟨l⟩ := cs
  obtain ⟨a, b, c, d, e, f, g, rfl⟩ := len7 (l := l) h
  exact ⟨a, b, c, d, e, f, g, rfl⟩
theorem cells22 : Try.prog.cellsOf 22 = 1 := by kernel_rfl
theorem cells4 : Try.prog.cellsOf 4 = 1 := by kernel_rfl
end Go.Proofs.Ytnklkhcldcljaaa
