/- Memory, lists, units in memory, copied units; sameInts, roomy, left. -/
import Derived.Test.YtmkgobmlpmjocaaRows
import Derived.WalkKit
import Derived.WalkSpells
import Derived.WalkLawsBesides
import Derived.Outline
import Derived.Deep.LoopGhost
import Derived.Deep.QuietTactic
import Derived.BigQuiet
import Derived.Deep.RegionHeld3
import Derived.Deep.DrawnRows
import Derived.Maps.AppendAt
import Derived.Laws.AppendOwnNone
import Derived.Laws.CopyOwn
import Derived.Laws.MakeOwn
import Derived.OpenShut
import Derived.Deep.RegionWith
import Derived.WalkSmall
import Derived.Deep.DeepCutAuto
import Derived.BigRegion
import Derived.Deep.AppendLies
import Derived.Deep.RegionLaw
import Derived.Deep.CutBlock
namespace Go.Proofs.Ytmkgobmlpmjocaa
open Go.RowKit
attribute [local go_sem ↓] Go.wp_at_zero Go.wp_at_succ
set_option linter.unusedVariables false
set_option linter.unusedSimpArgs false


theorem gr_set {w W : World} {p : Nat} (h : w.grownBy W (some p)) (i : Nat) (v : Value) : w.grownBy (W.setCell ⟨p, i, none⟩ v) (some p) :=
  ⟨h.os, h.tape, h.output, by simpa using h.size, fun k hk hne => by rw [Below.heap_setCell _ _ _ _ (fun e => hne (by rw [e]))]; exact h.block k hk hne⟩
theorem gr_alloc {w W : World} {r : Option Nat} (h : w.grownBy W r) (o : Obj) : w.grownBy (W.alloc o) r :=
  ⟨h.os, h.tape, h.output, by simp; have := h.size; omega, fun k hk hne => by rw [Below.heap_alloc _ _ _ (Nat.lt_of_lt_of_le hk h.size)]; exact h.block k hk hne⟩
theorem gr_drew {w W : World} {r : Option Nat} (h : w.grownBy W r) : w.grownBy W.drew r := ⟨h.os, h.tape, h.output, h.size, h.block⟩
theorem at_set {W : World} {p : Nat} {cs : Array Value} {T : TypeId} (h : W.heap[p]? = some (.cells cs T)) (i : Nat) (v : Value) : (W.setCell ⟨p, i, none⟩ v).heap[p]? = some (.cells (cs.setIfInBounds i v) T) :=
  heap_setCell_same W p i cs T v h
theorem at_cell {W : World} {p : Nat} {cs : Array Value} {T : TypeId} (h : W.heap[p]? = some (.cells cs T)) (i : Nat) : W.cell? ⟨p, i, none⟩ = cs[i]? := by
  simp [World.cell?, h]
theorem at_frozen {W : World} {p : Nat} {cs : Array Value} {T : TypeId} (h : W.heap[p]? = some (.cells cs T)) (i : Nat) : W.frozen? ⟨p, i, none⟩ = false := by
  simp [World.frozen?, h]
theorem at_lt {W : World} {p : Nat} {o : Obj} (h : W.heap[p]? = some o) : p < W.heap.size := (Array.getElem?_eq_some_iff.1 h).1
theorem gr_own {w W : World} {p : Nat} (h : w.grownBy W none) (hp : w.heap.size ≤ p) (i : Nat) (v : Value) : w.grownBy (W.setCell ⟨p, i, none⟩ v) none :=
  ⟨h.os, h.tape, h.output, by simpa using h.size, fun k hk hne => by rw [Below.heap_setCell _ _ _ _ (by simp; omega)]; exact h.block k hk hne⟩
theorem hp_new {w : World} {k : Nat} (h : k = w.heap.size) (o : Obj) : (w.alloc o).heap[k]? = some o := by
  subst h
  exact heap_alloc_new w o
theorem hp_old {w : World} {k : Nat} (h : k < w.heap.size) (o : Obj) : (w.alloc o).heap[k]? = w.heap[k]? := Below.heap_alloc _ _ _ h
theorem hp_drew (w : World) (k : Nat) : w.drew.heap[k]? = w.heap[k]? := rfl
def rd (w : World) (v : Value) (l : List Int) : Prop :=
  ∃ a cap, v = .slice a l.length cap ∧ (l = [] ∨ ∃ b off, a = some ⟨b, off, none⟩ ∧ ∀ i, i < l.length → w.cell? ⟨b, off + i, none⟩ = some (.int .i64 (l.getD i 0)))
def intsA (l : List Int) : Array Value := (l.map (Value.int .i64)).toArray
theorem kept {w w' : World} {k : Nat} {o : Obj} (hg : w.grownBy w' none) (h : w.heap[k]? = some o) : w'.heap[k]? = some o := (hg.block k (at_lt h) (by simp)).trans h
theorem keptBut {w w' : World} {k p : Nat} {o : Obj} (hg : w.grownBy w' (some p)) (h : w.heap[k]? = some o) (hne : k ≠ p) : w'.heap[k]? = some o := (hg.block k (at_lt h) (by simpa using hne)).trans h
theorem rd_grown {w w' : World} {v : Value} {l : List Int} (h : rd w v l) (hg : w.grownBy w' none) : rd w' v l := by
  obtain ⟨a, cap, rfl, h | ⟨b, off, rfl, hc⟩⟩ := h
  · exact ⟨a, cap, rfl, .inl h⟩
  · exact ⟨_, cap, rfl, .inr ⟨b, off, rfl, fun i hi => hg.cell (hc i hi) (by simp)⟩⟩
theorem intsA_set (l : List Int) (k : Nat) (x : Int) : (intsA l).setIfInBounds k (.int .i64 x) = intsA (l.set k x) := by
  unfold intsA
  simp [List.map_set]
theorem wpList_append_run {P : Program} {w : World} {ops : Array Oper} {rest : List Oper} {o : Oper} {a : Act} {Q : Exit → Act → World → Prop} (hgd : o.guard = none) (s x : Operand) (t : TypeId)
    (ho : o.op = .call { callee := .builtin .append, args := #[s, x], argTypes := #[t, t] })
    (v u v' : Value) (w' : World) (hs : a.eval s = v) (hx : a.eval x = u) (hrun : (Builtin.append_ #[t, t] o.type #[v, u]).run P w = .ok v' w')
    (h : wpList P ops Q rest (a.put o.dst v') w') : wpList P ops Q (o :: rest) a w := by
  refine wpList_plain hgd fun K hK => ?_
  unfold Oper.wp
  simp [execOp, ho, resolve, invoke, builtin, hs, hx, hrun, Result.andThen]
  exact hK _ _ h
theorem grown_join {a b c : World} {row row' : Option Nat} (h : a.grownBy b row) (k : b.grownBy c row') (hr : row' = row ∨ ∀ x, row' = some x → a.heap.size ≤ x) : a.grownBy c row :=
  ⟨k.os.trans h.os, k.tape.trans h.tape, k.output.trans h.output, Nat.le_trans h.size k.size, fun x hx hne => by
    have h2 : some x ≠ row' := by
      rcases hr with rfl | hr
      · exact hne
      · intro e
        have := hr x e.symm
        omega
    exact (k.block x (Nat.lt_of_lt_of_le hx h.size) h2).trans (h.block x hx hne)⟩
theorem info_parts {P : Program} {e : TypeId} {z : Option Value} {n m : Nat} (h : (P.info? e).map (fun i => (i.zero, i.size, i.bytes)) = some (z, n, m)) : ∃ i, P.info? e = some i ∧ i.zero = z ∧ i.size = n ∧ i.bytes = m := by
  cases hi : P.info? e with
  | none => simp [hi] at h
  | some i =>
    simp [hi] at h
    exact ⟨i, rfl, h.1, h.2.1, h.2.2⟩
theorem info3 : (Try.prog.info? 3).map (fun i => (i.zero, i.size, i.bytes)) = some (some (.int .i64 0), 1, 8) := by kernel_rfl
theorem gr_below {w w' : World} (h : Below w.heap.size w w') : w.grownBy w' none := ⟨h.os, h.tape, h.output, h.size, fun k hk _ => h.block k hk⟩
theorem below_gr {w w' : World} (h : w.grownBy w' none) : Below w.heap.size w w' := ⟨h.os, h.tape, h.output, h.size, fun k hk => h.block k hk (by simp)⟩
theorem gr_drewN {w W : World} {r : Option Nat} (h : w.grownBy W r) (n : Nat) : w.grownBy (W.drewN n) r := ⟨h.os, h.tape, h.output, h.size, h.block⟩
theorem addn (b off k : Nat) : (⟨b, off, none⟩ : Addr).add k = ⟨b, off + k, none⟩ := by unfold Addr.add; split <;> simp_all
theorem ops (op : Int) : op = 1 ∨ op = 2 ∨ op = 3 ∨ op = 4 ∨ op = 5 ∨ op = 6 ∨ op = 7 ∨ op = 8 ∨ op = 9 ∨ op = 10 ∨ op = 11 ∨ op = 12 ∨ op = 13 ∨ op = 14 ∨ op = 15 ∨ op = 16 ∨ op = 17 ∨ op = 18 ∨ op = 19 ∨ op = 20 ∨ op = 21 ∨ op = 22 ∨ op = 23 ∨ (op < 1 ∨ 23 < op) := by omega
/-- An instruction. -/
structure Ins where
  d : Int
  a : Int
  b : Int
  c : Int
def nth (t : List Ins) (i : Nat) : Ins := (t[i]?).getD ⟨0, 0, 0, 0⟩
/-- A text that can be read at a slice's value. -/
def TxtAt (w : World) (v : Value) (t : List Ins) : Prop :=
  ∃ a cap, v = .slice a t.length cap ∧ (t = [] ∨ ∃ b off, a = some ⟨b, off, none⟩ ∧ ∀ i, i < t.length →
    w.cell? ⟨b, off + i * 4, none⟩ = some (.int .i64 (nth t i).d) ∧ w.cell? ⟨b, off + i * 4 + 1, none⟩ = some (.int .i64 (nth t i).a) ∧
    w.cell? ⟨b, off + i * 4 + 2, none⟩ = some (.int .i64 (nth t i).b) ∧ w.cell? ⟨b, off + i * 4 + 3, none⟩ = some (.int .i64 (nth t i).c))
theorem TxtAt.grown {w w' : World} {v : Value} {t : List Ins} (h : TxtAt w v t) (hg : w.grownBy w' none) : TxtAt w' v t := by
  obtain ⟨a, cap, rfl, h | ⟨b, off, rfl, hc⟩⟩ := h
  · exact ⟨a, cap, rfl, .inl h⟩
  · exact ⟨_, cap, rfl, .inr ⟨b, off, rfl, fun i hi => ⟨hg.cell (hc i hi).1 (by simp), hg.cell (hc i hi).2.1 (by simp), hg.cell (hc i hi).2.2.1 (by simp), hg.cell (hc i hi).2.2.2 (by simp)⟩⟩⟩
theorem gr1 (w : World) (o : Obj) : w.grownBy (w.alloc o) none := gr_alloc (World.grownBy.refl _ _) _
theorem made_ints (n : Nat) : madeCells (Value.int .i64 0).cells n = intsA (List.replicate n 0) := by
  have e : (Value.int .i64 0).cells = #[Value.int .i64 0] := rfl
  rw [e]
  unfold madeCells intsA
  apply Array.ext
  · simp
  · intro i h1 h2
    simp [Nat.mod_one]
/-- An append at a step of a region that draws, its run known. -/
theorem step_append_run {P : Program} {w : World} {ops : Array Oper} {o : Oper} {a : Act} {K : Act → World → Prop} {Q : Exit → Act → World → Prop} {E : Prop} (hgd : o.guard = none) (s x : Operand) (t : TypeId)
    (ho : o.op = .call { callee := .builtin .append, args := #[s, x], argTypes := #[t, t] })
    (v u v' : Value) (w' : World) (hs : a.eval s = v) (hx : a.eval x = u) (hrun : (Builtin.append_ #[t, t] o.type #[v, u]).run P w = .ok v' w')
    (h : K (a.put o.dst v') w') : if Region.wanted o (yielded ops a.tmps) = true then Oper.wp P o a w K Q else E := by
  have hw : Region.wanted o (yielded ops a.tmps) = true := by simp [Region.wanted, hgd]
  rw [if_pos hw]
  unfold Oper.wp
  simp [execOp, ho, resolve, invoke, builtin, hs, hx, hrun, Result.andThen]
  exact h
/-- A slot of a unit. -/
structure Slt where
  path : ByteArray
  kind : Int
  at' : Int
  len : Int
  keep : Bool
  role : Int
/-- A unit of code. -/
structure Pr where
  k : Int
  nm : ByteArray
  fs : List Int
  sl : List Slt
  tx : List Ins
def slt0 : Slt := ⟨ByteArray.empty, 0, 0, 0, false, 0⟩
def pr0 : Pr := ⟨0, ByteArray.empty, [], [], []⟩
/-- Slots that can be read at a slice's value. -/
def SlAt (w : World) (v : Value) (l : List Slt) : Prop :=
  ∃ a cap, v = .slice a l.length cap ∧ (l = [] ∨ ∃ b off, a = some ⟨b, off, none⟩ ∧ ∀ i, i < l.length →
    w.cell? ⟨b, off + i * 6, none⟩ = some (.string (l.getD i slt0).path) ∧ w.cell? ⟨b, off + i * 6 + 1, none⟩ = some (.int .i64 (l.getD i slt0).kind) ∧
    w.cell? ⟨b, off + i * 6 + 2, none⟩ = some (.int .i64 (l.getD i slt0).at') ∧ w.cell? ⟨b, off + i * 6 + 3, none⟩ = some (.int .i64 (l.getD i slt0).len) ∧
    w.cell? ⟨b, off + i * 6 + 4, none⟩ = some (.bool (l.getD i slt0).keep) ∧ w.cell? ⟨b, off + i * 6 + 5, none⟩ = some (.int .i64 (l.getD i slt0).role))
theorem SlAt.grown {w w' : World} {v : Value} {l : List Slt} (h : SlAt w v l) (hg : w.grownBy w' none) : SlAt w' v l := by
  obtain ⟨a, cap, rfl, h | ⟨b, off, rfl, hc⟩⟩ := h
  · exact ⟨a, cap, rfl, .inl h⟩
  · refine ⟨_, cap, rfl, .inr ⟨b, off, rfl, fun i hi => ?_⟩⟩
    obtain ⟨h0, h1, h2, h3, h4, h5⟩ := hc i hi
    exact ⟨hg.cell h0 (by simp), hg.cell h1 (by simp), hg.cell h2 (by simp), hg.cell h3 (by simp), hg.cell h4 (by simp), hg.cell h5 (by simp)⟩
structure PrAt (w : World) (b off : Nat) (p : Pr) (fv sv tv : Value) : Prop where
  kind : w.cell? ⟨b, off, none⟩ = some (.int .i64 p.k)
  name : w.cell? ⟨b, off + 1, none⟩ = some (.string p.nm)
  fcell : w.cell? ⟨b, off + 2, none⟩ = some fv
  scell : w.cell? ⟨b, off + 3, none⟩ = some sv
  tcell : w.cell? ⟨b, off + 4, none⟩ = some tv
  first : rd w fv p.fs
  slots : SlAt w sv p.sl
  text : TxtAt w tv p.tx
theorem PrAt.grown {w w' : World} {b off : Nat} {p : Pr} {fv sv tv : Value} (h : PrAt w b off p fv sv tv) (hg : w.grownBy w' none) : PrAt w' b off p fv sv tv :=
  ⟨hg.cell h.kind (by simp), hg.cell h.name (by simp), hg.cell h.fcell (by simp), hg.cell h.scell (by simp), hg.cell h.tcell (by simp), rd_grown h.first hg, h.slots.grown hg, h.text.grown hg⟩
/-- Units that can be read at a slice's value. -/
def CdP (w : World) (v : Value) (ps : List Pr) : Prop :=
  ∃ a cap, v = .slice a ps.length cap ∧ ps.length ≤ cap ∧ (ps = [] ∨ ∃ b off, a = some ⟨b, off, none⟩ ∧ ∀ i, i < ps.length → ∃ fv sv tv, PrAt w b (off + i * 5) (ps.getD i pr0) fv sv tv)
theorem CdP.grown {w w' : World} {v : Value} {ps : List Pr} (h : CdP w v ps) (hg : w.grownBy w' none) : CdP w' v ps := by
  obtain ⟨a, cap, rfl, hcap, h | ⟨b, off, rfl, hc⟩⟩ := h
  · exact ⟨a, cap, rfl, hcap, .inl h⟩
  · refine ⟨_, cap, rfl, hcap, .inr ⟨b, off, rfl, fun i hi => ?_⟩⟩
    obtain ⟨fv, sv, tv, h1⟩ := hc i hi
    exact ⟨fv, sv, tv, h1.grown hg⟩
/-- A list of numbers that the call owns, nil or not. -/
def OwnV (B : Nat) (w : World) (v : Value) (l : List Int) : Prop := w.ownsRow B 3 1 v l.length (l.map (Value.int .i64))
theorem OwnV.kept {B : Nat} {w w' : World} {v : Value} {l : List Int} (h : OwnV B w v l) {row : Option Nat} (hg : w.grownBy w' row) (hne : v.ownBlock = none ∨ v.ownBlock ≠ row) : OwnV B w' v l := World.ownsRow.kept h hg hne
theorem OwnV.rd {B : Nat} {w : World} {v : Value} {l : List Int} (h : OwnV B w v l) : rd w v l := by
  have h' := h
  obtain ⟨_, ⟨rfl, hn⟩ | ⟨g, cap, cur, rfl, _⟩⟩ := h
  · have : l = [] := by simpa using hn
    subst this
    exact ⟨none, 0, rfl, .inl rfl⟩
  · refine ⟨_, cap, rfl, .inr ⟨g, 0, rfl, fun i hi => ?_⟩⟩
    rw [Nat.zero_add, World.ownsRow.cellAt h' i (by omega)]
    simp [hi]
/-- Two lists that are the same. -/
theorem sameInts_yes (v u : Value) (l : List Int) (w : World) (hv : rd w v l) (hu : rd w u l) (hb : l.length ≤ 17592186044416) :
    Calls Try.prog 10 #[v, u] w fun e w' => e = .returned (.bool true) ∧ w.grownBy w' none := by
  obtain ⟨a, cap, rfl, ha⟩ := hv
  obtain ⟨a', cap', rfl, ha'⟩ := hu
  have HA : Hid (l = [] ∨ ∃ b off, a = some ⟨b, off, none⟩ ∧ ∀ i, i < l.length → w.cell? ⟨b, off + i, none⟩ = some (.int .i64 (l.getD i 0))) := ha
  have HA' : Hid (l = [] ∨ ∃ b off, a' = some ⟨b, off, none⟩ ∧ ∀ i, i < l.length → w.cell? ⟨b, off + i, none⟩ = some (.int .i64 (l.getD i 0))) := ha'
  clear ha ha'
  obtain ⟨n, hn⟩ : ∃ n, l.length = n := ⟨_, rfl⟩
  have HN : Hid (l.length = n) := hn
  rw [hn] at hb ⊢
  clear hn
  go_enter Try.func10, Try.ntmps10
  go_wp2
  go_loopg [5] n (fun gk s5 wx => ∃ k : Nat, s5 = .int .i64 k ∧ k ≤ n ∧ gk = n - k ∧ w.grownBy wx none)
  case atStart => exact ⟨0, rfl, Nat.zero_le _, by omega, World.grownBy.refl _ _⟩
  case round =>
    obtain ⟨k, rfl, hk, hgk, hgr⟩ := hrel
    have HG : Hid (gk = n - k) := hgk
    clear hgk
    by_cases hlt : k < n
    · have hkl : k < l.length := by rw [HN.out]; exact hlt
      rcases HA.out with h | ⟨b, off, rfl, hc⟩
      · subst h; simp at hkl
      rcases HA'.out with h | ⟨b', off', rfl, hc'⟩
      · subst h; simp at hkl
      have q0 := hgr.cell (hc k hkl) (by simp)
      have q1 := hgr.cell (hc' k hkl) (by simp)
      clear hc hc'
      generalize l.getD k 0 = x at q0 q1
      have i1 : (0 : Int) ≤ (k : Int) := by omega
      have i2 : (k : Int) < (n : Int) := by omega
      go_wp2
      go_region_held3 (fun w' => w'.cell? ⟨b, off + k, none⟩ = some (.int .i64 x) ∧ w'.cell? ⟨b', off' + k, none⟩ = some (.int .i64 x)) (go_keep) (fail)
      go_wp2
      have hgl := HG.out
      go_roundg (n - (k + 1))
      all_goals first | omega | exact ⟨k + 1, by go_num, by omega, by omega, gr_drew hgr⟩
    · have hk' : ¬ ((k : Int) < (n : Int)) := by omega
      go_wp2
      go_ret
      exact ⟨rfl, hgr⟩
/-- A list with five marks behind it. -/
def RoomAt (w : World) (c : Nat) (l : List Int) : Prop := ∃ ar : List Int, w.heap[c]? = some (.cells (intsA ar) 3) ∧ ar.length = l.length + 5 ∧ (∀ i, i < l.length → ar.getD i 0 = l.getD i 0) ∧ ∀ j, j < 5 → ar.getD (l.length + j) 0 = -90 - ((l.length + j : Nat) : Int)
theorem RoomAt.rd {w : World} {c : Nat} {l : List Int} (h : RoomAt w c l) : rd w (.slice (some ⟨c, 0, none⟩) l.length (l.length + 5)) l := by
  obtain ⟨ar, h1, h2, h3, _⟩ := h
  refine ⟨_, _, rfl, .inr ⟨c, 0, rfl, fun i hi => ?_⟩⟩
  rw [at_cell h1, ← h3 i hi]
  simp [intsA, show i < ar.length by omega]
theorem RoomAt.kept {w w' : World} {c : Nat} {l : List Int} (h : RoomAt w c l) (hg : w.grownBy w' none) : RoomAt w' c l := by
  obtain ⟨ar, h1, h2⟩ := h
  exact ⟨ar, Ytmkgobmlpmjocaa.kept hg h1, h2⟩
theorem RoomAt.but {w w' : World} {c p : Nat} {l : List Int} (h : RoomAt w c l) (hg : w.grownBy w' (some p)) (hne : c ≠ p) : RoomAt w' c l := by
  obtain ⟨ar, h1, h2⟩ := h
  exact ⟨ar, keptBut hg h1 hne, h2⟩
set_option maxRecDepth 10000 in
set_option maxHeartbeats 2000000 in
theorem roomy_any (v : Value) (l : List Int) (w : World) (hr : rd w v l) (hb : l.length ≤ 17592186043904) :
    Calls Try.prog 15 #[v] w fun e w' => e = .returned (.slice (some ⟨w.heap.size, 0, none⟩) l.length (l.length + 5)) ∧ RoomAt w' w.heap.size l ∧ w.grownBy w' none := by
  obtain ⟨a, cap, rfl, ha⟩ := hr
  obtain ⟨n, hn⟩ : ∃ n, l.length = n := ⟨_, rfl⟩
  have HN : Hid (l.length = n) := hn
  obtain ⟨i0, hi, hz0, hz1, hz2⟩ := info_parts info3
  have hmk : ∀ w : World, (Instr.makeSlice 23 (.int .i64 ((n : Int) + 5)) (.int .i64 ((n : Int) + 5))).run Try.prog w = .ok (.slice (some ⟨w.heap.size, 0, none⟩) (n + 5) (n + 5)) (w.alloc (.cells (intsA (List.replicate (n + 5) 0)) 3)) := fun w => by
    have h := run_make (P := Try.prog) w 23 3 i0 (.int .i64 0) Try.underlying23 hi hz0 .i64 .i64 ((n : Int) + 5) ((n : Int) + 5) (by omega) (by omega) (by rw [hz2]; simp; omega) (by omega)
    rw [hz1, made_ints] at h
    have e : ((n : Int) + 5).toNat = n + 5 := by omega
    rw [e] at h
    simpa using h
  have HA : Hid (l = [] ∨ ∃ b off, a = some ⟨b, off, none⟩ ∧ ∀ i, i < l.length → w.cell? ⟨b, off + i, none⟩ = some (.int .i64 (l.getD i 0))) := ha
  rw [hn] at hb ⊢
  clear ha hi hz0 hz1 hz2
  have hcp : ∃ w2, (Builtin.copy_ #[23, 23] 3 #[.slice (some ⟨w.heap.size, 0, none⟩) (n + 5) (n + 5), .slice a n cap]).run Try.prog (w.alloc (.cells (intsA (List.replicate (n + 5) 0)) 3)) = .ok (.int .i64 n) w2 ∧ w2.heap[w.heap.size]? = some (.cells (intsA (l ++ List.replicate 5 0)) 3) ∧ w.grownBy w2 none := by
    have hs : (Try.prog.info? 3).map (·.size) = some 1 := by kernel_rfl
    rcases HA.out with h | ⟨b, off, rfl, hc⟩
    · have h0 : n = 0 := by rw [← HN.out, h]; rfl
      subst h0
      refine ⟨_, run_copy_none _ 23 23 3 3 _ a 5 5 0 cap Try.underlying23 hs (by simp), ?_, gr_alloc (World.grownBy.refl _ _) _⟩
      rw [h]
      exact heap_alloc_new _ _
    · have hcell : ∀ j v, (l.map (Value.int .i64))[j]? = some v → (w.alloc (.cells (intsA (List.replicate (n + 5) 0)) 3)).cell? ((⟨b, off, none⟩ : Addr).add j) = some v := fun j u hj => by
        have hjl : j < l.length := by
          rcases Nat.lt_or_ge j l.length with h | h
          · exact h
          · simp [List.getElem?_eq_none (show (l.map (Value.int .i64)).length ≤ j by simpa using h)] at hj
        rw [addn]
        have := (gr_alloc (World.grownBy.refl w none) (.cells (intsA (List.replicate (n + 5) 0)) 3)).cell (hc j hjl) (by simp)
        rw [this]
        simp [List.getElem?_eq_getElem hjl] at hj
        subst hj
        simp [hjl]
      have hr := run_copy_row (P := Try.prog) (w.alloc (.cells (intsA (List.replicate (n + 5) 0)) 3)) 23 23 3 3 w.heap.size 0 (n + 5) (n + 5) ⟨b, off, none⟩ n cap (intsA (List.replicate (n + 5) 0)) 3 (l.map (Value.int .i64)) Try.underlying23 hs (heap_alloc_new _ _) (by rw [List.length_map, HN.out]; exact (Nat.min_eq_left (by omega)).symm) hcell (by simp [intsA, HN.out]) (by simp [Value.oneCell'])
      rw [List.length_map, HN.out] at hr
      refine ⟨_, hr, ?_, ?_⟩
      · rw [setRow_heap _ _ _ _ 3 _ (heap_alloc_new _ _)]
        congr 2
        simp [intsA, HN.out]
      · exact gr_below (below_setRow (below_gr (gr_alloc (World.grownBy.refl _ _) _)) (Nat.le_refl _) _)
  obtain ⟨w2, hcopy, hg2, hb2⟩ := hcp
  have HG2 : Hid (w2.heap[w.heap.size]? = some (.cells (intsA (l ++ List.replicate 5 0)) 3)) := hg2
  clear hg2 HA
  go_enter Try.func15, Try.ntmps15
  go_wp2
  clear hmk hcopy
  go_loopg [4] 5 (fun gk s4 wx => ∃ (k : Nat) (ar : List Int), s4 = .int .i64 ((n + k : Nat) : Int) ∧ k ≤ 5 ∧ gk = 5 - k ∧ wx.heap[w.heap.size]? = some (.cells (intsA ar) 3) ∧ ar.length = n + 5 ∧ (∀ i, i < n → ar.getD i 0 = l.getD i 0) ∧ (∀ j, j < k → ar.getD (n + j) 0 = -90 - ((n + j : Nat) : Int)) ∧ w.grownBy wx none)
  case atStart => exact ⟨0, _, rfl, by omega, by omega, HG2.out, by simp [HN.out], fun i hi => by
      have : i < l.length := by rw [HN.out]; exact hi
      simp [List.getD, List.getElem?_append, this], by omega, hb2⟩
  case round =>
    obtain ⟨k, ar, rfl, hk, hgk, har, hal, ha1, ha2, hgr⟩ := hrel
    have HGK : Hid (gk = 5 - k) := hgk
    have HAR : Hid (wr.heap[w.heap.size]? = some (.cells (intsA ar) 3)) := har
    have H1 : Hid (∀ i, i < n → ar.getD i 0 = l.getD i 0) := ha1
    have H2 : Hid (∀ j, j < k → ar.getD (n + j) 0 = -90 - ((n + j : Nat) : Int)) := ha2
    clear hgk ha1 ha2
    by_cases hlt : k < 5
    · have q2 : wr.cell? ⟨w.heap.size, n + k, none⟩ = some (.int .i64 (ar.getD (n + k) 0)) := by rw [at_cell har]; simp [intsA, show n + k < ar.length by omega]
      have f2 := at_frozen har (n + k)
      clear har
      have i1 : (0 : Int) ≤ ((n + k : Nat) : Int) := by omega
      have i2 : ((n + k : Nat) : Int) < ((n + 5 : Nat) : Int) := by omega
      go_wp2
      have hgl := HGK.out
      go_roundg (5 - (k + 1))
      all_goals first | omega | (refine ⟨k + 1, ar.set (n + k) (-90 - ((n : Int) + (k : Int))), by go_num, by omega, by omega, ?_, by simp [hal], ?_, ?_, ?_⟩)
      · rw [at_set HAR.out, intsA_set]
      · intro i hi
        rw [← H1.out i hi]
        simp [List.getD, List.getElem?_set, show ¬ n + k = i by omega]
      · intro j hj
        by_cases e : j = k
        · subst e
          simp [List.getD, List.getElem?_set, show n + j < ar.length by omega]
        · rw [← H2.out j (by omega)]
          simp [List.getD, List.getElem?_set, show ¬ k = j by omega]
      · exact gr_own hgr (Nat.le_refl _) _ _
    · have hk' : ¬ (((n + k : Nat) : Int) < ((n + 5 : Nat) : Int)) := by omega
      go_wp2
      go_ret
      refine ⟨rfl, ⟨ar, HAR.out, by rw [HN.out]; exact hal, fun i hi => H1.out i (by rw [← HN.out]; exact hi), fun j hj => ?_⟩, hgr⟩
      rw [HN.out]
      exact H2.out j (by omega)
set_option maxRecDepth 10000 in
set_option maxHeartbeats 2000000 in
theorem left_yes (c : Nat) (u : Value) (l : List Int) (w : World) (hR : RoomAt w c l) (hu : rd w u l) (hb : l.length ≤ 17592186044416) :
    Calls Try.prog 21 #[.slice (some ⟨c, 0, none⟩) l.length (l.length + 5), u] w fun e w' => e = .returned (.bool true) ∧ w.grownBy w' none := by
  obtain ⟨a, cap, rfl, ha⟩ := hu
  have HA : Hid (l = [] ∨ ∃ b off, a = some ⟨b, off, none⟩ ∧ ∀ i, i < l.length → w.cell? ⟨b, off + i, none⟩ = some (.int .i64 (l.getD i 0))) := ha
  have HR : Hid (RoomAt w c l) := hR
  clear ha hR
  obtain ⟨n, hn⟩ : ∃ n, l.length = n := ⟨_, rfl⟩
  have HN : Hid (l.length = n) := hn
  rw [hn] at hb ⊢
  clear hn
  go_enter Try.func21, Try.ntmps21
  go_wp2
  go_loopg [6] (n + 5) (fun gk s6 wx => ∃ k : Nat, s6 = .int .i64 k ∧ k ≤ n + 5 ∧ gk = n + 5 - k ∧ w.grownBy wx none)
  case atStart => exact ⟨0, rfl, Nat.zero_le _, by omega, World.grownBy.refl _ _⟩
  case round =>
    obtain ⟨k, rfl, hk, hgk, hgr⟩ := hrel
    have HG : Hid (gk = n + 5 - k) := hgk
    clear hgk
    by_cases hlt : k < n + 5
    · obtain ⟨ar, h1, h2, h3, h4⟩ := HR.out.kept hgr
      rw [HN.out] at h2
      have q0 : wr.cell? ⟨c, k, none⟩ = some (.int .i64 (ar.getD k 0)) := by rw [at_cell h1]; simp [intsA, show k < ar.length by omega]
      have i1 : (0 : Int) ≤ (k : Int) := by omega
      have i2 : (k : Int) < ((n + 5 : Nat) : Int) := by omega
      by_cases hkn : k < n
      · have hkl : k < l.length := by rw [HN.out]; exact hkn
        rw [h3 k hkl] at q0
        rcases HA.out with h | ⟨b, off, rfl, hc⟩
        · subst h; simp at hkl
        have q1 := hgr.cell (hc k hkl) (by simp)
        generalize l.getD k 0 = x at q0 q1
        have i3 : decide ((k : Int) < (n : Int)) = true := by simp; omega
        have i4 : decide ((n : Int) ≤ (k : Int)) = false := by simp; omega
        have i5 : decide (k < n) = true := by simp; omega
        have i6 : decide (n ≤ k) = false := by simp; omega
        clear hc h1 h2 h3 h4
        go_wp2
        go_quiet (fail)
        go_wp2
        have hgl := HG.out
        go_roundg (n + 5 - (k + 1))
        all_goals first | omega | exact ⟨k + 1, by go_num, by omega, by omega, gr_drewN hgr _⟩
      · have h5 := h4 (k - n) (by omega)
        rw [HN.out, show n + (k - n) = k by omega] at h5
        rw [h5] at q0
        have i3 : decide ((k : Int) < (n : Int)) = false := by simp; omega
        have i4 : decide ((n : Int) ≤ (k : Int)) = true := by simp; omega
        have i5 : decide (k < n) = false := by simp; omega
        have i6 : decide (n ≤ k) = true := by simp; omega
        clear h1 h2 h3 h4 h5
        go_wp2
        go_quiet (fail)
        go_wp2
        have hgl := HG.out
        go_roundg (n + 5 - (k + 1))
        all_goals first | omega | exact ⟨k + 1, by go_num, by omega, by omega, gr_drewN hgr _⟩
    · have hk' : ¬ ((k : Int) < ((n + 5 : Nat) : Int)) := by omega
      go_wp2
      go_ret
      exact ⟨rfl, hgr⟩
/-- A copied unit: what it is, and its three lists. -/
structure Un where
  p : Pr
  fv : Value
  sv : Value
  tv : Value
def un0 : Un := ⟨pr0, .slice none 0 0, .slice none 0 0, .slice none 0 0⟩
def rowU (u : Un) : List Value := [.int .i64 u.p.k, .string u.p.nm, u.fv, u.sv, u.tv]
def rowsU (us : List Un) : List Value := us.flatMap rowU
theorem rowsU_more (us : List Un) (u : Un) : rowsU (us ++ [u]) = rowsU us ++ rowU u := by simp [rowsU]
theorem rowsU_get : ∀ (us : List Un) (i : Nat), i < us.length → (rowsU us)[i * 5]? = some (.int .i64 (us.getD i un0).p.k) ∧ (rowsU us)[i * 5 + 1]? = some (.string (us.getD i un0).p.nm) ∧ (rowsU us)[i * 5 + 2]? = some (us.getD i un0).fv ∧ (rowsU us)[i * 5 + 3]? = some (us.getD i un0).sv ∧ (rowsU us)[i * 5 + 4]? = some (us.getD i un0).tv
  | [], i, h => by simp at h
  | u :: us, 0, _ => by simp [rowsU, rowU]
  | u :: us, i + 1, h => by
    have := rowsU_get us i (by simpa using h)
    have e : ∀ j, (rowsU (u :: us))[(i + 1) * 5 + j]? = (rowsU us)[i * 5 + j]? := fun j => by
      have e1 : rowsU (u :: us) = rowU u ++ rowsU us := by simp [rowsU]
      rw [e1, List.getElem?_append_right (by simp [rowU]; omega)]
      congr 1
      simp [rowU]
      omega
    refine ⟨?_, ?_, ?_, ?_, ?_⟩
    · have := (e 0).trans this.1; simpa using this
    · rw [e]; simpa using this.2.1
    · rw [e]; simpa using this.2.2.1
    · rw [e]; simpa using this.2.2.2.1
    · rw [e]; simpa using this.2.2.2.2
/-- A copied unit in memory; block x is another's. -/
structure CpAt (w : World) (B : Nat) (x : Option Nat) (u : Un) : Prop where
  first : ∃ c, u.fv = .slice (some ⟨c, 0, none⟩) u.p.fs.length (u.p.fs.length + 5) ∧ RoomAt w c u.p.fs ∧ B ≤ c ∧ c < w.heap.size ∧ x ≠ some c
  slots : SlAt w u.sv u.p.sl
  sown : ∀ y, u.sv.ownBlock = some y → B ≤ y ∧ y < w.heap.size ∧ x ≠ some y
  text : TxtAt w u.tv u.p.tx
  mark : ∃ g cap, u.tv = .slice (some ⟨g, 0, none⟩) u.p.tx.length cap ∧ u.p.tx.length + 1 ≤ cap ∧ w.cell? ⟨g, u.p.tx.length * 4 + 1, none⟩ = some (.int .i64 (-9)) ∧ B ≤ g ∧ g < w.heap.size ∧ x ≠ some g
theorem SlAt.but {w w' : World} {v : Value} {l : List Slt} {r : Option Nat} (h : SlAt w v l) (hg : w.grownBy w' r) (hne : ∀ y, v.ownBlock = some y → r ≠ some y) : SlAt w' v l := by
  obtain ⟨a, cap, rfl, h | ⟨b, off, rfl, hc⟩⟩ := h
  · exact ⟨a, cap, rfl, .inl h⟩
  · have hb : r ≠ some b := hne b rfl
    refine ⟨_, cap, rfl, .inr ⟨b, off, rfl, fun i hi => ?_⟩⟩
    obtain ⟨h0, h1, h2, h3, h4, h5⟩ := hc i hi
    exact ⟨hg.cell h0 (Ne.symm hb), hg.cell h1 (Ne.symm hb), hg.cell h2 (Ne.symm hb), hg.cell h3 (Ne.symm hb), hg.cell h4 (Ne.symm hb), hg.cell h5 (Ne.symm hb)⟩
theorem TxtAt.but {w w' : World} {v : Value} {t : List Ins} {r : Option Nat} (h : TxtAt w v t) (hg : w.grownBy w' r) (hne : ∀ y, v.ownBlock = some y → r ≠ some y) : TxtAt w' v t := by
  obtain ⟨a, cap, rfl, h | ⟨b, off, rfl, hc⟩⟩ := h
  · exact ⟨a, cap, rfl, .inl h⟩
  · have hb : r ≠ some b := hne b rfl
    exact ⟨_, cap, rfl, .inr ⟨b, off, rfl, fun i hi => ⟨hg.cell (hc i hi).1 (Ne.symm hb), hg.cell (hc i hi).2.1 (Ne.symm hb), hg.cell (hc i hi).2.2.1 (Ne.symm hb), hg.cell (hc i hi).2.2.2 (Ne.symm hb)⟩⟩⟩
theorem RoomAt.butO {w w' : World} {c : Nat} {l : List Int} {r : Option Nat} (h : RoomAt w c l) (hg : w.grownBy w' r) (hne : r ≠ some c) : RoomAt w' c l := by
  obtain ⟨ar, h1, h2⟩ := h
  exact ⟨ar, (hg.block c (at_lt h1) (Ne.symm hne)).trans h1, h2⟩
/-- It stays what it is while others write, into a row r that is not its own. -/
theorem CpAt.but {w w' : World} {B : Nat} {x x' r : Option Nat} {u : Un} (h : CpAt w B x u) (hg : w.grownBy w' r) (hr : r = none ∨ r = x ∨ ∀ y, r = some y → y < B ∨ w.heap.size ≤ y) (hx : x' = x ∨ ∀ y, x' = some y → y < B ∨ w.heap.size ≤ y) : CpAt w' B x' u := by
  have hne : ∀ y, B ≤ y → y < w.heap.size → x ≠ some y → r ≠ some y := fun y h1 h2 h3 e => by
    rcases hr with h | h | h
    · rw [h] at e; simp at e
    · exact h3 (h ▸ e)
    · rcases h y e with h | h <;> omega
  have hnx : ∀ y, B ≤ y → y < w.heap.size → x ≠ some y → x' ≠ some y := fun y h1 h2 h3 e => by
    rcases hx with h | h
    · exact h3 (h ▸ e)
    · rcases h y e with h | h <;> omega
  have hs := hg.size
  obtain ⟨c, f1, f2, f3, f4, f5⟩ := h.first
  obtain ⟨g, cap, m1, m2, m3, m4, m5, m6⟩ := h.mark
  refine ⟨⟨c, f1, f2.butO hg (hne c f3 f4 f5), f3, by omega, hnx c f3 f4 f5⟩, h.slots.but hg (fun y hy => ?_), (fun y hy => ?_), h.text.but hg (fun y hy => ?_), ⟨g, cap, m1, m2, hg.cell m3 (Ne.symm (hne g m4 m5 m6)), m4, by omega, hnx g m4 m5 m6⟩⟩
  · obtain ⟨a1, a2, a3⟩ := h.sown y hy
    exact hne y a1 a2 a3
  · obtain ⟨a1, a2, a3⟩ := h.sown y hy
    exact ⟨a1, by omega, hnx y a1 a2 a3⟩
  · rw [m1] at hy
    simp [Value.ownBlock] at hy
    subst hy
    exact hne g m4 m5 m6
/-- A copied code. -/
def CopyAt (w : World) (B : Nat) (v : Value) (us : List Un) : Prop := w.ownsRow B 27 5 v us.length (rowsU us) ∧ ∀ i, i < us.length → CpAt w B v.ownBlock (us.getD i un0)
theorem CopyAt.kept {w w' : World} {B : Nat} {v : Value} {us : List Un} {r : Option Nat} (h : CopyAt w B v us) (hg : w.grownBy w' r) (hr : ∀ y, r = some y → y < B ∨ w.heap.size ≤ y) : CopyAt w' B v us := by
  refine ⟨World.ownsRow.kept h.1 hg ?_, fun i hi => (h.2 i hi).but hg (.inr (.inr hr)) (.inl rfl)⟩
  cases hv : v.ownBlock with
  | none => exact .inl rfl
  | some y =>
    right
    intro e
    obtain ⟨h1, h2⟩ := World.ownsRow.lt h.1 y hv
    rcases hr y e.symm with h3 | h3 <;> omega
theorem CopyAt.cells {w : World} {B : Nat} {v : Value} {us : List Un} (h : CopyAt w B v us) : ∃ a cap, v = .slice a us.length cap ∧ us.length ≤ cap ∧ (us = [] ∨ ∃ b, a = some ⟨b, 0, none⟩ ∧ ∀ i, i < us.length →
    w.cell? ⟨b, i * 5, none⟩ = some (.int .i64 (us.getD i un0).p.k) ∧ w.cell? ⟨b, i * 5 + 1, none⟩ = some (.string (us.getD i un0).p.nm) ∧ w.cell? ⟨b, i * 5 + 2, none⟩ = some (us.getD i un0).fv ∧ w.cell? ⟨b, i * 5 + 3, none⟩ = some (us.getD i un0).sv ∧ w.cell? ⟨b, i * 5 + 4, none⟩ = some (us.getD i un0).tv) := by
  obtain ⟨h1, h2⟩ := h
  have h1' := h1
  obtain ⟨_, ⟨rfl, hn⟩ | ⟨g, cap, cur, rfl, hb, hc, hn, hm, hs, ht⟩⟩ := h1
  · exact ⟨none, 0, by rw [hn], by omega, .inl (List.length_eq_zero_iff.1 hn)⟩
  · refine ⟨_, cap, rfl, hn, .inr ⟨g, rfl, fun i hi => ?_⟩⟩
    obtain ⟨r0, r1, r2, r3, r4⟩ := rowsU_get us i hi
    have key : ∀ j u, (rowsU us)[j]? = some u → w.cell? ⟨g, j, none⟩ = some u := fun j u hj => by
      have := World.ownsRow.cells h1' rfl j u hj
      rw [addn, Nat.zero_add] at this
      exact this
    exact ⟨key _ _ r0, key _ _ r1, key _ _ r2, key _ _ r3, key _ _ r4⟩
/-- Units whose lists are not too long (the form's own reach). -/
structure BdP (ps : List Pr) : Prop where
  n : ps.length * 96 ≤ 140737488351232
  fs : ∀ i, i < ps.length → (ps.getD i pr0).fs.length ≤ 17592186043904
  sl : ∀ i, i < ps.length → (ps.getD i pr0).sl.length * 56 ≤ 140737488351232
  tx : ∀ i, i < ps.length → (ps.getD i pr0).tx.length * 32 ≤ 140737488351232
theorem flat_get {α β : Type} (f : α → List β) (n : Nat) (hn : 0 < n) (hf : ∀ x, (f x).length = n) : ∀ (l : List α) (j : Nat), (l.flatMap f)[j]? = (l[j / n]?).bind fun x => (f x)[j % n]?
  | [], j => by simp
  | x :: l, j => by
    rw [List.flatMap_cons]
    by_cases h : j < n
    · rw [List.getElem?_append_left (by rw [hf]; exact h), Nat.div_eq_of_lt h, Nat.mod_eq_of_lt h]
      simp
    · rw [List.getElem?_append_right (by rw [hf]; omega), hf, flat_get f n hn hf l (j - n)]
      obtain ⟨k, rfl⟩ : ∃ k, j = k + n := ⟨j - n, by omega⟩
      rw [Nat.add_sub_cancel, Nat.add_div_right k hn, Nat.add_mod_right]
      simp
theorem flat_at {α β : Type} (f : α → List β) (n : Nat) (hn : 0 < n) (hf : ∀ x, (f x).length = n) (l : List α) (i r : Nat) (hi : i < l.length) (hr : r < n) : (l.flatMap f)[i * n + r]? = (f l[i])[r]? := by
  rw [flat_get f n hn hf, Nat.mul_comm, Nat.mul_add_div hn, Nat.div_eq_of_lt hr, Nat.mul_add_mod, Nat.mod_eq_of_lt hr, Nat.add_zero, List.getElem?_eq_getElem hi]
  rfl
theorem flat_len {α β : Type} (f : α → List β) (n : Nat) (hf : ∀ x, (f x).length = n) (l : List α) : (l.flatMap f).length = l.length * n := by
  induction l with
  | nil => simp
  | cons x l ih => rw [List.flatMap_cons, List.length_append, hf, ih, List.length_cons, Nat.add_mul]; omega
def rowS (s : Slt) : List Value := [.string s.path, .int .i64 s.kind, .int .i64 s.at', .int .i64 s.len, .bool s.keep, .int .i64 s.role]
def rowI (s : Ins) : List Value := [.int .i64 s.d, .int .i64 s.a, .int .i64 s.b, .int .i64 s.c]
theorem rowS_len (s : Slt) : (rowS s).length = 6 := rfl
theorem rowI_len (s : Ins) : (rowI s).length = 4 := rfl
theorem rowS_one (l : List Slt) : ∀ u ∈ l.flatMap rowS, u.oneCell' = true := fun u hu => by
  obtain ⟨s, _, h⟩ := List.mem_flatMap.1 hu
  simp [rowS] at h
  rcases h with rfl | rfl | rfl | rfl | rfl | rfl <;> rfl
theorem rowI_one (l : List Ins) : ∀ u ∈ l.flatMap rowI, u.oneCell' = true := fun u hu => by
  obtain ⟨s, _, h⟩ := List.mem_flatMap.1 hu
  simp [rowI] at h
  rcases h with rfl | rfl | rfl | rfl <;> rfl
theorem SlAt.cells {w : World} {v : Value} {l : List Slt} (h : SlAt w v l) : ∃ a cap, v = .slice a l.length cap ∧ (l.length = 0 ∨ ∃ b off, a = some ⟨b, off, none⟩ ∧ ∀ j u, (l.flatMap rowS)[j]? = some u → w.cell? ((⟨b, off, none⟩ : Addr).add j) = some u) := by
  obtain ⟨a, cap, rfl, rfl | ⟨b, off, rfl, hc⟩⟩ := h
  · exact ⟨a, cap, rfl, .inl rfl⟩
  · refine ⟨_, cap, rfl, .inr ⟨b, off, rfl, fun j u hj => ?_⟩⟩
    rw [flat_get rowS 6 (by omega) rowS_len] at hj
    rw [addn]
    have hjl : j / 6 < l.length := by
      rcases Nat.lt_or_ge (j / 6) l.length with h | h
      · exact h
      · rw [List.getElem?_eq_none h] at hj; simp at hj
    obtain ⟨c0, c1, c2, c3, c4, c5⟩ := hc (j / 6) hjl
    have hg : l.getD (j / 6) slt0 = l[j / 6] := by simp [List.getD, hjl]
    rw [hg] at c0 c1 c2 c3 c4 c5
    rw [List.getElem?_eq_getElem hjl, Option.bind_some] at hj
    have hm : j % 6 = 0 ∨ j % 6 = 1 ∨ j % 6 = 2 ∨ j % 6 = 3 ∨ j % 6 = 4 ∨ j % 6 = 5 := by omega
    generalize l[j / 6] = s at *
    have ed := Nat.div_add_mod j 6
    rcases hm with e | e | e | e | e | e <;> rw [e] at hj <;> simp [rowS] at hj <;> subst hj
    · rw [show off + j = off + j / 6 * 6 by omega]; exact c0
    · rw [show off + j = off + j / 6 * 6 + 1 by omega]; exact c1
    · rw [show off + j = off + j / 6 * 6 + 2 by omega]; exact c2
    · rw [show off + j = off + j / 6 * 6 + 3 by omega]; exact c3
    · rw [show off + j = off + j / 6 * 6 + 4 by omega]; exact c4
    · rw [show off + j = off + j / 6 * 6 + 5 by omega]; exact c5
theorem TxtAt.cells {w : World} {v : Value} {l : List Ins} (h : TxtAt w v l) : ∃ a cap, v = .slice a l.length cap ∧ (l.length = 0 ∨ ∃ b off, a = some ⟨b, off, none⟩ ∧ ∀ j u, (l.flatMap rowI)[j]? = some u → w.cell? ((⟨b, off, none⟩ : Addr).add j) = some u) := by
  obtain ⟨a, cap, rfl, rfl | ⟨b, off, rfl, hc⟩⟩ := h
  · exact ⟨a, cap, rfl, .inl rfl⟩
  · refine ⟨_, cap, rfl, .inr ⟨b, off, rfl, fun j u hj => ?_⟩⟩
    rw [flat_get rowI 4 (by omega) rowI_len] at hj
    rw [addn]
    have hjl : j / 4 < l.length := by
      rcases Nat.lt_or_ge (j / 4) l.length with h | h
      · exact h
      · rw [List.getElem?_eq_none h] at hj; simp at hj
    obtain ⟨c0, c1, c2, c3⟩ := hc (j / 4) hjl
    have hg : nth l (j / 4) = l[j / 4] := by simp [nth, hjl]
    rw [hg] at c0 c1 c2 c3
    rw [List.getElem?_eq_getElem hjl, Option.bind_some] at hj
    have hm : j % 4 = 0 ∨ j % 4 = 1 ∨ j % 4 = 2 ∨ j % 4 = 3 := by omega
    generalize l[j / 4] = s at *
    have ed := Nat.div_add_mod j 4
    rcases hm with e | e | e | e <;> rw [e] at hj <;> simp [rowI] at hj <;> subst hj
    · rw [show off + j = off + j / 4 * 4 by omega]; exact c0
    · rw [show off + j = off + j / 4 * 4 + 1 by omega]; exact c1
    · rw [show off + j = off + j / 4 * 4 + 2 by omega]; exact c2
    · rw [show off + j = off + j / 4 * 4 + 3 by omega]; exact c3
theorem SlAt.of_own {B T : Nat} {w : World} {v : Value} {l : List Slt} (h : w.ownsRow B T 6 v l.length (l.flatMap rowS)) : SlAt w v l := by
  have h' := h
  obtain ⟨_, ⟨rfl, hn⟩ | ⟨g, cap, cur, rfl, hb, hc, hn, hm, hs, ht⟩⟩ := h
  · exact ⟨none, 0, by rw [hn], .inl (List.length_eq_zero_iff.1 hn)⟩
  · refine ⟨_, cap, rfl, .inr ⟨g, 0, rfl, fun i hi => ?_⟩⟩
    have key : ∀ r u, r < 6 → (rowS l[i])[r]? = some u → w.cell? ⟨g, 0 + i * 6 + r, none⟩ = some u := fun r u hr hu => by
      have := World.ownsRow.cells h' rfl (i * 6 + r) u (by rw [flat_at rowS 6 (by omega) rowS_len l i r hi hr]; exact hu)
      rw [addn] at this
      rw [Nat.add_assoc]
      exact this
    have hg : l.getD i slt0 = l[i] := by simp [List.getD, hi]
    rw [hg]
    exact ⟨key 0 _ (by omega) rfl, key 1 _ (by omega) rfl, key 2 _ (by omega) rfl, key 3 _ (by omega) rfl, key 4 _ (by omega) rfl, key 5 _ (by omega) rfl⟩
/-- The text and its mark, out of a row of its own with one instruction more. -/
theorem TxtAt.of_own {B T g cap : Nat} {w : World} {l : List Ins} {y : Ins} (h : w.ownsRow B T 4 (.slice (some ⟨g, 0, none⟩) (l.length + 1) cap) (l.length + 1) (l.flatMap rowI ++ rowI y)) : TxtAt w (.slice (some ⟨g, 0, none⟩) l.length cap) l ∧ w.cell? ⟨g, l.length * 4 + 1, none⟩ = some (.int .i64 y.a) := by
  have key0 : ∀ j u, (l.flatMap rowI ++ rowI y)[j]? = some u → w.cell? ⟨g, j, none⟩ = some u := fun j u hj => by
    have := World.ownsRow.cells h rfl j u hj
    rw [addn, Nat.zero_add] at this
    exact this
  have hl := flat_len rowI 4 rowI_len l
  refine ⟨⟨_, cap, rfl, .inr ⟨g, 0, rfl, fun i hi => ?_⟩⟩, ?_⟩
  · have key : ∀ r u, r < 4 → (rowI l[i])[r]? = some u → w.cell? ⟨g, 0 + i * 4 + r, none⟩ = some u := fun r u hr hu => by
      rw [Nat.zero_add]
      refine key0 _ _ ?_
      rw [List.getElem?_append_left (by omega), flat_at rowI 4 (by omega) rowI_len l i r hi hr]
      exact hu
    have hg : nth l i = l[i] := by simp [nth, hi]
    rw [hg]
    exact ⟨key 0 _ (by omega) rfl, key 1 _ (by omega) rfl, key 2 _ (by omega) rfl, key 3 _ (by omega) rfl⟩
  · refine key0 _ _ ?_
    rw [List.getElem?_append_right (by omega), hl, show l.length * 4 + 1 - l.length * 4 = 1 by omega]
    rfl
/-- All of a list, behind none. -/
theorem run_append_all {P : Program} (w : World) (t ty e : TypeId) (i : TypeInfo) (z : Value) (size bytes : Nat) (ht : P.underlying t = some (.slice e)) (hi : P.info? e = some i) (hz : i.zero = some z)
    (hsize : i.size = size) (hby : i.bytes = bytes) (hzs : z.cells.size = size) (hsz : 0 < size) (a : Option Addr) (m c : Nat) (news : List Value) (hl : news.length = m * size)
    (hnews : m = 0 ∨ ∃ b off, a = some ⟨b, off, none⟩ ∧ ∀ j u, news[j]? = some u → w.cell? ((⟨b, off, none⟩ : Addr).add j) = some u) (h1 : ∀ u ∈ news, u.oneCell' = true)
    (h63 : m ≤ maxLen) (hbytes : m * bytes ≤ 140737488355328) :
    ∃ oa oc w', (Builtin.append_ #[t, t] ty #[.slice none 0 0, .slice a m c]).run P w = .ok (.slice oa m oc) w' ∧ w'.ownsRow w.heap.size e size (.slice oa m oc) m news ∧ w.grownBy w' none := by
  rcases hnews with h0 | ⟨b, off, rfl, hc⟩
  · subst h0
    refine ⟨none, 0, w, ?_, ⟨hl, .inl ⟨rfl, rfl⟩⟩, World.grownBy.refl _ _⟩
    cases a <;> simp [Builtin.append_, run_underlying ht, sizeOf, typeInfo, hi, Builtin.lenOf, Builtin.firstCells, loadCells, loadCellsFrom]
  · obtain ⟨v', w', r1, r2, r3, _, _⟩ := run_append_own_at (P := P) w w.heap.size t ty e i z size bytes ht hi hz hsize hby hzs hsz _ 0 [] (World.ownsRow_nil _ _ _ _) ⟨b, off, none⟩ m c news hl hc h1 (by omega) (by simpa using hbytes) (Nat.le_refl _)
    have r2' : w'.ownsRow w.heap.size e size v' m news := by simpa using r2
    obtain ⟨_, ⟨hv, hm⟩ | ⟨g, cap, cur, hv, _⟩⟩ := r2'
    · subst hv hm
      exact ⟨none, 0, w', r1, by simpa using r2, r3⟩
    · subst hv
      exact ⟨some ⟨g, 0, none⟩, cap, w', r1, by simpa using r2, r3⟩
/-- The same at a plain region's list of operations. -/
theorem wpList_append_all {P : Program} {w : World} {ops : Array Oper} {rest : List Oper} {o : Oper} {act : Act} {Q : Exit → Act → World → Prop} (hgd : o.guard = none) (s x : Operand) (t : TypeId)
    (ho : o.op = .call { callee := .builtin .append, args := #[s, x], argTypes := #[t, t] }) (e : TypeId) (i : TypeInfo) (z : Value) (size bytes : Nat) (ht : P.underlying t = some (.slice e)) (hi : P.info? e = some i) (hz : i.zero = some z)
    (hsize : i.size = size) (hby : i.bytes = bytes) (hzs : z.cells.size = size) (hsz : 0 < size) (a : Option Addr) (m c : Nat) (news : List Value) (hs : act.eval s = .slice none 0 0) (hx : act.eval x = .slice a m c) (hl : news.length = m * size)
    (hnews : m = 0 ∨ ∃ b off, a = some ⟨b, off, none⟩ ∧ ∀ j u, news[j]? = some u → w.cell? ((⟨b, off, none⟩ : Addr).add j) = some u) (h1 : ∀ u ∈ news, u.oneCell' = true)
    (h63 : m ≤ maxLen) (hbytes : m * bytes ≤ 140737488355328)
    (h : ∀ oa oc w', w'.ownsRow w.heap.size e size (.slice oa m oc) m news → w.grownBy w' none → wpList P ops Q rest (act.put o.dst (.slice oa m oc)) w') : wpList P ops Q (o :: rest) act w := by
  obtain ⟨oa, oc, w', hrun, h2, h3⟩ := run_append_all (P := P) w t o.type e i z size bytes ht hi hz hsize hby hzs hsz a m c news hl hnews h1 h63 hbytes
  exact wpList_append_run hgd s x t ho _ _ _ w' hs hx hrun (h oa oc w' h2 h3)
/-- The same at a step of a region that draws. -/
theorem step_append_all {P : Program} {w : World} {ops : Array Oper} {o : Oper} {act : Act} {K : Act → World → Prop} {Q : Exit → Act → World → Prop} {E : Prop} (hgd : o.guard = none) (s x : Operand) (t : TypeId)
    (ho : o.op = .call { callee := .builtin .append, args := #[s, x], argTypes := #[t, t] }) (e : TypeId) (i : TypeInfo) (z : Value) (size bytes : Nat) (ht : P.underlying t = some (.slice e)) (hi : P.info? e = some i) (hz : i.zero = some z)
    (hsize : i.size = size) (hby : i.bytes = bytes) (hzs : z.cells.size = size) (hsz : 0 < size) (a : Option Addr) (m c : Nat) (news : List Value) (hs : act.eval s = .slice none 0 0) (hx : act.eval x = .slice a m c) (hl : news.length = m * size)
    (hnews : m = 0 ∨ ∃ b off, a = some ⟨b, off, none⟩ ∧ ∀ j u, news[j]? = some u → w.cell? ((⟨b, off, none⟩ : Addr).add j) = some u) (h1 : ∀ u ∈ news, u.oneCell' = true)
    (h63 : m ≤ maxLen) (hbytes : m * bytes ≤ 140737488355328)
    (h : ∀ oa oc w', w'.ownsRow w.heap.size e size (.slice oa m oc) m news → w.grownBy w' none → K (act.put o.dst (.slice oa m oc)) w') : if Region.wanted o (yielded ops act.tmps) = true then Oper.wp P o act w K Q else E := by
  obtain ⟨oa, oc, w', hrun, h2, h3⟩ := run_append_all (P := P) w t o.type e i z size bytes ht hi hz hsize hby hzs hsz a m c news hl hnews h1 h63 hbytes
  exact step_append_run hgd s x t ho _ _ _ w' hs hx hrun (h oa oc w' h2 h3)
theorem info27 : (Try.prog.info? 27).map (fun i => (i.zero, i.size, i.bytes)) = some (some (.agg #[.int .i64 0, .string ByteArray.empty, .slice none 0 0, .slice none 0 0, .slice none 0 0]), 5, 96) := by kernel_rfl
theorem info50 : (Try.prog.info? 50).map (fun i => (i.zero, i.size, i.bytes)) = some (some (.agg #[.string ByteArray.empty, .int .i64 0, .int .i64 0, .int .i64 0, .bool false, .int .i64 0]), 6, 56) := by kernel_rfl
theorem info54 : (Try.prog.info? 54).map (fun i => (i.zero, i.size, i.bytes)) = some (some (.agg #[.int .i64 0, .int .i64 0, .int .i64 0, .int .i64 0]), 4, 32) := by kernel_rfl
theorem own_cap {w : World} {base e size g n cap m : Nat} {xs : List Value} (h : w.ownsRow base e size (.slice (some ⟨g, 0, none⟩) n cap) m xs) : n ≤ cap := by
  obtain ⟨_, ⟨h, _⟩ | ⟨g', c', cur, hv, _, _, hc, _⟩⟩ := h
  · simp at h
  · simp at hv
    obtain ⟨rfl, rfl, rfl⟩ := hv
    exact hc
theorem own_less {w : World} {base base' e size n : Nat} {v : Value} {xs : List Value} (h : w.ownsRow base e size v n xs) (hb : base' ≤ base) : w.ownsRow base' e size v n xs := by
  refine ⟨h.1, ?_⟩
  rcases h.2 with h | ⟨g, c, cur, h1, h2, h3⟩
  · exact .inl h
  · exact .inr ⟨g, c, cur, h1, by omega, h3⟩
theorem own_keptN {w w' : World} {base e size n : Nat} {v : Value} {xs : List Value} (h : w.ownsRow base e size v n xs) (hg : w.grownBy w' none) : w'.ownsRow base e size v n xs := by
  refine World.ownsRow.kept h hg ?_
  cases hv : v.ownBlock with
  | none => exact .inl rfl
  | some x => exact .inr (by simp)
theorem own_apart {w : World} {base e size n : Nat} {v u : Value} {xs : List Value} (h : w.ownsRow base e size v n xs) (hb : ∀ y, u.ownBlock = some y → w.heap.size ≤ y) : v.ownBlock = none ∨ v.ownBlock ≠ u.ownBlock := by
  cases hv : v.ownBlock with
  | none => exact .inl rfl
  | some x =>
    right
    intro e
    have h1 := (World.ownsRow.lt h x hv).2
    have h2 := hb x e.symm
    omega
theorem gr_any {w W : World} {r : Option Nat} (h : w.grownBy W none) : w.grownBy W r := ⟨h.os, h.tape, h.output, h.size, fun k hk _ => h.block k hk (by simp)⟩
/-- What is made of one unit. -/
theorem cp_new {w : World} {B X oc g tcap : Nat} {x : Option Nat} {pk : Int} {pn : ByteArray} {fs : List Int} {sl : List Slt} {tx : List Ins} {oa : Option Addr} (hB : B ≤ X + 1) (HR : RoomAt w (X + 1) fs) (HO : w.ownsRow (X + 1) 50 6 (.slice oa sl.length oc) sl.length (sl.flatMap rowS))
    (HT : w.ownsRow (X + 1) 54 4 (.slice (some ⟨g, 0, none⟩) (tx.length + 1) tcap) (tx.length + 1) (tx.flatMap rowI ++ rowI ⟨0, -9, 0, 0⟩)) (hx : ∀ y, x = some y → y < X + 1) :
    CpAt w B x ⟨⟨pk, pn, fs, sl, tx⟩, .slice (some ⟨X + 1, 0, none⟩) fs.length (fs.length + 5), .slice oa sl.length oc, .slice (some ⟨g, 0, none⟩) tx.length tcap⟩ := by
  have hne : ∀ y, X + 1 ≤ y → x ≠ some y := fun y h e => by have := hx y e; omega
  have hlt : X + 1 < w.heap.size := by obtain ⟨_, h, _⟩ := HR; exact at_lt h
  obtain ⟨t1, t2⟩ := TxtAt.of_own HT
  obtain ⟨g1, g2⟩ := World.ownsRow.lt HT g rfl
  refine ⟨⟨X + 1, rfl, HR, hB, hlt, hne _ (Nat.le_refl _)⟩, SlAt.of_own HO, fun y hy => ?_, t1, ⟨g, tcap, rfl, own_cap HT, t2, by omega, g2, hne g g1⟩⟩
  obtain ⟨h1, h2⟩ := World.ownsRow.lt HO y hy
  exact ⟨by omega, h2, hne y h1⟩
end Go.Proofs.Ytmkgobmlpmjocaa
