/- Texts put together: B0, Bx. -/
import Derived.Test.YtdcoidmbainkmaaGreatDoorChecked
import Derived.WalkKit
import Derived.WalkSpells
import Derived.WalkLawsBesides
import Derived.Outline
import Derived.Deep.LoopGhost
import Derived.Deep.QuietTactic
import Derived.BigQuiet
import Derived.Deep.RegionHeld3
import Derived.Deep.DrawnRows
import Derived.Maps.AppendAt
import Derived.Laws.AppendOwnNone
import Derived.Laws.CopyOwn
import Derived.Laws.MakeOwn
import Derived.OpenShut
import Derived.Laws.DeepNot64
import Derived.Laws.BitsLemmas
import Derived.Laws.BytesArg
import Derived.Deep.Cut
import Derived.Deep.CutRange
import Derived.Deep.CutBlock
import Derived.Deep.Slices
import Derived.ChangeSame
import Derived.SizedLaws
import Derived.ProofKit
import Derived.ShutString
import Derived.ChangeOld
import Derived.Below
import Derived.Stop.Joined
import Derived.Lib.SmallJoins
namespace Go.Proofs.YtdcoidmbainkmaaGreatDoor
open Go.ChangeShapes Go.WideShapes Go.ChangeAt Go.RowKit
attribute [local go_sem ↓] Go.wp_at_zero Go.wp_at_succ
set_option linter.unusedVariables false
set_option linter.unusedSimpArgs false
theorem gr_set {w W : World} {p : Nat} (h : w.grownBy W (some p)) (i : Nat) (v : Value) : w.grownBy (W.setCell ⟨p,i,none⟩ v) (some p) :=
 ⟨h.os,h.tape,h.output,by simpa using h.size,fun k hk hne => by rw [Below.heap_setCell _ _ _ _ (fun e => hne (by rw [e]))]; exact h.block k hk hne⟩
theorem gr_alloc {w W : World} {r : Option Nat} (h : w.grownBy W r) (o : Obj) : w.grownBy (W.alloc o) r :=
 ⟨h.os,h.tape,h.output,by simp; have := h.size; omega,fun k hk hne => by rw [Below.heap_alloc _ _ _ (Nat.lt_of_lt_of_le hk h.size)]; exact h.block k hk hne⟩
theorem gr_drew {w W : World} {r : Option Nat} (h : w.grownBy W r) : w.grownBy W.drew r := ⟨h.os,h.tape,h.output,h.size,h.block⟩
theorem at_set {W : World} {p : Nat} {cs : Array Value} {T : TypeId} (h : W.heap[p]? = some (.cells cs T)) (i : Nat) (v : Value) : (W.setCell ⟨p,i,none⟩ v).heap[p]? = some (.cells (cs.setIfInBounds i v) T) :=
 heap_setCell_same W p i cs T v h
theorem at_cell {W : World} {p : Nat} {cs : Array Value} {T : TypeId} (h : W.heap[p]? = some (.cells cs T)) (i : Nat) : W.cell? ⟨p,i,none⟩ = cs[i]? := by
 simp [World.cell?,h]
theorem at_frozen {W : World} {p : Nat} {cs : Array Value} {T : TypeId} (h : W.heap[p]? = some (.cells cs T)) (i : Nat) : W.frozen? ⟨p,i,none⟩ = false := by
 simp [World.frozen?,h]
theorem at_lt {W : World} {p : Nat} {o : Obj} (h : W.heap[p]? = some o) : p < W.heap.size := (Array.getElem?_eq_some_iff.1 h).1
theorem gr_none {w W : World} {p : Nat} (h : w.grownBy W none) : w.grownBy W (some p) := ⟨h.os,h.tape,h.output,h.size,fun k hk _ => h.block k hk (by simp)⟩
theorem gr_own {w W : World} {p : Nat} (h : w.grownBy W none) (hp : w.heap.size ≤ p) (i : Nat) (v : Value) : w.grownBy (W.setCell ⟨p,i,none⟩ v) none :=
 ⟨h.os,h.tape,h.output,by simpa using h.size,fun k hk hne => by rw [Below.heap_setCell _ _ _ _ (by simp; omega)]; exact h.block k hk hne⟩
theorem hp_new {w : World} {k : Nat} (h : k = w.heap.size) (o : Obj) : (w.alloc o).heap[k]? = some o := by
 subst h
 exact heap_alloc_new w o
theorem hp_old {w : World} {k : Nat} (h : k < w.heap.size) (o : Obj) : (w.alloc o).heap[k]? = w.heap[k]? := Below.heap_alloc _ _ _ h
theorem hp_drew (w : World) (k : Nat) : w.drew.heap[k]? = w.heap[k]? := rfl
theorem kept {w w' : World} {k : Nat} {o : Obj} (hg : w.grownBy w' none) (h : w.heap[k]? = some o) : w'.heap[k]? = some o := (hg.block k (at_lt h) (by simp)).trans h
theorem keptBut {w w' : World} {k p : Nat} {o : Obj} (hg : w.grownBy w' (some p)) (h : w.heap[k]? = some o) (hne : k ≠ p) : w'.heap[k]? = some o := (hg.block k (at_lt h) (by simpa using hne)).trans h
theorem ck_set {W : World} {b i j p : Nat} {v x : Value} (hne : b ≠ p) (h : W.cell? ⟨b,j,none⟩ = some v) : (W.setCell ⟨p,i,none⟩ x).cell? ⟨b,j,none⟩ = some v := by
 rw [← h]
 exact World.cell?_of_block (Below.heap_setCell _ _ _ _ (by simpa using hne))
theorem wpList_append_run {P : Program} {w : World} {ops : Array Oper} {rest : List Oper} {o : Oper} {a : Act} {Q : Exit → Act → World → Prop} (hgd : o.guard = none) (s x : Operand) (t : TypeId)
 (ho : o.op = .call { callee := .builtin .append,args := #[s,x],argTypes := #[t,t] })
 (v u v' : Value) (w' : World) (hs : a.eval s = v) (hx : a.eval x = u) (hrun : (Builtin.append_ #[t,t] o.type #[v,u]).run P w = .ok v' w')
 (h : wpList P ops Q rest (a.put o.dst v') w') : wpList P ops Q (o :: rest) a w := by
 refine wpList_plain hgd fun K hK => ?_
 unfold Oper.wp
 simp [execOp,ho,resolve,invoke,builtin,hs,hx,hrun,Result.andThen]
 exact hK _ _ h
theorem grown_join {a b c : World} {row row' : Option Nat} (h : a.grownBy b row) (k : b.grownBy c row') (hr : row' = row ∨ ∀ x,row' = some x → a.heap.size ≤ x) : a.grownBy c row :=
 ⟨k.os.trans h.os,k.tape.trans h.tape,k.output.trans h.output,Nat.le_trans h.size k.size,fun x hx hne => by
  have h2 : some x ≠ row' := by
   rcases hr with rfl | hr
   · exact hne
   · intro e
     have := hr x e.symm
     omega
  exact (k.block x (Nat.lt_of_lt_of_le hx h.size) h2).trans (h.block x hx hne)⟩
theorem info_parts {P : Program} {e : TypeId} {z : Option Value} {n m : Nat} (h : (P.info? e).map (fun i => (i.zero,i.size,i.bytes)) = some (z,n,m)) : ∃ i,P.info? e = some i ∧ i.zero = z ∧ i.size = n ∧ i.bytes = m := by
 cases hi : P.info? e with
 | none => simp [hi] at h
 | some i =>
  simp [hi] at h
  exact ⟨i,rfl,h.1,h.2.1,h.2.2⟩
theorem gr_below {w w' : World} (h : Below w.heap.size w w') : w.grownBy w' none := ⟨h.os,h.tape,h.output,h.size,fun k hk _ => h.block k hk⟩
theorem below_gr {w w' : World} (h : w.grownBy w' none) : Below w.heap.size w w' := ⟨h.os,h.tape,h.output,h.size,fun k hk => h.block k hk (by simp)⟩
theorem gr_drewN {w W : World} {r : Option Nat} (h : w.grownBy W r) (n : Nat) : w.grownBy (W.drewN n) r := ⟨h.os,h.tape,h.output,h.size,h.block⟩
theorem addn (b off k : Nat) : (⟨b,off,none⟩ : Addr).add k = ⟨b,off + k,none⟩ := by unfold Addr.add; split <;> simp_all
theorem own_more {B t e size bytes n : Nat} {z : Value} {i : TypeInfo} (ht : Tryz.prog.underlying t = some (.slice e)) (hi : Tryz.prog.info? e = some i) (hz : i.zero = some z) (hs : i.size = size) (hb : i.bytes = bytes) (hzs : z.cells.size = size) (hpos : 0 < size)
 {w : World} {a : Option Addr} {cap : Nat} {xs : List Value} (h : w.ownsRow B e size (.slice a n cap) n xs) (cur : List Value) (hcur : cur.length = size) (h1 : ∀ u ∈ cur,u.oneCell' = true) (hn : n ≤ 1000000) (hb64 : bytes ≤ 64) (hB : B ≤ w.heap.size) :
 ∃ a' cap' w',(Builtin.append_ #[t,t] t #[.slice a n cap,.slice (some ⟨w.heap.size,0,none⟩) 1 1]).run Tryz.prog (w.alloc (.cells cur.toArray e)) = .ok (.slice a' (n + 1) cap') w' ∧
  w'.ownsRow B e size (.slice a' (n + 1) cap') (n + 1) (xs ++ cur) ∧ ∀ w0 : World,w0.heap.size ≤ B → w0.grownBy w none → w0.grownBy w' none := by
 obtain ⟨v',w',r1,r2,r3,r4,r5⟩ := run_append_own_at (P := Tryz.prog) (w.alloc (.cells cur.toArray e)) B t t e i z size bytes ht hi hz hs hb hzs hpos _ _ _ (World.ownsRow.alloc h _) ⟨w.heap.size,0,none⟩ 1 1 cur (by omega)
  (fun j u hj => by
    rw [addn,at_cell (heap_alloc_new w _) (0 + j)]
    simpa using hj)
  h1 (by unfold maxLen; omega) (by
   have : (n + 1) * bytes ≤ 1000001 * 64 := Nat.mul_le_mul (by omega) hb64
   omega) (by simp; omega)
 have r2' := r2
 obtain ⟨_,⟨hx,hn⟩ | ⟨g',cap',cur,rfl,_⟩⟩ := r2'
 · omega
 · refine ⟨_,cap',w',r1,r2,fun w0 h0 hg => ?_⟩
   refine grown_join (gr_alloc hg _) r3 (.inr fun y hy => ?_)
   have := World.ownsRow.lt h y hy
   omega
theorem own_keep {B e size n : Nat} {w w' : World} {v : Value} {xs : List Value} (h : w.ownsRow B e size v n xs) (hg : w.grownBy w' none) : w'.ownsRow B e size v n xs :=
 World.ownsRow.kept h hg (by
  cases hv : v.ownBlock with
  | none => exact .inl rfl
  | some x => exact .inr (by simp))
theorem own_but {B e size n p : Nat} {w w' : World} {v : Value} {xs : List Value} (h : w.ownsRow B e size v n xs) (hg : w.grownBy w' (some p)) (hp : p < B) : w'.ownsRow B e size v n xs :=
 World.ownsRow.kept h hg (.inr fun e => by have := World.ownsRow.lt h p e; omega)
theorem own_low {B B' e size n : Nat} {w : World} {v : Value} {xs : List Value} (h : w.ownsRow B e size v n xs) (hB : B' ≤ B) : w.ownsRow B' e size v n xs := by
 obtain ⟨hl,h | ⟨g,cap,cur,hv,hb,hr⟩⟩ := h
 · exact ⟨hl,.inl h⟩
 · exact ⟨hl,.inr ⟨g,cap,cur,hv,by omega,hr⟩⟩
theorem hidG {p : Prop} (h : Hid p) : p := h
theorem hidI {p : Prop} (h : p) : Hid p := h
theorem ret_int {k : IntKind} {a b : Int} (h : a = b) : Ending.returned (.int k a) = .returned (.int k b) := by rw [h]
theorem ret_bool {a b : Bool} (h : a = b) : Ending.returned (.bool a) = .returned (.bool b) := by rw [h]
theorem step_append_run {P : Program} {w : World} {ops : Array Oper} {o : Oper} {a : Act} {K : Act → World → Prop} {Q : Exit → Act → World → Prop} {E : Prop} (hgd : o.guard = none) (s x : Operand) (t : TypeId)
 (ho : o.op = .call { callee := .builtin .append,args := #[s,x],argTypes := #[t,t] })
 (v u v' : Value) (w' : World) (hs : a.eval s = v) (hx : a.eval x = u) (hrun : (Builtin.append_ #[t,t] o.type #[v,u]).run P w = .ok v' w')
 (h : K (a.put o.dst v') w') : if Region.wanted o (yielded ops a.tmps) = true then Oper.wp P o a w K Q else E := by
 have hw : Region.wanted o (yielded ops a.tmps) = true := by simp [Region.wanted,hgd]
 rw [if_pos hw]
 unfold Oper.wp
 simp [execOp,ho,resolve,invoke,builtin,hs,hx,hrun,Result.andThen]
 exact h
theorem own_ne {B e size n : Nat} {r : Option Nat} {w w' : World} {v : Value} {xs : List Value} (h : w.ownsRow B e size v n xs) (hg : w.grownBy w' r) (hne : ∀ x,v.ownBlock = some x → r ≠ some x) : w'.ownsRow B e size v n xs :=
 World.ownsRow.kept h hg (by
  cases hv : v.ownBlock with
  | none => exact .inl rfl
  | some x => exact .inr (fun e => hne x hv e.symm))
theorem spot_none {w : World} {x : Addr} {v : Value} (h : w.cell? (x.add 0) = some v) : ∃ b off,x = ⟨b,off,none⟩ := by
 have hs := World.cell?_spot h
 obtain ⟨b,off,sp⟩ := x
 cases sp with
 | none => exact ⟨b,off,rfl⟩
 | some y => simp [Addr.add] at hs
theorem all_laidOut : laidOutB Tryz.prog = true := by kernel_rfl
theorem all_own : ownKnob Tryz.prog.godebug = none := by kernel_rfl
end Go.Proofs.YtdcoidmbainkmaaGreatDoor

namespace Go.Proofs.YtdcoidmbainkmaaGreatDoor
open Go.RowKit
set_option linter.unusedVariables false
set_option linter.unusedSimpArgs false
theorem gr_ow2 {w W : World} {r : Option Nat} {p : Nat} (h : w.grownBy W r) (hp : w.heap.size ≤ p) (i : Nat) (v : Value) : w.grownBy (W.setCell ⟨p,i,none⟩ v) r :=
 ⟨h.os,h.tape,h.output,by simpa using h.size,fun k hk hne => by rw [Below.heap_setCell _ _ _ _ (by simp; omega)]; exact h.block k hk hne⟩
theorem at6 {W : World} {q : Nat} {y0 y1 y2 y3 y4 y5 : Value} {T : TypeId} (h : W.heap[q]? = some (.cells #[y0,y1,y2,y3,y4,y5] T)) : W.cell? ⟨q,0,none⟩ = some y0 ∧ W.cell? ⟨q,1,none⟩ = some y1 ∧ W.cell? ⟨q,2,none⟩ = some y2 ∧ W.cell? ⟨q,3,none⟩ = some y3 ∧ W.cell? ⟨q,4,none⟩ = some y4 ∧ W.cell? ⟨q,5,none⟩ = some y5 :=
 ⟨by simpa using at_cell h 0,by simpa using at_cell h 1,by simpa using at_cell h 2,by simpa using at_cell h 3,by simpa using at_cell h 4,by simpa using at_cell h 5⟩
theorem box6 {W : World} {q : Nat} {y0 y1 y2 y3 y4 y5 x0 x1 x2 x3 x4 x5 : Value} {T : TypeId} (h : W.heap[q]? = some (.cells #[y0,y1,y2,y3,y4,y5] T)) : ((((((W.setCell ⟨q,0,none⟩ x0).setCell ⟨q,1,none⟩ x1).setCell ⟨q,2,none⟩ x2).setCell ⟨q,3,none⟩ x3).setCell ⟨q,4,none⟩ x4).setCell ⟨q,5,none⟩ x5).heap[q]? = some (.cells #[x0,x1,x2,x3,x4,x5] T) := by
 have := (at_set (at_set (at_set (at_set (at_set (at_set h 0 x0) 1 x1) 2 x2) 3 x3) 4 x4) 5 x5)
 simpa using this
theorem gr6 {w W : World} {q : Nat} {x0 x1 x2 x3 x4 x5 : Value} (h : w.grownBy W (some q)) : w.grownBy ((((((W.setCell ⟨q,0,none⟩ x0).setCell ⟨q,1,none⟩ x1).setCell ⟨q,2,none⟩ x2).setCell ⟨q,3,none⟩ x3).setCell ⟨q,4,none⟩ x4).setCell ⟨q,5,none⟩ x5) (some q) := (gr_set (gr_set (gr_set (gr_set (gr_set (gr_set h _ _) _ _) _ _) _ _) _ _) _ _)
theorem gr6n {w W : World} {q : Nat} {x0 x1 x2 x3 x4 x5 : Value} (h : w.grownBy W none) (hq : w.heap.size ≤ q) : w.grownBy ((((((W.setCell ⟨q,0,none⟩ x0).setCell ⟨q,1,none⟩ x1).setCell ⟨q,2,none⟩ x2).setCell ⟨q,3,none⟩ x3).setCell ⟨q,4,none⟩ x4).setCell ⟨q,5,none⟩ x5) none := (gr_own (gr_own (gr_own (gr_own (gr_own (gr_own h hq _ _) hq _ _) hq _ _) hq _ _) hq _ _) hq _ _)
theorem gr6o {w W : World} {r : Option Nat} {q : Nat} {x0 x1 x2 x3 x4 x5 : Value} (h : w.grownBy W r) (hq : w.heap.size ≤ q) : w.grownBy ((((((W.setCell ⟨q,0,none⟩ x0).setCell ⟨q,1,none⟩ x1).setCell ⟨q,2,none⟩ x2).setCell ⟨q,3,none⟩ x3).setCell ⟨q,4,none⟩ x4).setCell ⟨q,5,none⟩ x5) r := (gr_ow2 (gr_ow2 (gr_ow2 (gr_ow2 (gr_ow2 (gr_ow2 h hq _ _) hq _ _) hq _ _) hq _ _) hq _ _) hq _ _)
theorem at8 {W : World} {q : Nat} {y0 y1 y2 y3 y4 y5 y6 y7 : Value} {T : TypeId} (h : W.heap[q]? = some (.cells #[y0,y1,y2,y3,y4,y5,y6,y7] T)) : W.cell? ⟨q,0,none⟩ = some y0 ∧ W.cell? ⟨q,1,none⟩ = some y1 ∧ W.cell? ⟨q,2,none⟩ = some y2 ∧ W.cell? ⟨q,3,none⟩ = some y3 ∧ W.cell? ⟨q,4,none⟩ = some y4 ∧ W.cell? ⟨q,5,none⟩ = some y5 ∧ W.cell? ⟨q,6,none⟩ = some y6 ∧ W.cell? ⟨q,7,none⟩ = some y7 :=
 ⟨by simpa using at_cell h 0,by simpa using at_cell h 1,by simpa using at_cell h 2,by simpa using at_cell h 3,by simpa using at_cell h 4,by simpa using at_cell h 5,by simpa using at_cell h 6,by simpa using at_cell h 7⟩
theorem box8 {W : World} {q : Nat} {y0 y1 y2 y3 y4 y5 y6 y7 x0 x1 x2 x3 x4 x5 x6 x7 : Value} {T : TypeId} (h : W.heap[q]? = some (.cells #[y0,y1,y2,y3,y4,y5,y6,y7] T)) : ((((((((W.setCell ⟨q,0,none⟩ x0).setCell ⟨q,1,none⟩ x1).setCell ⟨q,2,none⟩ x2).setCell ⟨q,3,none⟩ x3).setCell ⟨q,4,none⟩ x4).setCell ⟨q,5,none⟩ x5).setCell ⟨q,6,none⟩ x6).setCell ⟨q,7,none⟩ x7).heap[q]? = some (.cells #[x0,x1,x2,x3,x4,x5,x6,x7] T) := by
 have := (at_set (at_set (at_set (at_set (at_set (at_set (at_set (at_set h 0 x0) 1 x1) 2 x2) 3 x3) 4 x4) 5 x5) 6 x6) 7 x7)
 simpa using this
theorem gr8 {w W : World} {q : Nat} {x0 x1 x2 x3 x4 x5 x6 x7 : Value} (h : w.grownBy W (some q)) : w.grownBy ((((((((W.setCell ⟨q,0,none⟩ x0).setCell ⟨q,1,none⟩ x1).setCell ⟨q,2,none⟩ x2).setCell ⟨q,3,none⟩ x3).setCell ⟨q,4,none⟩ x4).setCell ⟨q,5,none⟩ x5).setCell ⟨q,6,none⟩ x6).setCell ⟨q,7,none⟩ x7) (some q) := (gr_set (gr_set (gr_set (gr_set (gr_set (gr_set (gr_set (gr_set h _ _) _ _) _ _) _ _) _ _) _ _) _ _) _ _)
theorem gr8n {w W : World} {q : Nat} {x0 x1 x2 x3 x4 x5 x6 x7 : Value} (h : w.grownBy W none) (hq : w.heap.size ≤ q) : w.grownBy ((((((((W.setCell ⟨q,0,none⟩ x0).setCell ⟨q,1,none⟩ x1).setCell ⟨q,2,none⟩ x2).setCell ⟨q,3,none⟩ x3).setCell ⟨q,4,none⟩ x4).setCell ⟨q,5,none⟩ x5).setCell ⟨q,6,none⟩ x6).setCell ⟨q,7,none⟩ x7) none := (gr_own (gr_own (gr_own (gr_own (gr_own (gr_own (gr_own (gr_own h hq _ _) hq _ _) hq _ _) hq _ _) hq _ _) hq _ _) hq _ _) hq _ _)
theorem gr8o {w W : World} {r : Option Nat} {q : Nat} {x0 x1 x2 x3 x4 x5 x6 x7 : Value} (h : w.grownBy W r) (hq : w.heap.size ≤ q) : w.grownBy ((((((((W.setCell ⟨q,0,none⟩ x0).setCell ⟨q,1,none⟩ x1).setCell ⟨q,2,none⟩ x2).setCell ⟨q,3,none⟩ x3).setCell ⟨q,4,none⟩ x4).setCell ⟨q,5,none⟩ x5).setCell ⟨q,6,none⟩ x6).setCell ⟨q,7,none⟩ x7) r := (gr_ow2 (gr_ow2 (gr_ow2 (gr_ow2 (gr_ow2 (gr_ow2 (gr_ow2 (gr_ow2 h hq _ _) hq _ _) hq _ _) hq _ _) hq _ _) hq _ _) hq _ _) hq _ _)
theorem at13 {W : World} {q : Nat} {y0 y1 y2 y3 y4 y5 y6 y7 y8 y9 y10 y11 y12 : Value} {T : TypeId} (h : W.heap[q]? = some (.cells #[y0,y1,y2,y3,y4,y5,y6,y7,y8,y9,y10,y11,y12] T)) : W.cell? ⟨q,0,none⟩ = some y0 ∧ W.cell? ⟨q,1,none⟩ = some y1 ∧ W.cell? ⟨q,2,none⟩ = some y2 ∧ W.cell? ⟨q,3,none⟩ = some y3 ∧ W.cell? ⟨q,4,none⟩ = some y4 ∧ W.cell? ⟨q,5,none⟩ = some y5 ∧ W.cell? ⟨q,6,none⟩ = some y6 ∧ W.cell? ⟨q,7,none⟩ = some y7 ∧ W.cell? ⟨q,8,none⟩ = some y8 ∧ W.cell? ⟨q,9,none⟩ = some y9 ∧ W.cell? ⟨q,10,none⟩ = some y10 ∧ W.cell? ⟨q,11,none⟩ = some y11 ∧ W.cell? ⟨q,12,none⟩ = some y12 :=
 ⟨by simpa using at_cell h 0,by simpa using at_cell h 1,by simpa using at_cell h 2,by simpa using at_cell h 3,by simpa using at_cell h 4,by simpa using at_cell h 5,by simpa using at_cell h 6,by simpa using at_cell h 7,by simpa using at_cell h 8,by simpa using at_cell h 9,by simpa using at_cell h 10,by simpa using at_cell h 11,by simpa using at_cell h 12⟩
theorem box13 {W : World} {q : Nat} {y0 y1 y2 y3 y4 y5 y6 y7 y8 y9 y10 y11 y12 x0 x1 x2 x3 x4 x5 x6 x7 x8 x9 x10 x11 x12 : Value} {T : TypeId} (h : W.heap[q]? = some (.cells #[y0,y1,y2,y3,y4,y5,y6,y7,y8,y9,y10,y11,y12] T)) : (((((((((((((W.setCell ⟨q,0,none⟩ x0).setCell ⟨q,1,none⟩ x1).setCell ⟨q,2,none⟩ x2).setCell ⟨q,3,none⟩ x3).setCell ⟨q,4,none⟩ x4).setCell ⟨q,5,none⟩ x5).setCell ⟨q,6,none⟩ x6).setCell ⟨q,7,none⟩ x7).setCell ⟨q,8,none⟩ x8).setCell ⟨q,9,none⟩ x9).setCell ⟨q,10,none⟩ x10).setCell ⟨q,11,none⟩ x11).setCell ⟨q,12,none⟩ x12).heap[q]? = some (.cells #[x0,x1,x2,x3,x4,x5,x6,x7,x8,x9,x10,x11,x12] T) := by
 have := (at_set (at_set (at_set (at_set (at_set (at_set (at_set (at_set (at_set (at_set (at_set (at_set (at_set h 0 x0) 1 x1) 2 x2) 3 x3) 4 x4) 5 x5) 6 x6) 7 x7) 8 x8) 9 x9) 10 x10) 11 x11) 12 x12)
 simpa using this
theorem gr13 {w W : World} {q : Nat} {x0 x1 x2 x3 x4 x5 x6 x7 x8 x9 x10 x11 x12 : Value} (h : w.grownBy W (some q)) : w.grownBy (((((((((((((W.setCell ⟨q,0,none⟩ x0).setCell ⟨q,1,none⟩ x1).setCell ⟨q,2,none⟩ x2).setCell ⟨q,3,none⟩ x3).setCell ⟨q,4,none⟩ x4).setCell ⟨q,5,none⟩ x5).setCell ⟨q,6,none⟩ x6).setCell ⟨q,7,none⟩ x7).setCell ⟨q,8,none⟩ x8).setCell ⟨q,9,none⟩ x9).setCell ⟨q,10,none⟩ x10).setCell ⟨q,11,none⟩ x11).setCell ⟨q,12,none⟩ x12) (some q) := (gr_set (gr_set (gr_set (gr_set (gr_set (gr_set (gr_set (gr_set (gr_set (gr_set (gr_set (gr_set (gr_set h _ _) _ _) _ _) _ _) _ _) _ _) _ _) _ _) _ _) _ _) _ _) _ _) _ _)
theorem gr13n {w W : World} {q : Nat} {x0 x1 x2 x3 x4 x5 x6 x7 x8 x9 x10 x11 x12 : Value} (h : w.grownBy W none) (hq : w.heap.size ≤ q) : w.grownBy (((((((((((((W.setCell ⟨q,0,none⟩ x0).setCell ⟨q,1,none⟩ x1).setCell ⟨q,2,none⟩ x2).setCell ⟨q,3,none⟩ x3).setCell ⟨q,4,none⟩ x4).setCell ⟨q,5,none⟩ x5).setCell ⟨q,6,none⟩ x6).setCell ⟨q,7,none⟩ x7).setCell ⟨q,8,none⟩ x8).setCell ⟨q,9,none⟩ x9).setCell ⟨q,10,none⟩ x10).setCell ⟨q,11,none⟩ x11).setCell ⟨q,12,none⟩ x12) none := (gr_own (gr_own (gr_own (gr_own (gr_own (gr_own (gr_own (gr_own (gr_own (gr_own (gr_own (gr_own (gr_own h hq _ _) hq _ _) hq _ _) hq _ _) hq _ _) hq _ _) hq _ _) hq _ _) hq _ _) hq _ _) hq _ _) hq _ _) hq _ _)
theorem gr13o {w W : World} {r : Option Nat} {q : Nat} {x0 x1 x2 x3 x4 x5 x6 x7 x8 x9 x10 x11 x12 : Value} (h : w.grownBy W r) (hq : w.heap.size ≤ q) : w.grownBy (((((((((((((W.setCell ⟨q,0,none⟩ x0).setCell ⟨q,1,none⟩ x1).setCell ⟨q,2,none⟩ x2).setCell ⟨q,3,none⟩ x3).setCell ⟨q,4,none⟩ x4).setCell ⟨q,5,none⟩ x5).setCell ⟨q,6,none⟩ x6).setCell ⟨q,7,none⟩ x7).setCell ⟨q,8,none⟩ x8).setCell ⟨q,9,none⟩ x9).setCell ⟨q,10,none⟩ x10).setCell ⟨q,11,none⟩ x11).setCell ⟨q,12,none⟩ x12) r := (gr_ow2 (gr_ow2 (gr_ow2 (gr_ow2 (gr_ow2 (gr_ow2 (gr_ow2 (gr_ow2 (gr_ow2 (gr_ow2 (gr_ow2 (gr_ow2 (gr_ow2 h hq _ _) hq _ _) hq _ _) hq _ _) hq _ _) hq _ _) hq _ _) hq _ _) hq _ _) hq _ _) hq _ _) hq _ _) hq _ _)
theorem at10 {W : World} {q : Nat} {y0 y1 y2 y3 y4 y5 y6 y7 y8 y9 : Value} {T : TypeId} (h : W.heap[q]? = some (.cells #[y0,y1,y2,y3,y4,y5,y6,y7,y8,y9] T)) : W.cell? ⟨q,0,none⟩ = some y0 ∧ W.cell? ⟨q,1,none⟩ = some y1 ∧ W.cell? ⟨q,2,none⟩ = some y2 ∧ W.cell? ⟨q,3,none⟩ = some y3 ∧ W.cell? ⟨q,4,none⟩ = some y4 ∧ W.cell? ⟨q,5,none⟩ = some y5 ∧ W.cell? ⟨q,6,none⟩ = some y6 ∧ W.cell? ⟨q,7,none⟩ = some y7 ∧ W.cell? ⟨q,8,none⟩ = some y8 ∧ W.cell? ⟨q,9,none⟩ = some y9 :=
 ⟨by simpa using at_cell h 0,by simpa using at_cell h 1,by simpa using at_cell h 2,by simpa using at_cell h 3,by simpa using at_cell h 4,by simpa using at_cell h 5,by simpa using at_cell h 6,by simpa using at_cell h 7,by simpa using at_cell h 8,by simpa using at_cell h 9⟩
theorem box10 {W : World} {q : Nat} {y0 y1 y2 y3 y4 y5 y6 y7 y8 y9 x0 x1 x2 x3 x4 x5 x6 x7 x8 x9 : Value} {T : TypeId} (h : W.heap[q]? = some (.cells #[y0,y1,y2,y3,y4,y5,y6,y7,y8,y9] T)) : ((((((((((W.setCell ⟨q,0,none⟩ x0).setCell ⟨q,1,none⟩ x1).setCell ⟨q,2,none⟩ x2).setCell ⟨q,3,none⟩ x3).setCell ⟨q,4,none⟩ x4).setCell ⟨q,5,none⟩ x5).setCell ⟨q,6,none⟩ x6).setCell ⟨q,7,none⟩ x7).setCell ⟨q,8,none⟩ x8).setCell ⟨q,9,none⟩ x9).heap[q]? = some (.cells #[x0,x1,x2,x3,x4,x5,x6,x7,x8,x9] T) := by
 have := (at_set (at_set (at_set (at_set (at_set (at_set (at_set (at_set (at_set (at_set h 0 x0) 1 x1) 2 x2) 3 x3) 4 x4) 5 x5) 6 x6) 7 x7) 8 x8) 9 x9)
 simpa using this
theorem gr10 {w W : World} {q : Nat} {x0 x1 x2 x3 x4 x5 x6 x7 x8 x9 : Value} (h : w.grownBy W (some q)) : w.grownBy ((((((((((W.setCell ⟨q,0,none⟩ x0).setCell ⟨q,1,none⟩ x1).setCell ⟨q,2,none⟩ x2).setCell ⟨q,3,none⟩ x3).setCell ⟨q,4,none⟩ x4).setCell ⟨q,5,none⟩ x5).setCell ⟨q,6,none⟩ x6).setCell ⟨q,7,none⟩ x7).setCell ⟨q,8,none⟩ x8).setCell ⟨q,9,none⟩ x9) (some q) := (gr_set (gr_set (gr_set (gr_set (gr_set (gr_set (gr_set (gr_set (gr_set (gr_set h _ _) _ _) _ _) _ _) _ _) _ _) _ _) _ _) _ _) _ _)
theorem gr10n {w W : World} {q : Nat} {x0 x1 x2 x3 x4 x5 x6 x7 x8 x9 : Value} (h : w.grownBy W none) (hq : w.heap.size ≤ q) : w.grownBy ((((((((((W.setCell ⟨q,0,none⟩ x0).setCell ⟨q,1,none⟩ x1).setCell ⟨q,2,none⟩ x2).setCell ⟨q,3,none⟩ x3).setCell ⟨q,4,none⟩ x4).setCell ⟨q,5,none⟩ x5).setCell ⟨q,6,none⟩ x6).setCell ⟨q,7,none⟩ x7).setCell ⟨q,8,none⟩ x8).setCell ⟨q,9,none⟩ x9) none := (gr_own (gr_own (gr_own (gr_own (gr_own (gr_own (gr_own (gr_own (gr_own (gr_own h hq _ _) hq _ _) hq _ _) hq _ _) hq _ _) hq _ _) hq _ _) hq _ _) hq _ _) hq _ _)
theorem gr10o {w W : World} {r : Option Nat} {q : Nat} {x0 x1 x2 x3 x4 x5 x6 x7 x8 x9 : Value} (h : w.grownBy W r) (hq : w.heap.size ≤ q) : w.grownBy ((((((((((W.setCell ⟨q,0,none⟩ x0).setCell ⟨q,1,none⟩ x1).setCell ⟨q,2,none⟩ x2).setCell ⟨q,3,none⟩ x3).setCell ⟨q,4,none⟩ x4).setCell ⟨q,5,none⟩ x5).setCell ⟨q,6,none⟩ x6).setCell ⟨q,7,none⟩ x7).setCell ⟨q,8,none⟩ x8).setCell ⟨q,9,none⟩ x9) r := (gr_ow2 (gr_ow2 (gr_ow2 (gr_ow2 (gr_ow2 (gr_ow2 (gr_ow2 (gr_ow2 (gr_ow2 (gr_ow2 h hq _ _) hq _ _) hq _ _) hq _ _) hq _ _) hq _ _) hq _ _) hq _ _) hq _ _) hq _ _)
theorem at12 {W : World} {q : Nat} {y0 y1 y2 y3 y4 y5 y6 y7 y8 y9 y10 y11 : Value} {T : TypeId} (h : W.heap[q]? = some (.cells #[y0,y1,y2,y3,y4,y5,y6,y7,y8,y9,y10,y11] T)) : W.cell? ⟨q,0,none⟩ = some y0 ∧ W.cell? ⟨q,1,none⟩ = some y1 ∧ W.cell? ⟨q,2,none⟩ = some y2 ∧ W.cell? ⟨q,3,none⟩ = some y3 ∧ W.cell? ⟨q,4,none⟩ = some y4 ∧ W.cell? ⟨q,5,none⟩ = some y5 ∧ W.cell? ⟨q,6,none⟩ = some y6 ∧ W.cell? ⟨q,7,none⟩ = some y7 ∧ W.cell? ⟨q,8,none⟩ = some y8 ∧ W.cell? ⟨q,9,none⟩ = some y9 ∧ W.cell? ⟨q,10,none⟩ = some y10 ∧ W.cell? ⟨q,11,none⟩ = some y11 :=
 ⟨by simpa using at_cell h 0,by simpa using at_cell h 1,by simpa using at_cell h 2,by simpa using at_cell h 3,by simpa using at_cell h 4,by simpa using at_cell h 5,by simpa using at_cell h 6,by simpa using at_cell h 7,by simpa using at_cell h 8,by simpa using at_cell h 9,by simpa using at_cell h 10,by simpa using at_cell h 11⟩
theorem box12 {W : World} {q : Nat} {y0 y1 y2 y3 y4 y5 y6 y7 y8 y9 y10 y11 x0 x1 x2 x3 x4 x5 x6 x7 x8 x9 x10 x11 : Value} {T : TypeId} (h : W.heap[q]? = some (.cells #[y0,y1,y2,y3,y4,y5,y6,y7,y8,y9,y10,y11] T)) : ((((((((((((W.setCell ⟨q,0,none⟩ x0).setCell ⟨q,1,none⟩ x1).setCell ⟨q,2,none⟩ x2).setCell ⟨q,3,none⟩ x3).setCell ⟨q,4,none⟩ x4).setCell ⟨q,5,none⟩ x5).setCell ⟨q,6,none⟩ x6).setCell ⟨q,7,none⟩ x7).setCell ⟨q,8,none⟩ x8).setCell ⟨q,9,none⟩ x9).setCell ⟨q,10,none⟩ x10).setCell ⟨q,11,none⟩ x11).heap[q]? = some (.cells #[x0,x1,x2,x3,x4,x5,x6,x7,x8,x9,x10,x11] T) := by
 have := (at_set (at_set (at_set (at_set (at_set (at_set (at_set (at_set (at_set (at_set (at_set (at_set h 0 x0) 1 x1) 2 x2) 3 x3) 4 x4) 5 x5) 6 x6) 7 x7) 8 x8) 9 x9) 10 x10) 11 x11)
 simpa using this
theorem gr12 {w W : World} {q : Nat} {x0 x1 x2 x3 x4 x5 x6 x7 x8 x9 x10 x11 : Value} (h : w.grownBy W (some q)) : w.grownBy ((((((((((((W.setCell ⟨q,0,none⟩ x0).setCell ⟨q,1,none⟩ x1).setCell ⟨q,2,none⟩ x2).setCell ⟨q,3,none⟩ x3).setCell ⟨q,4,none⟩ x4).setCell ⟨q,5,none⟩ x5).setCell ⟨q,6,none⟩ x6).setCell ⟨q,7,none⟩ x7).setCell ⟨q,8,none⟩ x8).setCell ⟨q,9,none⟩ x9).setCell ⟨q,10,none⟩ x10).setCell ⟨q,11,none⟩ x11) (some q) := (gr_set (gr_set (gr_set (gr_set (gr_set (gr_set (gr_set (gr_set (gr_set (gr_set (gr_set (gr_set h _ _) _ _) _ _) _ _) _ _) _ _) _ _) _ _) _ _) _ _) _ _) _ _)
theorem gr12n {w W : World} {q : Nat} {x0 x1 x2 x3 x4 x5 x6 x7 x8 x9 x10 x11 : Value} (h : w.grownBy W none) (hq : w.heap.size ≤ q) : w.grownBy ((((((((((((W.setCell ⟨q,0,none⟩ x0).setCell ⟨q,1,none⟩ x1).setCell ⟨q,2,none⟩ x2).setCell ⟨q,3,none⟩ x3).setCell ⟨q,4,none⟩ x4).setCell ⟨q,5,none⟩ x5).setCell ⟨q,6,none⟩ x6).setCell ⟨q,7,none⟩ x7).setCell ⟨q,8,none⟩ x8).setCell ⟨q,9,none⟩ x9).setCell ⟨q,10,none⟩ x10).setCell ⟨q,11,none⟩ x11) none := (gr_own (gr_own (gr_own (gr_own (gr_own (gr_own (gr_own (gr_own (gr_own (gr_own (gr_own (gr_own h hq _ _) hq _ _) hq _ _) hq _ _) hq _ _) hq _ _) hq _ _) hq _ _) hq _ _) hq _ _) hq _ _) hq _ _)
theorem gr12o {w W : World} {r : Option Nat} {q : Nat} {x0 x1 x2 x3 x4 x5 x6 x7 x8 x9 x10 x11 : Value} (h : w.grownBy W r) (hq : w.heap.size ≤ q) : w.grownBy ((((((((((((W.setCell ⟨q,0,none⟩ x0).setCell ⟨q,1,none⟩ x1).setCell ⟨q,2,none⟩ x2).setCell ⟨q,3,none⟩ x3).setCell ⟨q,4,none⟩ x4).setCell ⟨q,5,none⟩ x5).setCell ⟨q,6,none⟩ x6).setCell ⟨q,7,none⟩ x7).setCell ⟨q,8,none⟩ x8).setCell ⟨q,9,none⟩ x9).setCell ⟨q,10,none⟩ x10).setCell ⟨q,11,none⟩ x11) r := (gr_ow2 (gr_ow2 (gr_ow2 (gr_ow2 (gr_ow2 (gr_ow2 (gr_ow2 (gr_ow2 (gr_ow2 (gr_ow2 (gr_ow2 (gr_ow2 h hq _ _) hq _ _) hq _ _) hq _ _) hq _ _) hq _ _) hq _ _) hq _ _) hq _ _) hq _ _) hq _ _) hq _ _)
theorem at15 {W : World} {q : Nat} {y0 y1 y2 y3 y4 y5 y6 y7 y8 y9 y10 y11 y12 y13 y14 : Value} {T : TypeId} (h : W.heap[q]? = some (.cells #[y0,y1,y2,y3,y4,y5,y6,y7,y8,y9,y10,y11,y12,y13,y14] T)) : W.cell? ⟨q,0,none⟩ = some y0 ∧ W.cell? ⟨q,1,none⟩ = some y1 ∧ W.cell? ⟨q,2,none⟩ = some y2 ∧ W.cell? ⟨q,3,none⟩ = some y3 ∧ W.cell? ⟨q,4,none⟩ = some y4 ∧ W.cell? ⟨q,5,none⟩ = some y5 ∧ W.cell? ⟨q,6,none⟩ = some y6 ∧ W.cell? ⟨q,7,none⟩ = some y7 ∧ W.cell? ⟨q,8,none⟩ = some y8 ∧ W.cell? ⟨q,9,none⟩ = some y9 ∧ W.cell? ⟨q,10,none⟩ = some y10 ∧ W.cell? ⟨q,11,none⟩ = some y11 ∧ W.cell? ⟨q,12,none⟩ = some y12 ∧ W.cell? ⟨q,13,none⟩ = some y13 ∧ W.cell? ⟨q,14,none⟩ = some y14 :=
 ⟨by simpa using at_cell h 0,by simpa using at_cell h 1,by simpa using at_cell h 2,by simpa using at_cell h 3,by simpa using at_cell h 4,by simpa using at_cell h 5,by simpa using at_cell h 6,by simpa using at_cell h 7,by simpa using at_cell h 8,by simpa using at_cell h 9,by simpa using at_cell h 10,by simpa using at_cell h 11,by simpa using at_cell h 12,by simpa using at_cell h 13,by simpa using at_cell h 14⟩
theorem box15 {W : World} {q : Nat} {y0 y1 y2 y3 y4 y5 y6 y7 y8 y9 y10 y11 y12 y13 y14 x0 x1 x2 x3 x4 x5 x6 x7 x8 x9 x10 x11 x12 x13 x14 : Value} {T : TypeId} (h : W.heap[q]? = some (.cells #[y0,y1,y2,y3,y4,y5,y6,y7,y8,y9,y10,y11,y12,y13,y14] T)) : (((((((((((((((W.setCell ⟨q,0,none⟩ x0).setCell ⟨q,1,none⟩ x1).setCell ⟨q,2,none⟩ x2).setCell ⟨q,3,none⟩ x3).setCell ⟨q,4,none⟩ x4).setCell ⟨q,5,none⟩ x5).setCell ⟨q,6,none⟩ x6).setCell ⟨q,7,none⟩ x7).setCell ⟨q,8,none⟩ x8).setCell ⟨q,9,none⟩ x9).setCell ⟨q,10,none⟩ x10).setCell ⟨q,11,none⟩ x11).setCell ⟨q,12,none⟩ x12).setCell ⟨q,13,none⟩ x13).setCell ⟨q,14,none⟩ x14).heap[q]? = some (.cells #[x0,x1,x2,x3,x4,x5,x6,x7,x8,x9,x10,x11,x12,x13,x14] T) := by
 have := (at_set (at_set (at_set (at_set (at_set (at_set (at_set (at_set (at_set (at_set (at_set (at_set (at_set (at_set (at_set h 0 x0) 1 x1) 2 x2) 3 x3) 4 x4) 5 x5) 6 x6) 7 x7) 8 x8) 9 x9) 10 x10) 11 x11) 12 x12) 13 x13) 14 x14)
 simpa using this
theorem gr15 {w W : World} {q : Nat} {x0 x1 x2 x3 x4 x5 x6 x7 x8 x9 x10 x11 x12 x13 x14 : Value} (h : w.grownBy W (some q)) : w.grownBy (((((((((((((((W.setCell ⟨q,0,none⟩ x0).setCell ⟨q,1,none⟩ x1).setCell ⟨q,2,none⟩ x2).setCell ⟨q,3,none⟩ x3).setCell ⟨q,4,none⟩ x4).setCell ⟨q,5,none⟩ x5).setCell ⟨q,6,none⟩ x6).setCell ⟨q,7,none⟩ x7).setCell ⟨q,8,none⟩ x8).setCell ⟨q,9,none⟩ x9).setCell ⟨q,10,none⟩ x10).setCell ⟨q,11,none⟩ x11).setCell ⟨q,12,none⟩ x12).setCell ⟨q,13,none⟩ x13).setCell ⟨q,14,none⟩ x14) (some q) := (gr_set (gr_set (gr_set (gr_set (gr_set (gr_set (gr_set (gr_set (gr_set (gr_set (gr_set (gr_set (gr_set (gr_set (gr_set h _ _) _ _) _ _) _ _) _ _) _ _) _ _) _ _) _ _) _ _) _ _) _ _) _ _) _ _) _ _)
theorem gr15n {w W : World} {q : Nat} {x0 x1 x2 x3 x4 x5 x6 x7 x8 x9 x10 x11 x12 x13 x14 : Value} (h : w.grownBy W none) (hq : w.heap.size ≤ q) : w.grownBy (((((((((((((((W.setCell ⟨q,0,none⟩ x0).setCell ⟨q,1,none⟩ x1).setCell ⟨q,2,none⟩ x2).setCell ⟨q,3,none⟩ x3).setCell ⟨q,4,none⟩ x4).setCell ⟨q,5,none⟩ x5).setCell ⟨q,6,none⟩ x6).setCell ⟨q,7,none⟩ x7).setCell ⟨q,8,none⟩ x8).setCell ⟨q,9,none⟩ x9).setCell ⟨q,10,none⟩ x10).setCell ⟨q,11,none⟩ x11).setCell ⟨q,12,none⟩ x12).setCell ⟨q,13,none⟩ x13).setCell ⟨q,14,none⟩ x14) none := (gr_own (gr_own (gr_own (gr_own (gr_own (gr_own (gr_own (gr_own (gr_own (gr_own (gr_own (gr_own (gr_own (gr_own (gr_own h hq _ _) hq _ _) hq _ _) hq _ _) hq _ _) hq _ _) hq _ _) hq _ _) hq _ _) hq _ _) hq _ _) hq _ _) hq _ _) hq _ _) hq _ _)
theorem gr15o {w W : World} {r : Option Nat} {q : Nat} {x0 x1 x2 x3 x4 x5 x6 x7 x8 x9 x10 x11 x12 x13 x14 : Value} (h : w.grownBy W r) (hq : w.heap.size ≤ q) : w.grownBy (((((((((((((((W.setCell ⟨q,0,none⟩ x0).setCell ⟨q,1,none⟩ x1).setCell ⟨q,2,none⟩ x2).setCell ⟨q,3,none⟩ x3).setCell ⟨q,4,none⟩ x4).setCell ⟨q,5,none⟩ x5).setCell ⟨q,6,none⟩ x6).setCell ⟨q,7,none⟩ x7).setCell ⟨q,8,none⟩ x8).setCell ⟨q,9,none⟩ x9).setCell ⟨q,10,none⟩ x10).setCell ⟨q,11,none⟩ x11).setCell ⟨q,12,none⟩ x12).setCell ⟨q,13,none⟩ x13).setCell ⟨q,14,none⟩ x14) r := (gr_ow2 (gr_ow2 (gr_ow2 (gr_ow2 (gr_ow2 (gr_ow2 (gr_ow2 (gr_ow2 (gr_ow2 (gr_ow2 (gr_ow2 (gr_ow2 (gr_ow2 (gr_ow2 (gr_ow2 h hq _ _) hq _ _) hq _ _) hq _ _) hq _ _) hq _ _) hq _ _) hq _ _) hq _ _) hq _ _) hq _ _) hq _ _) hq _ _) hq _ _) hq _ _)
theorem resBox {f : Func} {k : Tmp} {T : TypeId} (hr : f.results = #[.cell k T]) (tmps : Array Value) (W : World) (q : Nat) (cs : Array Value) (hk : tmps.getD k undef = .pointer (some ⟨q,0,none⟩)) (hl : (loadVar T ⟨q,0,none⟩).run Tryz.prog W = .ok (.agg cs) W) : (results f tmps).run Tryz.prog W = .ok (.agg cs) W := by
 have h6' : tmps[k]?.getD undef = .pointer (some ⟨q,0,none⟩) := by simpa using hk
 simp [results,hr]
 rw [h6']
 simp [asAddr,hl,Result.andThen]
theorem inf73 : (Tryz.prog.info? 73).map (·.size) = some 6 := by kernel_rfl
theorem ld73 {W : World} {q : Nat} {a0 a1 a2 a3 a4 a5 : Value} (hg : W.heap[q]? = some (.cells #[a0,a1,a2,a3,a4,a5] 73)) : (loadVar 73 ⟨q,0,none⟩).run Tryz.prog W = .ok (.agg #[a0,a1,a2,a3,a4,a5]) W := run_loadVar_row (P := Tryz.prog) W q 73 73 _ (0,0) _ hg Tryz.underlying73 rfl inf73
theorem inf61 : (Tryz.prog.info? 61).map (·.size) = some 8 := by kernel_rfl
theorem ld61 {W : World} {q : Nat} {a0 a1 a2 a3 a4 a5 a6 a7 : Value} (hg : W.heap[q]? = some (.cells #[a0,a1,a2,a3,a4,a5,a6,a7] 61)) : (loadVar 61 ⟨q,0,none⟩).run Tryz.prog W = .ok (.agg #[a0,a1,a2,a3,a4,a5,a6,a7]) W := run_loadVar_row (P := Tryz.prog) W q 61 61 _ (0,0) _ hg Tryz.underlying61 rfl inf61
theorem inf94 : (Tryz.prog.info? 94).map (·.size) = some 13 := by kernel_rfl
theorem ld94 {W : World} {q : Nat} {a0 a1 a2 a3 a4 a5 a6 a7 a8 a9 a10 a11 a12 : Value} (hg : W.heap[q]? = some (.cells #[a0,a1,a2,a3,a4,a5,a6,a7,a8,a9,a10,a11,a12] 94)) : (loadVar 94 ⟨q,0,none⟩).run Tryz.prog W = .ok (.agg #[a0,a1,a2,a3,a4,a5,a6,a7,a8,a9,a10,a11,a12]) W := run_loadVar_row (P := Tryz.prog) W q 94 94 _ (0,0) _ hg Tryz.underlying94 rfl inf94
theorem inf97 : (Tryz.prog.info? 97).map (·.size) = some 12 := by kernel_rfl
theorem ld97 {W : World} {q : Nat} {a0 a1 a2 a3 a4 a5 a6 a7 a8 a9 a10 a11 : Value} (hg : W.heap[q]? = some (.cells #[a0,a1,a2,a3,a4,a5,a6,a7,a8,a9,a10,a11] 97)) : (loadVar 97 ⟨q,0,none⟩).run Tryz.prog W = .ok (.agg #[a0,a1,a2,a3,a4,a5,a6,a7,a8,a9,a10,a11]) W := run_loadVar_row (P := Tryz.prog) W q 97 97 _ (0,0) _ hg Tryz.underlying97 rfl inf97
theorem inf100 : (Tryz.prog.info? 100).map (·.size) = some 10 := by kernel_rfl
theorem ld100 {W : World} {q : Nat} {a0 a1 a2 a3 a4 a5 a6 a7 a8 a9 : Value} (hg : W.heap[q]? = some (.cells #[a0,a1,a2,a3,a4,a5,a6,a7,a8,a9] 100)) : (loadVar 100 ⟨q,0,none⟩).run Tryz.prog W = .ok (.agg #[a0,a1,a2,a3,a4,a5,a6,a7,a8,a9]) W := run_loadVar_row (P := Tryz.prog) W q 100 100 _ (0,0) _ hg Tryz.underlying100 rfl inf100
theorem inf63 : (Tryz.prog.info? 63).map (·.size) = some 15 := by kernel_rfl
theorem ld63 {W : World} {q : Nat} {a0 a1 a2 a3 a4 a5 a6 a7 a8 a9 a10 a11 a12 a13 a14 : Value} (hg : W.heap[q]? = some (.cells #[a0,a1,a2,a3,a4,a5,a6,a7,a8,a9,a10,a11,a12,a13,a14] 63)) : (loadVar 63 ⟨q,0,none⟩).run Tryz.prog W = .ok (.agg #[a0,a1,a2,a3,a4,a5,a6,a7,a8,a9,a10,a11,a12,a13,a14]) W := run_loadVar_row (P := Tryz.prog) W q 63 63 _ (0,0) _ hg Tryz.underlying63 rfl inf63
theorem inf33 : (Tryz.prog.info? 33).map (·.size) = some 6 := by kernel_rfl
theorem ld33 {W : World} {q : Nat} {a0 a1 a2 a3 a4 a5 : Value} (hg : W.heap[q]? = some (.cells #[a0,a1,a2,a3,a4,a5] 33)) : (loadVar 33 ⟨q,0,none⟩).run Tryz.prog W = .ok (.agg #[a0,a1,a2,a3,a4,a5]) W := run_loadVar_row (P := Tryz.prog) W q 33 33 _ (0,0) _ hg Tryz.underlying33 rfl inf33
end Go.Proofs.YtdcoidmbainkmaaGreatDoor
