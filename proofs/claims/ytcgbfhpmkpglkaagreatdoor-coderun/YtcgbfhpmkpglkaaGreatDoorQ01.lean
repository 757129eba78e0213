/- Texts put together: Aa, B0. -/
import Derived.Below
import Derived.OwnWalk
import Derived.Test.YtcgbfhpmkpglkaaGreatDoorRows
import Derived.WalkKit
import Derived.WalkSpells
import Derived.WalkLawsBesides
import Derived.Outline
import Derived.Deep.LoopGhost
import Derived.Deep.QuietTactic
import Derived.BigQuiet
import Derived.Deep.RegionHeld3
import Derived.Deep.DrawnRows
import Derived.Maps.AppendAt
import Derived.Laws.AppendOwnNone
import Derived.Laws.CopyOwn
import Derived.Laws.MakeOwn
import Derived.OpenShut
set_option linter.unusedVariables false
set_option linter.unusedSimpArgs false
set_option maxHeartbeats 8000000
namespace Go.Proofs.YtcgbfhpmkpglkaaGreatDoor
open Go.RowKit
theorem hd_ {p:Prop} (h:p):Hid p:=h
theorem gz_ {w:World} {r:Option Nat}:w.grownBy w r:=World.grownBy.refl _ _
theorem om_ {p:Prop} (h:p:=by omega):p:=h
theorem pl_ {p q:Prop} (h:p) (k:p→q:=by first | (intro h;with_reducible exact h) | (intro h;simp;exact h)):q:=k h
end Go.Proofs.YtcgbfhpmkpglkaaGreatDoor
namespace Go.Proofs.YtcgbfhpmkpglkaaGreatDoor
open Go.RowKit
attribute [local go_sem ↓] Go.wp_at_zero Go.wp_at_succ
theorem x3_ {w W:World} {p:Nat} (h:w.grownBy W (some p)) (i:Nat) (v:Value):w.grownBy (W.setCell ⟨p,i,none⟩ v) (some p):=
 ⟨h.os,h.tape,h.output,by simpa using h.size,fun k hk hne=>by rw[Below.heap_setCell _ _ _ _ (fun e=>hne (by rw[e]))];exact h.block k hk hne⟩
theorem xb_ {w W:World} {r:Option Nat} (h:w.grownBy W r) (o:Obj):w.grownBy (W.alloc o) r:=
 ⟨h.os,h.tape,h.output,by simp;have:=h.size;omega,fun k hk hne=>by rw[Below.heap_alloc _ _ _ (Nat.lt_of_lt_of_le hk h.size)];exact h.block k hk hne⟩
theorem xf_ {w W:World} {r:Option Nat} (h:w.grownBy W r):w.grownBy W.drew r:=⟨h.os,h.tape,h.output,h.size,h.block⟩
theorem xk_ {W:World} {p:Nat} {cs:Array Value} {T:TypeId} (h:W.heap[p]?=some (.cells cs T)) (i:Nat) (v:Value):(W.setCell ⟨p,i,none⟩ v).heap[p]?=some (.cells (cs.setIfInBounds i v) T):=
 heap_setCell_same W p i cs T v h
theorem xa_ {W:World} {p:Nat} {cs:Array Value} {T:TypeId} (h:W.heap[p]?=some (.cells cs T)) (i:Nat):W.cell? ⟨p,i,none⟩=cs[i]?:=by
 simp[World.cell?,h]
theorem xc_ {W:World} {p:Nat} {cs:Array Value} {T:TypeId} (h:W.heap[p]?=some (.cells cs T)) (i:Nat):W.frozen? ⟨p,i,none⟩=false:=by
 simp[World.frozen?,h]
theorem xg_ {W:World} {p:Nat} {o:Obj} (h:W.heap[p]?=some o):p<W.heap.size:=(Array.getElem?_eq_some_iff.1 h).1
theorem yc_ {w W:World} {p:Nat} (h:w.grownBy W none) (hp:w.heap.size≤p) (i:Nat) (v:Value):w.grownBy (W.setCell ⟨p,i,none⟩ v) none:=
 ⟨h.os,h.tape,h.output,by simpa using h.size,fun k hk hne=>by rw[Below.heap_setCell _ _ _ _ (by simp;omega)];exact h.block k hk hne⟩
theorem xj_ {w:World} {k:Nat} (h:k=w.heap.size) (o:Obj):(w.alloc o).heap[k]?=some o:=by
 subst h;exact heap_alloc_new w o
theorem xh_ {w:World} {k:Nat} (h:k<w.heap.size) (o:Obj):(w.alloc o).heap[k]?=w.heap[k]?:=Below.heap_alloc _ _ _ h
theorem xe_ (w:World) (k:Nat):w.drew.heap[k]?=w.heap[k]?:=rfl
def rd (w:World) (v:Value) (l:List Int):Prop:=
 ∃ a cap,v=.slice a l.length cap∧(l=[]∨∃ b off,a=some ⟨b,off,none⟩∧∀ i,i<l.length→w.cell? ⟨b,off+i,none⟩=some (.int .i64 (l.getD i 0)))
def xi_ (l:List Int):Array Value:=(l.map (Value.int .i64)).toArray
theorem an2_ {w:World} {v:Value} {l:List Int} (h:rd w v l) (hl:0<l.length):∃ b off cap,v=.slice (some ⟨b,off,none⟩) l.length cap∧∀ i,i<l.length→w.cell? ⟨b,off+i,none⟩=some (.int .i64 (l.getD i 0)):=by
 obtain⟨a,cap,rfl,h|⟨b,off,rfl,hc⟩⟩:=h
 ·subst h;simp at hl
 ·exact⟨b,off,cap,rfl,hc⟩
theorem kept {w w':World} {k:Nat} {o:Obj} (hg:w.grownBy w' none) (h:w.heap[k]?=some o):w'.heap[k]?=some o:=(hg.block k (xg_ h) (by simp)).trans h
theorem j7_ {w w':World} {k p:Nat} {o:Obj} (hg:w.grownBy w' (some p)) (h:w.heap[k]?=some o) (hne:k≠p):w'.heap[k]?=some o:=(hg.block k (xg_ h) (by simpa using hne)).trans h
theorem xo_ {w w':World} {v:Value} {l:List Int} (h:rd w v l) (hg:w.grownBy w' none):rd w' v l:=by
 obtain⟨a,cap,rfl,h|⟨b,off,rfl,hc⟩⟩:=h
 ·exact⟨a,cap,rfl,.inl h⟩
 ·exact⟨_,cap,rfl,.inr ⟨b,off,rfl,fun i hi=>hg.cell (hc i hi) (by simp)⟩⟩
theorem yp_ (l:List Int) (k:Nat) (x:Int):(xi_ l).setIfInBounds k (.int .i64 x)=xi_ (l.set k x):=by
 unfold xi_;simp[List.map_set]
theorem ade_ {W:World} {b i j p:Nat} {v x:Value} (hne:b≠p) (h:W.cell? ⟨b,j,none⟩=some v):(W.setCell ⟨p,i,none⟩ x).cell? ⟨b,j,none⟩=some v:=by
 rw[← h];exact World.cell?_of_block (Below.heap_setCell _ _ _ _ (by simpa using hne))
theorem x0_ {P:Program} {w:World} {ops:Array Oper} {rest:List Oper} {o:Oper} {a:Act} {Q:Exit→Act→World→Prop} (hgd:o.guard=none) (s x:Operand) (t:TypeId)
 (ho:o.op=.call { callee:=.builtin .append,args:=#[s,x],argTypes:=#[t,t] })
 (v u v':Value) (w':World) (hs:a.eval s=v) (hx:a.eval x=u) (hrun:(Builtin.append_ #[t,t] o.type #[v,u]).run P w=.ok v' w')
 (h:wpList P ops Q rest (a.put o.dst v') w'):wpList P ops Q (o::rest) a w:=by
 refine wpList_plain hgd fun K hK=>?_;unfold Oper.wp;simp[execOp,ho,resolve,invoke,builtin,hs,hx,hrun,Result.andThen];exact hK _ _ h
theorem x6_ {a b c:World} {row row':Option Nat} (h:a.grownBy b row) (k:b.grownBy c row') (hr:row'=row∨∀ x,row'=some x→a.heap.size≤x):a.grownBy c row:=
 ⟨k.os.trans h.os,k.tape.trans h.tape,k.output.trans h.output,Nat.le_trans h.size k.size,fun x hx hne=>by
  have h2:some x≠row':=by
   rcases hr with rfl|hr
   ·exact hne
   ·intro e;have:=hr x e.symm;omega
  exact(k.block x (Nat.lt_of_lt_of_le hx h.size) h2).trans (h.block x hx hne)⟩
theorem yt_ {P:Program} {e:TypeId} {z:Option Value} {n m:Nat} (h:(P.info? e).map (fun i=>(i.zero,i.size,i.bytes))=some (z,n,m)):∃ i,P.info? e=some i∧i.zero=z∧i.size=n∧i.bytes=m:=by
 cases hi:P.info? e with
 | none=>simp[hi] at h
 | some i=>
  simp[hi] at h;exact⟨i,rfl,h.1,h.2.1,h.2.2⟩
theorem v1_:(Tryz.prog.info? 3).map (fun i=>(i.zero,i.size,i.bytes))=some (some (.int .i64 0),1,8):=by kernel_rfl
def Mine (e size c:Nat) (w wx:World) (v:Value) (n:Nat):Prop:=∃ xs,wx.ownsRow 0 e size v n xs∧(v.ownBlock=some c∨∀ x,v.ownBlock=some x→w.heap.size≤x)∧w.grownBy wx (some c)
theorem al0_ {e size bytes t c:Nat} {z:Value} {w wx:World} {v:Value} {n:Nat} {i:TypeInfo} (ht:Tryz.prog.underlying t=some (.slice e)) (hi:Tryz.prog.info? e=some i) (hz:i.zero=some z) (hs:i.size=size) (hb:i.bytes=bytes) (hzs:z.cells.size=size) (hpos:0<size)
 (h:Mine e size c w wx v n) (cur:List Value) (hcur:cur.length=size) (h1:∀ u∈cur,u.oneCell'=true) (hn:n≤1000) (hb64:bytes≤64) :
 ∃ v' w',(Builtin.append_ #[t,t] t #[v,.slice (some ⟨wx.heap.size,0,none⟩) 1 1]).run Tryz.prog (wx.alloc (.cells cur.toArray e))=.ok v' w'∧Mine e size c w w' v' (n+1):=by
 obtain⟨xs,hown,hor,hgr⟩:=h;obtain⟨v',w',r1,r2,r3,_,r5⟩:=run_append_own_at (P:=Tryz.prog) (wx.alloc (.cells cur.toArray e)) 0 t t e i z size bytes ht hi hz hs hb hzs hpos v n xs (hown.alloc _) ⟨wx.heap.size,0,none⟩ 1 1 cur (by omega)
  (fun j u hj=>by
    have e1:(⟨wx.heap.size,0,none⟩:Addr).add j=⟨wx.heap.size,j,none⟩:=(by unfold Addr.add;split <;> simp_all);rw[e1,xa_ (heap_alloc_new wx _) j];simpa using hj)
  h1 (by unfold maxLen;omega) (by
   have:(n+1)*bytes≤1001*64:=Nat.mul_le_mul (by omega) hb64;omega) (Nat.zero_le _)
 refine⟨v',w',r1,_,r2,?_,?_⟩
 · rcases r5 with h5|h5
   ·rw[h5];exact hor
   ·right;intro x hx;rw[h5] at hx;simp at hx;have:=hgr.size;omega
 · refine x6_ (xb_ hgr _) r3 ?_;rcases hor with h|h
   ·exact .inl h
   ·exact .inr h
theorem an3_ {w w':World} (h:Below w.heap.size w w'):w.grownBy w' none:=⟨h.os,h.tape,h.output,h.size,fun k hk _=>h.block k hk⟩
theorem ag5_ {w w':World} (h:w.grownBy w' none):Below w.heap.size w w':=⟨h.os,h.tape,h.output,h.size,fun k hk=>h.block k hk (by simp)⟩
theorem x4_ {w W:World} {r:Option Nat} (h:w.grownBy W r) (n:Nat):w.grownBy (W.drewN n) r:=⟨h.os,h.tape,h.output,h.size,h.block⟩
theorem jc_ (b off k:Nat):(⟨b,off,none⟩:Addr).add k=⟨b,off+k,none⟩:=by unfold Addr.add;split <;> simp_all
end Go.Proofs.YtcgbfhpmkpglkaaGreatDoor
