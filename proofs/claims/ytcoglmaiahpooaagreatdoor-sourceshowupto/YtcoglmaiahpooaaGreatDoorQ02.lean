/- Texts put together: Ta. -/
import Derived.Test.YtcoglmaiahpooaaGreatDoorProg
import Derived.Test.YtcoglmaiahpooaaGreatDoorQ01
import Derived.WalkKit
import Derived.WalkSpells
import Derived.WalkLawsBesides
import Derived.Outline
import Derived.Deep.LoopGhost
import Derived.Deep.QuietTactic
import Derived.BigQuiet
import Derived.Deep.RegionHeld3
import Derived.Deep.DrawnRows
import Derived.Maps.AppendAt
import Derived.Laws.AppendOwnNone
import Derived.Laws.CopyOwn
import Derived.Laws.MakeOwn
import Derived.OpenShut
import Derived.Laws.DeepNot64
import Derived.Laws.BitsLemmas
import Derived.Laws.BytesArg
import Derived.Deep.Cut
import Derived.Deep.CutRange
import Derived.Deep.CutBlock
import Derived.Deep.Slices
import Derived.ChangeSame
import Derived.SizedLaws
import Derived.ProofKit
import Derived.ShutString
import Derived.ChangeOld
import Derived.Below
import Derived.Stop.Joined
import Derived.Lib.SmallJoins
import Derived.RegionDies
import Derived.Shelf.Slices.Turned
import Derived.Shelf.Abstract
import Derived.IntWalk
import Derived.Laws.StructEq
set_option linter.unusedVariables false
set_option linter.unusedSimpArgs false
set_option maxHeartbeats 8000000
namespace Go.Proofs.YtcoglmaiahpooaaGreatDoor
open Go.RowKit
attribute [local go_sem ↓] Go.wp_at_zero Go.wp_at_succ
theorem hd_ {p:Prop} (h:p):Hid p:=h
theorem gz_ {w:World} {r:Option Nat}:w.grownBy w r:=World.grownBy.refl w r
theorem xp_ {w W:World} {p:Nat} (h:w.grownBy W (some p)) (i:Nat) (v:Value):w.grownBy (W.setCell ⟨p,i,none⟩ v) (some p):=
 ⟨h.os,h.tape,h.output,by simpa using h.size,fun k hk hne=>by rw[Below.heap_setCell _ _ _ _ (fun e=>hne (by rw[e]))];exact h.block k hk hne⟩
theorem xf_ {w W:World} {r:Option Nat} (h:w.grownBy W r) (o:Obj):w.grownBy (W.alloc o) r:=
 ⟨h.os,h.tape,h.output,by simp;have:=h.size;omega,fun k hk hne=>by rw[Below.heap_alloc _ _ _ (Nat.lt_of_lt_of_le hk h.size)];exact h.block k hk hne⟩
theorem xi_ {w W:World} {r:Option Nat} (h:w.grownBy W r):w.grownBy W.drew r:=⟨h.os,h.tape,h.output,h.size,h.block⟩
theorem xj_ {W:World} {p:Nat} {cs:Array Value} {T:TypeId} (h:W.heap[p]?=some (.cells cs T)) (i:Nat) (v:Value):(W.setCell ⟨p,i,none⟩ v).heap[p]?=some (.cells (cs.setIfInBounds i v) T):=
 heap_setCell_same W p i cs T v h
theorem xn_ {W:World} {p:Nat} {cs:Array Value} {T:TypeId} (h:W.heap[p]?=some (.cells cs T)) (i:Nat):W.cell? ⟨p,i,none⟩=cs[i]?:=by
 simp[World.cell?,h]
theorem yd_ {W:World} {p:Nat} {cs:Array Value} {T:TypeId} (h:W.heap[p]?=some (.cells cs T)) (i:Nat):W.frozen? ⟨p,i,none⟩=false:=by
 simp[World.frozen?,h]
theorem x6_ {W:World} {p:Nat} {o:Obj} (h:W.heap[p]?=some o):p<W.heap.size:=(Array.getElem?_eq_some_iff.1 h).1
theorem xd_ {w W:World} {p:Nat} (h:w.grownBy W none) (hp:w.heap.size≤p) (i:Nat) (v:Value):w.grownBy (W.setCell ⟨p,i,none⟩ v) none:=
 ⟨h.os,h.tape,h.output,by simpa using h.size,fun k hk hne=>by rw[Below.heap_setCell _ _ _ _ (by simp;omega)];exact h.block k hk hne⟩
theorem xe_ {w:World} {k:Nat} (h:k=w.heap.size) (o:Obj):(w.alloc o).heap[k]?=some o:=by
 subst h;exact heap_alloc_new w o
theorem k8_ {w:World} {k:Nat} (h:k<w.heap.size) (o:Obj):(w.alloc o).heap[k]?=w.heap[k]?:=Below.heap_alloc _ _ _ h
theorem kept {w w':World} {k:Nat} {o:Obj} (hg:w.grownBy w' none) (h:w.heap[k]?=some o):w'.heap[k]?=some o:=(hg.block k (x6_ h) (by simp)).trans h
theorem x3_ {w w':World} {k p:Nat} {o:Obj} (hg:w.grownBy w' (some p)) (h:w.heap[k]?=some o) (hne:k≠p):w'.heap[k]?=some o:=(hg.block k (x6_ h) (by simpa using hne)).trans h
theorem q0_ {a b c:World} {row row':Option Nat} (h:a.grownBy b row) (k:b.grownBy c row') (hr:row'=row∨∀ x,row'=some x→a.heap.size≤x):a.grownBy c row:=
 ⟨k.os.trans h.os,k.tape.trans h.tape,k.output.trans h.output,Nat.le_trans h.size k.size,fun x hx hne=>by
  have h2:some x≠row':=by
   rcases hr with rfl|hr
   ·exact hne
   ·intro e;have:=hr x e.symm;omega
  exact(k.block x (Nat.lt_of_lt_of_le hx h.size) h2).trans (h.block x hx hne)⟩
theorem z7_ {P:Program} {e:TypeId} {z:Option Value} {n m:Nat} (h:(P.info? e).map (fun i=>(i.zero,i.size,i.bytes))=some (z,n,m)):∃ i,P.info? e=some i∧i.zero=z∧i.size=n∧i.bytes=m:=by
 cases hi:P.info? e with
 | none=>simp[hi] at h
 | some i=>
  simp[hi] at h;exact⟨i,rfl,h.1,h.2.1,h.2.2⟩
theorem zh_ {w w':World} (h:Below w.heap.size w w'):w.grownBy w' none:=⟨h.os,h.tape,h.output,h.size,fun k hk _=>h.block k hk⟩
theorem vt_ {w w':World} (h:w.grownBy w' none):Below w.heap.size w w':=⟨h.os,h.tape,h.output,h.size,fun k hk=>h.block k hk (by simp)⟩
theorem vu_ (b off k:Nat):(⟨b,off,none⟩:Addr).add k=⟨b,off+k,none⟩:=by unfold Addr.add;split <;> simp_all
theorem abl_ {B t e size bytes n:Nat} {z:Value} {i:TypeInfo} (ht:Tryz.prog.underlying t=some (.slice e)) (hi:Tryz.prog.info? e=some i) (hz:i.zero=some z) (hs:i.size=size) (hb:i.bytes=bytes) (hzs:z.cells.size=size) (hpos:0<size)
 {w:World} {a:Option Addr} {cap:Nat} {xs:List Value} (h:w.ownsRow B e size (.slice a n cap) n xs) (cur:List Value) (hcur:cur.length=size) (h1:∀ u∈cur,u.oneCell'=true) (hn:n≤4000000) (hb64:bytes≤64) (hB:B≤w.heap.size) :
 ∃ a' cap' w',(Builtin.append_ #[t,t] t #[.slice a n cap,.slice (some ⟨w.heap.size,0,none⟩) 1 1]).run Tryz.prog (w.alloc (.cells cur.toArray e))=.ok (.slice a' (n+1) cap') w'∧
  w'.ownsRow B e size (.slice a' (n+1) cap') (n+1) (xs++cur)∧∀ w0:World,w0.heap.size≤B→w0.grownBy w none→w0.grownBy w' none:=by
 obtain⟨v',w',r1,r2,r3,r4,r5⟩:=run_append_own_at (P:=Tryz.prog) (w.alloc (.cells cur.toArray e)) B t t e i z size bytes ht hi hz hs hb hzs hpos _ _ _ (World.ownsRow.alloc h _) ⟨w.heap.size,0,none⟩ 1 1 cur (by omega)
  (fun j u hj=>by
    rw[vu_,xn_ (heap_alloc_new w _) (0+j)];simpa using hj)
  h1 (by unfold maxLen;omega) (by
   have:(n+1)*bytes≤4000001*64:=Nat.mul_le_mul (by omega) hb64
   omega) (by simp;omega)
 have r2':=r2;obtain⟨_,⟨hx,hn⟩|⟨g',cap',cur,rfl,_⟩⟩:=r2'
 ·omega
 ·refine⟨_,cap',w',r1,r2,fun w0 h0 hg=>?_⟩;refine q0_ (xf_ hg _) r3 (.inr fun y hy=>?_);have:=World.ownsRow.lt h y hy;omega
theorem xa_ {p:Prop} (h:p):Hid p:=h
theorem afk_ {B e size n:Nat} {r:Option Nat} {w w':World} {v:Value} {xs:List Value} (h:w.ownsRow B e size v n xs) (hg:w.grownBy w' r) (hne:∀ x,v.ownBlock=some x→r≠some x):w'.ownsRow B e size v n xs:=
 World.ownsRow.kept h hg (by
  cases hv:v.ownBlock with
  | none=>exact .inl rfl
  | some x=>exact .inr (fun e=>hne x hv e.symm))
theorem u2_ {W:World} {q:Nat} {y0 y1 y2 y3 y4 y5 y6 y7 y8 y9 y10 y11 y12 x0 x1 x2 x3 x4 x5 x6 x7 x8 x9 x10 x11 x12:Value} {T:TypeId} (h:W.heap[q]?=some (.cells #[y0,y1,y2,y3,y4,y5,y6,y7,y8,y9,y10,y11,y12] T)):(((((((((((((W.setCell ⟨q,0,none⟩ x0).setCell ⟨q,1,none⟩ x1).setCell ⟨q,2,none⟩ x2).setCell ⟨q,3,none⟩ x3).setCell ⟨q,4,none⟩ x4).setCell ⟨q,5,none⟩ x5).setCell ⟨q,6,none⟩ x6).setCell ⟨q,7,none⟩ x7).setCell ⟨q,8,none⟩ x8).setCell ⟨q,9,none⟩ x9).setCell ⟨q,10,none⟩ x10).setCell ⟨q,11,none⟩ x11).setCell ⟨q,12,none⟩ x12).heap[q]?=some (.cells #[x0,x1,x2,x3,x4,x5,x6,x7,x8,x9,x10,x11,x12] T):=by
 have:=(xj_ (xj_ (xj_ (xj_ (xj_ (xj_ (xj_ (xj_ (xj_ (xj_ (xj_ (xj_ (xj_ h 0 x0) 1 x1) 2 x2) 3 x3) 4 x4) 5 x5) 6 x6) 7 x7) 8 x8) 9 x9) 10 x10) 11 x11) 12 x12);simpa using this
theorem gr13 {w W:World} {q:Nat} {x0 x1 x2 x3 x4 x5 x6 x7 x8 x9 x10 x11 x12:Value} (h:w.grownBy W (some q)):w.grownBy (((((((((((((W.setCell ⟨q,0,none⟩ x0).setCell ⟨q,1,none⟩ x1).setCell ⟨q,2,none⟩ x2).setCell ⟨q,3,none⟩ x3).setCell ⟨q,4,none⟩ x4).setCell ⟨q,5,none⟩ x5).setCell ⟨q,6,none⟩ x6).setCell ⟨q,7,none⟩ x7).setCell ⟨q,8,none⟩ x8).setCell ⟨q,9,none⟩ x9).setCell ⟨q,10,none⟩ x10).setCell ⟨q,11,none⟩ x11).setCell ⟨q,12,none⟩ x12) (some q):=(xp_ (xp_ (xp_ (xp_ (xp_ (xp_ (xp_ (xp_ (xp_ (xp_ (xp_ (xp_ (xp_ h _ _) _ _) _ _) _ _) _ _) _ _) _ _) _ _) _ _) _ _) _ _) _ _) _ _)
theorem u3_ {w W:World} {q:Nat} {x0 x1 x2 x3 x4 x5 x6 x7 x8 x9 x10 x11 x12:Value} (h:w.grownBy W none) (hq:w.heap.size≤q):w.grownBy (((((((((((((W.setCell ⟨q,0,none⟩ x0).setCell ⟨q,1,none⟩ x1).setCell ⟨q,2,none⟩ x2).setCell ⟨q,3,none⟩ x3).setCell ⟨q,4,none⟩ x4).setCell ⟨q,5,none⟩ x5).setCell ⟨q,6,none⟩ x6).setCell ⟨q,7,none⟩ x7).setCell ⟨q,8,none⟩ x8).setCell ⟨q,9,none⟩ x9).setCell ⟨q,10,none⟩ x10).setCell ⟨q,11,none⟩ x11).setCell ⟨q,12,none⟩ x12) none:=(xd_ (xd_ (xd_ (xd_ (xd_ (xd_ (xd_ (xd_ (xd_ (xd_ (xd_ (xd_ (xd_ h hq _ _) hq _ _) hq _ _) hq _ _) hq _ _) hq _ _) hq _ _) hq _ _) hq _ _) hq _ _) hq _ _) hq _ _) hq _ _)
theorem u4_ {W:World} {q:Nat} {y0 y1 y2 y3 y4 y5 y6 y7 y8 y9 x0 x1 x2 x3 x4 x5 x6 x7 x8 x9:Value} {T:TypeId} (h:W.heap[q]?=some (.cells #[y0,y1,y2,y3,y4,y5,y6,y7,y8,y9] T)):((((((((((W.setCell ⟨q,0,none⟩ x0).setCell ⟨q,1,none⟩ x1).setCell ⟨q,2,none⟩ x2).setCell ⟨q,3,none⟩ x3).setCell ⟨q,4,none⟩ x4).setCell ⟨q,5,none⟩ x5).setCell ⟨q,6,none⟩ x6).setCell ⟨q,7,none⟩ x7).setCell ⟨q,8,none⟩ x8).setCell ⟨q,9,none⟩ x9).heap[q]?=some (.cells #[x0,x1,x2,x3,x4,x5,x6,x7,x8,x9] T):=by
 have:=(xj_ (xj_ (xj_ (xj_ (xj_ (xj_ (xj_ (xj_ (xj_ (xj_ h 0 x0) 1 x1) 2 x2) 3 x3) 4 x4) 5 x5) 6 x6) 7 x7) 8 x8) 9 x9);simpa using this
theorem gr10 {w W:World} {q:Nat} {x0 x1 x2 x3 x4 x5 x6 x7 x8 x9:Value} (h:w.grownBy W (some q)):w.grownBy ((((((((((W.setCell ⟨q,0,none⟩ x0).setCell ⟨q,1,none⟩ x1).setCell ⟨q,2,none⟩ x2).setCell ⟨q,3,none⟩ x3).setCell ⟨q,4,none⟩ x4).setCell ⟨q,5,none⟩ x5).setCell ⟨q,6,none⟩ x6).setCell ⟨q,7,none⟩ x7).setCell ⟨q,8,none⟩ x8).setCell ⟨q,9,none⟩ x9) (some q):=(xp_ (xp_ (xp_ (xp_ (xp_ (xp_ (xp_ (xp_ (xp_ (xp_ h _ _) _ _) _ _) _ _) _ _) _ _) _ _) _ _) _ _) _ _)
theorem u5_ {w W:World} {q:Nat} {x0 x1 x2 x3 x4 x5 x6 x7 x8 x9:Value} (h:w.grownBy W none) (hq:w.heap.size≤q):w.grownBy ((((((((((W.setCell ⟨q,0,none⟩ x0).setCell ⟨q,1,none⟩ x1).setCell ⟨q,2,none⟩ x2).setCell ⟨q,3,none⟩ x3).setCell ⟨q,4,none⟩ x4).setCell ⟨q,5,none⟩ x5).setCell ⟨q,6,none⟩ x6).setCell ⟨q,7,none⟩ x7).setCell ⟨q,8,none⟩ x8).setCell ⟨q,9,none⟩ x9) none:=(xd_ (xd_ (xd_ (xd_ (xd_ (xd_ (xd_ (xd_ (xd_ (xd_ h hq _ _) hq _ _) hq _ _) hq _ _) hq _ _) hq _ _) hq _ _) hq _ _) hq _ _) hq _ _)
theorem u6_ {W:World} {q:Nat} {y0 y1 y2 y3 y4 y5 y6 y7 y8 y9 y10 y11 x0 x1 x2 x3 x4 x5 x6 x7 x8 x9 x10 x11:Value} {T:TypeId} (h:W.heap[q]?=some (.cells #[y0,y1,y2,y3,y4,y5,y6,y7,y8,y9,y10,y11] T)):((((((((((((W.setCell ⟨q,0,none⟩ x0).setCell ⟨q,1,none⟩ x1).setCell ⟨q,2,none⟩ x2).setCell ⟨q,3,none⟩ x3).setCell ⟨q,4,none⟩ x4).setCell ⟨q,5,none⟩ x5).setCell ⟨q,6,none⟩ x6).setCell ⟨q,7,none⟩ x7).setCell ⟨q,8,none⟩ x8).setCell ⟨q,9,none⟩ x9).setCell ⟨q,10,none⟩ x10).setCell ⟨q,11,none⟩ x11).heap[q]?=some (.cells #[x0,x1,x2,x3,x4,x5,x6,x7,x8,x9,x10,x11] T):=by
 have:=(xj_ (xj_ (xj_ (xj_ (xj_ (xj_ (xj_ (xj_ (xj_ (xj_ (xj_ (xj_ h 0 x0) 1 x1) 2 x2) 3 x3) 4 x4) 5 x5) 6 x6) 7 x7) 8 x8) 9 x9) 10 x10) 11 x11);simpa using this
theorem gr12 {w W:World} {q:Nat} {x0 x1 x2 x3 x4 x5 x6 x7 x8 x9 x10 x11:Value} (h:w.grownBy W (some q)):w.grownBy ((((((((((((W.setCell ⟨q,0,none⟩ x0).setCell ⟨q,1,none⟩ x1).setCell ⟨q,2,none⟩ x2).setCell ⟨q,3,none⟩ x3).setCell ⟨q,4,none⟩ x4).setCell ⟨q,5,none⟩ x5).setCell ⟨q,6,none⟩ x6).setCell ⟨q,7,none⟩ x7).setCell ⟨q,8,none⟩ x8).setCell ⟨q,9,none⟩ x9).setCell ⟨q,10,none⟩ x10).setCell ⟨q,11,none⟩ x11) (some q):=(xp_ (xp_ (xp_ (xp_ (xp_ (xp_ (xp_ (xp_ (xp_ (xp_ (xp_ (xp_ h _ _) _ _) _ _) _ _) _ _) _ _) _ _) _ _) _ _) _ _) _ _) _ _)
theorem u7_ {w W:World} {q:Nat} {x0 x1 x2 x3 x4 x5 x6 x7 x8 x9 x10 x11:Value} (h:w.grownBy W none) (hq:w.heap.size≤q):w.grownBy ((((((((((((W.setCell ⟨q,0,none⟩ x0).setCell ⟨q,1,none⟩ x1).setCell ⟨q,2,none⟩ x2).setCell ⟨q,3,none⟩ x3).setCell ⟨q,4,none⟩ x4).setCell ⟨q,5,none⟩ x5).setCell ⟨q,6,none⟩ x6).setCell ⟨q,7,none⟩ x7).setCell ⟨q,8,none⟩ x8).setCell ⟨q,9,none⟩ x9).setCell ⟨q,10,none⟩ x10).setCell ⟨q,11,none⟩ x11) none:=(xd_ (xd_ (xd_ (xd_ (xd_ (xd_ (xd_ (xd_ (xd_ (xd_ (xd_ (xd_ h hq _ _) hq _ _) hq _ _) hq _ _) hq _ _) hq _ _) hq _ _) hq _ _) hq _ _) hq _ _) hq _ _) hq _ _)
theorem gtn {a b c:World} {r:Option Nat} (h:a.grownBy b r) (k:b.grownBy c none):a.grownBy c r:=q0_ h k (Or.inr (by simp))
theorem gr1 (w:World) (o:Obj):w.grownBy (w.alloc o) none:=xf_ gz_ o
theorem old {w:World} {q:Nat} {o:Obj} (h:w.heap[q]?=some o) (o':Obj):(w.alloc o').heap[q]?=some o:=(k8_ (x6_ h) o').trans h
theorem new (w:World) (o:Obj):(w.alloc o).heap[w.heap.size]?=some o:=xe_ rfl o
theorem xb_ {W:World} {q:Nat} {cs:Array Value} {T:TypeId} (X:W.heap[q]?=some (.cells cs T)) :
 (∀ i,W.cell? ⟨q,i,none⟩=cs[i]?)∧(∀ o i,(W.alloc o).cell? ⟨q,i,none⟩=cs[i]?)∧(∀ o o' i,((W.alloc o).alloc o').cell? ⟨q,i,none⟩=cs[i]?)∧
 (∀ i,W.frozen? ⟨q,i,none⟩=false)∧(∀ o i,(W.alloc o).frozen? ⟨q,i,none⟩=false)∧(∀ o o' i,((W.alloc o).alloc o').frozen? ⟨q,i,none⟩=false):=
 ⟨xn_ X,fun o=>xn_ (old X o),fun o o'=>xn_ (old (old X o) o'),yd_ X,fun o=>yd_ (old X o),fun o o'=>yd_ (old (old X o) o')⟩
def PE.kids:PE→List PE | .mk _ _ _ _ _ _ _ k=>k
def xC:PE→Value→List Value | .mk f o kd n nm pt a _,k=>[.int .i64 f,.int .i64 o,.int .i64 kd,.int .i64 n,.string nm,.string pt,.int .i64 a,k]
theorem z8_ (e:PE) (k:Value):(xC e k).length=8:=by cases e;rfl
def Row (w:World) (ok:Nat→Prop) (T:Nat) (v:Value) (n:Nat) (cs:List Value):Prop:=
 ∃ a cap,v=.slice a n cap∧n≤4000000∧(n=0∧cs=[]∨∃ b off,a=some ⟨b,off,none⟩∧ok b∧b<w.heap.size∧∀ k,k<cs.length→w.cell? ⟨b,off+k,none⟩=cs[k]?)
theorem Row.kept {w w':World} {ok:Nat→Prop} {T:Nat} {v:Value} {n:Nat} {cs:List Value} (h:Row w ok T v n cs) (hk:∀ b,ok b→b<w.heap.size→w'.heap[b]?=w.heap[b]?) (hs:w.heap.size≤w'.heap.size):Row w' ok T v n cs:=by
 obtain⟨a,cap,hv,hn,h⟩:=h;refine⟨a,cap,hv,hn,?_⟩;rcases h with h|⟨b,off,h1,h2,h3,h5⟩
 ·exact Or.inl h
 ·exact Or.inr ⟨b,off,h1,h2,by omega,fun k hk'=>(World.cell?_of_block (a:=⟨b,off+k,none⟩) (hk b h2 h3)).trans (h5 k hk')⟩
theorem Row.imp {w:World} {ok ok':Nat→Prop} {T:Nat} {v:Value} {n:Nat} {cs:List Value} (h:Row w ok T v n cs) (hk:∀ b,b<w.heap.size→ok b→ok' b):Row w ok' T v n cs:=by
 obtain⟨a,cap,hv,hn,h⟩:=h;refine⟨a,cap,hv,hn,?_⟩;rcases h with h|⟨b,off,h1,h2,h3,h5⟩
 ·exact Or.inl h
 ·exact Or.inr ⟨b,off,h1,hk b h3 h2,h3,h5⟩
theorem Row.of {w:World} {ok:Nat→Prop} {T n cap b off:Nat} {arr:Array Value} {t:TypeId} {cs:List Value} (hn:n≤4000000) (hb:ok b) (hh:w.heap[b]?=some (.cells arr t)) (hk:∀ k,k<cs.length→arr[off+k]?=cs[k]?):Row w ok T (.slice (some ⟨b,off,none⟩) n cap) n cs:=
 ⟨_,_,rfl,hn,Or.inr ⟨b,off,rfl,hb,x6_ hh,fun k hk'=>by rw[xn_ hh];exact hk k hk'⟩⟩
theorem Row.nil (w:World) (ok:Nat→Prop) (T:Nat):Row w ok T (.slice none 0 0) 0 []:=⟨none,0,rfl,by omega,Or.inl ⟨rfl,rfl⟩⟩
inductive Xs (w:World) (ok:Nat→Prop):Value→List PE→Prop
 | mk (v:Value) (l:List PE) (ks:List Value) (hl:ks.length=l.length) (hr:Row w ok 50 v l.length ((l.zip ks).flatMap fun p=>xC p.1 p.2)) (hk:∀ p,p∈l.zip ks→Xs w ok p.2 p.1.kids):Xs w ok v l
theorem Xs.kept {w w':World} {ok:Nat→Prop} (hk:∀ b,ok b→b<w.heap.size→w'.heap[b]?=w.heap[b]?) (hs:w.heap.size≤w'.heap.size) {v:Value} {l:List PE} (h:Xs w ok v l):Xs w' ok v l:=by
 induction h with
 | mk v l ks hl hr _ ih=>exact .mk v l ks hl (hr.kept hk hs) ih
theorem Xs.imp {w:World} {ok ok':Nat→Prop} (hk:∀ b,b<w.heap.size→ok b→ok' b) {v:Value} {l:List PE} (h:Xs w ok v l):Xs w ok' v l:=by
 induction h with
 | mk v l ks hl hr _ ih=>exact .mk v l ks hl (hr.imp hk) ih
theorem Xs.nil (w:World) (ok:Nat→Prop):Xs w ok (.slice none 0 0) []:=.mk _ _ [] rfl (Row.nil _ _ _) (by simp)
theorem Xs.gn {w0 w w':World} {v:Value} {e:List PE} {ok:Nat→Prop} (h:Xs w ok v e) (hg:w.grownBy w' none):Xs w' ok v e:=h.kept (fun b _ hl=>hg.block b hl (by simp)) hg.size
theorem Xs.sl {w:World} {ok:Nat→Prop} {v:Value} {l:List PE} (h:Xs w ok v l):∃ a c,v=.slice a l.length c:=by
 cases h with
 | mk _ _ ks hl hr hk=>obtain⟨a,c,hv,_⟩:=hr;exact⟨a,c,hv⟩
theorem x1_ {w:World} {q p i:Nat} {v:Value} {o:Obj} (h:w.heap[q]?=some o) (hne:q≠p):(w.setCell ⟨p,i,none⟩ v).heap[q]?=some o:=x3_ (xp_ gz_ _ _) h hne
section
variable {P:Program} {ops:Array Oper} {Q:Exit→Act→World→Prop} {md:Region.Mode} {S:World→Prop} {L:Nat}
def x7_ (P:Program) (md:Region.Mode) (ops:Array Oper) (Q:Exit→Act→World→Prop) (S:World→Prop) (L:Nat):Nat→Array Bool→Act→World→Prop
 | 0,listed,a,w=>Region.ready md ops listed=[]∧Q .normal a w
 | fuel+1,listed,a,w=>
  (Region.ready md ops listed=[]→Q .normal a w)∧
  ∀ i∈Region.ready md ops listed,wpOp P ops Q i (fun a' w'=>(i≠L→listed.getD L true=false→S w')∧x7_ P md ops Q S L fuel (listed.setIfInBounds i true) a' w') a w
theorem j4_:∀(fuel:Nat) (listed:Array Bool) (a:Act) (w:World),x7_ P md ops Q S L fuel listed a w→wpAny P md ops Q fuel listed a w
 | 0,_,_,_,h=>h
 | fuel+1,_,_,_,h=>⟨h.1,fun i hi=>wpOp_mono (fun a' w' h'=>j4_ fuel _ a' w' h'.2) (h.2 i hi)⟩
theorem k9_ {i:Nat} {oi:Oper} {v:Value} (hi:ops[i]?=some oi) (hsel:∀(j:Nat) (o:Oper) cs b,ops[j]?=some o→o.op≠.select cs b)
 (hQ:∀ c a w,Q (.panic c) (a.put oi.dst v) w→Q (.panic c) a w) (hL:∀ oL,ops[L]?=some oL→∃ e∈oL.after,Region.binds md e=true∧e.on=i) :
 ∀(fuel:Nat) (listed:Array Bool) (a:Act) (w:World),
  (∀ j oj,ops[j]?=some oj→j≠i→listed.getD j true=false→(∀ e∈oj.after,Region.binds md e=true→e.on≠i)→oi.apart ops oj=true)→
  i∈Region.ready md ops listed→listed.getD L true=false→YieldsIf P ops S oi v a→S w→
  x7_ P md ops Q S L fuel (listed.setIfInBounds i true) (a.put oi.dst v) w→x7_ P md ops Q S L (fuel+1) listed a w:=by
 intro fuel;induction fuel with
 | zero=>
  intro listed a w _ hr hLu hy hS H;refine⟨fun h=>(by rw[h] at hr;cases hr),fun j hj=>?_⟩;by_cases hji:j=i
  ·subst hji;exact hy.wpOp hi hS ⟨fun _ _=>hS,H⟩
  ·have:=ready_mono hj hji;rw[H.1] at this;cases this
 | succ fuel ih=>
  intro listed a w hfree hr hLu hy hS H;refine⟨fun h=>(by rw[h] at hr;cases hr),fun j hj=>?_⟩;by_cases hji:j=i
  ·subst hji;exact hy.wpOp hi hS ⟨fun _ _=>hS,H⟩
  · have h1:=H.2 j (ready_mono hj hji);obtain⟨hjun,oj,hoj,hall⟩:=mem_ready.1 hj;have hnot:∀ e∈oj.after,Region.binds md e=true→e.on≠i:=fun e he hb heq=>by
     have h1:=hall e he hb;have h0:=(mem_ready.1 hr).1;rw[heq] at h1;rcases Nat.lt_or_ge i listed.size with h'|h'
     ·simp[h'] at h0 h1;rw[h0] at h1;cases h1
     ·simp[Array.getElem?_eq_none h'] at h1
    have hjL:j≠L:=fun e=>by
     subst e;obtain⟨e,he,hb,ho⟩:=hL oj hoj;exact hnot e he hb ho
    have hLu':(listed.setIfInBounds i true).getD L true=false:=by
     by_cases hiL:i=L
     · subst hiL;obtain⟨e,he,hb,ho⟩:=hL oi hi;have h1:=(mem_ready.1 hr);obtain⟨hu,o2,ho2,ha2⟩:=h1;rw[hi] at ho2;injection ho2 with ho2;subst ho2;have h4:=ha2 e he hb;rw[ho] at h4;rcases Nat.lt_or_ge i listed.size with h'|h'
       ·simp[h'] at hu h4;rw[hu] at h4;cases h4
       ·simp[Array.getElem?_eq_none h'] at h4
     ·rw[getD_set_ne true hiL];exact hLu
    have h2:=wpOp_putIf hoj (hfree j oj hoj hji hjun hnot) (fun cs b=>hsel i oi cs b hi) (fun cs b=>hsel j oj cs b hoj) hQ hy h1;have hfree':∀ k ok,ops[k]?=some ok→k≠i→(listed.setIfInBounds j true).getD k true=false→
     (∀ e∈ok.after,Region.binds md e=true→e.on≠i)→oi.apart ops ok=true:=fun k ok hk hki hun hno=>by
     refine hfree k ok hk hki ?_ hno;by_cases hjk:j=k
     ·subst hjk;exact hjun
     ·rw[getD_set_ne true hjk] at hun;exact hun
    refine wpOp_mono (fun a' w' h3=>⟨fun h4 _=>h3.2.1 h4 hLu',ih (listed.setIfInBounds j true) a' w' hfree' (ready_mono hr (Ne.symm hji)) (by rw[getD_set_ne true hjL];exact hLu) h3.1 (h3.2.1 hjL hLu') ?_⟩) h2;rw[Array.setIfInBounds_comm _ _ hji];exact h3.2.2
theorem vv_ {i:Nat} {oi:Oper} {v:Value} (hi:ops[i]?=some oi) (hsel:∀(j:Nat) (o:Oper) cs b,ops[j]?=some o→o.op≠.select cs b)
 (hQ:∀ c a w,Q (.panic c) (a.put oi.dst v) w→Q (.panic c) a w) (hiL:i≠L) :
 ∀(fuel:Nat) (listed:Array Bool) (a:Act) (w:World),
  (∀ j oj,ops[j]?=some oj→j≠i→listed.getD j true=false→(∀ e∈oj.after,Region.binds md e=true→e.on≠i)→oi.apart ops oj=true)→
  i∈Region.ready md ops listed→YieldsIf P ops (fun _=>True) oi v a→(listed.getD L true=false→S w)→
  x7_ P md ops Q S L fuel (listed.setIfInBounds i true) (a.put oi.dst v) w→x7_ P md ops Q S L (fuel+1) listed a w:=by
 intro fuel;induction fuel with
 | zero=>
  intro listed a w _ hr hy hS H;refine⟨fun h=>(by rw[h] at hr;cases hr),fun j hj=>?_⟩;by_cases hji:j=i
  ·subst hji;exact hy.wpOp hi trivial ⟨fun _=>hS,H⟩
  ·have:=ready_mono hj hji;rw[H.1] at this;cases this
 | succ fuel ih=>
  intro listed a w hfree hr hy hS H;refine⟨fun h=>(by rw[h] at hr;cases hr),fun j hj=>?_⟩;by_cases hji:j=i
  ·subst hji;exact hy.wpOp hi trivial ⟨fun _=>hS,H⟩
  · have h1:=H.2 j (ready_mono hj hji);obtain⟨hjun,oj,hoj,hall⟩:=mem_ready.1 hj;have hnot:∀ e∈oj.after,Region.binds md e=true→e.on≠i:=fun e he hb heq=>by
     have h1:=hall e he hb;have h0:=(mem_ready.1 hr).1;rw[heq] at h1;rcases Nat.lt_or_ge i listed.size with h'|h'
     ·simp[h'] at h0 h1;rw[h0] at h1;cases h1
     ·simp[Array.getElem?_eq_none h'] at h1
    have h2:=wpOp_putIf hoj (hfree j oj hoj hji hjun hnot) (fun cs b=>hsel i oi cs b hi) (fun cs b=>hsel j oj cs b hoj) hQ hy h1;have hfree':∀ k ok,ops[k]?=some ok→k≠i→(listed.setIfInBounds j true).getD k true=false→
     (∀ e∈ok.after,Region.binds md e=true→e.on≠i)→oi.apart ops ok=true:=fun k ok hk hki hun hno=>by
     refine hfree k ok hk hki ?_ hno;by_cases hjk:j=k
     ·subst hjk;exact hjun
     ·rw[getD_set_ne true hjk] at hun;exact hun
    refine wpOp_mono (fun a' w' h3=>⟨fun h4 h5=>h3.2.1 h4 (by rw[getD_set_ne true hiL];exact h5),ih (listed.setIfInBounds j true) a' w' hfree' (ready_mono hr (Ne.symm hji)) h3.1 (fun h5=>?_) ?_⟩) h2
    · by_cases hjL:j=L
      · subst hjL;rcases Nat.lt_or_ge j listed.size with h'|h'
        ·simp[h'] at h5
        ·simp[Array.getElem?_eq_none h'] at hjun
      ·refine h3.2.1 hjL ?_;rw[getD_set_ne true hiL];rw[getD_set_ne true hjL] at h5;exact h5
    ·rw[Array.setIfInBounds_comm _ _ hji];exact h3.2.2
theorem xh_ {i:Nat} {oi:Oper} {v:Value} {fuel:Nat} {listed:Array Bool} {a:Act} {w:World} (hi:ops[i]?=some oi)
 (hs:Region.noSelect ops=true) (hf:Region.free md ops listed i=true) (hr:(Region.ready md ops listed).contains i=true)
 (hQ:∀ c a w,Q (.panic c) (a.put oi.dst v) w→Q (.panic c) a w) (hL:(match ops[L]? with|some o=>o.after.any (fun e=>Region.binds md e && e.on==i)|none=>false)=true) (hLu:listed.getD L true=false) (hy:YieldsIf P ops S oi v a) (hS:S w)
 (h:x7_ P md ops Q S L fuel (listed.setIfInBounds i true) (a.put oi.dst v) w):x7_ P md ops Q S L (fuel+1) listed a w:=
 k9_ hi (Region.noSelect_spec hs) hQ (fun oL hoL=>by
  rw[hoL] at hL;simp only[Array.any_eq_true] at hL;obtain⟨k,hk,hb⟩:=hL;simp only[Bool.and_eq_true,beq_iff_eq] at hb;exact⟨_,Array.getElem_mem hk,hb.1,hb.2⟩) fuel listed a w (Region.free_spec hi hf) (by simpa using hr) hLu hy hS h
theorem xm_ {i:Nat} {oi:Oper} {v:Value} {fuel:Nat} {listed:Array Bool} {a:Act} {w:World} (hi:ops[i]?=some oi)
 (hs:Region.noSelect ops=true) (hf:Region.free md ops listed i=true) (hr:(Region.ready md ops listed).contains i=true)
 (hQ:∀ c a w,Q (.panic c) (a.put oi.dst v) w→Q (.panic c) a w) (hiL:i≠L) (hy:YieldsIf P ops (fun _=>True) oi v a) (hS:listed.getD L true=false→S w)
 (h:x7_ P md ops Q S L fuel (listed.setIfInBounds i true) (a.put oi.dst v) w):x7_ P md ops Q S L (fuel+1) listed a w:=
 vv_ hi (Region.noSelect_spec hs) hQ hiL fuel listed a w (Region.free_spec hi hf) (by simpa using hr) hy hS h
theorem xk_ {j:Nat} {o:Oper} {fuel:Nat} {listed:Array Bool} {a:Act} {w:World} (hr:Region.ready md ops listed=[j]) (ho:ops[j]?=some o)
 (h:∀ K':Act→World→Prop,Shut (∀ a w,(j≠L→listed.getD L true=false→S w)→x7_ P md ops Q S L fuel (listed.setIfInBounds j true) a w→K' a w)→if Region.wanted o (yielded ops a.tmps)=true then Oper.wp P o a w K' Q else K' (a.put o.dst undef) w):x7_ P md ops Q S L (fuel+1) listed a w:=
 ⟨fun h0=>(by rw[hr] at h0;cases h0),fun i hi=>by
  rw[hr,List.mem_singleton] at hi;subst hi;exact wpOp_step ho (fun K' hK=>h K' (fun a w h1 h2=>hK a w ⟨h1,h2⟩))⟩
theorem zy_ {i j:Nat} {oi oj:Oper} {fuel:Nat} {listed:Array Bool} {a:Act} {w:World} (hr:Region.ready md ops listed=[i,j]) (hoi:ops[i]?=some oi) (hoj:ops[j]?=some oj)
 (hi:∀ K':Act→World→Prop,Shut (∀ a w,(i≠L→listed.getD L true=false→S w)→x7_ P md ops Q S L fuel (listed.setIfInBounds i true) a w→K' a w)→if Region.wanted oi (yielded ops a.tmps)=true then Oper.wp P oi a w K' Q else K' (a.put oi.dst undef) w)
 (hj:∀ K':Act→World→Prop,Shut (∀ a w,(j≠L→listed.getD L true=false→S w)→x7_ P md ops Q S L fuel (listed.setIfInBounds j true) a w→K' a w)→if Region.wanted oj (yielded ops a.tmps)=true then Oper.wp P oj a w K' Q else K' (a.put oj.dst undef) w):x7_ P md ops Q S L (fuel+1) listed a w:=
 ⟨fun h0=>(by rw[hr] at h0;cases h0),fun k hk=>by
  rw[hr] at hk;simp only[List.mem_cons,List.not_mem_nil,or_false] at hk;rcases hk with rfl|rfl
  ·exact wpOp_step hoi (fun K' hK=>hi K' (fun a w h1 h2=>hK a w ⟨h1,h2⟩))
  ·exact wpOp_step hoj (fun K' hK=>hj K' (fun a w h1 h2=>hK a w ⟨h1,h2⟩))⟩
theorem xy_ {listed:Array Bool} {a:Act} {w:World} (hr:Region.ready md ops listed=[]) (h:Q .normal a w):∀ fuel,x7_ P md ops Q S L fuel listed a w
 | 0=>⟨hr,h⟩
 | _+1=>⟨fun _=>h,by rw[hr];simp⟩
theorem x8_ {id:Nat} {a:Act} {w:World} (hm:P.follows .mixedOrders=true)
 (h:x7_ P .any ops Q S L ops.size (Array.replicate ops.size false) a w.drew):(Code.region id ops true).wp P Q a w:=
 wp_region_any hm (j4_ _ _ _ _ h)
end
theorem afl_ {w:World} {B T sz n:Nat} {v:Value} {xs:List Value} (h:w.ownsRow B T sz v n xs):∀ g,v.ownBlock=some g→B≤g∧g<w.heap.size:=by
 intro g hg;obtain⟨_,⟨rfl,_⟩|⟨g',c,cur,rfl,hb,hh,_⟩⟩:=h
 ·cases hg
 ·injection hg with hg;subst hg;exact⟨hb,x6_ hh⟩
theorem vw_ {w w':World} {B T sz n q:Nat} {v:Value} {xs:List Value} (h:w.ownsRow B T sz v n xs) (hg:w.grownBy w' (some q)) (hq:v.ownBlock≠some q):w'.ownsRow B T sz v n xs:=afk_ h hg (fun x hx e=>hq (by rw[hx,← e]))
theorem adq_ {w:World} {B T sz n:Nat} {v:Value} {xs:List Value} (h:w.ownsRow B T sz v n xs) (hn:n≤4000000):Row w (fun b=>B≤b) T v n xs:=by
 obtain⟨hl,⟨rfl,rfl⟩|⟨g,c,cur,rfl,hb,hh,h1,h2,h3,h4⟩⟩:=h
 ·exact⟨_,_,rfl,hn,Or.inl ⟨rfl,List.eq_nil_of_length_eq_zero (by simpa using hl)⟩⟩
 ·refine Row.of (off:=0) hn hb hh (fun k hk=>?_);rw[← h4,List.getElem?_take_of_lt (by omega)];simp
def off (B:Nat) (v:Value):Nat→Prop:=fun b=>B≤b∧v.ownBlock≠some b
structure Kd (α Q:Type) where
 c:α→Q→List Value
 S:World→(Nat→Prop)→α→Q→Prop
 keep:∀ {w w':World} {ok:Nat→Prop} {a:α} {q:Q},S w ok a q→(∀ b,ok b→b<w.heap.size→w'.heap[b]?=w.heap[b]?)→w.heap.size≤w'.heap.size→S w' ok a q
 imp:∀ {w:World} {ok ok':Nat→Prop} {a:α} {q:Q},S w ok a q→(∀ b,b<w.heap.size→ok b→ok' b)→S w ok' a q
section
variable {α Q:Type} {K:Kd α Q} {T sz:Nat}
def Li (K:Kd α Q) (T:Nat) (w:World) (ok:Nat→Prop) (v:Value) (l:List α):Prop:=∃ qs,qs.length=l.length∧Row w ok T v l.length ((l.zip qs).flatMap fun p=>K.c p.1 p.2)∧∀ p,p∈l.zip qs→K.S w ok p.1 p.2
theorem Li.kept {w w':World} {ok:Nat→Prop} {v:Value} {l:List α} (h:Li K T w ok v l) (hk:∀ b,ok b→b<w.heap.size→w'.heap[b]?=w.heap[b]?) (hs:w.heap.size≤w'.heap.size):Li K T w' ok v l:=by
 obtain⟨ks,h1,h2,h3⟩:=h;exact⟨ks,h1,h2.kept hk hs,fun p hp=>K.keep (h3 p hp) hk hs⟩
theorem Li.imp {w:World} {ok ok':Nat→Prop} {v:Value} {l:List α} (h:Li K T w ok v l) (hk:∀ b,b<w.heap.size→ok b→ok' b):Li K T w ok' v l:=by
 obtain⟨ks,h1,h2,h3⟩:=h;exact⟨ks,h1,h2.imp hk,fun p hp=>K.imp (h3 p hp) hk⟩
theorem Li.nil (w:World) (ok:Nat→Prop):Li K T w ok (.slice none 0 0) []:=⟨[],rfl,Row.nil _ _ _,by simp⟩
theorem Li.sl {w:World} {ok:Nat→Prop} {v:Value} {l:List α} (h:Li K T w ok v l):∃ a c,v=.slice a l.length c:=by
 obtain⟨ks,h1,⟨a,c,hv,_⟩,_⟩:=h;exact⟨a,c,hv⟩
end
def aC (a:PArg) (k:Value):List Value:=[.string a.name,.bool a.out,.string a.to]++xC a.e k++[.int .i64 a.at']
def kdA:Kd PArg Value:=⟨aC,fun w ok a k=>Xs w ok k a.e.kids,fun h hk hs=>h.kept hk hs,fun h hk=>h.imp hk⟩
def kdL:Kd (Int×Int) Unit:=⟨fun p _=>[.int .i64 p.1,.int .i64 p.2],fun _ _ _ _=>True,fun _ _ _=>trivial,fun _ _=>trivial⟩
def PArm.e:PArm→PE | .mk e _ _=>e
def PArm.labels:PArm→List (Int×Int) | .mk _ l _=>l
def PArm.body:PArm→List PS | .mk _ _ b=>b
def mC (a:PArm) (q:Value×Value×Value):List Value:=xC a.e q.1++[q.2.1,q.2.2]
def PS.es:PS→List PE | .mk _ _ _ _ e _ _ _ _ _ _ _ _=>e
def PS.args:PS→List PArg | .mk _ _ _ _ _ a _ _ _ _ _ _ _=>a
def PS.arms:PS→List PArm | .mk _ _ _ _ _ _ a _ _ _ _ _ _=>a
def PS.els:PS→List PS | .mk _ _ _ _ _ _ _ e _ _ _ _ _=>e
def PS.body:PS→List PS | .mk _ _ _ _ _ _ _ _ b _ _ _ _=>b
structure Sq where
 es:Value
 args:Value
 arms:Value
 els:Value
 body:Value
def sC:PS→Sq→List Value | .mk v a n i _ _ _ _ _ lo hi by' ti,q=>[.int .i64 v,.int .i64 a,.string n,.bool i,q.es,q.args,q.arms,q.els,q.body,.int .i64 lo,.int .i64 hi,.int .i64 by',.int .i64 ti]
inductive Sm (w:World) (ok:Nat→Prop):Value→List PS ⊕ List PArm→Prop
 | stmts (v:Value) (l:List PS) (qs:List Sq) (hl:qs.length=l.length) (hr:Row w ok 99 v l.length ((l.zip qs).flatMap fun p=>sC p.1 p.2)) (h1:∀ p,p∈l.zip qs→Xs w ok p.2.es p.1.es∧Li kdA 101 w ok p.2.args p.1.args)
  (h2:∀ p,p∈l.zip qs→Sm w ok p.2.arms (.inr p.1.arms)) (h3:∀ p,p∈l.zip qs→Sm w ok p.2.els (.inl p.1.els)) (h4:∀ p,p∈l.zip qs→Sm w ok p.2.body (.inl p.1.body)):Sm w ok v (.inl l)
 | ways (v:Value) (l:List PArm) (qs:List (Value×Value×Value)) (hl:qs.length=l.length) (hr:Row w ok 104 v l.length ((l.zip qs).flatMap fun p=>mC p.1 p.2)) (h1:∀ p,p∈l.zip qs→Xs w ok p.2.1 p.1.e.kids∧Li kdL 126 w ok p.2.2.1 p.1.labels)
  (h2:∀ p,p∈l.zip qs→Sm w ok p.2.2.2 (.inl p.1.body)):Sm w ok v (.inr l)
theorem Sm.kept {w w':World} {ok:Nat→Prop} (hk:∀ b,ok b→b<w.heap.size→w'.heap[b]?=w.heap[b]?) (hs:w.heap.size≤w'.heap.size) {v:Value} {l:List PS ⊕ List PArm} (h:Sm w ok v l):Sm w' ok v l:=by
 induction h with
 | stmts v l qs hl hr h1 _ _ _ i2 i3 i4=>exact .stmts v l qs hl (hr.kept hk hs) (fun p hp=>⟨(h1 p hp).1.kept hk hs,(h1 p hp).2.kept hk hs⟩) i2 i3 i4
 | ways v l qs hl hr h1 _ i2=>exact .ways v l qs hl (hr.kept hk hs) (fun p hp=>⟨(h1 p hp).1.kept hk hs,(h1 p hp).2.kept hk hs⟩) i2
theorem Sm.imp {w:World} {ok ok':Nat→Prop} (hk:∀ b,b<w.heap.size→ok b→ok' b) {v:Value} {l:List PS ⊕ List PArm} (h:Sm w ok v l):Sm w ok' v l:=by
 induction h with
 | stmts v l qs hl hr h1 _ _ _ i2 i3 i4=>exact .stmts v l qs hl (hr.imp hk) (fun p hp=>⟨(h1 p hp).1.imp hk,(h1 p hp).2.imp hk⟩) i2 i3 i4
 | ways v l qs hl hr h1 _ i2=>exact .ways v l qs hl (hr.imp hk) (fun p hp=>⟨(h1 p hp).1.imp hk,(h1 p hp).2.imp hk⟩) i2
def sS (w:World) (ok:Nat→Prop) (p:PS) (q:Sq):Prop:=(Xs w ok q.es p.es∧Li kdA 101 w ok q.args p.args)∧Sm w ok q.arms (.inr p.arms)∧Sm w ok q.els (.inl p.els)∧Sm w ok q.body (.inl p.body)
def mS (w:World) (ok:Nat→Prop) (p:PArm) (q:Value×Value×Value):Prop:=(Xs w ok q.1 p.e.kids∧Li kdL 126 w ok q.2.1 p.labels)∧Sm w ok q.2.2 (.inl p.body)
def kdS:Kd PS Sq:=⟨sC,sS,fun h hk hs=>⟨⟨h.1.1.kept hk hs,h.1.2.kept hk hs⟩,h.2.1.kept hk hs,h.2.2.1.kept hk hs,h.2.2.2.kept hk hs⟩,fun h hk=>⟨⟨h.1.1.imp hk,h.1.2.imp hk⟩,h.2.1.imp hk,h.2.2.1.imp hk,h.2.2.2.imp hk⟩⟩
def kdM:Kd PArm (Value×Value×Value):=⟨mC,mS,fun h hk hs=>⟨⟨h.1.1.kept hk hs,h.1.2.kept hk hs⟩,h.2.kept hk hs⟩,fun h hk=>⟨⟨h.1.1.imp hk,h.1.2.imp hk⟩,h.2.imp hk⟩⟩
theorem Li.ss {w:World} {ok:Nat→Prop} {v:Value} {l:List PS} (h:Li kdS 99 w ok v l):Sm w ok v (.inl l):=by
 obtain⟨qs,h1,h2,h3⟩:=h;exact .stmts v l qs h1 h2 (fun p hp=>(h3 p hp).1) (fun p hp=>(h3 p hp).2.1) (fun p hp=>(h3 p hp).2.2.1) (fun p hp=>(h3 p hp).2.2.2)
theorem Li.ms {w:World} {ok:Nat→Prop} {v:Value} {l:List PArm} (h:Li kdM 104 w ok v l):Sm w ok v (.inr l):=by
 obtain⟨qs,h1,h2,h3⟩:=h;exact .ways v l qs h1 h2 (fun p hp=>(h3 p hp).1) (fun p hp=>(h3 p hp).2)
theorem Sm.ss {w:World} {ok:Nat→Prop} {v:Value} {l:List PS} (h:Sm w ok v (.inl l)):Li kdS 99 w ok v l:=by
 cases h with
 | stmts _ _ qs hl hr h1 h2 h3 h4=>exact⟨qs,hl,hr,fun p hp=>⟨h1 p hp,h2 p hp,h3 p hp,h4 p hp⟩⟩
theorem Sm.ms {w:World} {ok:Nat→Prop} {v:Value} {l:List PArm} (h:Sm w ok v (.inr l)):Li kdM 104 w ok v l:=by
 cases h with
 | ways _ _ qs hl hr h1 h2=>exact⟨qs,hl,hr,fun p hp=>⟨h1 p hp,h2 p hp⟩⟩
theorem Sm.slS {w:World} {ok:Nat→Prop} {v:Value} {l:List PS} (h:Sm w ok v (.inl l)):∃ a c,v=.slice a l.length c:=by
 cases h with
 | stmts v l qs hl hr=>obtain⟨a,c,hv,_⟩:=hr;exact⟨a,c,hv⟩
theorem Sm.slM {w:World} {ok:Nat→Prop} {v:Value} {l:List PArm} (h:Sm w ok v (.inr l)):∃ a c,v=.slice a l.length c:=by
 cases h;rename_i hr;first|(obtain⟨a,c,hv,_⟩:=hr;exact⟨a,c,hv⟩)|(rename Row _ _ _ _ _ _=>hq;obtain⟨a,c,hv,_⟩:=hq;exact⟨a,c,hv⟩)
theorem qg_ {w:World} {ok:Nat→Prop} {p:PS} {q:Sq} (h:sS w ok p q):∃ a1 c1 a2 c2 a3 c3 a4 c4 a5 c5,q=⟨.slice a1 p.es.length c1,.slice a2 p.args.length c2,.slice a3 p.arms.length c3,.slice a4 p.els.length c4,.slice a5 p.body.length c5⟩:=by
 obtain⟨q1,q2,q3,q4,q5⟩:=q;obtain⟨⟨h1,h2⟩,h3,h4,h5⟩:=h;obtain⟨a1,c1,e1⟩:=h1.sl;obtain⟨a2,c2,e2⟩:=h2.sl;obtain⟨a3,c3,e3⟩:=h3.slM;obtain⟨a4,c4,e4⟩:=h4.slS;obtain⟨a5,c5,e5⟩:=h5.slS;exact⟨a1,c1,a2,c2,a3,c3,a4,c4,a5,c5,by rw[Sq.mk.injEq];exact⟨e1,e2,e3,e4,e5⟩⟩
theorem zp_ {α:Type} (f:α→List Value) (sz:Nat):∀(L:List α),(∀ x∈L,(f x).length=sz)→∀(i j:Nat) (hi:i<L.length),j<sz→(L.flatMap f)[i*sz+j]?=(f L[i])[j]?
 | [],_,i,j,hi,_=>by simp at hi
 | x::L,hl,i,j,hi,hj=>by
  have h0:(f x).length=sz:=hl x (by simp);cases i with
  | zero=>simp[List.getElem?_append_left (show j<(f x).length by omega)]
  | succ i=>
   rw[List.flatMap_cons,List.getElem?_append_right (by rw[h0,Nat.succ_mul];omega),h0,show(i+1)*sz+j - sz=i*sz+j by rw[Nat.succ_mul];omega];exact zp_ f sz L (fun y hy=>hl y (by simp[hy])) i j (by simpa using hi) hj
theorem abm_ {w:World} {ok:Nat→Prop} {T n:Nat} {v:Value} {xs:List Value} (h:Row w ok T v n xs) (hx:0<xs.length):∃ g off c,v=.slice (some ⟨g,off,none⟩) n c∧n≤4000000∧g<w.heap.size∧∀ k,k<xs.length→w.cell? ⟨g,off+k,none⟩=xs[k]?:=by
 obtain⟨a,c,rfl,hn,⟨rfl,rfl⟩|⟨g,off,rfl,_,hl,hk⟩⟩:=h
 ·simp at hx
 ·exact⟨g,off,c,rfl,hn,hl,hk⟩
theorem Xs.pick {w:World} {ok:Nat→Prop} {v:Value} {l:List PE} (h:Xs w ok v l) (i:Nat) (hi:i<l.length):∃ g off c k,v=.slice (some ⟨g,off,none⟩) l.length c∧l.length≤4000000∧g<w.heap.size∧Xs w ok k l[i].kids∧∀ j,j<8→w.cell? ⟨g,off+(i*8+j),none⟩=(xC l[i] k)[j]?:=by
 cases h with
 | mk v l ks hl hr hk=>
  have hz:(l.zip ks).length=l.length:=(by simp;omega);have hf:((l.zip ks).flatMap fun p=>xC p.1 p.2).length=l.length*8:=by
   have:∀(L:List (PE×Value)),(L.flatMap fun p=>xC p.1 p.2).length=L.length*8:=by
    intro L;induction L with
    | nil=>rfl
    | cons x L ih=>rw[List.flatMap_cons,List.length_append,ih,z8_,List.length_cons];omega
   rw[this,hz]
  obtain⟨g,off,c,rfl,hn,hg,hc⟩:=abm_ hr (by rw[hf];omega);have hzi:(l.zip ks)[i]'(by omega)=(l[i],ks[i]'(by omega)):=(by simp);refine⟨g,off,c,ks[i]'(by omega),rfl,hn,hg,?_,?_⟩
  ·have:=hk _ (List.getElem_mem (l:=l.zip ks) (n:=i) (by omega));rw[hzi] at this;exact this
  ·intro j hj;rw[hc _ (by rw[hf];omega),zp_ (fun p:PE×Value=>xC p.1 p.2) 8 (l.zip ks) (fun x _=>z8_ _ _) i j (by omega) hj,hzi]
def vC (p:PV) (k:Value):List Value:=[.string p.name,.int .i64 p.role,.int .i64 p.kind,.string p.of,.int .i64 p.low,.int .i64 p.len]++xC p.init k++[.int .i64 p.at']
def kdV:Kd PV Value:=⟨vC,fun w ok p k=>Xs w ok k p.init.kids,fun h hk hs=>h.kept hk hs,fun h hk=>h.imp hk⟩
theorem zm_ (p:PV) (k:Value):(vC p k).length=15:=by
 obtain⟨_,_,_,_,_,_,⟨_,_,_,_,_,_,_,_⟩,_⟩:=p;rfl
theorem x0_ (w:World):w.drew.heap=w.heap:=rfl
theorem xg_ {W:World} {g k:Nat} {v:Value} {ob:Obj} (h:W.cell? ⟨g,k,none⟩=some v):(W.alloc ob).cell? ⟨g,k,none⟩=some v:=by
 by_cases hg:g<W.heap.size
 ·rw[← h];exact World.cell?_of_block (k8_ hg ob)
 ·simp[World.cell?,Array.getElem?_eq_none (Nat.le_of_not_lt hg)] at h
theorem xc_ {W W':World} {g k q:Nat} {v:Value} (h:W.cell? ⟨g,k,none⟩=some v) (hg:W.grownBy W' (some q)) (hne:g≠q):W'.cell? ⟨g,k,none⟩=some v:=by
 by_cases hl:g<W.heap.size
 ·rw[← h];exact World.cell?_of_block (hg.block g hl (by simpa using hne))
 ·simp[World.cell?,Array.getElem?_eq_none (Nat.le_of_not_lt hl)] at h
theorem Li.pick {α Q:Type} {K:Kd α Q} {T sz:Nat} {w:World} {ok:Nat→Prop} {v:Value} {l:List α} (h:Li K T w ok v l) (hsz:∀ e q,(K.c e q).length=sz) (h0:0<sz) (i:Nat) (hi:i<l.length):∃ g off c q,v=.slice (some ⟨g,off,none⟩) l.length c∧l.length≤4000000∧g<w.heap.size∧K.S w ok l[i] q∧∀ j,j<sz→w.cell? ⟨g,off+(i*sz+j),none⟩=(K.c l[i] q)[j]?:=by
 obtain⟨ks,hl,hr,hk⟩:=h;have hz:(l.zip ks).length=l.length:=(by simp;omega);have hf:((l.zip ks).flatMap fun p=>K.c p.1 p.2).length=l.length*sz:=by
  have:∀(L:List (α×Q)),(L.flatMap fun p=>K.c p.1 p.2).length=L.length*sz:=by
   intro L;induction L with
   | nil=>simp
   | cons x L ih=>rw[List.flatMap_cons,List.length_append,ih,hsz,List.length_cons,Nat.succ_mul];omega
  rw[this,hz]
 have hb:∀ j,j<sz→i*sz+j<l.length*sz:=fun j hj=>by
  have:(i+1)*sz≤l.length*sz:=Nat.mul_le_mul_right sz hi
  rw[Nat.succ_mul] at this;omega
 obtain⟨g,off,c,rfl,hn,hg,hc⟩:=abm_ hr (by rw[hf];have:=hb 0 h0;omega);have hzi:(l.zip ks)[i]'(by omega)=(l[i],ks[i]'(by omega)):=(by simp);refine⟨g,off,c,ks[i]'(by omega),rfl,hn,hg,?_,?_⟩
 ·have:=hk _ (List.getElem_mem (l:=l.zip ks) (n:=i) (by omega));rw[hzi] at this;exact this
 ·intro j hj;rw[hc _ (by rw[hf];exact hb j hj),zp_ (fun p:α×Q=>K.c p.1 p.2) sz (l.zip ks) (fun x _=>hsz _ _) i j (by omega) hj,hzi]
theorem y1_ (p:PS) (q:Sq):(sC p q).length=13:=by obtain⟨_,_,_,_,_,_,_,_,_,_,_,_,_⟩:=p;rfl
theorem zn_ (p:PArg) (q:Value):(aC p q).length=12:=by obtain⟨_,_,_,⟨_,_,_,_,_,_,_,_⟩,_⟩:=p;rfl
theorem zb_ (p:PArm) (q:Value×Value×Value):(mC p q).length=10:=by obtain⟨⟨_,_,_,_,_,_,_,_⟩,_,_⟩:=p;rfl
theorem Li.gw {α Q:Type} {K:Kd α Q} {T:Nat} {w w':World} {ok:Nat→Prop} {v:Value} {l:List α} (h:Li K T w ok v l) (hg:w.grownBy w' none):Li K T w' ok v l:=h.kept (fun b _ hl=>hg.block b hl (by simp)) hg.size
theorem Xs.gw {w w':World} {ok:Nat→Prop} {v:Value} {l:List PE} (h:Xs w ok v l) (hg:w.grownBy w' none):Xs w' ok v l:=h.kept (fun b _ hl=>hg.block b hl (by simp)) hg.size
def uC (p:PU) (q:Value×Value):List Value:=[.int .i64 p.kind,.string p.name,.int .i64 p.result,q.1,q.2,.int .i64 p.at']
def uS (w:World) (ok:Nat→Prop) (p:PU) (q:Value×Value):Prop:=Li kdV 54 w ok q.1 p.vars∧Li kdS 99 w ok q.2 p.body
def kdU:Kd PU (Value×Value):=⟨uC,uS,fun h hk hs=>⟨h.1.kept hk hs,h.2.kept hk hs⟩,fun h hk=>⟨h.1.imp hk,h.2.imp hk⟩⟩
theorem abn_ (p:PU) (q:Value×Value):(uC p q).length=6:=rfl
theorem pu_:(∀(a:Act) (d:Tmp) (v:Value),a.put (some d) v=⟨a.tmps.setIfInBounds d v,a.defers⟩)∧(∀(a:Act) (v:Value),a.put none v=a)∧(∀(l:List Value) (i:Nat) (v:Value),l.toArray.setIfInBounds i v=(l.set i v).toArray)∧(∀(x:Value) (l:List Value) (v:Value),(x::l).set 0 v=v::l)∧(∀(x:Value) (l:List Value) (n:Nat) (v:Value),(x::l).set (n+1) v=x::l.set n v):=
 ⟨fun _ _ _=>rfl,fun _ _=>rfl,fun _ _ _=>by simp,fun _ _ _=>rfl,fun _ _ _ _=>rfl⟩
end Go.Proofs.YtcoglmaiahpooaaGreatDoor
