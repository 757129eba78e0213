/- Texts put together: W0, W1, W2, G3. -/
import Derived.Test.YtcgbfhpmkpglkaaGreatDoorQ11
import Derived.Deep.AppendLies
import Derived.Deep.RegionLaw
import Derived.Deep.CutBlock
import Derived.Test.YtcgbfhpmkpglkaaGreatDoorQ12
set_option linter.unusedVariables false
set_option linter.unusedSimpArgs false
set_option maxHeartbeats 8000000
namespace Go.Proofs.YtcgbfhpmkpglkaaGreatDoor
open Go.RowKit
attribute [local go_sem ↓] Go.wp_at_zero Go.wp_at_succ
theorem OwnV.store {B:Nat} {w:World} {g cap:Nat} {l:List Int} (h:OwnV B w (.slice (some ⟨g,0,none⟩) l.length cap) l) (k:Nat) (x:Int) :
 OwnV B (w.setCell ⟨g,k,none⟩ (.int .i64 x)) (.slice (some ⟨g,0,none⟩) l.length cap) (l.set k x):=by
 obtain⟨h1,h2|⟨g',cap',cur,e,hb,hc,hn,hm,hs,ht⟩⟩:=h
 ·simp at h2
 ·simp at e;obtain⟨rfl,rfl⟩:=e;refine⟨by simp,.inr ⟨g,cap,cur.setIfInBounds k (.int .i64 x),by simp,hb,xk_ hc k _,by simpa using hn,hm,by simpa using hs,?_⟩⟩;rw[List.length_set,Array.toList_setIfInBounds,List.take_set,ht,List.map_set]
theorem OwnV.frozen {B:Nat} {w:World} {g cap:Nat} {l:List Int} (h:OwnV B w (.slice (some ⟨g,0,none⟩) l.length cap) l) (k:Nat):w.frozen? ⟨g,k,none⟩=false:=by
 obtain⟨h1,h2|⟨g',cap',cur,e,hb,hc,hn,hm,hs,ht⟩⟩:=h
 ·simp at h2
 ·simp at e;obtain⟨rfl,rfl⟩:=e;exact xc_ hc k
theorem OwnV.get {B:Nat} {w:World} {g cap:Nat} {l:List Int} (h:OwnV B w (.slice (some ⟨g,0,none⟩) l.length cap) l) (i:Nat) (hi:i<l.length):w.cell? ⟨g,i,none⟩=some (.int .i64 (l.getD i 0)):=by
 rw[World.ownsRow.cellAt h i (by omega)];simp[hi]
theorem OwnV.mine {B:Nat} {w wx:World} {g cap:Nat} {l:List Int} (h:OwnV B wx (.slice (some ⟨g,0,none⟩) l.length cap) l) (hg:w.grownBy wx (some g)):Mine 3 1 g w wx (.slice (some ⟨g,0,none⟩) l.length cap) l.length:=by
 obtain⟨h1,h2|⟨g',cap',cur,e,hb,hc,hn,hm,hs,ht⟩⟩:=h
 ·simp at h2
 ·simp at e;obtain⟨rfl,rfl⟩:=e;exact⟨_,⟨h1,.inr ⟨g,cap,cur,rfl,Nat.zero_le _,hc,hn,hm,hs,ht⟩⟩,.inl rfl,hg⟩
theorem apf_ (B g cap:Nat) (l:List Int) (z:Int) (w:World) (hl:l.length≤900) (h:OwnV B w (.slice (some ⟨g,0,none⟩) l.length cap) l) :
 Calls Tryz.prog 11 #[.slice (some ⟨g,0,none⟩) l.length cap,.int .i64 z] w fun e w'=>e=.returned (.tuple #[])∧w.grownBy w' (some g):=by
 obtain⟨n,hn⟩:∃ n,l.length=n:=⟨_,rfl⟩;have HO:Hid (OwnV B w (.slice (some ⟨g,0,none⟩) n cap) l):=(by rw[← hn];exact h);have HN:=hd_ hn;rw[hn] at hl ⊢;clear h hn;go_enter Tryz.func11,Tryz.ntmps11;go_wp2;go_loopg [4] n (fun gk s4 wx=>∃(k:Nat) (ar:List Int),s4=.int .i64 k∧k≤n∧gk=n - k∧ar.length=n∧OwnV B wx (.slice (some ⟨g,0,none⟩) ar.length cap) ar∧w.grownBy wx (some g))
 case atStart=>exact⟨0,l,rfl,Nat.zero_le _,by omega,HN.out,by rw[HN.out];exact HO.out,gz_⟩
 case round=>
  obtain⟨k,ar,rfl,hk,hgk,has,har,hgr⟩:=hrel;have HG:=hd_ hgk;have HA:=hd_ har;have HS:=hd_ has;clear hgk;by_cases hlt:k<n
  · have q0:=har.get k (by omega);have f0:=har.frozen k;clear har has;have i1:(0:Int)≤(k:Int):=(by omega);have i2:(k:Int)<(n:Int):=(by omega);go_wp2;have hgl:=HG.out;go_roundg (n - (k+1))
    all_goals first|omega|exact⟨k+1,ar.set k z,by go_num,by omega,by omega,by simp[HS.out],by rw[List.length_set];exact HA.out.store k z,x3_ hgr _ _⟩
  · have hk':¬((k:Int)<(n:Int)):=(by omega);have HM:Hid (Mine 3 1 g w wr (.slice (some ⟨g,0,none⟩) n cap) n):=(by have:=HA.out.mine hgr;rw[HS.out] at this;exact this);clear har HG;go_wp2;go_loopg [0,5] 20 (fun gk s0 s5 wx=>∃(j m:Nat),s5=.int .i64 j∧j≤20∧gk=20 - j∧Mine 3 1 g w wx s0 m∧m≤900+j)
    case atStart=>exact⟨0,n,rfl,Nat.zero_le _,by omega,HM.out,by omega⟩
    case round=>
     obtain⟨j,m,rfl,hj,hgj,hmine,hm⟩:=hrel;have HG:Hid (_=_):=hgj;clear hgj;by_cases hlt:j<20
     · obtain⟨i0,hi,hz0,hz1,hz2⟩:=yt_ v1_;obtain⟨v',w',hrun,hmine'⟩:=al0_ Tryz.underlying25 hi hz0 hz1 hz2 rfl (by omega) hmine [.int .i64 z] rfl (by simp[Value.oneCell']) (by omega) (by omega);have HRUN:Hid (_=_):=hrun;have HM:=hd_ hmine';clear hmine hrun hmine' hi hz0 hz1 hz2;have j2:(j:Int)<20:=(by omega);go_wp2_with (first|(at_builtin;refine x0_ rfl _ _ 25 rfl _ _ v' w' rfl rfl HRUN.out ?_))
       have hgl:=HG.out;go_roundg (20 - (j+1))
       all_goals first|omega|exact⟨j+1,m+1,by go_num,by omega,by omega,HM.out,by omega⟩
     ·have hj':¬((j:Int)<20):=(by omega);obtain⟨_,_,_,hg⟩:=hmine;go_wp2;go_end0;exact⟨rfl,hg⟩
theorem aik_ (z:Int) (w:World):Calls Tryz.prog 11 #[.slice none 0 0,.int .i64 z] w fun e w'=>e=.returned (.tuple #[])∧w.grownBy w' none:=by
 obtain⟨i0,hi,hz0,hz1,hz2⟩:=yt_ v1_;go_enter Tryz.func11,Tryz.ntmps11;go_wp2;refine wp_loop_rounds 1 ?_;rw[rounds_succ];go_wp2;go_loopg [0,5] 20 (fun gk s0 s5 wx=>∃(j m:Nat) (xs:List Value),s5=.int .i64 j∧j≤20∧gk=20 - j∧wx.ownsRow w.heap.size 3 1 s0 m xs∧m≤j∧w.grownBy wx none)
 case atStart=>exact⟨0,0,[],rfl,Nat.zero_le _,by omega,World.ownsRow_nil _ _ _ _,by omega,gz_⟩
 case round=>
  obtain⟨j,m,xs,rfl,hj,hgj,hown,hm,hgr⟩:=hrel;have HG:Hid (_=_):=hgj;clear hgj;by_cases hlt:j<20
  · obtain⟨v',w',r1,r2,r3,_,r5⟩:=run_append_own_at (P:=Tryz.prog) (wr.alloc (.cells #[.int .i64 z] 3)) w.heap.size 25 25 3 i0 _ 1 8 Tryz.underlying25 hi hz0 hz1 hz2 rfl (by omega) _ m xs (hown.alloc _) ⟨wr.heap.size,0,none⟩ 1 1 [.int .i64 z] rfl
     (fun j u hj=>by
       rw[jc_,xa_ (heap_alloc_new wr _) _];simpa using hj)
     (by simp[Value.oneCell']) (by unfold maxLen;omega) (by omega) (by have:=hgr.size;simp;omega)
    have hgr':w.grownBy w' none:=x6_ (xb_ hgr _) r3 (.inr fun x hx=>(hown.lt x hx).1);have HRUN:Hid (_=_):=r1;have HO:=hd_ r2;clear hown r1 r2 r3 r5 hi hz0 hz1 hz2;have j2:(j:Int)<20:=(by omega);go_wp2_with (first|(at_builtin;refine x0_ rfl _ _ 25 rfl _ _ v' w' rfl rfl HRUN.out ?_))
    have hgl:=HG.out;go_roundg (20 - (j+1))
    all_goals first|omega|exact⟨j+1,m+1,_,by go_num,by omega,by omega,HO.out,by omega,hgr'⟩
  ·have hj':¬((j:Int)<20):=(by omega);clear hi hz0 hz1 hz2;go_wp2;go_end0;exact⟨rfl,hgr⟩
theorem zn_ (B:Nat) (v:Value) (l:List Int) (z:Int) (w:World) (hl:l.length≤900) (h:OwnV B w v l) :
 Calls Tryz.prog 11 #[v,.int .i64 z] w fun e w'=>e=.returned (.tuple #[])∧w.grownBy w' v.ownBlock:=by
 have h':=h;obtain⟨_,⟨rfl,hn⟩|⟨g,cap,cur,rfl,_⟩⟩:=h'
 ·exact aik_ z w
 ·exact apf_ B g cap l z w hl h
structure Un where
 p:Pr
 fv:Value
 sv:Value
 tv:Value
def un0:Un:=⟨pr0,.slice none 0 0,.slice none 0 0,.slice none 0 0⟩
def rowU (u:Un):List Value:=[.int .i64 u.p.k,.string u.p.nm,u.fv,u.sv,u.tv]
def ko_ (us:List Un):List Value:=us.flatMap rowU
theorem aj6_ (us:List Un) (u:Un):ko_ (us++[u])=ko_ us++rowU u:=by simp[ko_]
theorem afh_:∀(us:List Un) (i:Nat),i<us.length→(ko_ us)[i*5]?=some (.int .i64 (us.getD i un0).p.k)∧(ko_ us)[i*5+1]?=some (.string (us.getD i un0).p.nm)∧(ko_ us)[i*5+2]?=some (us.getD i un0).fv∧(ko_ us)[i*5+3]?=some (us.getD i un0).sv∧(ko_ us)[i*5+4]?=some (us.getD i un0).tv
 | [],i,h=>by simp at h
 | u::us,0,_=>by simp[ko_,rowU]
 | u::us,i+1,h=>by
  have:=afh_ us i (by simpa using h);have e:∀ j,(ko_ (u::us))[(i+1)*5+j]?=(ko_ us)[i*5+j]?:=fun j=>by
   have e1:ko_ (u::us)=rowU u++ko_ us:=(by simp[ko_]);rw[e1,List.getElem?_append_right (by simp[rowU];omega)];congr 1;simp[rowU];omega
  refine⟨?_,?_,?_,?_,?_⟩
  ·have:=(e 0).trans this.1;simpa using this
  ·rw[e];simpa using this.2.1
  ·rw[e];simpa using this.2.2.1
  ·rw[e];simpa using this.2.2.2.1
  ·rw[e];simpa using this.2.2.2.2
structure CpAt (w:World) (B:Nat) (x:Option Nat) (u:Un):Prop where
 first:∃ c,u.fv=.slice (some ⟨c,0,none⟩) u.p.fs.length (u.p.fs.length+5)∧RoomAt w c u.p.fs∧B≤c∧c<w.heap.size∧x≠some c
 slots:SlAt w u.sv u.p.sl
 sown:∀ y,u.sv.ownBlock=some y→B≤y∧y<w.heap.size∧x≠some y
 text:TxtAt w u.tv u.p.tx
 mark:∃ g cap,u.tv=.slice (some ⟨g,0,none⟩) u.p.tx.length cap∧u.p.tx.length+1≤cap∧w.cell? ⟨g,u.p.tx.length*4+1,none⟩=some (.int .i64 (-9))∧B≤g∧g<w.heap.size∧x≠some g
theorem SlAt.but {w w':World} {v:Value} {l:List Slt} {r:Option Nat} (h:SlAt w v l) (hg:w.grownBy w' r) (hne:∀ y,v.ownBlock=some y→r≠some y):SlAt w' v l:=by
 obtain⟨a,cap,rfl,h|⟨b,off,rfl,hc⟩⟩:=h
 ·exact⟨a,cap,rfl,.inl h⟩
 ·have hb:r≠some b:=hne b rfl;refine⟨_,cap,rfl,.inr ⟨b,off,rfl,fun i hi=>?_⟩⟩;obtain⟨h0,h1,h2,h3,h4,h5⟩:=hc i hi;exact⟨hg.cell h0 (Ne.symm hb),hg.cell h1 (Ne.symm hb),hg.cell h2 (Ne.symm hb),hg.cell h3 (Ne.symm hb),hg.cell h4 (Ne.symm hb),hg.cell h5 (Ne.symm hb)⟩
theorem TxtAt.but {w w':World} {v:Value} {t:List Ins} {r:Option Nat} (h:TxtAt w v t) (hg:w.grownBy w' r) (hne:∀ y,v.ownBlock=some y→r≠some y):TxtAt w' v t:=by
 obtain⟨a,cap,rfl,h|⟨b,off,rfl,hc⟩⟩:=h
 ·exact⟨a,cap,rfl,.inl h⟩
 ·have hb:r≠some b:=hne b rfl;exact⟨_,cap,rfl,.inr ⟨b,off,rfl,fun i hi=>⟨hg.cell (hc i hi).1 (Ne.symm hb),hg.cell (hc i hi).2.1 (Ne.symm hb),hg.cell (hc i hi).2.2.1 (Ne.symm hb),hg.cell (hc i hi).2.2.2 (Ne.symm hb)⟩⟩⟩
theorem RoomAt.butO {w w':World} {c:Nat} {l:List Int} {r:Option Nat} (h:RoomAt w c l) (hg:w.grownBy w' r) (hne:r≠some c):RoomAt w' c l:=by
 obtain⟨ar,h1,h2⟩:=h;exact⟨ar,(hg.block c (xg_ h1) (Ne.symm hne)).trans h1,h2⟩
theorem CpAt.but {w w':World} {B:Nat} {x x' r:Option Nat} {u:Un} (h:CpAt w B x u) (hg:w.grownBy w' r) (hr:r=none∨r=x∨∀ y,r=some y→y<B∨w.heap.size≤y) (hx:x'=x∨∀ y,x'=some y→y<B∨w.heap.size≤y):CpAt w' B x' u:=by
 have hne:∀ y,B≤y→y<w.heap.size→x≠some y→r≠some y:=fun y h1 h2 h3 e=>by
  rcases hr with h|h|h
  ·rw[h] at e;simp at e
  ·exact h3 (h▸e)
  ·rcases h y e with h|h <;> omega
 have hnx:∀ y,B≤y→y<w.heap.size→x≠some y→x'≠some y:=fun y h1 h2 h3 e=>by
  rcases hx with h|h
  ·exact h3 (h▸e)
  ·rcases h y e with h|h <;> omega
 have hs:=hg.size;obtain⟨c,f1,f2,f3,f4,f5⟩:=h.first
 obtain⟨g,cap,m1,m2,m3,m4,m5,m6⟩:=h.mark;refine⟨⟨c,f1,f2.butO hg (hne c f3 f4 f5),f3,by omega,hnx c f3 f4 f5⟩,h.slots.but hg (fun y hy=>?_),(fun y hy=>?_),h.text.but hg (fun y hy=>?_),⟨g,cap,m1,m2,hg.cell m3 (Ne.symm (hne g m4 m5 m6)),m4,by omega,hnx g m4 m5 m6⟩⟩
 ·obtain⟨a1,a2,a3⟩:=h.sown y hy;exact hne y a1 a2 a3
 ·obtain⟨a1,a2,a3⟩:=h.sown y hy;exact⟨a1,by omega,hnx y a1 a2 a3⟩
 ·rw[m1] at hy;simp[Value.ownBlock] at hy;subst hy;exact hne g m4 m5 m6
def CopyAt (w:World) (B:Nat) (v:Value) (us:List Un):Prop:=w.ownsRow B 44 5 v us.length (ko_ us)∧∀ i,i<us.length→CpAt w B v.ownBlock (us.getD i un0)
theorem CopyAt.kept {w w':World} {B:Nat} {v:Value} {us:List Un} {r:Option Nat} (h:CopyAt w B v us) (hg:w.grownBy w' r) (hr:∀ y,r=some y→y<B∨w.heap.size≤y):CopyAt w' B v us:=by
 refine⟨World.ownsRow.kept h.1 hg ?_,fun i hi=>(h.2 i hi).but hg (.inr (.inr hr)) (.inl rfl)⟩;cases hv:v.ownBlock with
 | none=>exact .inl rfl
 | some y=>
  right;intro e;obtain⟨h1,h2⟩:=World.ownsRow.lt h.1 y hv;rcases hr y e.symm with h3|h3 <;> omega
theorem CopyAt.cells {w:World} {B:Nat} {v:Value} {us:List Un} (h:CopyAt w B v us):∃ a cap,v=.slice a us.length cap∧us.length≤cap∧(us=[]∨∃ b,a=some ⟨b,0,none⟩∧∀ i,i<us.length→
 w.cell? ⟨b,i*5,none⟩=some (.int .i64 (us.getD i un0).p.k)∧w.cell? ⟨b,i*5+1,none⟩=some (.string (us.getD i un0).p.nm)∧w.cell? ⟨b,i*5+2,none⟩=some (us.getD i un0).fv∧w.cell? ⟨b,i*5+3,none⟩=some (us.getD i un0).sv∧w.cell? ⟨b,i*5+4,none⟩=some (us.getD i un0).tv):=by
 obtain⟨h1,h2⟩:=h;have h1':=h1;obtain⟨_,⟨rfl,hn⟩|⟨g,cap,cur,rfl,hb,hc,hn,hm,hs,ht⟩⟩:=h1
 ·exact⟨none,0,by rw[hn],by omega,.inl (List.length_eq_zero_iff.1 hn)⟩
 · refine⟨_,cap,rfl,hn,.inr ⟨g,rfl,fun i hi=>?_⟩⟩;obtain⟨r0,r1,r2,r3,r4⟩:=afh_ us i hi;have key:∀ j u,(ko_ us)[j]?=some u→w.cell? ⟨g,j,none⟩=some u:=fun j u hj=>by
    have:=World.ownsRow.cells h1' rfl j u hj;rw[jc_,Nat.zero_add] at this;exact this
   exact⟨key _ _ r0,key _ _ r1,key _ _ r2,key _ _ r3,key _ _ r4⟩
theorem CopyAt.cd {w:World} {B:Nat} {v:Value} {us:List Un} (h:CopyAt w B v us):CdP w v (us.map Un.p):=by
 obtain⟨a,cap,rfl,hn,hc⟩:=h.cells;refine⟨a,cap,by simp,by simpa using hn,?_⟩;rcases hc with rfl|⟨b,rfl,hc⟩
 ·exact .inl rfl
 · refine .inr ⟨b,0,rfl,fun i hi=>?_⟩;have hi':i<us.length:=(by simpa using hi);obtain⟨c0,c1,c2,c3,c4⟩:=hc i hi';have hu:=h.2 i hi';have e:(us.map Un.p).getD i pr0=(us.getD i un0).p:=(by simp[List.getD,hi']);rw[e,Nat.zero_add];refine⟨_,_,_,c0,c1,c2,c3,c4,?_,hu.slots,hu.text⟩;obtain⟨c,f1,f2,_⟩:=hu.first
   rw[f1];exact f2.rd
structure BdP (ps:List Pr):Prop where
 n:ps.length*96≤140737488351232
 fs:∀ i,i<ps.length→(ps.getD i pr0).fs.length≤17592186043904
 sl:∀ i,i<ps.length→(ps.getD i pr0).sl.length*56≤140737488351232
 tx:∀ i,i<ps.length→(ps.getD i pr0).tx.length*32≤140737488351232
theorem acc_ {α β:Type} (f:α→List β) (n:Nat) (hn:0<n) (hf:∀ x,(f x).length=n):∀(l:List α) (j:Nat),(l.flatMap f)[j]?=(l[j / n]?).bind fun x=>(f x)[j % n]?
 | [],j=>by simp
 | x::l,j=>by
  rw[List.flatMap_cons];by_cases h:j<n
  ·rw[List.getElem?_append_left (by rw[hf];exact h),Nat.div_eq_of_lt h,Nat.mod_eq_of_lt h];simp
  ·rw[List.getElem?_append_right (by rw[hf];omega),hf,acc_ f n hn hf l (j - n)];obtain⟨k,rfl⟩:∃ k,j=k+n:=⟨j - n,by omega⟩;rw[Nat.add_sub_cancel,Nat.add_div_right k hn,Nat.add_mod_right];simp
theorem alo_ {α β:Type} (f:α→List β) (n:Nat) (hn:0<n) (hf:∀ x,(f x).length=n) (l:List α) (i r:Nat) (hi:i<l.length) (hr:r<n):(l.flatMap f)[i*n+r]?=(f l[i])[r]?:=by
 rw[acc_ f n hn hf,Nat.mul_comm,Nat.mul_add_div hn,Nat.div_eq_of_lt hr,Nat.mul_add_mod,Nat.mod_eq_of_lt hr,Nat.add_zero,List.getElem?_eq_getElem hi];rfl
theorem aec_ {α β:Type} (f:α→List β) (n:Nat) (hf:∀ x,(f x).length=n) (l:List α):(l.flatMap f).length=l.length*n:=by
 induction l with
 | nil=>simp
 | cons x l ih=>rw[List.flatMap_cons,List.length_append,hf,ih,List.length_cons,Nat.add_mul];omega
def uh_ (s:Slt):List Value:=[.string s.path,.int .i64 s.kind,.int .i64 s.at',.int .i64 s.len,.bool s.keep,.int .i64 s.role]
def jo_ (s:Ins):List Value:=[.int .i64 s.d,.int .i64 s.a,.int .i64 s.b,.int .i64 s.c]
theorem aed_ (s:Slt):(uh_ s).length=6:=rfl
theorem acd_ (s:Ins):(jo_ s).length=4:=rfl
theorem aqb_ (l:List Slt):∀ u∈l.flatMap uh_,u.oneCell'=true:=fun u hu=>by
 obtain⟨s,_,h⟩:=List.mem_flatMap.1 hu;simp[uh_] at h;rcases h with rfl|rfl|rfl|rfl|rfl|rfl <;> rfl
theorem aqc_ (l:List Ins):∀ u∈l.flatMap jo_,u.oneCell'=true:=fun u hu=>by
 obtain⟨s,_,h⟩:=List.mem_flatMap.1 hu;simp[jo_] at h;rcases h with rfl|rfl|rfl|rfl <;> rfl
theorem SlAt.cells {w:World} {v:Value} {l:List Slt} (h:SlAt w v l):∃ a cap,v=.slice a l.length cap∧(l.length=0∨∃ b off,a=some ⟨b,off,none⟩∧∀ j u,(l.flatMap uh_)[j]?=some u→w.cell? ((⟨b,off,none⟩:Addr).add j)=some u):=by
 obtain⟨a,cap,rfl,rfl|⟨b,off,rfl,hc⟩⟩:=h
 ·exact⟨a,cap,rfl,.inl rfl⟩
 · refine⟨_,cap,rfl,.inr ⟨b,off,rfl,fun j u hj=>?_⟩⟩;rw[acc_ uh_ 6 (by omega) aed_] at hj;rw[jc_];have hjl:j / 6<l.length:=by
    rcases Nat.lt_or_ge (j / 6) l.length with h|h
    ·exact h
    ·rw[List.getElem?_eq_none h] at hj;simp at hj
   obtain⟨c0,c1,c2,c3,c4,c5⟩:=hc (j / 6) hjl;have hg:l.getD (j / 6) slt0=l[j / 6]:=(by simp[List.getD,hjl]);rw[hg] at c0 c1 c2 c3 c4 c5;rw[List.getElem?_eq_getElem hjl,Option.bind_some] at hj;have hm:j % 6=0∨j % 6=1∨j % 6=2∨j % 6=3∨j % 6=4∨j % 6=5:=(by omega);generalize l[j / 6]=s at *;have ed:=Nat.div_add_mod j 6;rcases hm with e|e|e|e|e|e <;> rw[e] at hj <;> simp[uh_] at hj <;> subst hj
   ·rw[show off+j=off+j / 6*6 by omega];exact c0
   ·rw[show off+j=off+j / 6*6+1 by omega];exact c1
   ·rw[show off+j=off+j / 6*6+2 by omega];exact c2
   ·rw[show off+j=off+j / 6*6+3 by omega];exact c3
   ·rw[show off+j=off+j / 6*6+4 by omega];exact c4
   ·rw[show off+j=off+j / 6*6+5 by omega];exact c5
theorem TxtAt.cells {w:World} {v:Value} {l:List Ins} (h:TxtAt w v l):∃ a cap,v=.slice a l.length cap∧(l.length=0∨∃ b off,a=some ⟨b,off,none⟩∧∀ j u,(l.flatMap jo_)[j]?=some u→w.cell? ((⟨b,off,none⟩:Addr).add j)=some u):=by
 obtain⟨a,cap,rfl,rfl|⟨b,off,rfl,hc⟩⟩:=h
 ·exact⟨a,cap,rfl,.inl rfl⟩
 · refine⟨_,cap,rfl,.inr ⟨b,off,rfl,fun j u hj=>?_⟩⟩;rw[acc_ jo_ 4 (by omega) acd_] at hj;rw[jc_];have hjl:j / 4<l.length:=by
    rcases Nat.lt_or_ge (j / 4) l.length with h|h
    ·exact h
    ·rw[List.getElem?_eq_none h] at hj;simp at hj
   obtain⟨c0,c1,c2,c3⟩:=hc (j / 4) hjl;have hg:nth l (j / 4)=l[j / 4]:=(by simp[nth,hjl]);rw[hg] at c0 c1 c2 c3;rw[List.getElem?_eq_getElem hjl,Option.bind_some] at hj;have hm:j % 4=0∨j % 4=1∨j % 4=2∨j % 4=3:=(by omega);generalize l[j / 4]=s at *;have ed:=Nat.div_add_mod j 4;rcases hm with e|e|e|e <;> rw[e] at hj <;> simp[jo_] at hj <;> subst hj
   ·rw[show off+j=off+j / 4*4 by omega];exact c0
   ·rw[show off+j=off+j / 4*4+1 by omega];exact c1
   ·rw[show off+j=off+j / 4*4+2 by omega];exact c2
   ·rw[show off+j=off+j / 4*4+3 by omega];exact c3
theorem SlAt.of_own {B T:Nat} {w:World} {v:Value} {l:List Slt} (h:w.ownsRow B T 6 v l.length (l.flatMap uh_)):SlAt w v l:=by
 have h':=h;obtain⟨_,⟨rfl,hn⟩|⟨g,cap,cur,rfl,hb,hc,hn,hm,hs,ht⟩⟩:=h
 ·exact⟨none,0,by rw[hn],.inl (List.length_eq_zero_iff.1 hn)⟩
 · refine⟨_,cap,rfl,.inr ⟨g,0,rfl,fun i hi=>?_⟩⟩;have key:∀ r u,r<6→(uh_ l[i])[r]?=some u→w.cell? ⟨g,0+i*6+r,none⟩=some u:=fun r u hr hu=>by
    have:=World.ownsRow.cells h' rfl (i*6+r) u (by rw[alo_ uh_ 6 (by omega) aed_ l i r hi hr];exact hu);rw[jc_] at this;rw[Nat.add_assoc];exact this
   have hg:l.getD i slt0=l[i]:=(by simp[List.getD,hi]);rw[hg];exact⟨key 0 _ (by omega) rfl,key 1 _ (by omega) rfl,key 2 _ (by omega) rfl,key 3 _ (by omega) rfl,key 4 _ (by omega) rfl,key 5 _ (by omega) rfl⟩
theorem TxtAt.of_own {B T g cap:Nat} {w:World} {l:List Ins} {y:Ins} (h:w.ownsRow B T 4 (.slice (some ⟨g,0,none⟩) (l.length+1) cap) (l.length+1) (l.flatMap jo_++jo_ y)):TxtAt w (.slice (some ⟨g,0,none⟩) l.length cap) l∧w.cell? ⟨g,l.length*4+1,none⟩=some (.int .i64 y.a):=by
 have key0:∀ j u,(l.flatMap jo_++jo_ y)[j]?=some u→w.cell? ⟨g,j,none⟩=some u:=fun j u hj=>by
  have:=World.ownsRow.cells h rfl j u hj;rw[jc_,Nat.zero_add] at this;exact this
 have hl:=aec_ jo_ 4 acd_ l;refine⟨⟨_,cap,rfl,.inr ⟨g,0,rfl,fun i hi=>?_⟩⟩,?_⟩
 · have key:∀ r u,r<4→(jo_ l[i])[r]?=some u→w.cell? ⟨g,0+i*4+r,none⟩=some u:=fun r u hr hu=>by
    rw[Nat.zero_add];refine key0 _ _ ?_;rw[List.getElem?_append_left (by omega),alo_ jo_ 4 (by omega) acd_ l i r hi hr];exact hu
   have hg:nth l i=l[i]:=(by simp[nth,hi]);rw[hg];exact⟨key 0 _ (by omega) rfl,key 1 _ (by omega) rfl,key 2 _ (by omega) rfl,key 3 _ (by omega) rfl⟩
 ·refine key0 _ _ ?_;rw[List.getElem?_append_right (by omega),hl,show l.length*4+1 - l.length*4=1 by omega];rfl
theorem aaw_ {P:Program} (w:World) (t ty e:TypeId) (i:TypeInfo) (z:Value) (size bytes:Nat) (ht:P.underlying t=some (.slice e)) (hi:P.info? e=some i) (hz:i.zero=some z)
 (hsize:i.size=size) (hby:i.bytes=bytes) (hzs:z.cells.size=size) (hsz:0<size) (a:Option Addr) (m c:Nat) (news:List Value) (hl:news.length=m*size)
 (hnews:m=0∨∃ b off,a=some ⟨b,off,none⟩∧∀ j u,news[j]?=some u→w.cell? ((⟨b,off,none⟩:Addr).add j)=some u) (h1:∀ u∈news,u.oneCell'=true)
 (h63:m≤maxLen) (hbytes:m*bytes≤140737488355328) :
 ∃ oa oc w',(Builtin.append_ #[t,t] ty #[.slice none 0 0,.slice a m c]).run P w=.ok (.slice oa m oc) w'∧w'.ownsRow w.heap.size e size (.slice oa m oc) m news∧w.grownBy w' none:=by
 rcases hnews with h0|⟨b,off,rfl,hc⟩
 ·subst h0;refine⟨none,0,w,?_,⟨hl,.inl ⟨rfl,rfl⟩⟩,gz_⟩;cases a <;> simp[Builtin.append_,run_underlying ht,sizeOf,typeInfo,hi,Builtin.lenOf,Builtin.firstCells,loadCells,loadCellsFrom]
 · obtain⟨v',w',r1,r2,r3,_,_⟩:=run_append_own_at (P:=P) w w.heap.size t ty e i z size bytes ht hi hz hsize hby hzs hsz _ 0 [] (World.ownsRow_nil _ _ _ _) ⟨b,off,none⟩ m c news hl hc h1 (by omega) (by simpa using hbytes) (Nat.le_refl _);have r2':w'.ownsRow w.heap.size e size v' m news:=(by simpa using r2);obtain⟨_,⟨hv,hm⟩|⟨g,cap,cur,hv,_⟩⟩:=r2'
   ·subst hv hm;exact⟨none,0,w',r1,by simpa using r2,r3⟩
   ·subst hv;exact⟨some ⟨g,0,none⟩,cap,w',r1,by simpa using r2,r3⟩
theorem ua_ {P:Program} {w:World} {ops:Array Oper} {rest:List Oper} {o:Oper} {act:Act} {Q:Exit→Act→World→Prop} (hgd:o.guard=none) (s x:Operand) (t:TypeId)
 (ho:o.op=.call { callee:=.builtin .append,args:=#[s,x],argTypes:=#[t,t] }) (e:TypeId) (i:TypeInfo) (z:Value) (size bytes:Nat) (ht:P.underlying t=some (.slice e)) (hi:P.info? e=some i) (hz:i.zero=some z)
 (hsize:i.size=size) (hby:i.bytes=bytes) (hzs:z.cells.size=size) (hsz:0<size) (a:Option Addr) (m c:Nat) (news:List Value) (hs:act.eval s=.slice none 0 0) (hx:act.eval x=.slice a m c) (hl:news.length=m*size)
 (hnews:m=0∨∃ b off,a=some ⟨b,off,none⟩∧∀ j u,news[j]?=some u→w.cell? ((⟨b,off,none⟩:Addr).add j)=some u) (h1:∀ u∈news,u.oneCell'=true)
 (h63:m≤maxLen) (hbytes:m*bytes≤140737488355328)
 (h:∀ oa oc w',w'.ownsRow w.heap.size e size (.slice oa m oc) m news→w.grownBy w' none→wpList P ops Q rest (act.put o.dst (.slice oa m oc)) w'):wpList P ops Q (o::rest) act w:=by
 obtain⟨oa,oc,w',hrun,h2,h3⟩:=aaw_ (P:=P) w t o.type e i z size bytes ht hi hz hsize hby hzs hsz a m c news hl hnews h1 h63 hbytes;exact x0_ hgd s x t ho _ _ _ w' hs hx hrun (h oa oc w' h2 h3)
theorem qz_ {P:Program} {w:World} {ops:Array Oper} {o:Oper} {act:Act} {K:Act→World→Prop} {Q:Exit→Act→World→Prop} {E:Prop} (hgd:o.guard=none) (s x:Operand) (t:TypeId)
 (ho:o.op=.call { callee:=.builtin .append,args:=#[s,x],argTypes:=#[t,t] }) (e:TypeId) (i:TypeInfo) (z:Value) (size bytes:Nat) (ht:P.underlying t=some (.slice e)) (hi:P.info? e=some i) (hz:i.zero=some z)
 (hsize:i.size=size) (hby:i.bytes=bytes) (hzs:z.cells.size=size) (hsz:0<size) (a:Option Addr) (m c:Nat) (news:List Value) (hs:act.eval s=.slice none 0 0) (hx:act.eval x=.slice a m c) (hl:news.length=m*size)
 (hnews:m=0∨∃ b off,a=some ⟨b,off,none⟩∧∀ j u,news[j]?=some u→w.cell? ((⟨b,off,none⟩:Addr).add j)=some u) (h1:∀ u∈news,u.oneCell'=true)
 (h63:m≤maxLen) (hbytes:m*bytes≤140737488355328)
 (h:∀ oa oc w',w'.ownsRow w.heap.size e size (.slice oa m oc) m news→w.grownBy w' none→K (act.put o.dst (.slice oa m oc)) w'):if Region.wanted o (yielded ops act.tmps)=true then Oper.wp P o act w K Q else E:=by
 obtain⟨oa,oc,w',hrun,h2,h3⟩:=aaw_ (P:=P) w t o.type e i z size bytes ht hi hz hsize hby hzs hsz a m c news hl hnews h1 h63 hbytes;exact y7_ hgd s x t ho _ _ _ w' hs hx hrun (h oa oc w' h2 h3)
theorem avm_:(Tryz.prog.info? 44).map (fun i=>(i.zero,i.size,i.bytes))=some (some (.agg #[.int .i64 0,.string ByteArray.empty,.slice none 0 0,.slice none 0 0,.slice none 0 0]),5,96):=by kernel_rfl
theorem avn_:(Tryz.prog.info? 62).map (fun i=>(i.zero,i.size,i.bytes))=some (some (.agg #[.string ByteArray.empty,.int .i64 0,.int .i64 0,.int .i64 0,.bool false,.int .i64 0]),6,56):=by kernel_rfl
theorem avo_:(Tryz.prog.info? 40).map (fun i=>(i.zero,i.size,i.bytes))=some (some (.agg #[.int .i64 0,.int .i64 0,.int .i64 0,.int .i64 0]),4,32):=by kernel_rfl
theorem agl_ {w:World} {base e size g n cap m:Nat} {xs:List Value} (h:w.ownsRow base e size (.slice (some ⟨g,0,none⟩) n cap) m xs):n≤cap:=by
 obtain⟨_,⟨h,_⟩|⟨g',c',cur,hv,_,_,hc,_⟩⟩:=h
 ·simp at h
 ·simp at hv;obtain⟨rfl,rfl,rfl⟩:=hv;exact hc
theorem k9_ {w:World} {base base' e size n:Nat} {v:Value} {xs:List Value} (h:w.ownsRow base e size v n xs) (hb:base'≤base):w.ownsRow base' e size v n xs:=by
 refine⟨h.1,?_⟩;rcases h.2 with h|⟨g,c,cur,h1,h2,h3⟩
 ·exact .inl h
 ·exact .inr ⟨g,c,cur,h1,by omega,h3⟩
theorem afi_ {w w':World} {base e size n:Nat} {v:Value} {xs:List Value} (h:w.ownsRow base e size v n xs) (hg:w.grownBy w' none):w'.ownsRow base e size v n xs:=by
 refine World.ownsRow.kept h hg ?_;cases hv:v.ownBlock with
 | none=>exact .inl rfl
 | some x=>exact .inr (by simp)
theorem afj_ {w:World} {base e size n:Nat} {v u:Value} {xs:List Value} (h:w.ownsRow base e size v n xs) (hb:∀ y,u.ownBlock=some y→w.heap.size≤y):v.ownBlock=none∨v.ownBlock≠u.ownBlock:=by
 cases hv:v.ownBlock with
 | none=>exact .inl rfl
 | some x=>
  right;intro e;have h1:=(World.ownsRow.lt h x hv).2;have h2:=hb x e.symm;omega
theorem aqd_ {w W:World} {r:Option Nat} (h:w.grownBy W none):w.grownBy W r:=⟨h.os,h.tape,h.output,h.size,fun k hk _=>h.block k hk (by simp)⟩
theorem avp_ {w:World} {B X oc g tcap:Nat} {x:Option Nat} {pk:Int} {pn:ByteArray} {fs:List Int} {sl:List Slt} {tx:List Ins} {oa:Option Addr} (hB:B≤X+1) (HR:RoomAt w (X+1) fs) (HO:w.ownsRow (X+1) 62 6 (.slice oa sl.length oc) sl.length (sl.flatMap uh_))
 (HT:w.ownsRow (X+1) 40 4 (.slice (some ⟨g,0,none⟩) (tx.length+1) tcap) (tx.length+1) (tx.flatMap jo_++jo_ ⟨0,-9,0,0⟩)) (hx:∀ y,x=some y→y<X+1) :
 CpAt w B x ⟨⟨pk,pn,fs,sl,tx⟩,.slice (some ⟨X+1,0,none⟩) fs.length (fs.length+5),.slice oa sl.length oc,.slice (some ⟨g,0,none⟩) tx.length tcap⟩:=by
 have hne:∀ y,X+1≤y→x≠some y:=fun y h e=>by have:=hx y e;omega
 have hlt:X+1<w.heap.size:=(by obtain⟨_,h,_⟩:=HR;exact xg_ h);obtain⟨t1,t2⟩:=TxtAt.of_own HT;obtain⟨g1,g2⟩:=World.ownsRow.lt HT g rfl;refine⟨⟨X+1,rfl,HR,hB,hlt,hne _ (Nat.le_refl _)⟩,SlAt.of_own HO,fun y hy=>?_,t1,⟨g,tcap,rfl,agl_ HT,t2,by omega,g2,hne g g1⟩⟩;obtain⟨h1,h2⟩:=World.ownsRow.lt HO y hy;exact⟨by omega,h2,hne y h1⟩
set_option maxRecDepth 10000 in
theorem aqe_ (cv:Value) (ps:List Pr) (w:World) (hC:CdP w cv ps) (hB:BdP ps) :
 Calls Tryz.prog 6 #[.agg #[cv]] w fun e w'=>∃ v us,e=.returned (.agg #[v])∧CopyAt w' (w.heap.size+2) v us∧us.map Un.p=ps∧w.grownBy w' none:=by
 obtain⟨ca,cap,rfl,hcap,hc⟩:=hC;have HC:=hd_ hc;have HBD:=hd_ hB;have hl:=hB.n;clear hc hB;obtain⟨n,hn⟩:∃ n,ps.length=n:=⟨_,rfl⟩;have HN:=hd_ hn;rw[hn] at hl hcap ⊢;clear hn;obtain⟨H,hH⟩:∃ H,w.heap.size=H:=⟨_,rfl⟩;obtain⟨i4,hi4,z4,s4,b4⟩:=yt_ avm_;obtain⟨i6,hi6,z6,s6,b6⟩:=yt_ avn_;obtain⟨i7,hi7,z7,s7,b7⟩:=yt_ avo_;have I4:Hid (Tryz.prog.info? 44=some i4∧i4.zero=some (.agg #[.int .i64 0,.string ByteArray.empty,.slice none 0 0,.slice none 0 0,.slice none 0 0])∧i4.size=5∧i4.bytes=96):=⟨hi4,z4,s4,b4⟩;have I6:Hid (Tryz.prog.info? 62=some i6∧i6.zero=some (.agg #[.string ByteArray.empty,.int .i64 0,.int .i64 0,.int .i64 0,.bool false,.int .i64 0])∧i6.size=6∧i6.bytes=56):=⟨hi6,z6,s6,b6⟩;have I7:Hid (Tryz.prog.info? 40=some i7∧i7.zero=some (.agg #[.int .i64 0,.int .i64 0,.int .i64 0,.int .i64 0])∧i7.size=4∧i7.bytes=32):=⟨hi7,z7,s7,b7⟩;clear hi4 z4 s4 b4 hi6 z6 s6 b6 hi7 z7 s7 b7;go_enter Tryz.func6,Tryz.ntmps6;go_wp2;go_loopg [3,4] n (fun gk s3 s4 wx=>∃(k:Nat) (pa:Option Addr) (pc:Nat) (us:List Un),s3=.slice pa k pc∧s4=.int .i64 k∧k≤n∧gk=n - k∧us.length=k∧us.map Un.p=ps.take k∧CopyAt wx (H+2) (.slice pa k pc) us∧wx.heap[H]?=some (.cells #[.slice ca n cap] 24)∧wx.heap[H+1]?=some (.cells #[.slice none 0 0] 24)∧w.grownBy wx none∧H+2≤wx.heap.size)
 case atStart=>
  refine⟨0,none,0,[],rfl,rfl,Nat.zero_le _,by omega,rfl,by simp,⟨World.ownsRow_nil _ _ _ _,fun i hi=>by simp at hi⟩,?_,?_,xb_ (gr1 _ _) _,by simp[hH]⟩
  ·rw[xh_ (by simp[hH]),xj_ hH.symm]
  ·rw[xj_ (by simp[hH])]
 case round=>
  obtain⟨k,pa,pc,us,rfl,rfl,hk,hgk,hul,hup,hcp,hb0,hb1,hgr,hsz⟩:=hrel;have HG:=hd_ hgk;have HUL:=hd_ hul;have HUP:=hd_ hup;have HCP:=hd_ hcp;have HB0:=hd_ hb0;have HB1:=hd_ hb1;have z0:=xa_ hb0 0;simp at z0;clear hgk hul hup hcp hb0 hb1;by_cases hlt:k<n
  · have hkl:k<ps.length:=(by rw[HN.out];exact hlt);rcases HC.out with h|⟨b',off,rfl,hc⟩
    ·subst h;simp at hkl
    obtain⟨fv,sv,tv,hp0⟩:=hc k hkl;have hp:=hp0.grown hgr;have e1:=HBD.out.fs k hkl;have e2:=HBD.out.sl k hkl;have e3:=HBD.out.tx k hkl;obtain⟨p,hpe⟩:∃ p,ps.getD k pr0=p:=⟨_,rfl⟩;have HP:=hd_ hpe;rw[hpe] at hp e1 e2 e3;obtain⟨pk,pn,fs,sl,tx⟩:=p;have HPA:=hd_ hp;obtain⟨fa,fc,rfl,_⟩:=hp.first
    obtain⟨sa,sc,rfl,hsl⟩:=hp.slots.cells;obtain⟨ta,tc,rfl,htx⟩:=hp.text.cells;have q0:=hp.kind;have q1:=hp.name;have q2:=hp.fcell;have q3:=hp.scell;have q4:=hp.tcell;dsimp only at e1 e2 e3 q0 q1 q2 q3 q4;have cR:∀ W,wr.grownBy W none→Calls Tryz.prog 7 #[.slice fa fs.length fc] W fun e w'=>e=.returned (.slice (some ⟨W.heap.size,0,none⟩) fs.length (fs.length+5))∧RoomAt w' W.heap.size fs∧W.grownBy w' none:=fun W hW=>afg_ _ fs W (xo_ HPA.out.first hW) e1;have HSL:Hid (∀ W,wr.grownBy W none→sl.length=0∨∃ b off,sa=some ⟨b,off,none⟩∧∀ j u,(sl.flatMap uh_)[j]?=some u→W.cell? ((⟨b,off,none⟩:Addr).add j)=some u):=fun W hW=>by
     rcases hsl with h|⟨b,o,h,h2⟩
     ·exact .inl h
     ·exact .inr ⟨b,o,h,fun j u hj=>hW.cell (h2 j u hj) (by simp)⟩
    have HTX:Hid (∀ W,wr.grownBy W none→tx.length=0∨∃ b off,ta=some ⟨b,off,none⟩∧∀ j u,(tx.flatMap jo_)[j]?=some u→W.cell? ((⟨b,off,none⟩:Addr).add j)=some u):=fun W hW=>by
     rcases htx with h|⟨b,o,h,h2⟩
     ·exact .inl h
     ·exact .inr ⟨b,o,h,fun j u hj=>hW.cell (h2 j u hj) (by simp)⟩
    clear hp hp0 hpe hc hsl htx;have i1:(0:Int)≤(k:Int):=(by omega);have i2:(k:Int)<(n:Int):=(by omega);obtain⟨nf,hnf⟩:∃ m,fs.length=m:=⟨_,rfl⟩;obtain⟨ns,hns⟩:∃ m,sl.length=m:=⟨_,rfl⟩;obtain⟨nt,hnt⟩:∃ m,tx.length=m:=⟨_,rfl⟩;have HNF:=hd_ hnf;have HNS:=hd_ hns;have HNT:=hd_ hnt;rw[hnf] at cR e1 q2;rw[hns] at e2 q3;rw[hnt] at e3 q4;clear hnf hns hnt;have HSN:Hid (∀ W,wr.grownBy W none→ns=0∨∃ b off,sa=some ⟨b,off,none⟩∧∀ j u,(sl.flatMap uh_)[j]?=some u→W.cell? ((⟨b,off,none⟩:Addr).add j)=some u):=fun W hW=>by have:=HSL.out W hW;rw[HNS.out] at this;exact this
    have HTN:Hid (∀ W,wr.grownBy W none→nt=0∨∃ b off,ta=some ⟨b,off,none⟩∧∀ j u,(tx.flatMap jo_)[j]?=some u→W.cell? ((⟨b,off,none⟩:Addr).add j)=some u):=fun W hW=>by have:=HTX.out W hW;rw[HNT.out] at this;exact this
    have HLS:=hd_ (by rw[aec_ uh_ 6 aed_,HNS.out]:(sl.flatMap uh_).length=ns*6);have HLT:=hd_ (by rw[aec_ jo_ 4 acd_,HNT.out]:(tx.flatMap jo_).length=nt*4);clear HSL HTX;go_wp2_with fail
    refine(cR _ (xb_ gz_ _)).mono ?_;rintro e w1 ⟨rfl,hR,hg1⟩;have ez:∀ o:Obj,(wr.alloc o).heap.size=wr.heap.size+1:=fun o=>by simp
    rw[ez] at hR;have HR:=hd_ hR;have hX1:w1.heap[wr.heap.size]?=some (.cells #[.int .i64 pk,.string pn,.slice fa nf fc,.slice sa ns sc,.slice ta nt tc] 44):=kept hg1 (heap_alloc_new _ _);have HX1:=hd_ hX1;have d2:=xa_ hX1 2;have d3:=xa_ hX1 3;simp at d2 d3;have f2:=xc_ hX1 2;have hgw1:wr.grownBy w1 none:=(gr1 _ _).trans hg1;have hs1:=hg1.size;simp at hs1;clear hR hX1 hg1 cR q0 q1 q2 q3 q4;go_wp2_with (first
     | (at_builtin
        refine ua_ rfl _ _ 42 rfl 62 i6 _ 6 56 Tryz.underlying42 I6.out.1 I6.out.2.1 I6.out.2.2.1 I6.out.2.2.2 rfl (by omega) sa ns sc (sl.flatMap uh_) rfl rfl HLS.out (HSN.out _ (yc_ hgw1 (Nat.le_refl _) _ _)) (aqb_ sl) (by unfold maxLen;omega) (by omega) ?_;intro oa oc w2 hown2 hg2;have hX2:w2.heap[wr.heap.size]?=some (.cells #[.int .i64 pk,.string pn,.slice (some ⟨wr.heap.size+1,0,none⟩) nf (nf+5),.slice sa ns sc,.slice ta nt tc] 44):=kept hg2 (by simpa using xk_ HX1.out 2 (.slice (some ⟨wr.heap.size+1,0,none⟩) nf (nf+5)));have HX2:=hd_ hX2;have d3':=xa_ hX2 3;simp at d3';have f3:=xc_ hX2 3;have hgw2:wr.grownBy w2 none:=(yc_ hgw1 (Nat.le_refl _) _ _).trans hg2;have HR2:Hid (RoomAt w2 (wr.heap.size+1) fs):=(RoomAt.butO HR.out (x3_ (World.grownBy.refl w1 (some wr.heap.size)) _ _) (by simp)).kept hg2;have HO2:Hid (w2.ownsRow (wr.heap.size+1) 62 6 (.slice oa ns oc) ns (sl.flatMap uh_)):=by
         refine⟨hown2.1,?_⟩;rcases hown2.2 with h|⟨g,c,cur,h1,h2,h3⟩
         ·exact .inl h
         ·exact .inr ⟨g,c,cur,h1,by simp at h2;omega,h3⟩
        clear hX2 hown2 d2 d3 f2))
    generalize hw3:w2.setCell ⟨wr.heap.size,3,none⟩ (.slice oa ns oc)=w3;have hg23:w2.grownBy w3 (some wr.heap.size):=hw3▸x3_ gz_ _ _;have hX3:w3.heap[wr.heap.size]?=some (.cells #[.int .i64 pk,.string pn,.slice (some ⟨wr.heap.size+1,0,none⟩) nf (nf+5),.slice oa ns oc,.slice ta nt tc] 44):=(by rw[← hw3];simpa using xk_ HX2.out 3 (.slice oa ns oc));have hgw3:wr.grownBy w3 none:=hw3▸yc_ hgw2 (Nat.le_refl _) _ _;have HR3:Hid (RoomAt w3 (wr.heap.size+1) fs):=RoomAt.butO HR2.out hg23 (by simp);have HO3:Hid (w3.ownsRow (wr.heap.size+1) 62 6 (.slice oa ns oc) ns (sl.flatMap uh_)):=World.ownsRow.kept HO2.out hg23 (.inr fun e=>by have:=(World.ownsRow.lt HO2.out _ e).1;omega);have hs3:wr.heap.size+1<w3.heap.size:=(by obtain⟨_,h,_⟩:=HR3.out;exact xg_ h);have d4:=xa_ hX3 4;simp at d4;have f4:=xc_ hX3 4;have HX3:=hd_ hX3;clear hX3 hw3 hg23 hgw2 hg2 HR2 HO2 HX2 HX1 HR hgw1 hs1 d3' f3;have j1:(0:Int)≤(nt:Int):=(by omega);have k3a:∀ o:Obj,(w3.alloc o).cell? ⟨wr.heap.size,4,none⟩=some (.slice ta nt tc):=fun o=>(gr1 w3 o).cell d4 (by simp);go_cut [5] (fun s5 wx=>s5=.pointer (some ⟨wr.heap.size,0,none⟩)∧∃ g tcap,nt+1≤tcap∧Hid (wx.heap[wr.heap.size]?=some (.cells #[.int .i64 pk,.string pn,.slice (some ⟨wr.heap.size+1,0,none⟩) nf (nf+5),.slice oa ns oc,.slice (some ⟨g,0,none⟩) nt tcap] 44))∧wr.grownBy wx none∧Hid (wx.ownsRow (wr.heap.size+1) 40 4 (.slice (some ⟨g,0,none⟩) (nt+1) tcap) (nt+1) (tx.flatMap jo_++jo_ ⟨0,-9,0,0⟩))∧Hid (RoomAt wx (wr.heap.size+1) fs)∧Hid (wx.ownsRow (wr.heap.size+1) 62 6 (.slice oa ns oc) ns (sl.flatMap uh_)))
    case first=>
     go_region_law (first
     | (refine step_append_lies _ (by rfl) _ _ 41 (by rfl) _ 40 i7 _ 4 32 Tryz.underlying41 I7.out.1 I7.out.2.1 I7.out.2.2.1 I7.out.2.2.2 rfl (by omega) (.slice ta4 nt tc4) nt (tx.flatMap jo_) (by rfl) (hown4.alloc _) ⟨w4.heap.size,0,none⟩ 1 1 (jo_ ⟨0,-9,0,0⟩) (by rfl) rfl (World.news_of_block (heap_alloc_new w4 _)) (by simp[jo_,Value.oneCell']) (by omega) (by unfold maxLen;omega) (by omega) (by have:=hg4.size;simp at this ⊢;omega) _ rfl ?_
        intro g tcap w5 hown5 hg5 hat5 hlt5;have hw45:w4.grownBy w5 (Value.slice ta4 nt tc4).ownBlock:=x6_ (World.grownBy_alloc w4 _ _) hg5 (.inl rfl);have hX5:=(hw45.block wr.heap.size (xg_ hX4) hne4).trans hX4;have f5:=xc_ hX5 4;have k5:=xa_ hX5 4;simp at k5;have HX5:=hd_ hX5;have hcap5:=agl_ hown5;have hi5:(nt:Int)≤(tcap:Int):=(by omega);have HW5:Hid (wr.grownBy w5 none∧w5.ownsRow (wr.heap.size+1) 40 4 (.slice (some ⟨g,0,none⟩) (nt+1) tcap) (nt+1) (tx.flatMap jo_++jo_ ⟨0,-9,0,0⟩)∧RoomAt w5 (wr.heap.size+1) fs∧w5.ownsRow (wr.heap.size+1) 62 6 (.slice oa ns oc) ns (sl.flatMap uh_)):=⟨x6_ (hgw3.trans hw34) hw45 (.inr fun x hx=>by have:=hb4 x hx;omega),k9_ hown5 (by simp;omega),RoomAt.butO HR4.out hw45 (fun e=>by have:=hb4 _ e;omega),World.ownsRow.kept HO4.out hw45 (afj_ HO3.out hb4)⟩;clear hX5)
     | (refine step_append_lies _ (by rfl) _ _ 41 (by rfl) _ 40 i7 _ 4 32 Tryz.underlying41 I7.out.1 I7.out.2.1 I7.out.2.2.1 I7.out.2.2.2 rfl (by omega) (.slice ta4 nt tc4) nt (tx.flatMap jo_) (by rfl) hown4 ⟨w3.heap.size,0,none⟩ 1 1 (jo_ ⟨0,-9,0,0⟩) (by rfl) rfl (World.news_of_block (kept hg4 (show(w3.alloc (.cells #[.int .i64 0,.int .i64 (-9),.int .i64 0,.int .i64 0] 40)).drew.heap[w3.heap.size]?=_ from heap_alloc_new w3 _))) (by simp[jo_,Value.oneCell']) (by omega) (by unfold maxLen;omega) (by omega) (by have:=hg4.size;simp at this ⊢;omega) _ rfl ?_
        intro g tcap w5 hown5 hg5 hat5 hlt5;have hw45:w4.grownBy w5 (Value.slice ta4 nt tc4).ownBlock:=hg5;have hX5:=(hw45.block wr.heap.size (xg_ hX4) hne4).trans hX4;have f5:=xc_ hX5 4;have k5:=xa_ hX5 4;simp at k5;have HX5:=hd_ hX5;have hcap5:=agl_ hown5;have hi5:(nt:Int)≤(tcap:Int):=(by omega);have HW5:Hid (wr.grownBy w5 none∧w5.ownsRow (wr.heap.size+1) 40 4 (.slice (some ⟨g,0,none⟩) (nt+1) tcap) (nt+1) (tx.flatMap jo_++jo_ ⟨0,-9,0,0⟩)∧RoomAt w5 (wr.heap.size+1) fs∧w5.ownsRow (wr.heap.size+1) 62 6 (.slice oa ns oc) ns (sl.flatMap uh_)):=⟨x6_ (hgw3.trans hw34) hw45 (.inr fun x hx=>by have:=hb4 x hx;omega),k9_ hown5 (by simp;omega),RoomAt.butO HR4.out hw45 (fun e=>by have:=hb4 _ e;omega),World.ownsRow.kept HO4.out hw45 (afj_ HO3.out hb4)⟩;clear hX5)
     | (refine qz_ (by rfl) _ _ 41 (by rfl) 40 i7 _ 4 32 Tryz.underlying41 I7.out.1 I7.out.2.1 I7.out.2.2.1 I7.out.2.2.2 rfl (by omega) ta nt tc (tx.flatMap jo_) (by rfl) (by rfl) HLT.out (HTN.out _ (by first | exact xf_ hgw3 | exact xb_ (xf_ hgw3) _ | exact xf_ (xb_ hgw3 _))) (aqc_ tx) (by unfold maxLen;omega) (by omega) ?_
        intro ta4 tc4 w4 hown4 hg4;have hw34:w3.grownBy w4 none:=(by first|exact(xf_ (World.grownBy.refl w3 none)).trans hg4|exact(xb_ (xf_ (World.grownBy.refl w3 none)) _).trans hg4|exact(xf_ (xb_ (World.grownBy.refl w3 none) _)).trans hg4);have hb4:∀ y,(Value.slice ta4 nt tc4).ownBlock=some y→w3.heap.size≤y:=fun y hy=>by have:=(World.ownsRow.lt hown4 y hy).1;simp at this;omega
        have hX4:w4.heap[wr.heap.size]?=some (.cells #[.int .i64 pk,.string pn,.slice (some ⟨wr.heap.size+1,0,none⟩) nf (nf+5),.slice oa ns oc,.slice ta nt tc] 44):=kept hw34 HX3.out;have k4:=xa_ hX4 4;simp at k4;have k4a:∀ o:Obj,(w4.alloc o).cell? ⟨wr.heap.size,4,none⟩=some (.slice ta nt tc):=fun o=>(gr1 w4 o).cell k4 (by simp);have HR4:Hid (RoomAt w4 (wr.heap.size+1) fs):=HR3.out.kept hw34;have HO4:Hid (w4.ownsRow (wr.heap.size+1) 62 6 (.slice oa ns oc) ns (sl.flatMap uh_)):=afi_ HO3.out hw34;have hne4:some wr.heap.size≠(Value.slice ta4 nt tc4).ownBlock:=fun e=>by have:=hb4 _ e.symm;omega))
     all_goals go_wp2_with fail
     all_goals go_meet
     all_goals refine⟨rfl,g,tcap,hcap5,(by have h:=xk_ HX5.out 4 (.slice (some ⟨g,0,none⟩) nt tcap);simp at h;exact h),yc_ HW5.out.1 (Nat.le_refl _) _ _,World.ownsRow.kept HW5.out.2.1 (x3_ (World.grownBy.refl _ (some wr.heap.size)) _ _) (.inr fun e=>by have:=(World.ownsRow.lt HW5.out.2.1 _ e).1;omega),RoomAt.butO HW5.out.2.2.1 (x3_ (World.grownBy.refl _ (some wr.heap.size)) _ _) (by simp),World.ownsRow.kept HW5.out.2.2.2 (x3_ (World.grownBy.refl _ (some wr.heap.size)) _ _) (.inr fun e=>by have:=(World.ownsRow.lt HW5.out.2.2.2 _ e).1;omega)⟩
    case rest=>
     obtain⟨rfl,g,tcap,hcap5,HX6,hgw6,HT6,HR6,HO6⟩:=hcut;have d0:=xa_ HX6.out 0;have d1:=xa_ HX6.out 1;have d2:=xa_ HX6.out 2;have d3:=xa_ HX6.out 3;have d5:=xa_ HX6.out 4;simp at d0 d1 d2 d3 d5;have hs6:wr.heap.size+1<wc.heap.size:=(by obtain⟨_,h,_⟩:=HR6.out;exact xg_ h);have HPW:Hid (wc.ownsRow (H+2) 44 5 (.slice pa k pc) k (ko_ us)):=by
      have:=afi_ HCP.out.1 hgw6;rw[HUL.out] at this;exact this
     have HPB:Hid (∀ y,(Value.slice pa k pc).ownBlock=some y→y<wr.heap.size):=fun y hy=>(World.ownsRow.lt HCP.out.1 y hy).2;have HCN:Hid (CpAt wc (H+2) (Value.slice pa k pc).ownBlock ⟨⟨pk,pn,fs,sl,tx⟩,.slice (some ⟨wr.heap.size+1,0,none⟩) nf (nf+5),.slice oa ns oc,.slice (some ⟨g,0,none⟩) nt tcap⟩):=by
      have:=avp_ (w:=wc) (B:=H+2) (X:=wr.heap.size) (x:=(Value.slice pa k pc).ownBlock) (pk:=pk) (pn:=pn) (fs:=fs) (sl:=sl) (tx:=tx) (oa:=oa) (oc:=oc) (g:=g) (tcap:=tcap) (by omega) HR6.out (by rw[HNS.out];exact HO6.out) (by rw[HNT.out];exact HT6.out) (fun y hy=>by have:=HPB.out y hy;omega);rw[HNF.out,HNS.out,HNT.out] at this;exact this
     clear d4 f4 k3a HX3 HR3 HO3 hgw3 hs3;go_wp2_with (first
      | (at_builtin
         refine wpList_append_lies _ rfl _ _ 22 rfl (H+2) 44 i4 _ 5 96 Tryz.underlying22 I4.out.1 I4.out.2.1 I4.out.2.2.1 I4.out.2.2.2 rfl (by omega) (.slice pa k pc) k (ko_ us) rfl (World.ownsRow.alloc HPW.out _) ⟨wc.heap.size,0,none⟩ 1 1 (rowU ⟨⟨pk,pn,fs,sl,tx⟩,.slice (some ⟨wr.heap.size+1,0,none⟩) nf (nf+5),.slice oa ns oc,.slice (some ⟨g,0,none⟩) nt tcap⟩) rfl rfl (World.news_of_block (heap_alloc_new wc _)) (by simp[rowU,Value.oneCell']) (by omega) (by unfold maxLen;omega) (by omega) (by simp;omega) _ rfl ?_;intro g7 cap7 w7 hown7 hg7 hat7 hlt7;have HO7:=hd_ hown7;have HA7:=hd_ hat7;have HG7:Hid (wc.grownBy w7 (Value.slice pa k pc).ownBlock):=x6_ (World.grownBy_alloc wc _ _) hg7 (.inl rfl);clear hown7 hat7 hg7 hlt7 d0 d1 d2 d3 d5))
     have hgl:=HG.out;go_roundg (n - (k+1))
     all_goals first|omega|skip
     have hw7:wr.grownBy w7 (Value.slice pa k pc).ownBlock:=x6_ (aqd_ hgw6) HG7.out (.inl rfl);have hsz7:=HG7.out.size;have hg7s:(some g7:Option Nat)=(Value.slice pa k pc).ownBlock∨∀ y,(some g7:Option Nat)=some y→y<H+2∨wc.heap.size≤y:=by
      rcases HA7.out with h|h
      ·exact .inl h.symm
      ·right;intro y hy;simp at hy h;omega
     have hrow:∀ y,(Value.slice pa k pc).ownBlock=some y→H+2≤y:=fun y hy=>(World.ownsRow.lt HCP.out.1 y hy).1;refine⟨k+1,some ⟨g7,0,none⟩,cap7,us++[⟨⟨pk,pn,fs,sl,tx⟩,.slice (some ⟨wr.heap.size+1,0,none⟩) nf (nf+5),.slice oa ns oc,.slice (some ⟨g,0,none⟩) nt tcap⟩],rfl,by go_num,by omega,by omega,by simp[HUL.out],?_,⟨?_,fun i hi=>?_⟩,?_,?_,?_,by omega⟩
     · rw[List.map_append,HUP.out,List.take_add_one];congr 1;have:ps[k]?=some ⟨pk,pn,fs,sl,tx⟩:=by
        rw[List.getElem?_eq_getElem hkl,← HP.out];simp[List.getD,hkl]
       rw[this];rfl
     ·rw[List.length_append,HUL.out,aj6_];exact HO7.out
     · simp[HUL.out] at hi;by_cases hik:i<k
       · have e:(us++[(⟨⟨pk,pn,fs,sl,tx⟩,.slice (some ⟨wr.heap.size+1,0,none⟩) nf (nf+5),.slice oa ns oc,.slice (some ⟨g,0,none⟩) nt tcap⟩:Un)]).getD i un0=us.getD i un0:=by
          simp[List.getD,List.getElem?_append_left (show i<us.length by rw[HUL.out];exact hik)]
         rw[e];refine(HCP.out.2 i (by rw[HUL.out];exact hik)).but hw7 (.inr (.inl rfl)) ?_;rcases hg7s with h|h
         ·exact .inl h
         · right;intro y hy;rcases h y hy with h|h
           ·exact .inl h
           ·right;omega
       · have e0:i=k:=(by omega);subst e0;have e:(us++[(⟨⟨pk,pn,fs,sl,tx⟩,.slice (some ⟨wr.heap.size+1,0,none⟩) nf (nf+5),.slice oa ns oc,.slice (some ⟨g,0,none⟩) nt tcap⟩:Un)]).getD i un0=⟨⟨pk,pn,fs,sl,tx⟩,.slice (some ⟨wr.heap.size+1,0,none⟩) nf (nf+5),.slice oa ns oc,.slice (some ⟨g,0,none⟩) nt tcap⟩:=by
          rw[← HUL.out];simp[List.getD]
         rw[e];exact HCN.out.but HG7.out (.inr (.inl rfl)) hg7s
     ·exact(hw7.block H (xg_ HB0.out) (fun e=>by have:=hrow _ e.symm;omega)).trans HB0.out
     ·exact(hw7.block (H+1) (xg_ HB1.out) (fun e=>by have:=hrow _ e.symm;omega)).trans HB1.out
     ·exact x6_ hgr hw7 (.inr fun y hy=>by have:=hrow y hy;omega)
  · have hkn:k=n:=(by omega);subst hkn;have hk':¬((k:Int)<(k:Int)):=(by omega);have z1:=xa_ HB1.out 0;simp at z1;have f1:=xc_ HB1.out 0;clear HG;go_wp2;refine bodyPost_ret (v:=.agg #[.slice pa k pc]) (by simp[results,Tryz.results6,go_sem,z1]) rfl ?_;refine⟨.slice pa k pc,rfl,us,?_,?_,yc_ hgr (by omega) _ _⟩
    ·exact HCP.out.kept (x3_ (World.grownBy.refl wr (some (H+1))) 0 _) (fun y hy=>by simp at hy;omega)
    ·rw[HUP.out];exact List.take_of_length_le (by rw[HN.out];exact Nat.le_refl _)
set_option maxRecDepth 10000 in
theorem aj5_ (tv bv:Value) (t:List Ins) (bds:List Int) (w:World) (hT:TxtAt w tv t) (hb:rd w bv bds) (hl:t.length≤100000) (hlp:LpOk t∧qw_ t) (hB:Bs t)
 (hs:∀ k,k<t.length→1≤yi_ bds (nth t k)∧yi_ bds (nth t k)≤1000000001) (hr:∀ k,k<t.length→(nth t k).d=17→0≤(nth t k).a∧(nth t k).a<bds.length) (hbl:bds.length≤1000) :
 Calls Tryz.prog 24 #[tv,bv] w fun e w'=>e=.returned (.int .i64 (vj_ bds t))∧w.grownBy w' none:=by
 have cL:=aff_ tv t w hT hl;obtain⟨ta,tcap,rfl,hT⟩:=hT;obtain⟨ba,bcap,rfl,hbd⟩:=hb;have HT:Hid (t=[]∨∃ b off,ta=some ⟨b,off,none⟩∧∀ i,i<t.length→
  w.cell? ⟨b,off+i*4,none⟩=some (.int .i64 (nth t i).d)∧w.cell? ⟨b,off+i*4+1,none⟩=some (.int .i64 (nth t i).a)∧
  w.cell? ⟨b,off+i*4+2,none⟩=some (.int .i64 (nth t i).b)∧w.cell? ⟨b,off+i*4+3,none⟩=some (.int .i64 (nth t i).c)):=hT
 have HBD:=hd_ hbd;have HB:=hd_ hB;have HS1:Hid (∀ k,1≤(fun k=>yi_ bds (nth t k)) k):=fun k=>by
  by_cases hk:k<t.length
  ·exact(hs k hk).1
  · show 1≤yi_ bds (nth t k)
    rw[acj_ (by omega)];simp[yi_]
 have HS2:Hid (∀ k,k<t.length→(fun k=>yi_ bds (nth t k)) k≤1000000001):=fun k hk=>(hs k hk).2;have HR:=hd_ hr;have HLP:=hd_ hlp;clear hT hbd hs hr hlp hB;obtain⟨n,hn⟩:∃ n,t.length=n:=⟨_,rfl⟩;have HN:=hd_ hn;rw[hn] at hl cL;rw[hn];clear hn;go_enter Tryz.func24,Tryz.ntmps24;go_wp2_with fail
 refine cL.mono ?_;rintro e w1 ⟨hgw1,hpost⟩;clear cL;rcases hpost with⟨_,_,lv,rfl,hLps⟩|⟨hno,_⟩
 case inr=>exact absurd HLP.out hno
 obtain⟨la,lcap,rfl,hla⟩:=hLps;have HLL:Hid (yh_ t t.length=[]∨∃ b off,la=some ⟨b,off,none⟩∧∀ j,j<(yh_ t t.length).length→
  w1.cell? ⟨b,off+j*4,none⟩=some (.int .i64 ((((yh_ t t.length).getD j 0):Nat)+1:Int))∧w1.cell? ⟨b,off+j*4+1,none⟩=some (.int .i64 (rnd t ((yh_ t t.length).getD j 0+1)))∧
  w1.cell? ⟨b,off+j*4+2,none⟩=some (.int .i64 (nth t ((yh_ t t.length).getD j 0)).a)∧w1.cell? ⟨b,off+j*4+3,none⟩=some (.int .i64 (nth t ((yh_ t t.length).getD j 0)).b)):=hla
 have hel:=aao_ t t.length;obtain⟨m,hm⟩:∃ m,(yh_ t t.length).length=m:=⟨_,rfl⟩;have HML:=hd_ hm;have HW1:=hd_ hgw1;rw[hm];rw[hm,HN.out] at hel;clear hm hla;go_wp2_with fail
 go_loopg [7,8] n (fun gk s7 s8 wx=>∃(k:Nat) (sm:Int),s8=.int .i64 k∧k≤n∧gk=n - k∧s7=.int .i64 sm∧z4_ t (fun k=>yi_ bds (nth t k)) k=sm∧0≤sm∧sm≤1000000000∧w1.grownBy wx none)
 case atStart=>exact⟨0,0,rfl,Nat.zero_le _,by omega,rfl,rfl,by omega,by omega,gz_⟩
 case round=>
  obtain⟨k,sm,rfl,hk,hgk,rfl,hsm,sm1,sm2,hgr⟩:=hrel;have HG:=hd_ hgk;have HSM:=hd_ hsm;clear hgk hsm;by_cases hlt:k<n
  · have hkl:k<t.length:=(by rw[HN.out];exact hlt);rcases HT.out with h|⟨b',off,rfl,hc⟩
    ·subst h;simp at hkl
    obtain⟨q0,q1,q2,q3⟩:=hc k hkl;have q0:=(HW1.out.trans hgr).cell q0 (by simp);have q1:=(HW1.out.trans hgr).cell q1 (by simp);have q2:=(HW1.out.trans hgr).cell q2 (by simp);clear hc q3;have HRK:=HR.out k hkl;obtain⟨st,hst⟩:∃ st,yi_ bds (nth t k)=st:=⟨_,rfl⟩;have i1:(0:Int)≤(k:Int):=(by omega);have i2:(k:Int)<(n:Int):=(by omega);by_cases h16:(nth t k).d=16
    · have hst2:(nth t k).b=st:=(by rw[← hst];simp[yi_,h16]);rw[h16] at q0;rw[hst2] at q2;clear h16 hst2 HRK;generalize(nth t k).a=a at q1;have hF1:=HS1.out k;have hF2:=HS2.out k hkl;rw[hst] at hF1 hF2;have HST:=hd_ hst;clear hst;obtain⟨wl,hwl⟩:∃ wl,wl=wr:=⟨_,rfl⟩;subst hwl;have HGW:=hd_ hgr;go_wp2_with fail
      go_loopg [9,10] m (fun gk s9 s10 wx=>∃ j:Nat,s10=.int .i64 j∧j≤m∧gk=m - j∧s9=.int .i64 (j6_ t k st j)∧w1.grownBy wx none)
      case atStart=>exact⟨0,rfl,Nat.zero_le _,by omega,by rw[aa5_],hgr⟩
      case round=>
       obtain⟨j,rfl,hj,hgj,rfl,hg5⟩:=hrel;have HGJ:Hid (_=m - j):=hgj;clear hgj;obtain⟨rj1,rj2⟩:=af4_ HB.out k st hF1 hF2 j (by rw[HML.out];exact hj);by_cases hjm:j<m
       · have hjl:j<(yh_ t t.length).length:=(by rw[HML.out];exact hjm);rcases HLL.out with h|⟨bl,ol,rfl,hcl⟩
         ·rw[h] at hjl;simp at hjl
         obtain⟨y0,y1,y2,y3⟩:=hcl j hjl;have y0:=hg5.cell y0 (by simp);have y1:=hg5.cell y1 (by simp);have y2:=hg5.cell y2 (by simp);have y3:=hg5.cell y3 (by simp);have eg:(yh_ t t.length).getD j 0=(yh_ t t.length)[j]:=(by simp[List.getD,hjl]);rw[eg] at y0 y1 y2 y3;have HSU:Hid (j6_ t k st (j+1)=mulR t k (j6_ t k st j) (yh_ t t.length)[j]):=aa6_ t k st j hjl;have hEe:isE t (yh_ t t.length)[j]=true:=(jm_.1 (List.getElem_mem hjl)).2;have hbe:=HB.out _ hEe;have hin:=ab7_ (k:=k) hEe;have HMU:Hid (mulR t k (j6_ t k st j) (yh_ t t.length)[j]=if inL t ((yh_ t t.length)[j]+1) k && decide (j6_ t k st j≤1000000000) then j6_ t k st j*(nth t (yh_ t t.length)[j]).b else j6_ t k st j):=(rfl:mulR t k (j6_ t k st j) (yh_ t t.length)[j]=_);rw[hin] at HMU;clear hcl hin eg;generalize(yh_ t t.length)[j]=e at *;have ec:(((e+1:Nat)):Int)=(e:Int)+1:=(by simp);rw[ec] at HMU;generalize((rnd t (e+1):Nat):Int)=To at y1 HMU;generalize((e:Nat):Int)+1=Fr at y0 HMU;generalize(nth t e).a=Cn at y2;generalize(nth t e).b=Tm at y3 HMU hbe;generalize j6_ t k st j=x at *;have cI:∀ w,Calls Tryz.prog 22 #[.agg #[.int .i64 Fr,.int .i64 To,.int .i64 Cn,.int .i64 Tm],.int .i64 k] w fun e w'=>e=.returned (.bool (decide (Fr≤(k:Int)) && decide ((k:Int)≤To)))∧w.grownBy w' none:=fun w=>jw_ Fr To Cn Tm k w;generalize(decide (Fr≤(k:Int)) && decide ((k:Int)≤To))=il at *;have j1:(0:Int)≤(j:Int):=(by omega);have j2:(j:Int)<(m:Int):=(by omega);go_wp2_with fail
         refine(cI _).mono ?_;rintro e1 w5 ⟨rfl,hg6⟩;have y3':=hg6.cell y3 (by simp);have hg7:=hg5.trans hg6;clear y0 y1 y2 y3;cases il with
         | false=>
          go_wp2_with fail
          have hgl:=HGJ.out;go_roundg (m - (j+1))
          all_goals first|omega|exact⟨j+1,by go_num,by omega,by omega,by rw[HSU.out,HMU.out];simp,hg7⟩
         | true=>
          by_cases hx:x≤1000000000
          · have dx:decide (x≤1000000000)=true:=(by simpa using hx);have h3:x*Tm≤1000000000*Tm:=Int.mul_le_mul_of_nonneg_right hx (by omega);have h4:(1000000000:Int)*Tm≤1000000000*10000:=Int.mul_le_mul_of_nonneg_left hbe.2 (by omega);have h5:=(z7_ rj1 hbe.1).1;have w1':wrap64 (x*Tm)=x*Tm:=(by unfold wrap64;omega);have w2':IntKind.i64.wrap (x*Tm)=x*Tm:=(by rw[IntWalk.i64_left];exact w1');clear h3 h4 h5;go_wp2_with fail
            have hgl:=HGJ.out;go_roundg (m - (j+1))
            all_goals first|omega|exact⟨j+1,by go_num,by omega,by omega,by rw[HSU.out,HMU.out,dx];simp,hg7⟩
          · have dx:decide (x≤1000000000)=false:=(by simp;omega);go_wp2_with fail
            have hgl:=HGJ.out;go_roundg (m - (j+1))
            all_goals first|omega|exact⟨j+1,by go_num,by omega,by omega,by rw[HSU.out,HMU.out,dx];simp,hg7⟩
       · have hj':¬((j:Int)<(m:Int)):=(by omega);have hjm':j=m:=(by omega);have HRA:=hd_ (by rw[hjm',← HML.out];exact ad7_ t k st:j6_ t k st j=v2_ t k st t.length);clear hjm';generalize j6_ t k st j=x at *;have w1':wrap64 (sm+x)=sm+x:=(by unfold wrap64;omega);by_cases hbig:1000000000<sm+x
         · have HX:=hd_ (by
            have:=acn_ HB.out (fun k=>yi_ bds (nth t k)) HS1.out k t.length hkl (by omega) (HS2.out k hkl) (by rw[HSM.out];omega) (by rw[HSM.out];(try dsimp only);rw[HST.out,← HRA.out];exact hbig);exact this:vj_ bds t=1000000001)
           go_wp2_with fail
           go_ret;exact⟨by rw[HX.out];first|done|simp,HW1.out.trans hg5⟩
         · have HX:=hd_ (by
            have:=aco_ HB.out (fun k=>yi_ bds (nth t k)) HS1.out k hkl (HS2.out k hkl) (by rw[HSM.out];omega) (by rw[HSM.out];(try dsimp only);rw[HST.out,← HRA.out];omega);rw[this,HSM.out];(try dsimp only);rw[HST.out,← HRA.out]:z4_ t (fun k=>yi_ bds (nth t k)) (k+1)=sm+x)
           go_wp2_with fail
           have hgl:=HG.out;go_roundg (n - (k+1))
           all_goals first|omega|exact⟨k+1,sm+x,by go_num,by omega,by omega,rfl,HX.out,by omega,by omega,hg5⟩
    · by_cases h17:(nth t k).d=17
      · obtain⟨r1,r2⟩:=HRK h17;obtain⟨mm,hmm⟩:=Int.eq_ofNat_of_zero_le r1;rcases HBD.out with h|⟨b2,off2,rfl,hcb⟩
        ·rw[h] at r2;simp at r2;omega
        have d0:=(HW1.out.trans hgr).cell (hcb mm (by omega)) (by simp);have hst2:1+bds.getD mm 0=st:=(by rw[← hst];simp[yi_,h17,hmm]);rw[h17] at q0;rw[hmm] at q1 r2;generalize(nth t k).b=b at q2;have e3:wrap64 (1+bds.getD mm 0)=st:=by
         have h1:=HS1.out k;have h2:=HS2.out k hkl;(try dsimp only at h1 h2);rw[hst] at h1 h2;rw[hst2];unfold wrap64;omega
        have e3':IntKind.i64.wrap (1+bds.getD mm 0)=st:=(by rw[IntWalk.i64_left];exact e3);clear hst2 h17 hmm HRK r1 h16 hcb;generalize bds.getD mm 0=z at *;have j1':(0:Int)≤(mm:Int):=(by omega);have j2':(mm:Int)<(bds.length:Int):=(by omega);have hF1:=HS1.out k;have hF2:=HS2.out k hkl;rw[hst] at hF1 hF2;have HST:=hd_ hst;clear hst;obtain⟨wl,hwl⟩:∃ wl,wl=wr:=⟨_,rfl⟩;subst hwl;have HGW:=hd_ hgr;go_wp2_with fail
        go_loopg [9,10] m (fun gk s9 s10 wx=>∃ j:Nat,s10=.int .i64 j∧j≤m∧gk=m - j∧s9=.int .i64 (j6_ t k st j)∧w1.grownBy wx none)
        case atStart=>exact⟨0,rfl,Nat.zero_le _,by omega,by rw[aa5_],hgr⟩
        case round=>
         obtain⟨j,rfl,hj,hgj,rfl,hg5⟩:=hrel;have HGJ:Hid (_=m - j):=hgj;clear hgj;obtain⟨rj1,rj2⟩:=af4_ HB.out k st hF1 hF2 j (by rw[HML.out];exact hj);by_cases hjm:j<m
         · have hjl:j<(yh_ t t.length).length:=(by rw[HML.out];exact hjm);rcases HLL.out with h|⟨bl,ol,rfl,hcl⟩
           ·rw[h] at hjl;simp at hjl
           obtain⟨y0,y1,y2,y3⟩:=hcl j hjl;have y0:=hg5.cell y0 (by simp);have y1:=hg5.cell y1 (by simp);have y2:=hg5.cell y2 (by simp);have y3:=hg5.cell y3 (by simp);have eg:(yh_ t t.length).getD j 0=(yh_ t t.length)[j]:=(by simp[List.getD,hjl]);rw[eg] at y0 y1 y2 y3;have HSU:Hid (j6_ t k st (j+1)=mulR t k (j6_ t k st j) (yh_ t t.length)[j]):=aa6_ t k st j hjl;have hEe:isE t (yh_ t t.length)[j]=true:=(jm_.1 (List.getElem_mem hjl)).2;have hbe:=HB.out _ hEe;have hin:=ab7_ (k:=k) hEe;have HMU:Hid (mulR t k (j6_ t k st j) (yh_ t t.length)[j]=if inL t ((yh_ t t.length)[j]+1) k && decide (j6_ t k st j≤1000000000) then j6_ t k st j*(nth t (yh_ t t.length)[j]).b else j6_ t k st j):=(rfl:mulR t k (j6_ t k st j) (yh_ t t.length)[j]=_);rw[hin] at HMU;clear hcl hin eg;generalize(yh_ t t.length)[j]=e at *;have ec:(((e+1:Nat)):Int)=(e:Int)+1:=(by simp);rw[ec] at HMU;generalize((rnd t (e+1):Nat):Int)=To at y1 HMU;generalize((e:Nat):Int)+1=Fr at y0 HMU;generalize(nth t e).a=Cn at y2;generalize(nth t e).b=Tm at y3 HMU hbe;generalize j6_ t k st j=x at *;have cI:∀ w,Calls Tryz.prog 22 #[.agg #[.int .i64 Fr,.int .i64 To,.int .i64 Cn,.int .i64 Tm],.int .i64 k] w fun e w'=>e=.returned (.bool (decide (Fr≤(k:Int)) && decide ((k:Int)≤To)))∧w.grownBy w' none:=fun w=>jw_ Fr To Cn Tm k w;generalize(decide (Fr≤(k:Int)) && decide ((k:Int)≤To))=il at *;have j1:(0:Int)≤(j:Int):=(by omega);have j2:(j:Int)<(m:Int):=(by omega);go_wp2_with fail
           refine(cI _).mono ?_;rintro e1 w5 ⟨rfl,hg6⟩;have y3':=hg6.cell y3 (by simp);have hg7:=hg5.trans hg6;clear y0 y1 y2 y3;cases il with
           | false=>
            go_wp2_with fail
            have hgl:=HGJ.out;go_roundg (m - (j+1))
            all_goals first|omega|exact⟨j+1,by go_num,by omega,by omega,by rw[HSU.out,HMU.out];simp,hg7⟩
           | true=>
            by_cases hx:x≤1000000000
            · have dx:decide (x≤1000000000)=true:=(by simpa using hx);have h3:x*Tm≤1000000000*Tm:=Int.mul_le_mul_of_nonneg_right hx (by omega);have h4:(1000000000:Int)*Tm≤1000000000*10000:=Int.mul_le_mul_of_nonneg_left hbe.2 (by omega);have h5:=(z7_ rj1 hbe.1).1;have w1':wrap64 (x*Tm)=x*Tm:=(by unfold wrap64;omega);have w2':IntKind.i64.wrap (x*Tm)=x*Tm:=(by rw[IntWalk.i64_left];exact w1');clear h3 h4 h5;go_wp2_with fail
              have hgl:=HGJ.out;go_roundg (m - (j+1))
              all_goals first|omega|exact⟨j+1,by go_num,by omega,by omega,by rw[HSU.out,HMU.out,dx];simp,hg7⟩
            · have dx:decide (x≤1000000000)=false:=(by simp;omega);go_wp2_with fail
              have hgl:=HGJ.out;go_roundg (m - (j+1))
              all_goals first|omega|exact⟨j+1,by go_num,by omega,by omega,by rw[HSU.out,HMU.out,dx];simp,hg7⟩
         · have hj':¬((j:Int)<(m:Int)):=(by omega);have hjm':j=m:=(by omega);have HRA:=hd_ (by rw[hjm',← HML.out];exact ad7_ t k st:j6_ t k st j=v2_ t k st t.length);clear hjm';generalize j6_ t k st j=x at *;have w1':wrap64 (sm+x)=sm+x:=(by unfold wrap64;omega);by_cases hbig:1000000000<sm+x
           · have HX:=hd_ (by
              have:=acn_ HB.out (fun k=>yi_ bds (nth t k)) HS1.out k t.length hkl (by omega) (HS2.out k hkl) (by rw[HSM.out];omega) (by rw[HSM.out];(try dsimp only);rw[HST.out,← HRA.out];exact hbig);exact this:vj_ bds t=1000000001)
             go_wp2_with fail
             go_ret;exact⟨by rw[HX.out];first|done|simp,HW1.out.trans hg5⟩
           · have HX:=hd_ (by
              have:=aco_ HB.out (fun k=>yi_ bds (nth t k)) HS1.out k hkl (HS2.out k hkl) (by rw[HSM.out];omega) (by rw[HSM.out];(try dsimp only);rw[HST.out,← HRA.out];omega);rw[this,HSM.out];(try dsimp only);rw[HST.out,← HRA.out]:z4_ t (fun k=>yi_ bds (nth t k)) (k+1)=sm+x)
             go_wp2_with fail
             have hgl:=HG.out;go_roundg (n - (k+1))
             all_goals first|omega|exact⟨k+1,sm+x,by go_num,by omega,by omega,rfl,HX.out,by omega,by omega,hg5⟩
      · have hst2:st=1:=(by rw[← hst];simp[yi_,h16,h17]);subst hst2;have e16:((nth t k).d==16)=false:=(by simpa using h16);have e17:((nth t k).d==17)=false:=(by simpa using h17);generalize(nth t k).a=a at q1 HRK;generalize(nth t k).b=b at q2;generalize hdd:(nth t k).d=d at q0 e16 e17;clear h16 h17 hdd HRK;have hF1:=HS1.out k;have hF2:=HS2.out k hkl;rw[hst] at hF1 hF2;have HST:=hd_ hst;clear hst;obtain⟨wl,hwl⟩:∃ wl,wl=wr:=⟨_,rfl⟩;subst hwl;have HGW:=hd_ hgr;go_wp2_with fail
        go_loopg [9,10] m (fun gk s9 s10 wx=>∃ j:Nat,s10=.int .i64 j∧j≤m∧gk=m - j∧s9=.int .i64 (j6_ t k 1 j)∧w1.grownBy wx none)
        case atStart=>exact⟨0,rfl,Nat.zero_le _,by omega,by rw[aa5_],hgr⟩
        case round=>
         obtain⟨j,rfl,hj,hgj,rfl,hg5⟩:=hrel;have HGJ:Hid (_=m - j):=hgj;clear hgj;obtain⟨rj1,rj2⟩:=af4_ HB.out k 1 hF1 hF2 j (by rw[HML.out];exact hj);by_cases hjm:j<m
         · have hjl:j<(yh_ t t.length).length:=(by rw[HML.out];exact hjm);rcases HLL.out with h|⟨bl,ol,rfl,hcl⟩
           ·rw[h] at hjl;simp at hjl
           obtain⟨y0,y1,y2,y3⟩:=hcl j hjl;have y0:=hg5.cell y0 (by simp);have y1:=hg5.cell y1 (by simp);have y2:=hg5.cell y2 (by simp);have y3:=hg5.cell y3 (by simp);have eg:(yh_ t t.length).getD j 0=(yh_ t t.length)[j]:=(by simp[List.getD,hjl]);rw[eg] at y0 y1 y2 y3;have HSU:Hid (j6_ t k 1 (j+1)=mulR t k (j6_ t k 1 j) (yh_ t t.length)[j]):=aa6_ t k 1 j hjl;have hEe:isE t (yh_ t t.length)[j]=true:=(jm_.1 (List.getElem_mem hjl)).2;have hbe:=HB.out _ hEe;have hin:=ab7_ (k:=k) hEe;have HMU:Hid (mulR t k (j6_ t k 1 j) (yh_ t t.length)[j]=if inL t ((yh_ t t.length)[j]+1) k && decide (j6_ t k 1 j≤1000000000) then j6_ t k 1 j*(nth t (yh_ t t.length)[j]).b else j6_ t k 1 j):=(rfl:mulR t k (j6_ t k 1 j) (yh_ t t.length)[j]=_);rw[hin] at HMU;clear hcl hin eg;generalize(yh_ t t.length)[j]=e at *;have ec:(((e+1:Nat)):Int)=(e:Int)+1:=(by simp);rw[ec] at HMU;generalize((rnd t (e+1):Nat):Int)=To at y1 HMU;generalize((e:Nat):Int)+1=Fr at y0 HMU;generalize(nth t e).a=Cn at y2;generalize(nth t e).b=Tm at y3 HMU hbe;generalize j6_ t k 1 j=x at *;have cI:∀ w,Calls Tryz.prog 22 #[.agg #[.int .i64 Fr,.int .i64 To,.int .i64 Cn,.int .i64 Tm],.int .i64 k] w fun e w'=>e=.returned (.bool (decide (Fr≤(k:Int)) && decide ((k:Int)≤To)))∧w.grownBy w' none:=fun w=>jw_ Fr To Cn Tm k w;generalize(decide (Fr≤(k:Int)) && decide ((k:Int)≤To))=il at *;have j1:(0:Int)≤(j:Int):=(by omega);have j2:(j:Int)<(m:Int):=(by omega);go_wp2_with fail
           refine(cI _).mono ?_;rintro e1 w5 ⟨rfl,hg6⟩;have y3':=hg6.cell y3 (by simp);have hg7:=hg5.trans hg6;clear y0 y1 y2 y3;cases il with
           | false=>
            go_wp2_with fail
            have hgl:=HGJ.out;go_roundg (m - (j+1))
            all_goals first|omega|exact⟨j+1,by go_num,by omega,by omega,by rw[HSU.out,HMU.out];simp,hg7⟩
           | true=>
            by_cases hx:x≤1000000000
            · have dx:decide (x≤1000000000)=true:=(by simpa using hx);have h3:x*Tm≤1000000000*Tm:=Int.mul_le_mul_of_nonneg_right hx (by omega);have h4:(1000000000:Int)*Tm≤1000000000*10000:=Int.mul_le_mul_of_nonneg_left hbe.2 (by omega);have h5:=(z7_ rj1 hbe.1).1;have w1':wrap64 (x*Tm)=x*Tm:=(by unfold wrap64;omega);have w2':IntKind.i64.wrap (x*Tm)=x*Tm:=(by rw[IntWalk.i64_left];exact w1');clear h3 h4 h5;go_wp2_with fail
              have hgl:=HGJ.out;go_roundg (m - (j+1))
              all_goals first|omega|exact⟨j+1,by go_num,by omega,by omega,by rw[HSU.out,HMU.out,dx];simp,hg7⟩
            · have dx:decide (x≤1000000000)=false:=(by simp;omega);go_wp2_with fail
              have hgl:=HGJ.out;go_roundg (m - (j+1))
              all_goals first|omega|exact⟨j+1,by go_num,by omega,by omega,by rw[HSU.out,HMU.out,dx];simp,hg7⟩
         · have hj':¬((j:Int)<(m:Int)):=(by omega);have hjm':j=m:=(by omega);have HRA:=hd_ (by rw[hjm',← HML.out];exact ad7_ t k 1:j6_ t k 1 j=v2_ t k 1 t.length);clear hjm';generalize j6_ t k 1 j=x at *;have w1':wrap64 (sm+x)=sm+x:=(by unfold wrap64;omega);by_cases hbig:1000000000<sm+x
           · have HX:=hd_ (by
              have:=acn_ HB.out (fun k=>yi_ bds (nth t k)) HS1.out k t.length hkl (by omega) (HS2.out k hkl) (by rw[HSM.out];omega) (by rw[HSM.out];(try dsimp only);rw[HST.out,← HRA.out];exact hbig);exact this:vj_ bds t=1000000001)
             go_wp2_with fail
             go_ret;exact⟨by rw[HX.out];first|done|simp,HW1.out.trans hg5⟩
           · have HX:=hd_ (by
              have:=aco_ HB.out (fun k=>yi_ bds (nth t k)) HS1.out k hkl (HS2.out k hkl) (by rw[HSM.out];omega) (by rw[HSM.out];(try dsimp only);rw[HST.out,← HRA.out];omega);rw[this,HSM.out];(try dsimp only);rw[HST.out,← HRA.out]:z4_ t (fun k=>yi_ bds (nth t k)) (k+1)=sm+x)
             go_wp2_with fail
             have hgl:=HG.out;go_roundg (n - (k+1))
             all_goals first|omega|exact⟨k+1,sm+x,by go_num,by omega,by omega,rfl,HX.out,by omega,by omega,hg5⟩
  · have hk':¬((k:Int)<(n:Int)):=(by omega);have hkn:k=n:=(by omega);have HX:=hd_ (by unfold vj_;rw[HN.out,← hkn];exact HSM.out:vj_ bds t=sm);clear hkn;go_wp2_with fail
    go_ret;exact⟨by rw[HX.out];first|done|simp,HW1.out.trans hgr⟩
end Go.Proofs.YtcgbfhpmkpglkaaGreatDoor
