/- Texts put together: Y0, W0x, O3, O4. -/
import Derived.Test.YtcgbfhpmkpglkaaGreatDoorQ22
import Derived.Test.YtcgbfhpmkpglkaaGreatDoorQ13
import Derived.Deep.Slices
import Derived.ChangeSame
import Derived.SizedLaws
import Derived.ProofKit
import Derived.ShutString
import Derived.ChangeOld
import Derived.Test.YtcgbfhpmkpglkaaGreatDoorTie
import Derived.Test.YtcgbfhpmkpglkaaGreatDoorCards
import Derived.PinnedBridge
import Derived.Lib.LaidTab
import Derived.Lay
import Derived.LaidOnce
import Derived.SevenTiedAt
import Derived.Stop.Joined
import Derived.Lib.SmallJoins
set_option linter.unusedVariables false
set_option linter.unusedSimpArgs false
set_option maxHeartbeats 8000000
namespace Go.Proofs.YtcgbfhpmkpglkaaGreatDoor
open Go.RowKit
attribute [local go_sem ↓] Go.wp_at_zero Go.wp_at_succ
structure RMa (w:World) (B M:Nat) (pv:Value) (now:Int) (sa:Option Addr) (sc:Nat) (st:List Int) (sp fl:Int):Prop where
 blk:w.heap[M]?=some (.cells #[pv,.int .i64 now,.slice sa st.length sc,.int .i64 sp,.int .i64 fl] 51)
 own:StkV B w (.slice sa st.length sc) st
 lo:M<B
theorem RMa.row {w:World} {B M:Nat} {pv:Value} {now:Int} {sa:Option Addr} {sc:Nat} {st:List Int} {sp fl:Int} (h:RMa w B M pv now sa sc st sp fl):∀ y,(sb sa)=some y→B≤y∧y<w.heap.size:=fun y hy=>World.ownsRow.lt h.own y (by rw[jl_];exact hy)
theorem RMa.kept {w w':World} {B M:Nat} {pv:Value} {now:Int} {sa:Option Addr} {sc:Nat} {st:List Int} {sp fl:Int} (h:RMa w B M pv now sa sc st sp fl) (hg:w.grownBy w' none):RMa w' B M pv now sa sc st sp fl:=by
 refine⟨YtcgbfhpmkpglkaaGreatDoor.kept hg h.blk,World.ownsRow.kept h.own hg ?_,h.lo⟩;rw[jl_];cases hv:(sb sa) with
 | none=>exact .inl rfl
 | some x=>exact .inr (by simp)
section
variable {w:World} {B M:Nat} {pv:Value} {now:Int} {sa:Option Addr} {sc:Nat} {st:List Int} {sp fl:Int}
theorem RMa.setF (h:RMa w B M pv now sa sc st sp fl) (y:Int):RMa (w.setCell ⟨M,4,none⟩ (.int .i64 y)) B M pv now sa sc st sp y:=by
 refine⟨by simpa using xk_ h.blk 4 (.int .i64 y),?_,h.lo⟩;exact World.ownsRow.kept h.own (x3_ (World.grownBy.refl w (some M)) _ _) (.inr fun e=>by rw[jl_] at e;have:=(h.row M e).1;have:=h.lo;omega)
theorem RMa.setS (h:RMa w B M pv now sa sc st sp fl) (y:Int):RMa (w.setCell ⟨M,3,none⟩ (.int .i64 y)) B M pv now sa sc st y fl:=by
 refine⟨by simpa using xk_ h.blk 3 (.int .i64 y),?_,h.lo⟩;exact World.ownsRow.kept h.own (x3_ (World.grownBy.refl w (some M)) _ _) (.inr fun e=>by rw[jl_] at e;have:=(h.row M e).1;have:=h.lo;omega)
end
theorem aqv_ {W:World} {B M:Nat} {pv:Value} {now:Int} {sa:Option Addr} {sc:Nat} {st:List Int} {sp fl x:Int} (h:RMa W B M pv now sa sc (st++[x]) sp fl):RMa (W.setCell ⟨M,2,none⟩ (.slice sa st.length sc)) B M pv now sa sc st sp fl∧Chg M none (sb sa) W (W.setCell ⟨M,2,none⟩ (.slice sa st.length sc)):=by
 obtain⟨hb,hown,hlo⟩:=h;have hown':=hown;obtain⟨g,rfl,hsc⟩:∃ g,sa=some ⟨g,0,none⟩∧st.length+1≤sc:=by
  obtain⟨_,⟨e,e2⟩|⟨g,c,cur,e,_,_,hc,_⟩⟩:=hown'
  ·simp at e2
  ·simp at e;obtain⟨rfl,rfl⟩:=e;exact⟨g,rfl,by simpa using hc⟩
 have hpop:StkV B W (.slice (some ⟨g,0,none⟩) st.length sc) st:=by
  unfold StkV at hown ⊢;rw[List.length_append] at hown;simp only[List.length_cons,List.length_nil,List.map_append,List.map_cons,List.map_nil] at hown;exact ownsRow_pop (by simp) hown
 have hgm:g≠M:=fun e=>by have:=(World.ownsRow.lt hpop g rfl).1;omega
 refine⟨⟨?_,?_,hlo⟩,⟨rfl,rfl,rfl,by simp,fun k hk hkM _ hr=>by rw[Below.heap_setCell _ _ _ _ (by simpa using hkM)]⟩⟩
 ·have:=xk_ hb 2 (.slice (some ⟨g,0,none⟩) st.length sc);simpa using this
 ·have hg:W.grownBy (W.setCell ⟨M,2,none⟩ (.slice (some ⟨g,0,none⟩) st.length sc)) (some M):=x3_ gz_ _ _;exact World.ownsRow.kept hpop hg (.inr (by simp[Value.ownBlock];exact hgm))
theorem aqw_ (B M:Nat) (pv:Value) (now:Int) (sa:Option Addr) (sc:Nat) (st:List Int) (sp fl x:Int) (w:World) (h:RMa w B M pv now sa sc (st++[x]) sp fl) (hl:st.length≤900000) :
 Calls Tryz.prog 25 #[.pointer (some ⟨M,0,none⟩)] w fun e w'=>e=.returned (.int .i64 x)∧RMa w' B M pv now sa sc st sp fl∧Chg M none (sb sa) w w':=by
 have HH:=hd_ h;obtain⟨hb,hown,hlo⟩:=h;obtain⟨g,rfl,hsc⟩:∃ g,sa=some ⟨g,0,none⟩∧st.length+1≤sc:=by
  obtain⟨_,⟨e,e2⟩|⟨g,c,cur,e,_,_,hc,_⟩⟩:=hown
  ·simp at e2
  ·simp at e;obtain⟨rfl,rfl⟩:=e;exact⟨g,rfl,by simpa using hc⟩
 have q:w.cell? ⟨g,st.length,none⟩=some (.int .i64 x):=by
  have:=World.ownsRow.cells hown rfl st.length (.int .i64 x) (by simp);rw[jc_,Nat.zero_add] at this;exact this
 have hlen:(st++[x]).length=st.length+1:=(by simp);rw[hlen] at hb;have d2:=xa_ hb 2;simp at d2;have f2:=xc_ hb 2;obtain⟨n,hn⟩:∃ n,st.length=n:=⟨_,rfl⟩;have HN:=hd_ hn;rw[hn] at hl d2 q hsc;have i1:(0:Int)≤(n:Int):=(by omega);have i2:(n:Int)<(n:Int)+1:=(by omega);have i3:(n:Int)≤(sc:Int):=(by omega);have i4:n≤sc:=(by omega);have i5:n<n+1:=(by omega);have i6:IntKind.i64.wrap ((n:Int)+1 - 1)=(n:Int):=(by rw[show(n:Int)+1 - 1=(n:Int) by omega];exact IntWalk.i64_in _ (by omega));have i7:IntKind.i64.wrap (n:Int)=(n:Int):=IntWalk.i64_in _ (by omega);clear hb hown hn hlen;go_enter Tryz.func25,Tryz.ntmps25;go_wp2;go_region_held3 (fun w'=>w'.cell? ⟨M,2,none⟩=some (.slice (some ⟨g,0,none⟩) (n+1) sc)∧w'.cell? ⟨g,n,none⟩=some (.int .i64 x)) (go_keep) (fail)
 have d3:=(xf_ (World.grownBy.refl w none)).cell d2 (by simp);have f3:w.drew.frozen? ⟨M,2,none⟩=false:=f2;go_wp2;go_region_with (fail)
 all_goals go_wp2
 all_goals go_ret
 all_goals
  have hp:=aqv_ HH.out;rw[HN.out] at hp;have hg:=xf_ (xf_ (World.grownBy.refl (w.setCell ⟨M,2,none⟩ (.slice (some ⟨g,0,none⟩) n sc)) none));exact⟨rfl,hp.1.kept hg,hp.2.trans (Nx.refl _ _) (Chg.of_none hg)⟩
theorem z6_ {W:World} {B M:Nat} {pv:Value} {now:Int} {sa:Option Addr} {sc:Nat} {st:List Int} {sp fl:Int} (h:RMa W B M pv now sa sc st sp fl) (hl:st.length≤900000) (hB:B≤W.heap.size) {xb:Nat} {x:Int} (hx:W.heap[xb]?=some (.cells #[.int .i64 x] 3)) :
 ∃ ga gc w1,(Builtin.append_ #[25,25] 25 #[.slice sa st.length sc,.slice (some ⟨xb,0,none⟩) 1 1]).run Tryz.prog W=.ok (.slice ga (st.length+1) gc) w1∧
  w1.heap[M]?=some (.cells #[pv,.int .i64 now,.slice sa st.length sc,.int .i64 sp,.int .i64 fl] 51)∧
  RMa (w1.setCell ⟨M,2,none⟩ (.slice ga (st.length+1) gc)) B M pv now ga gc (st++[x]) sp fl∧Chg M none (sb sa) W (w1.setCell ⟨M,2,none⟩ (.slice ga (st.length+1) gc))∧Nx W (sb sa) (sb ga)∧W.grownBy w1 (sb sa):=by
 obtain⟨i0,hi,hz0,hz1,hz2⟩:=yt_ v1_;obtain⟨v',w1,r1,r2,r3,_,r5⟩:=run_append_own_at (P:=Tryz.prog) W B 25 25 3 i0 (.int .i64 0) 1 8 Tryz.underlying25 hi hz0 hz1 hz2 rfl (by omega) _ _ _ h.own ⟨xb,0,none⟩ 1 1 [.int .i64 x] rfl
  (fun j u hj=>by
    rw[jc_,xa_ hx (0+j)];simpa using hj)
  (by simp[Value.oneCell']) (by unfold maxLen;omega) (by omega) hB
 rw[jl_] at r3 r5;obtain⟨ga,gc,rfl⟩:∃ ga gc,v'=.slice ga (st.length+1) gc:=by
  obtain⟨_,⟨e,e2⟩|⟨g,c,cur,e,_⟩⟩:=r2
  ·omega
  ·exact⟨_,_,e⟩
 have hMlt:=xg_ h.blk;have hMne:some M≠(sb sa):=fun e=>by have:=(h.row M e.symm).1;have:=h.lo;omega
 have hb1:w1.heap[M]?=some (.cells #[pv,.int .i64 now,.slice sa st.length sc,.int .i64 sp,.int .i64 fl] 51):=by
  rw[r3.block M hMlt hMne];exact h.blk
 refine⟨ga,gc,w1,r1,hb1,⟨?_,?_,h.lo⟩,?_,?_,r3⟩
 ·have:=xk_ hb1 2 (.slice ga (st.length+1) gc);simpa using this
 ·have hg:w1.grownBy (w1.setCell ⟨M,2,none⟩ (.slice ga (st.length+1) gc)) (some M):=x3_ gz_ _ _;have:=World.ownsRow.kept r2 hg (.inr fun e=>by have:=(World.ownsRow.lt r2 M e).1;have:=h.lo;omega);unfold StkV;simpa using this
 ·exact⟨r3.os,r3.tape,r3.output,by simpa using r3.size,fun k hk hkM _ hr=>by rw[Below.heap_setCell _ _ _ _ (by simpa using hkM)];exact r3.block k hk hr⟩
 · rw[jl_] at r5;rcases r5 with e|e
   ·exact .inl e
   ·exact .inr fun y hy=>by rw[e] at hy;simp at hy;omega
theorem OwnV.chg {b:Nat} {w w':World} {M:Nat} {G r:Option Nat} {v:Value} {l:List Int} (h:OwnV b w v l) (k:Chg M G r w w') (hn:∀ y,v.ownBlock=some y→y≠M∧some y≠G∧some y≠r):OwnV b w' v l:=by
 refine⟨h.1,?_⟩;rcases h.2 with h2|⟨g,c,cur,e,hb,hg,h3⟩
 ·exact .inl h2
 ·refine .inr ⟨g,c,cur,e,hb,?_,h3⟩;obtain⟨n1,n2,n3⟩:=hn g (by rw[e];rfl);exact(k.block g (xg_ hg) n1 n2 n3).trans hg
theorem OwnV.lt {b:Nat} {w:World} {v:Value} {l:List Int} (h:OwnV b w v l):∀ y,v.ownBlock=some y→b≤y∧y<w.heap.size:=fun y hy=>World.ownsRow.lt h y hy
structure RC (c w:World) (B M:Nat) (fv:Value) (f:List Int) (pv:Value) (now:Int) (sa:Option Addr) (sc:Nat) (st:List Int) (sp fl:Int):Prop where
 ma:RMa w B M pv now sa sc st sp fl
 fr:OwnV c.heap.size w fv f
 fm:∀ y,fv.ownBlock=some y→y≠M∧some y≠sb sa
 cw:c.grownBy w none
 cM:c.heap.size≤M
 cB:c.heap.size≤B
 bw:B≤w.heap.size
section
variable {c w w':World} {B M:Nat} {fv:Value} {f:List Int} {pv:Value} {now:Int} {sa sa':Option Addr} {sc sc':Nat} {st st':List Int} {sp fl sp' fl':Int}
theorem RC.rowc (h:RC c w B M fv f pv now sa sc st sp fl):∀ y,sb sa=some y→c.heap.size≤y:=fun y hy=>by have:=(h.ma.row y hy).1;have:=h.cB;omega
theorem RC.grown (h:RC c w B M fv f pv now sa sc st sp fl) (k:Chg M fv.ownBlock (sb sa) w w'):c.grownBy w' none:=
 y4_ h.cw k h.cM (fun y hy=>(h.fr.lt y hy).1) h.rowc
theorem RC.chg (h:RC c w B M fv f pv now sa sc st sp fl) (m:RMa w' B M pv now sa' sc' st' sp' fl') (k:Chg M none (sb sa) w w') (n:Nx w (sb sa) (sb sa')):RC c w' B M fv f pv now sa' sc' st' sp' fl':=
 ⟨m,h.fr.chg k (fun y hy=>⟨(h.fm y hy).1,by simp,(h.fm y hy).2⟩),fun y hy=>⟨(h.fm y hy).1,fun e=>by
  rcases n with n|n
  ·rw[n] at e;exact(h.fm y hy).2 e
  ·have:=n y e.symm;have:=(h.fr.lt y hy).2;omega⟩,y4_ h.cw k h.cM (fun y hy=>by simp at hy) h.rowc,h.cM,h.cB,by have:=h.bw;have:=k.size;omega⟩
theorem RC.kept (h:RC c w B M fv f pv now sa sc st sp fl) (hg:w.grownBy w' none):RC c w' B M fv f pv now sa sc st sp fl:=h.chg (h.ma.kept hg) (Chg.of_none hg) (Nx.refl _ _)
theorem RC.setS (h:RC c w B M fv f pv now sa sc st sp fl) (y:Int):RC c (w.setCell ⟨M,3,none⟩ (.int .i64 y)) B M fv f pv now sa sc st y fl:=h.chg (h.ma.setS y) (q4_ M 3 _ _ w _) (Nx.refl _ _)
theorem RC.setF (h:RC c w B M fv f pv now sa sc st sp fl) (y:Int):RC c (w.setCell ⟨M,4,none⟩ (.int .i64 y)) B M fv f pv now sa sc st sp y:=h.chg (h.ma.setF y) (q4_ M 4 _ _ w _) (Nx.refl _ _)
theorem RC.frame {f':List Int} (h:RC c w B M fv f pv now sa sc st sp fl) (hf:OwnV c.heap.size w' fv f') (k:∀ x,some x≠fv.ownBlock→w'.heap[x]?=w.heap[x]?) (hs:w'.heap.size=w.heap.size) (h1:w'.os=w.os) (h2:w'.tape=w.tape) (h3:w'.output=w.output):RC c w' B M fv f' pv now sa sc st sp fl:=by
 have hM:some M≠fv.ownBlock:=fun e=>(h.fm M e.symm).1 rfl;refine⟨⟨(k M hM).trans h.ma.blk,?_,h.ma.lo⟩,hf,h.fm,?_,h.cM,h.cB,by rw[hs];exact h.bw⟩
 · refine⟨h.ma.own.1,?_⟩;rcases h.ma.own.2 with g|⟨g,cc,cur,e,hb,hg,g3⟩
   ·exact .inl g
   · refine .inr ⟨g,cc,cur,e,hb,?_,g3⟩;rw[k g (fun e2=>(h.fm g e2.symm).2 (by
      have:sa=some ⟨g,0,none⟩:=(by simp at e;exact e.1);rw[this];rfl))]
     exact hg
 · exact⟨h1.trans h.cw.os,h2.trans h.cw.tape,h3.trans h.cw.output,by rw[hs];exact h.cw.size,fun x hx hn=>by
    rw[k x (fun e=>by have:=(h.fr.lt x e.symm).1;omega)];exact h.cw.block x hx hn⟩
end
theorem akk_ {e size bytes t c:Nat} {z:Value} {w wx:World} {v:Value} {n:Nat} {i:TypeInfo} (ht:Tryz.prog.underlying t=some (.slice e)) (hi:Tryz.prog.info? e=some i) (hz:i.zero=some z) (hs:i.size=size) (hb:i.bytes=bytes) (hzs:z.cells.size=size) (hpos:0<size)
 (h:Mine e size c w wx v n) (cur:List Value) (hcur:cur.length=size) (h1:∀ u∈cur,u.oneCell'=true) (hn:n≤30000) (hb64:bytes≤64) :
 ∃ v' w',(Builtin.append_ #[t,t] t #[v,.slice (some ⟨wx.heap.size,0,none⟩) 1 1]).run Tryz.prog (wx.alloc (.cells cur.toArray e))=.ok v' w'∧Mine e size c w w' v' (n+1):=by
 obtain⟨xs,hown,hor,hgr⟩:=h;obtain⟨v',w',r1,r2,r3,_,r5⟩:=run_append_own_at (P:=Tryz.prog) (wx.alloc (.cells cur.toArray e)) 0 t t e i z size bytes ht hi hz hs hb hzs hpos v n xs (hown.alloc _) ⟨wx.heap.size,0,none⟩ 1 1 cur (by omega)
  (fun j u hj=>by
    have e1:(⟨wx.heap.size,0,none⟩:Addr).add j=⟨wx.heap.size,j,none⟩:=(by unfold Addr.add;split <;> simp_all);rw[e1,xa_ (heap_alloc_new wx _) j];simpa using hj)
  h1 (by unfold maxLen;omega) (by
   have:(n+1)*bytes≤30001*64:=Nat.mul_le_mul (by omega) hb64;omega) (Nat.zero_le _)
 refine⟨v',w',r1,_,r2,?_,?_⟩
 · rcases r5 with h5|h5
   ·rw[h5];exact hor
   ·right;intro x hx;rw[h5] at hx;simp at hx;have:=hgr.size;omega
 · refine x6_ (xb_ hgr _) r3 ?_;rcases hor with h|h
   ·exact .inl h
   ·exact .inr h
theorem ang_ (B g cap:Nat) (l:List Int) (z:Int) (w:World) (hl:l.length≤20000) (h:OwnV B w (.slice (some ⟨g,0,none⟩) l.length cap) l) :
 Calls Tryz.prog 11 #[.slice (some ⟨g,0,none⟩) l.length cap,.int .i64 z] w fun e w'=>e=.returned (.tuple #[])∧w.grownBy w' (some g):=by
 obtain⟨n,hn⟩:∃ n,l.length=n:=⟨_,rfl⟩;have HO:Hid (OwnV B w (.slice (some ⟨g,0,none⟩) n cap) l):=(by rw[← hn];exact h);have HN:=hd_ hn;rw[hn] at hl ⊢;clear h hn;go_enter Tryz.func11,Tryz.ntmps11;go_wp2;go_loopg [4] n (fun gk s4 wx=>∃(k:Nat) (ar:List Int),s4=.int .i64 k∧k≤n∧gk=n - k∧ar.length=n∧OwnV B wx (.slice (some ⟨g,0,none⟩) ar.length cap) ar∧w.grownBy wx (some g))
 case atStart=>exact⟨0,l,rfl,Nat.zero_le _,by omega,HN.out,by rw[HN.out];exact HO.out,gz_⟩
 case round=>
  obtain⟨k,ar,rfl,hk,hgk,has,har,hgr⟩:=hrel;have HG:=hd_ hgk;have HA:=hd_ har;have HS:=hd_ has;clear hgk;by_cases hlt:k<n
  · have q0:=har.get k (by omega);have f0:=har.frozen k;clear har has;have i1:(0:Int)≤(k:Int):=(by omega);have i2:(k:Int)<(n:Int):=(by omega);go_wp2;have hgl:=HG.out;go_roundg (n - (k+1))
    all_goals first|omega|exact⟨k+1,ar.set k z,by go_num,by omega,by omega,by simp[HS.out],by rw[List.length_set];exact HA.out.store k z,x3_ hgr _ _⟩
  · have hk':¬((k:Int)<(n:Int)):=(by omega);have HM:Hid (Mine 3 1 g w wr (.slice (some ⟨g,0,none⟩) n cap) n):=(by have:=HA.out.mine hgr;rw[HS.out] at this;exact this);clear har HG;go_wp2;go_loopg [0,5] 20 (fun gk s0 s5 wx=>∃(j m:Nat),s5=.int .i64 j∧j≤20∧gk=20 - j∧Mine 3 1 g w wx s0 m∧m≤20000+j)
    case atStart=>exact⟨0,n,rfl,Nat.zero_le _,by omega,HM.out,by omega⟩
    case round=>
     obtain⟨j,m,rfl,hj,hgj,hmine,hm⟩:=hrel;have HG:Hid (_=_):=hgj;clear hgj;by_cases hlt:j<20
     · obtain⟨i0,hi,hz0,hz1,hz2⟩:=yt_ v1_;obtain⟨v',w',hrun,hmine'⟩:=akk_ Tryz.underlying25 hi hz0 hz1 hz2 rfl (by omega) hmine [.int .i64 z] rfl (by simp[Value.oneCell']) (by omega) (by omega);have HRUN:Hid (_=_):=hrun;have HM:=hd_ hmine';clear hmine hrun hmine' hi hz0 hz1 hz2;have j2:(j:Int)<20:=(by omega);go_wp2_with (first|(at_builtin;refine x0_ rfl _ _ 25 rfl _ _ v' w' rfl rfl HRUN.out ?_))
       have hgl:=HG.out;go_roundg (20 - (j+1))
       all_goals first|omega|exact⟨j+1,m+1,by go_num,by omega,by omega,HM.out,by omega⟩
     ·have hj':¬((j:Int)<20):=(by omega);obtain⟨_,_,_,hg⟩:=hmine;go_wp2;go_end0;exact⟨rfl,hg⟩
theorem anh_ (B:Nat) (v:Value) (l:List Int) (z:Int) (w:World) (hl:l.length≤20000) (h:OwnV B w v l) :
 Calls Tryz.prog 11 #[v,.int .i64 z] w fun e w'=>e=.returned (.tuple #[])∧w.grownBy w' v.ownBlock:=by
 have h':=h;obtain⟨_,⟨rfl,hn⟩|⟨g,cap,cur,rfl,_⟩⟩:=h'
 ·exact aik_ z w
 ·exact ang_ B g cap l z w hl h
theorem FrAt.own {w:World} {F B:Nat} {ar:List Int} (h:FrAt w F ar) (hB:B≤F) (hl:ar.length≤20000):OwnV B w (.slice (some ⟨F,0,none⟩) ar.length ar.length) ar:=by
 refine⟨by simp,.inr ⟨F,ar.length,xi_ ar,rfl,hB,h,Nat.le_refl _,by unfold maxLen;omega,by simp[xi_],?_⟩⟩;simp only[xi_];rw[List.take_of_length_le (by simp)]
end Go.Proofs.YtcgbfhpmkpglkaaGreatDoor
namespace Go.Proofs.YtcgbfhpmkpglkaaGreatDoor
open Go.ChangeShapes Go.WideShapes Go.ChangeAt Go.RowKit
theorem aut_:Tryz.prog.bytesOf 3=8:=by kernel_rfl
theorem ar6_:Tryz.prog.bytesOf 40=32:=by kernel_rfl
theorem ar7_:Tryz.prog.bytesOf 62=56:=by kernel_rfl
theorem ar8_:Tryz.prog.bytesOf 44=96:=by kernel_rfl
theorem aj7_:Tryz.prog.cellsOf 3=1:=by kernel_rfl
theorem auu_:Tryz.prog.cellsOf 4=1:=by kernel_rfl
theorem apg_:Tryz.prog.cellsOf 9=1:=by kernel_rfl
theorem ar9_:Tryz.prog.cellsOf 38=1:=by kernel_rfl
theorem asa_:Tryz.prog.cellsOf 59=1:=by kernel_rfl
theorem asb_:Tryz.prog.cellsOf 60=1:=by kernel_rfl
theorem asc_:Tryz.prog.cellsOf 37=1:=by kernel_rfl
theorem asd_:Tryz.prog.cellsOf 25=1:=by kernel_rfl
theorem ase_:Tryz.prog.cellsOf 42=1:=by kernel_rfl
theorem asf_:Tryz.prog.cellsOf 41=1:=by kernel_rfl
theorem asg_:Tryz.prog.cellsOf 22=1:=by kernel_rfl
theorem ash_:Tryz.prog.cellsOf 40=4:=by kernel_rfl
theorem asi_:Tryz.prog.cellsOf 62=6:=by kernel_rfl
theorem asj_:Tryz.prog.cellsOf 44=5:=by kernel_rfl
theorem aa8_ {w:World} {x:Addr} {v:Value} (h:w.cell? (x.add 0)=some v):∃ b off,x=⟨b,off,none⟩:=by
 have hs:=World.cell?_spot h;obtain⟨b,off,sp⟩:=x;cases sp with
 | none=>exact⟨b,off,rfl⟩
 | some y=>simp[Addr.add] at hs
theorem len4 {α:Type} {l:List α} (h:l.length=4):∃ a b c d,l=[a,b,c,d]:=by
 match l,h with
 | [a,b,c,d],_=>exact⟨a,b,c,d,rfl⟩
theorem len5 {α:Type} {l:List α} (h:l.length=5):∃ a b c d e,l=[a,b,c,d,e]:=by
 match l,h with
 | [a,b,c,d,e],_=>exact⟨a,b,c,d,e,rfl⟩
theorem len6 {α:Type} {l:List α} (h:l.length=6):∃ a b c d e f,l=[a,b,c,d,e,f]:=by
 match l,h with
 | [a,b,c,d,e,f],_=>exact⟨a,b,c,d,e,f,rfl⟩
section
variable {H:Type} {enc:TypeId×Value→H} {w:World}
theorem aaj_ {P:Program} {e:TypeId} {d:DataW H}:∀ {ds:List (DataW H)},d∈ds→∀ n∈d.weights P e,n∈DataW.weightsAll P e ds
 | x::r,hd,n,hn=>by
  simp only[DataW.weightsAll,List.mem_append];rcases List.mem_cons.1 hd with rfl|hd
  ·exact .inl hn
  ·exact .inr (aaj_ hd n hn)
 | [],hd,_,_=>by simp at hd
theorem aim_ {fuel:Nat} {v:Value} {x:DataW H×List MemPlace} (h:DataW.trod enc Tryz.prog w 0 (fun _=>true) true fuel 25 [v]=some x) (hw:∀ n∈x.1.weights Tryz.prog 25,n≤reachBytes):∃ l,rd w v l∧l.length≤17592186043904:=by
 rcases open_ints Tryz.underlying25 Tryz.underlying3 aj7_ h with⟨hcs,_⟩|⟨a,len,cap,zs,hcs,_,hl,hm,hz,hx,hcell,hwz⟩
 ·simp at hcs;subst hcs;exact⟨[],⟨_,_,rfl,.inl rfl⟩,by simp⟩
 · simp at hcs hz;subst hcs;have hlen:(zs.take len).length=len:=(by simp;omega);have hb:len≤17592186043904:=by
    have:=hw ((zs.take len).length*8+(zs.drop len).length*8) (by
     rw[hx];simp only[DataW.weights,Tryz.underlying25,aut_,lits,List.length_map,List.mem_cons];left;omega)
    unfold reachBytes at this;omega
   refine⟨zs.take len,⟨a,cap,by rw[hlen],?_⟩,by rw[hlen];exact hb⟩;by_cases h0:len=0
   ·left;simp[h0]
   · right;obtain⟨b,off,rfl⟩:=aa8_ (hcell 0 (by omega));refine⟨b,off,rfl,fun i hi=>?_⟩;have hi':i<len:=(by rw[hlen] at hi;exact hi);have hc:=hcell i (by omega);rw[jc_] at hc;rw[hc];have e:(zs.take len).getD i 0=zs.getD i 0:=by
      simp[List.getD,hi']
     rw[e]
theorem ams_ {fuel:Nat} {v:Value} {x:DataW H×List MemPlace} (h:DataW.trod enc Tryz.prog w 0 (fun _=>true) true fuel 41 [v]=some x) (hw:∀ n∈x.1.weights Tryz.prog 41,n≤reachBytes):∃ l,TxtAt w v l∧l.length*32≤140737488351232:=by
 rcases Deep.open_slice Tryz.underlying41 h with⟨hcs,_⟩|⟨a,len,cap,m,n,D,Pl,hcs,_,hl,hm,hmm,hxx,hx⟩
 ·simp at hcs;subst hcs;exact⟨[],⟨_,_,rfl,.inl rfl⟩,by simp⟩
 · simp at hcs hmm;subst hcs;have hb:len*32≤140737488351232:=by
    have:=hw (len*32+(m - len)*32) (by
     rw[hxx];simp only[DataW.weights,Tryz.underlying41,ar6_,List.length_map,List.length_range,List.mem_cons];left;omega)
    unfold reachBytes at this;omega
   have each:∀ i,i<len→∃ y:Ins,w.cell? (a.add (i*4))=some (.int .i64 y.d)∧w.cell? (a.add (i*4+1))=some (.int .i64 y.a)∧w.cell? (a.add (i*4+2))=some (.int .i64 y.b)∧w.cell? (a.add (i*4+3))=some (.int .i64 y.c):=fun i hi=>by
    obtain⟨cs',h1,h2⟩:=hx i (by omega);rw[ash_] at h1;obtain⟨_,hlen,hcell⟩:=World.cells?_some h1;obtain⟨xs,k,hk,hxy,_,hxl,hf⟩:=DataW.trod_struct Tryz.underlying40 h2;obtain⟨y0,y1,y2,y3,rfl⟩:=len4 hxl;obtain⟨v0,v1,v2,v3,rfl⟩:=len4 hlen;focus
     have g0:=hf 0 _ rfl;have g1:=hf 1 _ rfl;have g2:=hf 2 _ rfl;have g3:=hf 3 _ rfl;simp[aj7_,ar9_] at g0 g1 g2 g3;have e0:=hcell 0 (by omega);have e1:=hcell 1 (by omega);have e2:=hcell 2 (by omega);have e3:=hcell 3 (by omega);rw[Deep.add_add] at e0 e1 e2 e3;obtain⟨d,hd,_,_⟩:=DataW.trod_int Tryz.underlying38 g0;obtain⟨a',ha,_,_⟩:=DataW.trod_int Tryz.underlying3 g1;obtain⟨b',hb',_,_⟩:=DataW.trod_int Tryz.underlying3 g2;obtain⟨c',hc',_,_⟩:=DataW.trod_int Tryz.underlying3 g3;simp at hd ha hb' hc';subst hd ha hb' hc';exact⟨⟨d,a',b',c'⟩,by simpa using e0,by simpa using e1,by simpa using e2,by simpa using e3⟩
   obtain⟨f,hfa⟩:=@Deep.choose_lt Ins ⟨⟨0,0,0,0⟩⟩ _ _ each;refine⟨(List.range len).map f,⟨some a,cap,by simp,?_⟩,by simpa using hb⟩;by_cases h0:len=0
   ·left;simp[h0]
   ·right;obtain⟨b,off,rfl⟩:=aa8_ (by simpa using(hfa 0 (by omega)).1);refine⟨b,off,rfl,fun i hi=>?_⟩;have hi':i<len:=(by simpa using hi);have hnth:nth ((List.range len).map f) i=f i:=(by simp[nth,hi']);have hc:=hfa i hi';rw[jc_,jc_,jc_,jc_] at hc;rw[hnth];simpa only[Nat.add_assoc] using hc
theorem amt_ {fuel:Nat} {v:Value} {x:DataW H×List MemPlace} (h:DataW.trod enc Tryz.prog w 0 (fun _=>true) true fuel 42 [v]=some x) (hw:∀ n∈x.1.weights Tryz.prog 42,n≤reachBytes):∃ l,SlAt w v l∧l.length*56≤140737488351232:=by
 rcases Deep.open_slice Tryz.underlying42 h with⟨hcs,_⟩|⟨a,len,cap,m,n,D,Pl,hcs,_,hl,hm,hmm,hxx,hx⟩
 ·simp at hcs;subst hcs;exact⟨[],⟨_,_,rfl,.inl rfl⟩,by simp⟩
 · simp at hcs hmm;subst hcs;have hb:len*56≤140737488351232:=by
    have:=hw (len*56+(m - len)*56) (by
     rw[hxx];simp only[DataW.weights,Tryz.underlying42,ar7_,List.length_map,List.length_range,List.mem_cons];left;omega)
    unfold reachBytes at this;omega
   have each:∀ i,i<len→∃ y:Slt,w.cell? (a.add (i*6))=some (.string y.path)∧w.cell? (a.add (i*6+1))=some (.int .i64 y.kind)∧w.cell? (a.add (i*6+2))=some (.int .i64 y.at')∧w.cell? (a.add (i*6+3))=some (.int .i64 y.len)∧w.cell? (a.add (i*6+4))=some (.bool y.keep)∧w.cell? (a.add (i*6+5))=some (.int .i64 y.role):=fun i hi=>by
    obtain⟨cs',h1,h2⟩:=hx i (by omega);rw[asi_] at h1;obtain⟨_,hlen,hcell⟩:=World.cells?_some h1;obtain⟨xs,k,hk,hxy,_,hxl,hf⟩:=DataW.trod_struct Tryz.underlying62 h2;obtain⟨y0,y1,y2,y3,y4,y5,rfl⟩:=len6 hxl;obtain⟨v0,v1,v2,v3,v4,v5,rfl⟩:=len6 hlen;focus
     have g0:=hf 0 _ rfl;have g1:=hf 1 _ rfl;have g2:=hf 2 _ rfl;have g3:=hf 3 _ rfl;have g4:=hf 4 _ rfl;have g5:=hf 5 _ rfl;simp[aj7_,auu_,apg_,asa_,asb_] at g0 g1 g2 g3 g4 g5;have e0:=hcell 0 (by omega);have e1:=hcell 1 (by omega);have e2:=hcell 2 (by omega);have e3:=hcell 3 (by omega);have e4:=hcell 4 (by omega);have e5:=hcell 5 (by omega);rw[Deep.add_add] at e0 e1 e2 e3 e4 e5;obtain⟨p,hp,_,_⟩:=DataW.trod_string Tryz.underlying9 g0;obtain⟨k',hk',_,_⟩:=DataW.trod_int Tryz.underlying59 g1;obtain⟨a',ha,_,_⟩:=DataW.trod_int Tryz.underlying3 g2;obtain⟨l',hl',_,_⟩:=DataW.trod_int Tryz.underlying3 g3;obtain⟨q',hq',_⟩:=DataW.trod_bool Tryz.underlying4 g4;obtain⟨r',hr',_,_⟩:=DataW.trod_int Tryz.underlying60 g5;simp at hp hk' ha hl' hq' hr';subst hp hk' ha hl' hq' hr';exact⟨⟨p,k',a',l',q',r'⟩,by simpa using e0,by simpa using e1,by simpa using e2,by simpa using e3,by simpa using e4,by simpa using e5⟩
   obtain⟨f,hfa⟩:=@Deep.choose_lt Slt ⟨slt0⟩ _ _ each;refine⟨(List.range len).map f,⟨some a,cap,by simp,?_⟩,by simpa using hb⟩;by_cases h0:len=0
   ·left;simp[h0]
   ·right;obtain⟨b,off,rfl⟩:=aa8_ (by simpa using(hfa 0 (by omega)).1);refine⟨b,off,rfl,fun i hi=>?_⟩;have hi':i<len:=(by simpa using hi);have hnth:((List.range len).map f).getD i slt0=f i:=(by simp[List.getD,hi']);have hc:=hfa i hi';rw[jc_,jc_,jc_,jc_,jc_,jc_] at hc;rw[hnth];simpa only[Nat.add_assoc] using hc
theorem aph_ {fuel:Nat} {v:Value} {x:DataW H×List MemPlace} (h:DataW.trod enc Tryz.prog w 0 (fun _=>true) true fuel 22 [v]=some x) (hw:∀ n∈x.1.weights Tryz.prog 22,n≤reachBytes):∃ l,CdP w v l∧BdP l:=by
 rcases Deep.open_slice Tryz.underlying22 h with⟨hcs,_⟩|⟨a,len,cap,m,n,D,Pl,hcs,_,hl,hm,hmm,hxx,hx⟩
 ·simp at hcs;subst hcs;exact⟨[],⟨_,_,rfl,by simp,.inl rfl⟩,⟨by simp,by simp,by simp,by simp⟩⟩
 · simp at hcs hmm;subst hcs;have hb:len*96≤140737488351232:=by
    have:=hw (len*96+(m - len)*96) (by
     rw[hxx];simp only[DataW.weights,Tryz.underlying22,ar8_,List.length_map,List.length_range,List.mem_cons];left;omega)
    unfold reachBytes at this;omega
   have each:∀ i,i<len→∃ y:Pr×Value×Value×Value,w.cell? (a.add (i*5))=some (.int .i64 y.1.k)∧w.cell? (a.add (i*5+1))=some (.string y.1.nm)∧w.cell? (a.add (i*5+2))=some y.2.1∧w.cell? (a.add (i*5+3))=some y.2.2.1∧w.cell? (a.add (i*5+4))=some y.2.2.2∧
    rd w y.2.1 y.1.fs∧SlAt w y.2.2.1 y.1.sl∧TxtAt w y.2.2.2 y.1.tx∧y.1.fs.length≤17592186043904∧y.1.sl.length*56≤140737488351232∧y.1.tx.length*32≤140737488351232:=fun i hi=>by
    obtain⟨cs',h1,h2⟩:=hx i (by omega);have hwi:∀ k∈(D i).weights Tryz.prog 44,k≤reachBytes:=fun k hk=>hw k (by
     rw[hxx];simp only[DataW.weights,Tryz.underlying22,List.mem_cons,List.mem_append];right;left;exact aaj_ (d:=D i) (List.mem_map.2 ⟨i,List.mem_range.2 hi,rfl⟩) k hk)
    rw[asj_] at h1;obtain⟨_,hlen,hcell⟩:=World.cells?_some h1;obtain⟨xs,k,hk,hxy,_,hxl,hf⟩:=DataW.trod_struct Tryz.underlying44 h2;obtain⟨y0,y1,y2,y3,y4,rfl⟩:=len5 hxl;obtain⟨v0,v1,v2,v3,v4,rfl⟩:=len5 hlen;focus
     have g0:=hf 0 _ rfl;have g1:=hf 1 _ rfl;have g2:=hf 2 _ rfl;have g3:=hf 3 _ rfl;have g4:=hf 4 _ rfl;simp[asc_,apg_,asd_,ase_,asf_] at g0 g1 g2 g3 g4;have e0:=hcell 0 (by omega);have e1:=hcell 1 (by omega);have e2:=hcell 2 (by omega);have e3:=hcell 3 (by omega);have e4:=hcell 4 (by omega);rw[Deep.add_add] at e0 e1 e2 e3 e4;simp only[Prod.mk.injEq] at hxy;have hD:=hxy.1;have wt:∀ k,k∈y2.1.weights Tryz.prog 25∨k∈y3.1.weights Tryz.prog 42∨k∈y4.1.weights Tryz.prog 41→k≤reachBytes:=fun k hk=>hwi k (by
      rw[hD];simp only[DataW.weights,Tryz.underlying44];simp[DataW.weightsEach];rcases hk with h|h|h
      ·exact .inr (.inr (.inl h))
      ·exact .inr (.inr (.inr (.inl h)))
      ·exact .inr (.inr (.inr (.inr h))))
     obtain⟨k',hk',_,_⟩:=DataW.trod_int Tryz.underlying37 g0;obtain⟨s',hs',_,_⟩:=DataW.trod_string Tryz.underlying9 g1;obtain⟨fs,r1,b1⟩:=aim_ g2 (fun k hk=>wt k (.inl hk));obtain⟨sl,r2,b2⟩:=amt_ g3 (fun k hk=>wt k (.inr (.inl hk)));obtain⟨tx,r3,b3⟩:=ams_ g4 (fun k hk=>wt k (.inr (.inr hk)));simp at hk' hs';subst hk' hs';exact⟨(⟨k',s',fs,sl,tx⟩,v2,v3,v4),by simpa using e0,by simpa using e1,by simpa using e2,by simpa using e3,by simpa using e4,r1,r2,r3,b1,b2,b3⟩
   obtain⟨f,hfa⟩:=@Deep.choose_lt (Pr×Value×Value×Value) ⟨(pr0,.slice none 0 0,.slice none 0 0,.slice none 0 0)⟩ _ _ each;have hget:∀ i,i<len→((List.range len).map (fun i=>(f i).1)).getD i pr0=(f i).1:=fun i hi=>by simp[List.getD,hi]
   refine⟨(List.range len).map (fun i=>(f i).1),⟨some a,cap,by simp,by simpa using hl,?_⟩,⟨by simpa using hb,fun i hi=>?_,fun i hi=>?_,fun i hi=>?_⟩⟩
   · by_cases h0:len=0
     ·left;simp[h0]
     ·right;obtain⟨b,off,rfl⟩:=aa8_ (by simpa using(hfa 0 (by omega)).1);refine⟨b,off,rfl,fun i hi=>?_⟩;have hi':i<len:=(by simpa using hi);obtain⟨c0,c1,c2,c3,c4,r1,r2,r3,_⟩:=hfa i hi';rw[jc_] at c0 c1 c2 c3 c4;rw[hget i hi'];exact⟨_,_,_,c0,by simpa only[Nat.add_assoc] using c1,by simpa only[Nat.add_assoc] using c2,by simpa only[Nat.add_assoc] using c3,by simpa only[Nat.add_assoc] using c4,r1,r2,r3⟩
   ·have hi':i<len:=(by simpa using hi);rw[hget i hi'];exact(hfa i hi').2.2.2.2.2.2.2.2.1
   ·have hi':i<len:=(by simpa using hi);rw[hget i hi'];exact(hfa i hi').2.2.2.2.2.2.2.2.2.1
   ·have hi':i<len:=(by simpa using hi);rw[hget i hi'];exact(hfa i hi').2.2.2.2.2.2.2.2.2.2
end
end Go.Proofs.YtcgbfhpmkpglkaaGreatDoor
namespace Go.Proofs.YtcgbfhpmkpglkaaGreatDoor
open Go.ChangeShapes Go.WideShapes Go.ChangeAt Go.RowKit Go.Lib
def ain_:List (String×DataW Unit):=[("plantwright/code.standards",Rows.laid_plantwright_code_standards)]
theorem api_ {s:ByteArray} {l:List UInt8} (h:s.data.toList=l):s={ data:=l.toArray }:=by
 subst h;simp
set_option maxRecDepth 100000 in
theorem agb_ {W:World} (h:laidMetH Tryz.prog ain_ W):Stds W:=by
 rw[MakeChecks.laidMetH_plain _ _ _ (by kernel_rfl)] at h
 obtain ⟨g',t',cs,fuel,p,hg',ht',hvar,hd⟩:=(show VarReads Tryz.prog W "plantwright/code.standards" Rows.laid_plantwright_code_standards from Lib.laidMet.reads h (.head _))
 have hg:Tryz.prog.globalNamed "plantwright/code.standards"=some 0:=by kernel_rfl
 have hty:(Tryz.prog.globals[0]?).map (·.type)=some 129:=(by kernel_rfl);obtain rfl:=Option.some.inj (hg.symm.trans hg');obtain rfl:=Option.some.inj (hty.symm.trans ht');have c9:Tryz.prog.cellsOf 9=1:=(by kernel_rfl);obtain⟨xs,m,_,hx,hl,hxl,hf⟩:=DataW.trod_array Tryz.underlying129 hd;have hx1:xs.map (·.1)=[.lit (.string [116,111,110]),.lit (.string [116,111,102]),.lit (.string [116,112]),.lit (.string [99,116,117]),.lit (.string [99,116,100]),.lit (.string [99,116,117,100]),.lit (.string [114,95,116,114,105,103]),.lit (.string [102,95,116,114,105,103]),.lit (.string [115,114]),.lit (.string [114,115]),.lit (.string [114,97,109,112]),.lit (.string [104,121,115,116])]:=by
  have:=congrArg Prod.fst hx;simp only[Rows.laid_plantwright_code_standards,DataW.agg.injEq] at this;exact this.symm
 have key:∀ k (l:List UInt8),k<12→(xs.map (·.1))[k]?=some (.lit (.string l))→W.cell? ⟨0,k,none⟩=some (.string { data:=l.toArray }):=fun k l hk hl'=>by
  have h1:=hf k hk;rw[c9,Nat.mul_one] at h1;rw[List.getElem?_map] at hl';obtain⟨y,hy,hy1⟩:=Option.map_eq_some_iff.1 hl';rw[hy] at h1;obtain⟨s,hs1,hs2,_⟩:=DataW.trod_string Tryz.underlying9 h1;have hs3:s.data.toList=l:=by
   rw[hs2] at hy1;simpa using hy1
  rw[World.var?_cell hg hvar k];have hk2:cs.toList[k]?=some (.string s):=by
   have h2:(cs.toList.drop k)[0]?=((cs.toList.drop k).take 1)[0]?:=(by simp);rw[hs1] at h2;simpa using h2
  rw[← Array.getElem?_toList,hk2,api_ hs3]
 intro k hk;have h12:k=0∨k=1∨k=2∨k=3∨k=4∨k=5∨k=6∨k=7∨k=8∨k=9∨k=10∨k=11:=(by omega);rcases h12 with rfl|rfl|rfl|rfl|rfl|rfl|rfl|rfl|rfl|rfl|rfl|rfl <;> exact key _ _ (by omega) (by rw[hx1];rfl)
theorem auv_ {α:Type} {cs:Array α} (h:cs.size=1):∃ c0,cs=#[c0]:=by
 obtain⟨l⟩:=cs;match l,h with
 | [c0],_=>exact⟨c0,rfl⟩
theorem ask_:Tryz.prog.cellsOf 24=1:=by kernel_rfl
theorem ac1_:laidOutB Tryz.prog=true:=by kernel_rfl
theorem asl_:ownKnob Tryz.prog.godebug=none:=by kernel_rfl
section
variable {H:Type} {enc:TypeId×Value→H} {W:World}
set_option maxRecDepth 100000 in
theorem asm_ {base:Nat} {v0:Value} {d0:DataW H} {p0:List MemPlace} (hv:Value.okWide Tryz.prog W .any base 24 v0) (h0:∃ fuel,DataW.trod enc Tryz.prog W 0 (fun _=>true) true fuel 24 v0.cells.toList=some (d0,p0)) (hw:∀ k∈d0.weights Tryz.prog 24,k≤reachBytes):∃ x,v0=.agg #[x]∧∃ ps,CdP W x ps∧BdP ps:=by
 obtain⟨cs,rfl,hcs⟩:=okWide_struct Tryz.underlying24 hv;obtain⟨c0,rfl⟩:=auv_ (hcs.trans ask_);obtain⟨fuel,hf⟩:=h0;obtain⟨y0,n,hx,_,hy⟩:=trod_struct1 Tryz.underlying24 hf;simp only[Prod.mk.injEq] at hx;have hy':DataW.trod enc Tryz.prog W 0 (fun _=>true) true n 22 [c0]=some y0:=(by simpa[Value.cells,asg_] using hy);have hw':∀ k∈y0.1.weights Tryz.prog 22,k≤reachBytes:=fun k hk=>hw k (by
  rw[hx.1];simp only[DataW.weights,Tryz.underlying24];simp[DataW.weightsEach];exact hk)
 obtain⟨l,h1,h2⟩:=aph_ hy' hw';exact⟨c0,rfl,l,h1,h2⟩
end
end Go.Proofs.YtcgbfhpmkpglkaaGreatDoor
