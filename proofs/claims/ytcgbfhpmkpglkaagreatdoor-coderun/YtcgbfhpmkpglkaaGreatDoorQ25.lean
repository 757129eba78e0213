/- Texts put together: Y2, Y4. -/
import Derived.Test.YtcgbfhpmkpglkaaGreatDoorQ23
import Derived.Test.YtcgbfhpmkpglkaaGreatDoorQ24
set_option linter.unusedVariables false
set_option linter.unusedSimpArgs false
set_option maxHeartbeats 8000000
namespace Go.Proofs.YtcgbfhpmkpglkaaGreatDoor
open Go.RowKit
def k0_:Code→Option Code
 | .loop c=>some c
 | .seq a b=>match k0_ a with
  | some c=>some c
  | none=>k0_ b
 | .block _ c=>k0_ c
 | .scope c=>k0_ c
 | .cond _ a b=>match k0_ a with
  | some c=>some c
  | none=>k0_ b
 | _=>none
def zg_ (F:Func):Code:=(F.body.bind k0_).getD .skip
def aq6_ (c w:World) (B M:Nat) (fv:Value) (n off al:Nat) (pv:Value) (now:Int) (r0:Option Nat) (m':Ms) (w':World):Prop:=
 ∃ sa' sc',RC c w' B M fv (sub m'.ar off n) pv now sa' sc' m'.st m'.sp m'.fl∧m'.ar.length=al∧Chg M fv.ownBlock r0 w w'∧Nx w r0 (sb sa')
def RefU (c:World) (pb po np pcap:Nat) (ps:List Pr) (now:Int) (u n:Nat):Prop:=
 ∀(w:World) (B M:Nat) (fv:Value) (sa:Option Addr) (sc:Nat) (st:List Int) (sp fl:Int) (off k:Nat) (ar:List Int) (m':Ms),
  RC c w B M fv (sub ar off n) (.slice (some ⟨pb,po,none⟩) np pcap) now sa sc st sp fl→off+n≤ar.length→Ex ps now k u off 0 j4_ ⟨st,ar,sp,fl⟩ m'→
  Calls Tryz.prog 16 #[.pointer (some ⟨M,0,none⟩),.int .i64 u,fv] w fun e w'=>e=.returned fv∧aq6_ c w B M fv n off ar.length (.slice (some ⟨pb,po,none⟩) np pcap) now (sb sa) m' w'
structure St (c w:World) (B M C:Nat) (fv:Value) (n off al:Nat) (pv:Value) (now:Int) (r0:Option Nat) (sa:Option Addr) (sc:Nat) (st ar:List Int) (sp fl:Int) (cs:List Int) (wr:World):Prop where
 rc:RC c wr B M fv (sub ar off n) pv now sa sc st sp fl
 lb:wr.heap[C]?=some (.cells (xi_ cs) 3)
 cl:cs.length=40
 cn:some C≠sb sa
 cm:C≠M
 cf:some C≠fv.ownBlock
 cc:w.heap.size≤C
 cw:c.heap.size≤w.heap.size
 hal:ar.length=al
 ol:off+n≤al
 n2:n≤20000
 ch:Chg M fv.ownBlock r0 w wr
 nx:Nx w r0 (sb sa)
section
variable {c w wr w':World} {B M C:Nat} {fv:Value} {n off al:Nat} {pv:Value} {now:Int} {r0:Option Nat} {sa sa':Option Addr} {sc sc':Nat} {st st' ar ar':List Int} {sp fl sp' fl':Int} {cs cs':List Int}
theorem St.next (h:St c w B M C fv n off al pv now r0 sa sc st ar sp fl cs wr) (hr:RC c w' B M fv (sub ar' off n) pv now sa' sc' st' sp' fl') (hc:Chg M fv.ownBlock (sb sa) wr w') (hn:Nx wr (sb sa) (sb sa')) (ha:ar'.length=al):St c w B M C fv n off al pv now r0 sa' sc' st' ar' sp' fl' cs w':=
 ⟨hr,(hc.block C (xg_ h.lb) h.cm h.cf h.cn).trans h.lb,h.cl,fun e=>by
  rcases hn with e2|e2
  ·rw[e2] at e;exact h.cn e
  ·have:=e2 C e.symm;have:=xg_ h.lb;omega,h.cm,h.cf,h.cc,h.cw,ha,h.ol,h.n2,h.ch.trans h.nx hc,Nx.trans h.ch.size h.nx hn⟩
theorem St.kept (h:St c w B M C fv n off al pv now r0 sa sc st ar sp fl cs wr) (hg:wr.grownBy w' none):St c w B M C fv n off al pv now r0 sa sc st ar sp fl cs w':=
 h.next (h.rc.kept hg) (Chg.of_none hg) (Nx.refl _ _) h.hal
theorem St.setS (h:St c w B M C fv n off al pv now r0 sa sc st ar sp fl cs wr) (y:Int):St c w B M C fv n off al pv now r0 sa sc st ar y fl cs (wr.setCell ⟨M,3,none⟩ (.int .i64 y)):=
 h.next (h.rc.setS y) (q4_ M 3 _ _ _ _) (Nx.refl _ _) h.hal
theorem St.setF (h:St c w B M C fv n off al pv now r0 sa sc st ar sp fl cs wr) (y:Int):St c w B M C fv n off al pv now r0 sa sc st ar sp y cs (wr.setCell ⟨M,4,none⟩ (.int .i64 y)):=
 h.next (h.rc.setF y) (q4_ M 4 _ _ _ _) (Nx.refl _ _) h.hal
theorem St.stack (h:St c w B M C fv n off al pv now r0 sa sc st ar sp fl cs wr) (m:RMa w' B M pv now sa' sc' st' sp' fl') (k:Chg M none (sb sa) wr w') (hn:Nx wr (sb sa) (sb sa')):St c w B M C fv n off al pv now r0 sa' sc' st' ar sp' fl' cs w':=
 h.next (h.rc.chg m k hn) k.wide hn h.hal
theorem St.count (h:St c w B M C fv n off al pv now r0 sa sc st ar sp fl cs wr) (k:Nat) (y:Int):St c w B M C fv n off al pv now r0 sa sc st ar sp fl (cs.set k y) (wr.setCell ⟨C,k,none⟩ (.int .i64 y)):=by
 have hg:wr.grownBy (wr.setCell ⟨C,k,none⟩ (.int .i64 y)) (some C):=x3_ gz_ _ _;have hcn:c.heap.size≤C:=Nat.le_trans h.cw h.cc;have hb:∀ x,x≠C→(wr.setCell ⟨C,k,none⟩ (.int .i64 y)).heap[x]?=wr.heap[x]?:=fun x hx=>Below.heap_setCell _ _ _ _ (by simpa using hx);refine⟨⟨⟨?_,World.ownsRow.kept h.rc.ma.own hg (.inr fun e=>by rw[jl_] at e;exact h.cn e.symm),h.rc.ma.lo⟩,?_,h.rc.fm,?_,h.rc.cM,h.rc.cB,by simpa using h.rc.bw⟩,?_,by simpa using h.cl,h.cn,h.cm,h.cf,h.cc,h.cw,h.hal,h.ol,h.n2,?_,h.nx⟩
 ·rw[hb M (Ne.symm h.cm)];exact h.rc.ma.blk
 ·exact World.ownsRow.kept h.rc.fr hg (.inr fun e=>h.cf e.symm)
 ·exact⟨h.rc.cw.os,h.rc.cw.tape,h.rc.cw.output,by simpa using h.rc.cw.size,fun x hx hn=>by rw[hb x (by omega)];exact h.rc.cw.block x hx hn⟩
 ·rw[xk_ h.lb,yp_]
 ·exact⟨h.ch.os,h.ch.tape,h.ch.output,by simpa using h.ch.size,fun x h1 h2 h3 h4=>by rw[hb x (by have:=h.cc;omega)];exact h.ch.block x h1 h2 h3 h4⟩
end
theorem agr_ (ar:List Int) (off n j:Nat) (hj:j<n):(sub ar off n).getD j 0=ar.getD (off+j) 0:=by
 simp[sub,List.getD,List.getElem?_take,hj]
theorem ats_ (ar:List Int) (off n j:Nat) (v:Int) (hj:j<n):sub (ar.set (off+j) v) off n=(sub ar off n).set j v:=by
 unfold sub;apply List.ext_getElem?;intro k;by_cases hk:k<n
 · simp only[List.getElem?_take,List.getElem?_drop,List.getElem?_set,List.length_take,List.length_drop,hk,if_true];by_cases e:j=k
   · subst e;simp only[if_true];by_cases h2:off+j<ar.length
     ·simp[h2,hk];omega
     ·simp[h2];omega
   ·simp[e,show ¬off+j=off+k by omega]
 ·rw[List.getElem?_set,if_neg (by omega),List.getElem?_eq_none (by simp;omega),List.getElem?_eq_none (by simp;omega)]
section
variable {c w wr w':World} {B M C:Nat} {fv:Value} {n off al:Nat} {pv:Value} {now:Int} {r0:Option Nat} {sa sa':Option Addr} {sc sc':Nat} {st st' ar ar':List Int} {sp fl sp' fl':Int} {cs cs':List Int}
theorem St.slen (h:St c w B M C fv n off al pv now r0 sa sc st ar sp fl cs wr):(sub ar off n).length=n:=jt_ ar off n (by rw[h.hal];exact h.ol)
theorem St.fvs (h:St c w B M C fv n off al pv now r0 sa sc st ar sp fl cs wr) (hn:0<n):∃ g fc,fv=.slice (some ⟨g,0,none⟩) n fc∧n≤fc:=by
 have h1:=h.slen;obtain⟨_,⟨e,e2⟩|⟨g,fc,cur,e,_,_,hc,_⟩⟩:=h.rc.fr
 ·omega
 ·rw[h1] at e hc;exact⟨g,fc,e,hc⟩
theorem St.get {g fc:Nat} (h:St c w B M C (.slice (some ⟨g,0,none⟩) n fc) n off al pv now r0 sa sc st ar sp fl cs wr) (j:Nat) (hj:j<n):wr.cell? ⟨g,j,none⟩=some (.int .i64 (ar.getD (off+j) 0)):=by
 have h1:=h.slen;have h2:=h.rc.fr;have h3:OwnV c.heap.size wr (.slice (some ⟨g,0,none⟩) (sub ar off n).length fc) (sub ar off n):=(by rw[h1];exact h2);have:=h3.get j (by omega);rw[agr_ ar off n j hj] at this;exact this
theorem St.frz {g fc:Nat} (h:St c w B M C (.slice (some ⟨g,0,none⟩) n fc) n off al pv now r0 sa sc st ar sp fl cs wr) (j:Nat):wr.frozen? ⟨g,j,none⟩=false:=by
 have h1:=h.slen;have h3:OwnV c.heap.size wr (.slice (some ⟨g,0,none⟩) (sub ar off n).length fc) (sub ar off n):=(by rw[h1];exact h.rc.fr);exact h3.frozen j
theorem St.store {g fc:Nat} (h:St c w B M C (.slice (some ⟨g,0,none⟩) n fc) n off al pv now r0 sa sc st ar sp fl cs wr) (j:Nat) (hj:j<n) (v:Int):St c w B M C (.slice (some ⟨g,0,none⟩) n fc) n off al pv now r0 sa sc st (ar.set (off+j) v) sp fl cs (wr.setCell ⟨g,j,none⟩ (.int .i64 v)):=by
 have h1:=h.slen;have h3:OwnV c.heap.size wr (.slice (some ⟨g,0,none⟩) (sub ar off n).length fc) (sub ar off n):=(by rw[h1];exact h.rc.fr);have h4:=h3.store j v;rw[h1,← ats_ ar off n j v hj] at h4;refine h.next (h.rc.frame h4 (fun x hx=>Below.heap_setCell _ _ _ _ (by simpa[Value.ownBlock] using hx)) (by simp) rfl rfl rfl) ?_ (Nx.refl _ _) (by simpa using h.hal);exact⟨rfl,rfl,rfl,by simp,fun k hk _ hF _=>Below.heap_setCell _ _ _ _ (by simpa[Value.ownBlock] using hF)⟩
theorem St.top {r:List Int} {v:Int} (h:St c w B M C fv n off al pv now r0 sa sc (r++[v]) ar sp fl cs wr) (hl:r.length≤900000) {X:Nat} {o:Obj} (hx:wr.heap[X]?=some o) (hX1:X≠M) (hX2:some X≠sb sa) (W:World) (hW:wr.grownBy W none) :
 Calls Tryz.prog 25 #[.pointer (some ⟨M,0,none⟩)] W fun e w'=>e=.returned (.int .i64 v)∧St c w B M C fv n off al pv now r0 sa sc r ar sp fl cs w'∧w'.heap[X]?=some o:=by
 refine(aqw_ B M pv now sa sc r sp fl v W (h.kept hW).rc.ma hl).mono fun e w' ⟨h1,h2,h3⟩=>⟨h1,(h.kept hW).stack h2 h3 (Nx.refl _ _),?_⟩;have hx2:=YtcgbfhpmkpglkaaGreatDoor.kept hW hx;exact(h3.block X (xg_ hx2) hX1 (by simp) hX2).trans hx2
end
def Ap:Nat→(List Value→Prop)→Prop
 | 0,P=>P []
 | n+1,P=>∀ x,Ap n (fun l=>P (x::l))
theorem zh_:∀(n:Nat) {P:List Value→Prop},Ap n P→∀ l:List Value,l.length=n→P l
 | 0,P,h,l,hl=>by
  obtain rfl:=List.length_eq_zero_iff.1 hl;exact h
 | n+1,P,h,l,hl=>by
  cases l with
  | nil=>simp at hl
  | cons x l'=>exact zh_ n (h x) l' (by simpa using hl)
def yr_ (M u:Nat) (fv tv lv:Value) (c3 c4 c5:Value) (i:Int) (l:List Value):Act:=⟨List.toArray (.pointer (some ⟨M,0,none⟩)::.int .i64 u::fv::c3::c4::c5::.slice none 0 0::tv::lv::.int .i64 i::l),[]⟩
def als_ (ps:List Pr) (u:Nat) (m':Ms) (c w:World) (B M C:Nat) (fv:Value) (n off al:Nat) (pv:Value) (now:Int) (r0:Option Nat) (tn:Nat) (tv lv c3 c4 c5:Value) (gk:Nat) (a:Act) (wx:World):Prop:=
 ∃(i:Nat) (l:List Value) (sa:Option Addr) (sc:Nat) (st ar:List Int) (sp fl:Int) (cs:List Int),a=yr_ M u fv tv lv c3 c4 c5 (i:Int) l∧l.length=397∧i≤tn∧St c w B M C fv n off al pv now r0 sa sc st ar sp fl cs wx∧Ex ps now gk u off i cs ⟨st,ar,sp,fl⟩ m'
def bl (ar br:List Int) (p k:Nat):List Int:=(List.range ar.length).map (fun i=>if p≤i∧i<p+k then br.getD i 0 else ar.getD i 0)
theorem ags_ (ar br:List Int) (p k:Nat):(bl ar br p k).length=ar.length:=by simp[bl]
theorem agt_ (ar br:List Int) (p:Nat):bl ar br p 0=ar:=by
 apply List.ext_getElem?;intro i;by_cases h:i<ar.length
 ·simp[bl,h];omega
 ·simp[bl,h]
theorem at0_ (ar br:List Int) (p k:Nat):(bl ar br p k).set (p+k) (br.getD (p+k) 0)=bl ar br p (k+1):=by
 apply List.ext_getElem?;intro i;rw[List.getElem?_set,ags_];by_cases h:i<ar.length
 · by_cases e:p+k=i
   ·subst e;simp[bl,h]
   · rw[if_neg e];simp only[bl,List.getElem?_map,List.getElem?_range h,Option.map_some];congr 1;by_cases h2:p≤i∧i<p+k
     ·rw[if_pos h2,if_pos om_]
     ·rw[if_neg h2,if_neg om_]
 · have e1:(bl ar br p k)[i]?=none:=List.getElem?_eq_none (by rw[ags_];omega);have e2:(bl ar br p (k+1))[i]?=none:=List.getElem?_eq_none (by rw[ags_];omega);rw[e1,e2];split
   ·simp[h];omega
   ·rfl
theorem akr_ {ar br:List Int} {p k:Nat} (hl:br.length=ar.length) (h:∀ q,q<p∨p+k≤q→br.getD q 0=ar.getD q 0):bl ar br p k=br:=by
 apply List.ext_getElem?;intro i;by_cases hi:i<ar.length
 · have hb:i<br.length:=om_;simp only[bl,List.getElem?_map,List.getElem?_range hi,Option.map_some];rw[List.getElem?_eq_getElem hb];congr 1;have e:br.getD i 0=br[i]:=(by simp[List.getD,hb]);by_cases h2:p≤i∧i<p+k
   ·rw[if_pos h2,e]
   ·rw[if_neg h2,← h i om_,e]
 ·rw[List.getElem?_eq_none (by rw[ags_];omega),List.getElem?_eq_none om_]
theorem alt_ (ar:List Int) (off n j k:Nat) (h:j+k≤n):sub (sub ar off n) j k=sub ar (off+j) k:=by
 unfold sub;rw[List.drop_take,List.take_take,List.drop_drop];congr 1;omega
theorem alu_ (ar:List Int) (q:Nat) (l:List Int) (i:Nat) (h:i<q∨q+l.length≤i) (hq:q+l.length≤ar.length):(put ar q l).getD i 0=ar.getD i 0:=by
 unfold put;simp only[List.getD];rcases h with h|h
 ·rw[List.append_assoc,List.getElem?_append_left (by simp;omega),List.getElem?_take,if_pos h]
 ·rw[List.getElem?_append_right (by simp;omega),List.getElem?_drop];congr 2;simp;omega
theorem q1_ (Fn:List Int→List Int→Int→List Int×List Int) (kS kI:List Int) (ni no ns:Nat) (hl:Bl.k8_ ns no kS kI Fn) (now:Int) (ar:List Int) (p:Nat) (h:p+(ni+no+ns)≤ar.length) (q:Nat) (hq:q<p∨p+(ni+no+ns)≤q):(vq_ Fn kS kI ni no ns now ar p).getD q 0=ar.getD q 0:=by
 unfold vq_;obtain⟨h1,h2⟩:=hl (sub ar (p+(ni+no)) ns) (sub ar p ni) (Bl.xd_ 5 now);have e:(put ar (p+ni) (Fn (Bl.xm_ kS (sub ar (p+(ni+no)) ns)) (Bl.xm_ kI (sub ar p ni)) (Bl.xd_ 5 now)).2).length=ar.length:=vp_ _ _ _ (by rw[h2];omega);rw[alu_ _ _ _ q (by rw[h1];omega) (by rw[h1,e];omega),alu_ _ _ _ q (by rw[h2];omega) (by rw[h2];omega)]
theorem ai2_ (num now:Int) (ar:List Int) (p:Nat) (h1:1≤num) (h2:num≤12) (h:(p:Int)+yk_ num≤ar.length):(q0_ num now ar p).length=ar.length∧∀ q:Nat,(q<p∨(p:Int)+yk_ num≤q)→(q0_ num now ar p).getD q 0=ar.getD q 0:=by
 have hn:num=1∨num=2∨num=3∨num=4∨num=5∨num=6∨num=7∨num=8∨num=9∨num=10∨num=11∨num=12:=om_;rcases hn with rfl|rfl|rfl|rfl|rfl|rfl|rfl|rfl|rfl|rfl|rfl|rfl
 ·simp[yk_] at h;exact⟨y0_ _ _ _ _ _ _ Bl.us_ now ar p om_,fun q hq=>q1_ _ _ _ _ _ _ Bl.us_ now ar p om_ q (by simp[yk_] at hq;omega)⟩
 ·simp[yk_] at h;exact⟨y0_ _ _ _ _ _ _ Bl.ut_ now ar p om_,fun q hq=>q1_ _ _ _ _ _ _ Bl.ut_ now ar p om_ q (by simp[yk_] at hq;omega)⟩
 ·simp[yk_] at h;exact⟨y0_ _ _ _ _ _ _ Bl.aa9_ now ar p om_,fun q hq=>q1_ _ _ _ _ _ _ Bl.aa9_ now ar p om_ q (by simp[yk_] at hq;omega)⟩
 ·simp[yk_] at h;exact⟨y0_ _ _ _ _ _ _ Bl.uu_ now ar p om_,fun q hq=>q1_ _ _ _ _ _ _ Bl.uu_ now ar p om_ q (by simp[yk_] at hq;omega)⟩
 ·simp[yk_] at h;exact⟨y0_ _ _ _ _ _ _ Bl.uv_ now ar p om_,fun q hq=>q1_ _ _ _ _ _ _ Bl.uv_ now ar p om_ q (by simp[yk_] at hq;omega)⟩
 ·simp[yk_] at h;exact⟨y0_ _ _ _ _ _ _ Bl.vx_ now ar p om_,fun q hq=>q1_ _ _ _ _ _ _ Bl.vx_ now ar p om_ q (by simp[yk_] at hq;omega)⟩
 ·simp[yk_] at h;exact⟨y0_ _ _ _ _ _ _ Bl.ky_ now ar p om_,fun q hq=>q1_ _ _ _ _ _ _ Bl.ky_ now ar p om_ q (by simp[yk_] at hq;omega)⟩
 ·simp[yk_] at h;exact⟨y0_ _ _ _ _ _ _ Bl.kz_ now ar p om_,fun q hq=>q1_ _ _ _ _ _ _ Bl.kz_ now ar p om_ q (by simp[yk_] at hq;omega)⟩
 ·simp[yk_] at h;exact⟨y0_ _ _ _ _ _ _ Bl.aba_ now ar p om_,fun q hq=>q1_ _ _ _ _ _ _ Bl.aba_ now ar p om_ q (by simp[yk_] at hq;omega)⟩
 ·simp[yk_] at h;exact⟨y0_ _ _ _ _ _ _ Bl.abb_ now ar p om_,fun q hq=>q1_ _ _ _ _ _ _ Bl.abb_ now ar p om_ q (by simp[yk_] at hq;omega)⟩
 ·simp[yk_] at h;exact⟨y0_ _ _ _ _ _ _ Bl.vy_ now ar p om_,fun q hq=>q1_ _ _ _ _ _ _ Bl.vy_ now ar p om_ q (by simp[yk_] at hq;omega)⟩
 ·simp[yk_] at h;exact⟨y0_ _ _ _ _ _ _ Bl.vz_ now ar p om_,fun q hq=>q1_ _ _ _ _ _ _ Bl.vz_ now ar p om_ q (by simp[yk_] at hq;omega)⟩
theorem alv_ (ar:List Int) (k q:Nat) (v:Int) (h:q≠k):(ar.set k v).getD q 0=ar.getD q 0:=by
 simp[List.getD,List.getElem?_set,Ne.symm h]
theorem aks_ (ar:List Int) (p k q:Nat) (v:Int) (h:q<p∨p+k≤q):(zz_ ar p k v).getD q 0=ar.getD q 0:=by
 by_cases hq:q<ar.length
 ·simp only[zz_,List.getD,List.getElem?_map,List.getElem?_range hq,Option.map_some,Option.getD_some];rw[if_neg om_]
 ·simp[List.getD,List.getElem?_eq_none (show(zz_ ar p k v).length≤q by rw[v7_];omega),List.getElem?_eq_none (show ar.length≤q by omega)]
theorem at1_ {l:List (Int×Nat)} {n tl i:Nat} {now:Int} {off:Nat} {x:Ins} {m:Ms} (hm:ug_ l n tl i x=true) (h:off+n≤m.ar.length):(doX now off x m).ar.length=m.ar.length∧∀ q:Nat,(q<off∨off+n≤q)→(doX now off x m).ar.getD q 0=m.ar.getD q 0:=by
 obtain⟨d,a,b,c⟩:=x;simp only[ug_,Bool.and_eq_true] at hm;have hf:=hm.2;by_cases e3:d=3
 · subst e3;simp[xv_,y3_,isW] at hf;refine⟨by simp[doX],fun q hq=>?_⟩;show(m.ar.set (off+a.toNat) (top m.st)).getD q 0=_
   exact alv_ _ _ _ _ om_
 by_cases e5:d=5
 · subst e5;simp[xv_,y3_,isW] at hf;have e:(doX now off ⟨5,a,b,c⟩ m).ar=if isW (top m.st.dropLast) c (c+b - 1)=true then m.ar.set (off+(a+top m.st.dropLast - c).toNat) (top m.st) else m.ar:=rfl
   rw[e];split
   ·rename_i hin;simp[isW] at hin;exact⟨by simp,fun q hq=>alv_ _ _ _ _ om_⟩
   ·exact⟨rfl,fun q hq=>rfl⟩
 by_cases e16:d=16
 ·subst e16;simp[xv_,y3_,isW] at hf;exact⟨v7_ _ _ _ _,fun q hq=>aks_ m.ar (off+a.toNat) b.toNat q c om_⟩
 by_cases e18:d=18
 ·subst e18;simp[xv_,y3_,isW] at hf;have:=ai2_ a now m.ar (off+b.toNat) om_ om_ om_;exact⟨this.1,fun q hq=>this.2 q om_⟩
 have e:(doX now off ⟨d,a,b,c⟩ m).ar=m.ar:=by
  simp only[doX,e3,e5,e16,e18,if_false];repeat' split
  all_goals rfl
 rw[e];exact⟨rfl,fun q hq=>rfl⟩
theorem alw_ {ps:List Pr} {u n tl i:Nat} {x:Ins} (hu:u≤ps.length) (hm:ug_ (ahd ps u) n tl i x=true) (hd:x.d=17):0≤x.a∧x.a.toNat<u∧0≤x.b∧x.b.toNat+(ps.getD x.a.toNat pr0).fs.length≤n:=by
 obtain⟨d,a,b,c⟩:=x;dsimp only at hd ⊢;subst hd;simp only[ug_,Bool.and_eq_true] at hm;have hf:=hm.2;simp[xv_,z3_,y3_,isW] at hf;have hlen:=ji_ ps u hu;have hau:a.toNat<u:=om_;have hg:=v9_ ps u a.toNat hau hu;have hg2:((ahd ps u)[a.toNat]?.getD (0,0)).2=(ps.getD a.toNat pr0).fs.length:=by
  have:=congrArg Prod.snd hg;simpa[List.getD] using this
 rw[hg2] at hf;exact⟨by omega,hau,by omega,by omega⟩
theorem Ex.out {ps:List Pr} {now:Int} (HP:ac5_ ps) {k u off i:Nat} {cs:List Int} {m m':Ms} (h:Ex ps now k u off i cs m m'):u<ps.length→off+(ps.getD u pr0).fs.length≤m.ar.length→m'.ar.length=m.ar.length∧∀ q:Nat,(q<off∨off+(ps.getD u pr0).fs.length≤q)→m'.ar.getD q 0=m.ar.getD q 0:=by
 induction h with
 | fin h0=>intro hu hl;exact⟨rfl,fun q hq=>rfl⟩
 | plain x h0 h1 h2 h3 h4 h5 h6 h7 h8 ih=>
  rename_i k u off i cs m m';intro hu hl;have hm:=(HP u hu).may i h0;rw[h1] at hm;have d:=at1_ (now:=now) (off:=off) (m:=m.tick) hm hl;have r:=ih hu (by rw[d.1];exact hl);exact⟨r.1.trans d.1,fun q hq=>(r.2 q hq).trans (d.2 q hq)⟩
 | jump x h0 h1 h2 h3 h4 h5 h6 ih=>intro hu hl;exact ih hu hl
 | fall x h0 h1 h2 h3 h4 h5 h6 ih=>intro hu hl;exact ih hu hl
 | enter x h0 h1 h2 h3 h4 h5 h6 ih=>intro hu hl;exact ih hu hl
 | round x h0 h1 h2 h3 h4 h5 h6 h7 h8 h9 h10 ih=>intro hu hl;exact ih hu hl
 | call x h0 h1 h2 h3 h4 h5 ih1 ih2=>
  rename_i k k1 u off i cs m m1 m';intro hu hl;have hm:=(HP u hu).may i h0;rw[h1] at hm;have hc:=alw_ om_ hm h2;have d:=ih1 om_ (by show _≤m.ar.length;omega);have d1:m1.ar.length=m.ar.length:=d.1;have r:=ih2 hu (by rw[d1];exact hl);exact⟨r.1.trans d1,fun q hq=>(r.2 q hq).trans (d.2 q om_)⟩
theorem St.call {c w wr w':World} {B M C:Nat} {fv iv:Value} {n off al:Nat} {pv:Value} {now:Int} {r0:Option Nat} {sa sa':Option Addr} {sc sc':Nat} {st st' ar:List Int} {sp fl sp' fl':Int} {cs:List Int} (h:St c w B M C fv n off al pv now r0 sa sc st ar sp fl cs wr) (m:RMa w' B M pv now sa' sc' st' sp' fl') (k:Chg M iv.ownBlock (sb sa) wr w') (hn:Nx wr (sb sa) (sb sa'))
 (hi:∀ y,iv.ownBlock=some y→y≠C∧some y≠fv.ownBlock∧w.heap.size≤y):St c w B M C fv n off al pv now r0 sa' sc' st' ar sp' fl' cs w':=by
 have hci:∀ y,iv.ownBlock=some y→c.heap.size≤y:=fun y hy=>Nat.le_trans h.cw (hi y hy).2.2;refine⟨⟨m,h.rc.fr.chg k (fun y hy=>⟨(h.rc.fm y hy).1,fun e=>(hi y e.symm).2.1 hy.symm,(h.rc.fm y hy).2⟩),fun y hy=>⟨(h.rc.fm y hy).1,fun e=>?_⟩,y4_ h.rc.cw k h.rc.cM hci h.rc.rowc,h.rc.cM,h.rc.cB,by have:=h.rc.bw;have:=k.size;omega⟩,?_,h.cl,fun e=>?_,h.cm,h.cf,h.cc,h.cw,h.hal,h.ol,h.n2,?_,Nx.trans h.ch.size h.nx hn⟩
 · rcases hn with n'|n'
   ·rw[n'] at e;exact(h.rc.fm y hy).2 e
   ·have:=n' y e.symm;have:=(h.rc.fr.lt y hy).2;omega
 ·exact(k.block C (xg_ h.lb) h.cm (fun e=>(hi C e.symm).1 rfl) h.cn).trans h.lb
 · rcases hn with n'|n'
   ·rw[n'] at e;exact h.cn e
   ·have:=n' C e.symm;have:=xg_ h.lb;omega
 · refine⟨k.os.trans h.ch.os,k.tape.trans h.ch.tape,k.output.trans h.ch.output,Nat.le_trans h.ch.size k.size,fun x h1 h2 h3 h4=>?_⟩;refine(k.block x (Nat.lt_of_lt_of_le h1 h.ch.size) h2 (fun e=>by have:=(hi x e.symm).2.2;omega) (fun e=>?_)).trans (h.ch.block x h1 h2 h3 h4);rcases h.nx with n'|n'
   ·rw[n'] at e;exact h4 e
   ·have:=n' x e.symm;omega
end Go.Proofs.YtcgbfhpmkpglkaaGreatDoor
