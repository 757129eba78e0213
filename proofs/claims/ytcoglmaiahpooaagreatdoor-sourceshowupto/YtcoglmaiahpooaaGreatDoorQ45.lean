/- Texts put together: Po, Ec, Ed. -/
import Derived.Test.YtcoglmaiahpooaaGreatDoorQ42
import Derived.Test.YtcoglmaiahpooaaGreatDoorQ44
set_option linter.unusedVariables false
set_option linter.unusedSimpArgs false
set_option maxHeartbeats 8000000
namespace Go.Proofs.YtcoglmaiahpooaaGreatDoor
open Go.RowKit
attribute [local go_sem ↓] Go.wp_at_zero Go.wp_at_succ
theorem jg_ (es:List PE) (d:Int) (i:Nat) (hi:i<es.length) (h:∀ e∈es,xr_ d e=true):(shE (ex es i)).length+20≤100*y9_ es:=by
 have e:ex es i=es[i]:=(by simp[ex,List.getD,hi]);rw[e];have h1:=qd_ es[i] d (h _ (List.getElem_mem hi));have h2:=qa_ es i hi;omega
theorem add_ {α:Type} (f:α→Nat) (h:∀ a,1≤f a):∀ l:List α,l.length≤(l.map f).sum
 | []=>by simp
 | a::l=>by
  have:=add_ f h l;have:=h a;simp only[List.length_cons,List.map_cons,List.sum_cons];omega
theorem aam_ {α:Type} (f:α→Nat) (k:Nat):∀ l:List α,(l.map fun a=>k*f a).sum=k*(l.map f).sum
 | []=>by simp
 | a::l=>by simp[aam_ f k l,Nat.mul_add]
mutual
theorem aan_:∀(s:PS) (d:Int) (n:Nat),d≤41→(n:Int)≤4*d→ye_ d s=true→(shS n s).length≤2000*jb_ s
 | .mk v sa nm it es ps ms el bd lo hi by1 ti,d,n,hd,hn,h=>by
  rw[ye_] at h;simp only[Bool.and_eq_true] at h;obtain⟨⟨⟨⟨⟨hs,hes⟩,hps⟩,hmA⟩,hmE⟩,hmB⟩:=h;have hes:=List.all_eq_true.1 hes;have hps:=List.all_eq_true.1 hps;have e1:nm.data.toList.length=nm.size:=(by simp);have kE:=zv_ el d (n+2) (by omega) hmE;have kB:=zv_ bd d (n+2) (by omega) hmB;rw[jb_];have hEl:(if el.length=0 then [] else sp n++([69,76,83,69,10]++shL (n+2) el):Tx).length≤200+2000*ys_ el:=zf_ (fun _=>by simp) (fun _=>by
   simp only[List.length_append,List.length_cons,List.length_nil,xl_];omega)
  rcases ada_ hs with rfl|rfl|rfl|rfl|rfl|rfl|rfl|rfl|rfl|rfl
  · have h0:0<es.length:=(by cases it <;> (simp[yb_] at hs;omega));have x0:=jg_ es d 0 h0 hes;rw[shS,if_pos rfl];have hi1:(if it=true then [91]++(shE (ex es 1)++[93]) else []:Tx).length≤100*y9_ es:=zf_ (fun hit=>by
     subst hit;have x1:=jg_ es d 1 (by simp[yb_] at hs;omega) hes;simp only[List.length_append,List.length_cons,List.length_nil,xl_];omega) (fun _=>by simp)
    simp only[List.length_append,List.length_cons,List.length_nil,xl_];omega
  ·have q1:=kg_ z3_ (fun a=>100*za_ a) ps 0 (fun a ha=>acz_ a d (hps a ha));rw[aam_] at q1;have q2:=add_ za_ (fun a=>by unfold za_;omega) ps;rw[shS,if_neg (by decide),if_pos rfl];simp only[List.length_append,List.length_cons,List.length_nil,xl_];omega
  ·have kA:=vr_ ms 3 d n 0 (by omega) hd (Or.inl rfl) hmA;rw[shS,if_neg (by decide),if_neg (by decide),if_pos rfl];simp only[List.length_append,List.length_cons,List.length_nil,xl_];omega
  ·have kA:=vr_ ms 4 d n 0 (by omega) hd (Or.inr rfl) hmA;have x0:=jg_ es d 0 (by simp[yb_] at hs;omega) hes;rw[shS,if_neg (by decide),if_neg (by decide),if_neg (by decide),if_pos rfl];simp only[List.length_append,List.length_cons,List.length_nil,xl_];omega
  · have hb:(xu_ lo=true∧xu_ hi=true)∧yw_ by1=true:=by
     simp[yb_] at hs;exact⟨⟨hs.1.2.1.1.1,hs.1.2.1.1.2⟩,hs.1.2.2⟩
    simp only[xu_,yw_,Bool.and_eq_true,decide_eq_true_eq] at hb;have i1:=ym_ lo (by omega) (by omega);have i2:=ym_ hi (by omega) (by omega);have i3:=ym_ by1 (by omega) (by omega);have hi1:(if by1=1 then [] else [32,66,89,32]++Lib.itoa by1:Tx).length≤20:=zf_ (fun _=>by simp) (fun _=>by
     simp only[List.length_append,List.length_cons,List.length_nil,xl_];omega)
    rw[shS,if_neg (by decide),if_neg (by decide),if_neg (by decide),if_neg (by decide),if_pos rfl];simp only[List.length_append,List.length_cons,List.length_nil,xl_];omega
  ·have ht:yw_ ti=true:=(by simp[yb_] at hs;exact hs.2);simp only[yw_,Bool.and_eq_true,decide_eq_true_eq] at ht;have i1:=ym_ ti (by omega) (by omega);have x0:=jg_ es d 0 (by simp[yb_] at hs;omega) hes;rw[shS,if_neg (by decide),if_neg (by decide),if_neg (by decide),if_neg (by decide),if_neg (by decide),if_pos rfl];simp only[List.length_append,List.length_cons,List.length_nil,xl_];omega
  ·have ht:yw_ ti=true:=(by simp[yb_] at hs;exact hs.2);simp only[yw_,Bool.and_eq_true,decide_eq_true_eq] at ht;have i1:=ym_ ti (by omega) (by omega);have x0:=jg_ es d 0 (by simp[yb_] at hs;omega) hes;rw[shS,if_neg (by decide),if_neg (by decide),if_neg (by decide),if_neg (by decide),if_neg (by decide),if_neg (by decide),if_pos rfl];simp only[List.length_append,List.length_cons,List.length_nil,xl_];omega
  ·rw[shS,if_neg (by decide),if_neg (by decide),if_neg (by decide),if_neg (by decide),if_neg (by decide),if_neg (by decide),if_neg (by decide),if_pos rfl];simp only[List.length_append,List.length_cons,List.length_nil,xl_];omega
  ·rw[shS,if_neg (by decide),if_neg (by decide),if_neg (by decide),if_neg (by decide),if_neg (by decide),if_neg (by decide),if_neg (by decide),if_neg (by decide),if_pos rfl];simp only[List.length_append,List.length_cons,List.length_nil,xl_];omega
  ·rw[shS,if_neg (by decide),if_neg (by decide),if_neg (by decide),if_neg (by decide),if_neg (by decide),if_neg (by decide),if_neg (by decide),if_neg (by decide),if_neg (by decide)];simp only[List.length_append,List.length_cons,List.length_nil,xl_];omega
theorem zv_:∀(l:List PS) (d:Int) (n:Nat),(n:Int)≤4*d+4→xq_ d l=true→(shL n l).length≤2000*ys_ l
 | [],d,n,hn,h=>by simp[shL]
 | s::l,d,n,hn,h=>by
  rw[xq_] at h;simp only[Bool.and_eq_true,decide_eq_true_eq] at h;have h1:=aan_ s (d+1) n (by omega) (by omega) h.1.2;have h2:=zv_ l d n hn h.2;rw[shL,ys_,List.length_append];omega
theorem aex_:∀(a:PArm) (v d:Int) (n i:Nat),(n:Int)≤4*d→d≤41→v=3∨v=4→x5_ v d a=true→(shM v n i a).length≤2000*jm_ a
 | .mk e ls b1,v,d,n,i,hn,hd,hv,h=>by
  rw[x5_,Bool.and_eq_true] at h;obtain⟨hw,hb⟩:=h;rw[jm_,shM];unfold kn_ at hw;have k2:=zv_ b1 d (n+2) (by omega) hb;have k4:=zv_ b1 d (n+4) (by omega) hb;rcases hv with rfl|rfl
  ·rw[if_pos rfl];rw[if_pos rfl,Bool.and_eq_true] at hw;have x:=qd_ e d hw.2;have hi:(if i=0 then [73,70,32] else [69,76,83,73,70,32]:Tx).length≤6:=zf_ (fun _=>by simp) (fun _=>by simp);simp only[List.length_append,List.length_cons,List.length_nil,xl_];omega
  · rw[if_neg (by decide)];rw[if_neg (by decide)] at hw;simp only[Bool.and_eq_true,List.all_eq_true] at hw;have q:=kg_ zq_ (fun _=>24) ls 0 (fun p hp=>ac0_ p (hw.2 p hp));have q2:(ls.map fun _=>24).sum=24*ls.length:=by
     clear q hw;induction ls with
     | nil=>simp
     | cons a l ih=>simp[ih];omega
    rw[q2] at q;simp only[List.length_append,List.length_cons,List.length_nil,xl_];omega
theorem vr_:∀(ms:List PArm) (v d:Int) (n i:Nat),(n:Int)≤4*d→d≤41→v=3∨v=4→y6_ v d ms=true→(shA v n i ms).length≤2000*yv_ ms
 | [],v,d,n,i,hn,hd,hv,h=>by simp[shA]
 | a::l,v,d,n,i,hn,hd,hv,h=>by
  rw[y6_,Bool.and_eq_true] at h;have h1:=aex_ a v d n i hn hd hv h.1;have h2:=vr_ l v d n (i+1) hn hd hv h.2;rw[shA,yv_,List.length_append];omega
end
theorem z2_ (n:Nat):(bs (sp n)).size=n:=by show(sp n).toArray.size=n;simp[sp]
theorem y8_ (n k:Nat) (c:ByteArray) (h:c.data.toList=sp k):bs (sp n)++c=bs (sp (n+k)):=by
 apply yp_;rw[ByteArray.data_append,Array.toList_append,h];show sp n++sp k=sp (n+k)
 simp[sp,List.replicate_append_replicate]
def SL (W:World) (k:Value) (l:List PS) (n:Nat):Prop:=∀ W',W.grownBy W' none→Calls Tryz.prog 32 #[k,.string (bs (sp n))] W' (xv_ W' (bs (shL n l)))
def SS (W:World) (s:PS) (q:Sq) (n:Nat):Prop:=∀ W',W.grownBy W' none→Calls Tryz.prog 66 #[.agg (sC s q).toArray,.string (bs (sp n))] W' (xv_ W' (bs (shS n s)))
def qs_ (n:Nat) (el:List PS):Tx:=if el.length=0 then [] else sp n++([69,76,83,69,10]++shL (n+2) el)
theorem uh_ {W:World} (x4:Option Addr) (c4:Nat) (el:List PS) (n:Nat) (hn:n≤1000) (hl:(shL (n+2) el).length≤100000000000) (h:SL W (.slice x4 el.length c4) el (n+2)):Calls Tryz.prog 102 #[.slice x4 el.length c4,.string (bs (sp n))] W (xv_ W (bs (qs_ n el))):=by
 obtain⟨T,hT⟩:∃ T,qs_ n el=T:=⟨_,rfl⟩;rw[hT];have HT:=xa_ hT;clear hT;by_cases h0:el.length=0
 · have z:((el.length:Int)==0)=true:=(by rw[h0];rfl);have HE:Hid (bs T=⟨#[]⟩):=(by show _=_;rw[← HT.out,qs_,if_pos h0]);clear h0 h;go_enter Tryz.func102,Tryz.ntmps102;go_wp2_with fail
   go_ret;exact⟨by first|(rw[HE.out];done)|(rw[HE.out];rfl),gr0 _⟩
 · have z:((el.length:Int)==0)=false:=(by rw[beq_eq_false_iff_ne];omega);obtain⟨PA,hPA⟩:∃ P,bs (sp n)=P:=⟨_,rfl⟩;have hPs:PA.size≤1000:=(by rw[← hPA,z2_];exact hn);have hPd:PA.data.toList=sp n:=(by rw[← hPA]);obtain⟨EB,hEB⟩:∃ P,bs (shL (n+2) el)=P:=⟨_,rfl⟩;have hEs:EB.size≤100000000000:=(by rw[← hEB];exact hl);have hEd:EB.data.toList=shL (n+2) el:=(by rw[← hEB]);have cL:Hid (∀ X,W.grownBy X none→Calls Tryz.prog 32 #[.slice x4 el.length c4,.string (PA++(⟨#[32,32]⟩:ByteArray))] X (xv_ X EB)):=xa_ fun X g=>by
    rw[← hPA,y8_ n 2 _ rfl,← hEB];exact h X g
   rw[hPA];have HE:Hid (bs T=PA++(⟨#[69,76,83,69,10]⟩:ByteArray)++EB):=by
    show _=_
    rw[← HT.out,qs_,if_neg h0];exact(yp_ (by simp[ByteArray.data_append,hPd,hEd])).symm
   have z2:(PA++(⟨#[32,32]⟩:ByteArray)).size=PA.size+2:=ByteArray.size_append;have q2:PA.size+2≤9223372036854775807:=(by omega);have z1_0:(PA++(⟨#[69,76,83,69,10]⟩:ByteArray)).size=PA.size+5:=ByteArray.size_append;have qz1_0:PA.size+5≤9223372036854775807:=(by omega);have z1_1:(PA++(⟨#[69,76,83,69,10]⟩:ByteArray)++EB).size=PA.size+5+EB.size:=(by rw[ByteArray.size_append,z1_0]);have qz1_1:PA.size+5+EB.size≤9223372036854775807:=(by omega);clear h0 h hPA hEB hl;go_enter Tryz.func102,Tryz.ntmps102;go_wp2_with fail
   refine(cL.out _ (gr0 _)).mono ?_;rintro e w2 ⟨rfl,g⟩;dsimp only;have G:=xa_ g;clear g cL;go_wp2_with fail
   go_ret;exact⟨by first|(rw[HE.out];done)|(rw[HE.out];rfl),G.out⟩
theorem ajj_ {W:World} {ok:Nat→Prop} {x:Option Addr} {c:Nat} {l:List PS} (n:Nat) (hl:(shL n l).length≤100000000000) (hx:Li kdS 99 W ok (.slice x l.length c) l)
 (hP:∀(i:Nat) (hi:i<l.length) (q:Sq) (W':World),W.grownBy W' none→kdS.S W' ok l[i] q→SS W' l[i] q n):SL W (.slice x l.length c) l n:=by
 intro W0 hg0;obtain⟨T,hT⟩:∃ T,shL n l=T:=⟨_,rfl⟩;rw[hT];rw[hT] at hl;have HT:=xa_ hT;have HX:=xa_ (hx.gw hg0);have HP:=xa_ (fun i hi q W' (h:W0.grownBy W' none) hk=>hP i hi q W' (gtn hg0 h) hk);have hle:=hx.le;obtain⟨PA,hPA⟩:∃ P,bs (sp n)=P:=⟨_,rfl⟩;have HPA:=xa_ hPA;rw[hPA];clear hT hx hP hg0 hPA;go_enter Tryz.func32,Tryz.ntmps32;go_wp2_with fail
 go_loopg [5,6] (l.length+1) (fun gk s5 s6 wx=>∃(i:Nat) (A:ByteArray),s5=.string A∧s6=.int .i64 (i:Int)∧Hid (W0.grownBy wx none)∧Hid (i≤l.length∧gk=l.length+1 - i)∧Hid (A.data.toList++shL n (l.drop i)=T))
 case atStart=>exact⟨0,⟨#[]⟩,rfl,rfl,gr0 _,xa_ ⟨by omega,rfl⟩,HT.out⟩
 case round=>
  clear HT;obtain⟨i,A,rfl,rfl,HG,HB,HA⟩:=hrel;obtain⟨hi1,hgk⟩:=HB.out;clear HB;by_cases hi:i<l.length;rotate_left
  · have hlt:¬((i:Int)<(l.length:Int)):=(by omega);have HE:Hid (bs T=A):=by
     have h:=HA.out;rw[List.drop_eq_nil_of_le (by omega),shL,List.append_nil] at h;exact(yp_ h).symm
    clear HP HX HA;go_wp2_with fail
    go_ret;exact⟨by first|(rw[HE.out];done)|(rw[HE.out];rfl),HG.out⟩
  have hlt:((i:Int)<(l.length:Int)):=(by omega);have hwi:IntKind.i64.wrap ((i:Int)+1)=i+1:=IntWalk.i64_in _ (by omega);obtain⟨g,off,c',q,ex,hgl,hk,hc⟩:=HX.out.atG (sz:=13) y1_ (by decide) i hi;injection ex with e1 _ e3;subst e1 e3;have hC:=hc wr HG.out;have cP:=fun W' h=>HP.out i hi q W' h ((kdS.keep hk (fun b _ hl=>h.block b hl (by simp)) h.size));have HK:=xa_ hk;have hA:=HA.out;rw[List.drop_eq_getElem_cons hi,shL] at hA;clear hc hk HA;generalize l[i]=E at hC cP hA HK;obtain⟨v,sa,nm,it,es,ps,ms,el,bo,lo,hi',by1,ti⟩:=E;obtain⟨xa1,xc1,xa2,xc2,xa3,xc3,xa4,xc4,xa5,xc5,rfl⟩:=qg_ HK.out;have cP1:Hid (∀ X,W0.grownBy X none→Calls Tryz.prog 66 #[.agg #[.int .i64 v,.int .i64 sa,.string nm,.bool it,.slice xa1 es.length xc1,.slice xa2 ps.length xc2,.slice xa3 ms.length xc3,.slice xa4 el.length xc4,.slice xa5 bo.length xc5,.int .i64 lo,.int .i64 hi',.int .i64 by1,.int .i64 ti],.string PA] X (xv_ X (bs (shS n (.mk v sa nm it es ps ms el bo lo hi' by1 ti))))):=xa_ fun X h=>by rw[← HPA.out];exact cP X h X (gr0 _)
  generalize shS n (.mk v sa nm it es ps ms el bo lo hi' by1 ti)=TS at cP1 hA;have HA:=xa_ hA;obtain⟨SB,hSB⟩:∃ P,bs TS=P:=⟨_,rfl⟩;have hSd:SB.data.toList=TS:=(by rw[← hSB]);rw[hSB] at cP1;have hsum:A.size+SB.size≤100000000000:=by
   have h:=congrArg List.length hA;rw[List.length_append,List.length_append] at h;rw[qp_,qp_,hSd];omega
  have y0:wr.cell? ⟨g,off+i*13,none⟩=some (.int .i64 v):=hC 0 (by decide);have y1:wr.cell? ⟨g,off+i*13+1,none⟩=some (.int .i64 sa):=hC 1 (by decide);have y2:wr.cell? ⟨g,off+i*13+2,none⟩=some (.string nm):=hC 2 (by decide);have y3:wr.cell? ⟨g,off+i*13+3,none⟩=some (.bool it):=hC 3 (by decide);have y4:wr.cell? ⟨g,off+i*13+4,none⟩=some (.slice xa1 es.length xc1):=hC 4 (by decide);have y5:wr.cell? ⟨g,off+i*13+5,none⟩=some (.slice xa2 ps.length xc2):=hC 5 (by decide);have y6:wr.cell? ⟨g,off+i*13+6,none⟩=some (.slice xa3 ms.length xc3):=hC 6 (by decide);have y7:wr.cell? ⟨g,off+i*13+7,none⟩=some (.slice xa4 el.length xc4):=hC 7 (by decide);have y8:wr.cell? ⟨g,off+i*13+8,none⟩=some (.slice xa5 bo.length xc5):=hC 8 (by decide);have y9:wr.cell? ⟨g,off+i*13+9,none⟩=some (.int .i64 lo):=hC 9 (by decide);have y10:wr.cell? ⟨g,off+i*13+10,none⟩=some (.int .i64 hi'):=hC 10 (by decide);have y11:wr.cell? ⟨g,off+i*13+11,none⟩=some (.int .i64 by1):=hC 11 (by decide);have y12:wr.cell? ⟨g,off+i*13+12,none⟩=some (.int .i64 ti):=hC 12 (by decide);clear hC cP HK hA hSB;have z1:(A++SB).size=A.size+SB.size:=ByteArray.size_append;have q1:A.size+SB.size≤9223372036854775807:=(by omega);go_wp2_with fail
  refine(cP1.out _ HG.out).mono ?_;rintro e w2 ⟨rfl,g⟩;dsimp only;have G2:=xa_ (gtn HG.out g);clear g cP1;go_wp2_with fail
  go_roundg (l.length+1 - (i+1))
  case measure=>omega
  case rel=>exact⟨i+1,A++SB,rfl,by simp,G2,xa_ ⟨by omega,rfl⟩,xa_ (by rw[ByteArray.data_append,Array.toList_append,hSd,List.append_assoc];exact HA.out)⟩
theorem ex_i {es:List PE} {i:Nat} (hi:i<es.length):ex es i=es[i]:=by
 rw[ex,List.getD,List.getElem?_eq_getElem hi];rfl
theorem jn_ {W:World} {ok:Nat→Prop} {x:Option Addr} {c:Nat} {es:List PE} (hx:Xs W ok (.slice x es.length c) es) (i:Nat) (hi:i<es.length) (hE:∃ d,xr_ d es[i]=true∧yj_ es[i]≤4000000) :
 ∃(g off:Nat) (f o kd n:Int) (nm pt:ByteArray) (a:Int) (ka:Option Addr) (m kc:Nat) (E:ByteArray),x=some ⟨g,off,none⟩∧E.data.toList=shE (ex es i)∧E.size≤400000000∧(∀ X,W.grownBy X none→X.cell? ⟨g,off+i*8,none⟩=some (.int .i64 f)∧X.cell? ⟨g,off+i*8+1,none⟩=some (.int .i64 o)∧X.cell? ⟨g,off+i*8+2,none⟩=some (.int .i64 kd)∧X.cell? ⟨g,off+i*8+3,none⟩=some (.int .i64 n)∧X.cell? ⟨g,off+i*8+4,none⟩=some (.string nm)∧X.cell? ⟨g,off+i*8+5,none⟩=some (.string pt)∧X.cell? ⟨g,off+i*8+6,none⟩=some (.int .i64 a)∧X.cell? ⟨g,off+i*8+7,none⟩=some (.slice ka m kc))∧
  ∀ X,W.grownBy X none→Calls Tryz.prog 31 #[xV f o kd n nm pt a (.slice ka m kc)] X (xv_ X E):=by
 obtain⟨d,hd,hc⟩:=hE;rw[ex_i hi];obtain⟨g,off,c',ka,kc,ex,hn,hgl,hk,hcc⟩:=hx.at8 i hi;injection ex with e1 _ e3;have hS:=sx hd hc hk;have hl:=qd_ _ _ hd;generalize es[i]=E at hS hcc hl hc;obtain⟨f,o,kd,n,nm,pt,a,ks⟩:=E;exact⟨g,off,f,o,kd,n,nm,pt,a,ka,_,kc,bs (shE (.mk f o kd n nm pt a ks)),e1,rfl,by rw[vn_];omega,fun X h=>(hcc X h).all,fun X h=>hS X h⟩
theorem qf_ (n:Int) (h:xu_ n=true):(bs (Lib.itoa n)).size≤11:=by
 have hb : -4294967295≤n∧n≤4294967295:=(by simpa[xu_] using h);exact ym_ n (by omega) (by omega)
set_option maxRecDepth 100000 in
theorem ss_8 {W:World} {ok:Nat→Prop} (x1 x2 x3 x4 x5:Option Addr) (c1 c2 c3 c4 c5:Nat) (sa:Int) (nm:ByteArray) (it:Bool) (es:List PE) (ps:List PArg) (ms:List PArm) (el bo:List PS) (lo hi by1 ti:Int) (n:Nat) (hn:n≤1000) (hnm:nm.size≤4000000) (hb:SL W (.slice x5 bo.length c5) bo (n+2)) (hbl:(shL (n+2) bo).length≤100000000000)  :
 Calls Tryz.prog 66 #[sV 8 sa nm it (.slice x1 es.length c1) (.slice x2 ps.length c2) (.slice x3 ms.length c3) (.slice x4 el.length c4) (.slice x5 bo.length c5) lo hi by1 ti,.string (bs (sp n))] W (xv_ W (bs (shS n (.mk 8 sa nm it es ps ms el bo lo hi by1 ti)))):=by
 obtain⟨T,hT⟩:∃ T,shS n (.mk 8 sa nm it es ps ms el bo lo hi by1 ti)=T:=⟨_,rfl⟩;rw[hT];have HT:=xa_ hT;clear hT;obtain⟨PA,hPA⟩:∃ P,bs (sp n)=P:=⟨_,rfl⟩;have hPs:PA.size≤1000:=(by rw[← hPA,z2_];exact hn);have hPd:PA.data.toList=sp n:=(by rw[← hPA]);obtain⟨BB,hBB⟩:∃ P,bs (shL (n+2) bo)=P:=⟨_,rfl⟩;have hBs:BB.size≤100000000000:=(by rw[← hBB];exact hbl);have hBd:BB.data.toList=shL (n+2) bo:=(by rw[← hBB]);have cB:Hid (∀ X,W.grownBy X none→Calls Tryz.prog 32 #[.slice x5 bo.length c5,.string (PA++(⟨#[32,32]⟩:ByteArray))] X (xv_ X BB)):=xa_ fun X g=>by
  rw[← hPA,y8_ n 2 _ rfl,← hBB];exact hb X g
 rw[hPA];have zp:(PA++(⟨#[32,32]⟩:ByteArray)).size=PA.size+2:=ByteArray.size_append;have qp:PA.size≤9223372036854775805:=(by omega);have z1_0:(PA++(⟨#[69,88,73,84,59,10]⟩:ByteArray)).size=PA.size+6:=ByteArray.size_append;have qz1_0:¬9223372036854775807<PA.size+6:=(by omega);have uz1_0:PA.size+6≤9223372036854775807:=(by omega);have rz1_0:¬9223372036854775801<PA.size:=(by omega);have wz1_0:PA.size≤9223372036854775801:=(by omega);have HE:Hid (bs T=PA++(⟨#[69,88,73,84,59,10]⟩:ByteArray)):=by
  show _=_
  rw[← HT.out,shS,if_neg (by decide),if_neg (by decide),if_neg (by decide),if_neg (by decide),if_neg (by decide),if_neg (by decide),if_neg (by decide),if_pos rfl];exact(yp_ (by simp[ByteArray.data_append,hPd,hBd])).symm
 clear hb hbl hPA hBB;go_enter Tryz.func66,Tryz.ntmps66;go_wp2_with fail
 refine(cB.out _ (gr1 _ _)).mono ?_;rintro e w2 ⟨rfl,g⟩;dsimp only;have AX:=xa_ (kept g (xe_ (by first|rfl|simp) _));have GX:=xa_ (gtn (gr1 _ _) g);clear g cB zp qp;obtain⟨p1,p2,p3,p4,p5,p6⟩:=xb_ AX.out;go_wp2_with fail
 go_ret;exact⟨by first|(rw[HE.out];done)|(rw[HE.out];rfl),GX.out⟩
set_option maxRecDepth 100000 in
theorem ss_9 {W:World} {ok:Nat→Prop} (x1 x2 x3 x4 x5:Option Addr) (c1 c2 c3 c4 c5:Nat) (sa:Int) (nm:ByteArray) (it:Bool) (es:List PE) (ps:List PArg) (ms:List PArm) (el bo:List PS) (lo hi by1 ti:Int) (n:Nat) (hn:n≤1000) (hnm:nm.size≤4000000) (hb:SL W (.slice x5 bo.length c5) bo (n+2)) (hbl:(shL (n+2) bo).length≤100000000000)  :
 Calls Tryz.prog 66 #[sV 9 sa nm it (.slice x1 es.length c1) (.slice x2 ps.length c2) (.slice x3 ms.length c3) (.slice x4 el.length c4) (.slice x5 bo.length c5) lo hi by1 ti,.string (bs (sp n))] W (xv_ W (bs (shS n (.mk 9 sa nm it es ps ms el bo lo hi by1 ti)))):=by
 obtain⟨T,hT⟩:∃ T,shS n (.mk 9 sa nm it es ps ms el bo lo hi by1 ti)=T:=⟨_,rfl⟩;rw[hT];have HT:=xa_ hT;clear hT;obtain⟨PA,hPA⟩:∃ P,bs (sp n)=P:=⟨_,rfl⟩;have hPs:PA.size≤1000:=(by rw[← hPA,z2_];exact hn);have hPd:PA.data.toList=sp n:=(by rw[← hPA]);obtain⟨BB,hBB⟩:∃ P,bs (shL (n+2) bo)=P:=⟨_,rfl⟩;have hBs:BB.size≤100000000000:=(by rw[← hBB];exact hbl);have hBd:BB.data.toList=shL (n+2) bo:=(by rw[← hBB]);have cB:Hid (∀ X,W.grownBy X none→Calls Tryz.prog 32 #[.slice x5 bo.length c5,.string (PA++(⟨#[32,32]⟩:ByteArray))] X (xv_ X BB)):=xa_ fun X g=>by
  rw[← hPA,y8_ n 2 _ rfl,← hBB];exact hb X g
 rw[hPA];have zp:(PA++(⟨#[32,32]⟩:ByteArray)).size=PA.size+2:=ByteArray.size_append;have qp:PA.size≤9223372036854775805:=(by omega);have z2_0:(PA++(⟨#[67,79,78,84,73,78,85,69,59,10]⟩:ByteArray)).size=PA.size+10:=ByteArray.size_append;have qz2_0:¬9223372036854775807<PA.size+10:=(by omega);have uz2_0:PA.size+10≤9223372036854775807:=(by omega);have rz2_0:¬9223372036854775797<PA.size:=(by omega);have wz2_0:PA.size≤9223372036854775797:=(by omega);have HE:Hid (bs T=PA++(⟨#[67,79,78,84,73,78,85,69,59,10]⟩:ByteArray)):=by
  show _=_
  rw[← HT.out,shS,if_neg (by decide),if_neg (by decide),if_neg (by decide),if_neg (by decide),if_neg (by decide),if_neg (by decide),if_neg (by decide),if_neg (by decide),if_pos rfl];exact(yp_ (by simp[ByteArray.data_append,hPd,hBd])).symm
 clear hb hbl hPA hBB;go_enter Tryz.func66,Tryz.ntmps66;go_wp2_with fail
 refine(cB.out _ (gr1 _ _)).mono ?_;rintro e w2 ⟨rfl,g⟩;dsimp only;have AX:=xa_ (kept g (xe_ (by first|rfl|simp) _));have GX:=xa_ (gtn (gr1 _ _) g);clear g cB zp qp;obtain⟨p1,p2,p3,p4,p5,p6⟩:=xb_ AX.out;go_wp2_with fail
 go_ret;exact⟨by first|(rw[HE.out];done)|(rw[HE.out];rfl),GX.out⟩
set_option maxRecDepth 100000 in
theorem ajk_ {W:World} {ok:Nat→Prop} (x1 x2 x3 x4 x5:Option Addr) (c1 c2 c3 c4 c5:Nat) (sa:Int) (nm:ByteArray) (it:Bool) (es:List PE) (ps:List PArg) (ms:List PArm) (el bo:List PS) (lo hi by1 ti:Int) (n:Nat) (hn:n≤1000) (hnm:nm.size≤4000000) (hb:SL W (.slice x5 bo.length c5) bo (n+2)) (hbl:(shL (n+2) bo).length≤100000000000)  :
 Calls Tryz.prog 66 #[sV 10 sa nm it (.slice x1 es.length c1) (.slice x2 ps.length c2) (.slice x3 ms.length c3) (.slice x4 el.length c4) (.slice x5 bo.length c5) lo hi by1 ti,.string (bs (sp n))] W (xv_ W (bs (shS n (.mk 10 sa nm it es ps ms el bo lo hi by1 ti)))):=by
 obtain⟨T,hT⟩:∃ T,shS n (.mk 10 sa nm it es ps ms el bo lo hi by1 ti)=T:=⟨_,rfl⟩;rw[hT];have HT:=xa_ hT;clear hT;obtain⟨PA,hPA⟩:∃ P,bs (sp n)=P:=⟨_,rfl⟩;have hPs:PA.size≤1000:=(by rw[← hPA,z2_];exact hn);have hPd:PA.data.toList=sp n:=(by rw[← hPA]);obtain⟨BB,hBB⟩:∃ P,bs (shL (n+2) bo)=P:=⟨_,rfl⟩;have hBs:BB.size≤100000000000:=(by rw[← hBB];exact hbl);have hBd:BB.data.toList=shL (n+2) bo:=(by rw[← hBB]);have cB:Hid (∀ X,W.grownBy X none→Calls Tryz.prog 32 #[.slice x5 bo.length c5,.string (PA++(⟨#[32,32]⟩:ByteArray))] X (xv_ X BB)):=xa_ fun X g=>by
  rw[← hPA,y8_ n 2 _ rfl,← hBB];exact hb X g
 rw[hPA];have zp:(PA++(⟨#[32,32]⟩:ByteArray)).size=PA.size+2:=ByteArray.size_append;have qp:PA.size≤9223372036854775805:=(by omega);have z3_0:(PA++(⟨#[82,69,84,85,82,78,59,10]⟩:ByteArray)).size=PA.size+8:=ByteArray.size_append;have qz3_0:¬9223372036854775807<PA.size+8:=(by omega);have uz3_0:PA.size+8≤9223372036854775807:=(by omega);have rz3_0:¬9223372036854775799<PA.size:=(by omega);have wz3_0:PA.size≤9223372036854775799:=(by omega);have HE:Hid (bs T=PA++(⟨#[82,69,84,85,82,78,59,10]⟩:ByteArray)):=by
  show _=_
  rw[← HT.out,shS,if_neg (by decide),if_neg (by decide),if_neg (by decide),if_neg (by decide),if_neg (by decide),if_neg (by decide),if_neg (by decide),if_neg (by decide),if_neg (by decide)];exact(yp_ (by simp[ByteArray.data_append,hPd,hBd])).symm
 clear hb hbl hPA hBB;go_enter Tryz.func66,Tryz.ntmps66;go_wp2_with fail
 refine(cB.out _ (gr1 _ _)).mono ?_;rintro e w2 ⟨rfl,g⟩;dsimp only;have AX:=xa_ (kept g (xe_ (by first|rfl|simp) _));have GX:=xa_ (gtn (gr1 _ _) g);clear g cB zp qp;obtain⟨p1,p2,p3,p4,p5,p6⟩:=xb_ AX.out;go_wp2_with fail
 go_ret;exact⟨by first|(rw[HE.out];done)|(rw[HE.out];rfl),GX.out⟩
end Go.Proofs.YtcoglmaiahpooaaGreatDoor
