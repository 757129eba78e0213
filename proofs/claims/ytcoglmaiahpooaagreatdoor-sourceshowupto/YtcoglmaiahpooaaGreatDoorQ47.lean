/- Texts put together: Dz, Ne, Gf. -/
import Derived.Test.YtcoglmaiahpooaaGreatDoorQ34
import Derived.Test.YtcoglmaiahpooaaGreatDoorQ32
import Derived.Test.YtcoglmaiahpooaaGreatDoorQ29
import Derived.Test.YtcoglmaiahpooaaGreatDoorQ46
import Derived.Test.YtcoglmaiahpooaaGreatDoorQ26
import Derived.Test.YtcoglmaiahpooaaGreatDoorRows
import Derived.Test.YtcoglmaiahpooaaGreatDoorQ30
set_option linter.unusedVariables false
set_option linter.unusedSimpArgs false
set_option maxHeartbeats 8000000
namespace Go.Proofs.YtcoglmaiahpooaaGreatDoor
open Go.RowKit
attribute [local go_sem ↓] Go.wp_at_zero Go.wp_at_succ
def SO (W:World) (s:PS) (q:Sq):Prop:=∀(d:Int),0≤d→d≤100→∀ W',W.grownBy W' none→Calls Tryz.prog 55 #[.agg (sC s q).toArray,.int .i64 d] W' (xs_ W' (ye_ d s))
theorem ajl_ {W:World} {ok:Nat→Prop} {x:Option Addr} {c:Nat} {l:List PS} (hx:Li kdS 99 W ok (.slice x l.length c) l)
 (hP:∀(i:Nat) (hi:i<l.length) (q:Sq) (W':World),W.grownBy W' none→kdS.S W' ok l[i] q→SO W' l[i] q):LO W (.slice x l.length c) l:=by
 intro d h0 h1 W0 hg0;obtain⟨Z,hZ⟩:∃ Z,xq_ d l=Z:=⟨_,rfl⟩;rw[hZ];have HZ:=xa_ hZ;have HX:=xa_ (hx.gw hg0);have HP:=xa_ (fun i hi q W' (h:W0.grownBy W' none) hk=>hP i hi q W' (gtn hg0 h) hk);have hle:=hx.le;have hwd:IntKind.i64.wrap (d+1)=d+1:=IntWalk.i64_in _ (by omega);clear hZ hx hP hg0;by_cases hl0:l.length=0
 · have e:Z=true:=by
    rw[← HZ.out,List.length_eq_zero_iff.1 hl0,xq_]
   have z:((l.length:Int)==0)=true:=(by rw[hl0];rfl);subst e;clear HZ HX HP hl0;go_enter Tryz.func26,Tryz.ntmps26;go_wp2_with fail
   go_ret;exact⟨rfl,gr0 _⟩
 have z:((l.length:Int)==0)=false:=(by rw[beq_eq_false_iff_ne];omega);by_cases h40:d≤40;rotate_left
 · have e:Z=false:=by
    rw[← HZ.out];cases hl:l with
    | nil=>rw[hl] at hl0;exact(hl0 rfl).elim
    | cons a t=>rw[xq_,decide_eq_false h40];rfl
   have h41:(40:Int)<d:=(by omega);subst e;clear HZ HX HP hl0;go_enter Tryz.func26,Tryz.ntmps26;go_wp2_with fail
   go_ret;exact⟨rfl,gr0 _⟩
 have h41:¬(40:Int)<d:=(by omega);clear hl0;go_enter Tryz.func26,Tryz.ntmps26;go_wp2_with fail
 have LS:Hid (∃ i:Nat,Value.int .i64 0=.int .i64 (i:Int)∧Hid (i≤l.length∧l.length+1=l.length+1 - i∧W0.grownBy W0 none∧xq_ d (l.drop i)=Z)):=⟨0,rfl,xa_ ⟨by omega,rfl,gr0 _,by simpa using HZ.out⟩⟩;clear HZ;go_loopg [5] (l.length+1) (fun gk s1 wx=>∃ i:Nat,s1=.int .i64 (i:Int)∧Hid (i≤l.length∧gk=l.length+1 - i∧W0.grownBy wx none∧xq_ d (l.drop i)=Z))
 case atStart=>exact LS.out
 case round=>
  obtain⟨i,rfl,HH⟩:=hrel;obtain⟨hi1,hgk,hg,hm⟩:=HH.out;clear HH LS;have HG:=xa_ hg;by_cases hi:i<l.length;rotate_left
  · have hlt:¬((i:Int)<(l.length:Int)):=(by omega);rw[List.drop_eq_nil_of_le (by omega),xq_] at hm;have e:Z=true:=hm.symm;subst e;clear hg hm HP HX;go_wp2_with fail
    go_ret;exact⟨rfl,HG.out⟩
  have hlt:((i:Int)<(l.length:Int)):=(by omega);have hwi:IntKind.i64.wrap ((i:Int)+1)=i+1:=IntWalk.i64_in _ (by omega);rw[List.drop_eq_getElem_cons hi,xq_] at hm;obtain⟨g,off,c',q,ex,hgl,hk,hc⟩:=HX.out.atG (sz:=13) y1_ (by decide) i hi;injection ex with e1 _ e3;subst e1 e3;have hC:=hc wr hg;have cP:=fun W' h=>HP.out i hi q W' h ((kdS.keep hk (fun b _ hl=>h.block b hl (by simp)) h.size));have HM:=xa_ hm;have HK:=xa_ hk;clear hc hm hg hk;generalize l[i]=E at hC cP HM HK;obtain⟨v,sa,nm,it,es,ps,ms,el,bo,lo,hi',by1,ti⟩:=E;obtain⟨xa1,xc1,xa2,xc2,xa3,xc3,xa4,xc4,xa5,xc5,rfl⟩:=qg_ HK.out;have cP2:=xa_ cP;have y0:wr.cell? ⟨g,off+i*13,none⟩=some (.int .i64 v):=hC 0 (by decide);have y1:wr.cell? ⟨g,off+i*13+1,none⟩=some (.int .i64 sa):=hC 1 (by decide);have y2:wr.cell? ⟨g,off+i*13+2,none⟩=some (.string nm):=hC 2 (by decide);have y3:wr.cell? ⟨g,off+i*13+3,none⟩=some (.bool it):=hC 3 (by decide);have y4:wr.cell? ⟨g,off+i*13+4,none⟩=some (.slice xa1 es.length xc1):=hC 4 (by decide);have y5:wr.cell? ⟨g,off+i*13+5,none⟩=some (.slice xa2 ps.length xc2):=hC 5 (by decide);have y6:wr.cell? ⟨g,off+i*13+6,none⟩=some (.slice xa3 ms.length xc3):=hC 6 (by decide);have y7:wr.cell? ⟨g,off+i*13+7,none⟩=some (.slice xa4 el.length xc4):=hC 7 (by decide);have y8:wr.cell? ⟨g,off+i*13+8,none⟩=some (.slice xa5 bo.length xc5):=hC 8 (by decide);have y9:wr.cell? ⟨g,off+i*13+9,none⟩=some (.int .i64 lo):=hC 9 (by decide);have y10:wr.cell? ⟨g,off+i*13+10,none⟩=some (.int .i64 hi'):=hC 10 (by decide);have y11:wr.cell? ⟨g,off+i*13+11,none⟩=some (.int .i64 by1):=hC 11 (by decide)
  have y12:wr.cell? ⟨g,off+i*13+12,none⟩=some (.int .i64 ti):=hC 12 (by decide);clear hC cP HK;have HM1:=xa_ (show(ye_ (d+1) (.mk v sa nm it es ps ms el bo lo hi' by1 ti) && xq_ d (l.drop (i+1)))=Z by rw[← HM.out,decide_eq_true h40,Bool.true_and]);have cP3:=xa_ (cP2.out _ HG.out (d+1) (by omega) (by omega) _ (gr0 _));clear HM cP2;generalize ye_ (d+1) (.mk v sa nm it es ps ms el bo lo hi' by1 ti)=r at cP3 HM1;go_wp2_with fail
  refine cP3.out.mono ?_;rintro e w2 ⟨rfl,g2⟩;have G2:=xa_ (gtn HG.out g2);clear g2;cases r
  · have e:Z=false:=(by rw[← HM1.out];rfl);subst e;clear HM1 cP3;go_wp2_with fail
    go_ret;exact⟨rfl,G2.out⟩
  · have HM2:=xa_ ((Bool.true_and _).symm.trans HM1.out);clear HM1 cP3;go_wp2_with fail
    go_roundg (l.length+1 - (i+1))
    case measure=>omega
    case rel=>exact⟨i+1,by simp,xa_ ⟨by omega,rfl,G2.out,HM2.out⟩⟩
theorem ah5_:∀(n:Nat) (l:List PS),SizeOf.sizeOf l<n→∀(W:World) (ok:Nat→Prop) (k:Value),Sm W ok k (.inl l)→LO W k l:=by
 intro n;induction n with
 | zero=>intro l h;omega
 | succ n ih=>
  intro l h W ok k hx;obtain⟨x,c,rfl⟩:=(Sm.ss hx).sl;refine ajl_ (Sm.ss hx) ?_;intro i hi q W' hg hk d h0 h1 W2 hg2;have s1:SizeOf.sizeOf l[i]<SizeOf.sizeOf l:=List.sizeOf_lt_of_mem (List.getElem_mem hi);generalize l[i]=E at hk s1 ⊢;have hk2:kdS.S W2 ok E q:=kdS.keep hk (fun b _ hl=>hg2.block b hl (by simp)) hg2.size;obtain⟨v,sa,nm,it,es,ps,ms,el,bo,lo,hi',by1,ti⟩:=E;obtain⟨xa1,xc1,xa2,xc2,xa3,xc3,xa4,xc4,xa5,xc5,rfl⟩:=qg_ hk2;obtain⟨⟨k1,k2⟩,k3,k4,k5⟩:=hk2;simp at s1;refine ahm_ xa1 xa2 xa3 xa4 xa5 xc1 xc2 xc3 xc4 xc5 v sa nm it es ps ms el bo lo hi' by1 ti k1 k2 (Sm.ms k3) ?_ (ih el (by omega) W2 ok _ k4) (ih bo (by omega) W2 ok _ k5) d h0 h1;intro j hj k W3 hg3 hk3;have s2:SizeOf.sizeOf ms[j]<SizeOf.sizeOf ms:=List.sizeOf_lt_of_mem (List.getElem_mem hj);generalize ms[j]=M at hk3 s2 ⊢;obtain⟨e,ls,b⟩:=M;simp at s2;exact ih b (by omega) W3 ok k hk3
theorem adh_ {W:World} {ok:Nat→Prop} {k:Value} {l:List PS} (hx:Li kdS 99 W ok k l):LO W k l:=ah5_ _ l (Nat.lt_succ_self _) W ok k hx.ss
theorem aeq_ {W:World} {ok:Nat→Prop} {va:Value} {l:List PS} (hx:Li kdS 99 W ok va l):SmS W va l:=by
 have key:∀(n:Nat) (l:List PS),SizeOf.sizeOf l<n→∀ va,Li kdS 99 W ok va l→SmS W va l:=by
  intro n;induction n with
  | zero=>intro l h;omega
  | succ n ih=>
   intro l h va hx;refine u0_ hx (fun i hi=>?_);have h1:SizeOf.sizeOf l[i]<SizeOf.sizeOf l:=List.sizeOf_lt_of_mem (List.getElem_mem hi);generalize l[i]=E at h1 ⊢;obtain⟨v1,a1,n1,i1,es1,as1,ms1,el1,bo1,lo1,hi1',by1,ti1⟩:=E;have h2:SizeOf.sizeOf el1<n∧SizeOf.sizeOf bo1<n∧SizeOf.sizeOf ms1<n:=by
    simp at h1;omega
   refine⟨fun k hk=>ih _ h2.1 k hk,fun k hk=>ih _ h2.2.1 k hk,fun j hj k hk=>ih _ ?_ k hk⟩;simp only[PS.arms] at hj ⊢;have h3:SizeOf.sizeOf ms1[j]<SizeOf.sizeOf ms1:=List.sizeOf_lt_of_mem (List.getElem_mem hj);generalize ms1[j]=M at h3 ⊢;obtain⟨e,ls,bd⟩:=M;simp[PArm.body] at h3 ⊢;omega
 exact key _ l (Nat.lt_succ_self _) va hx
abbrev ne1_ (ga oa i nvs1 xc1 nbo1 xc2 gb ob yc1 yc2:Nat) (k1 re1 at1:Int) (n1:ByteArray) (xa1 xa2 ya1 ya2:Option Addr):World→Prop:=fun w'=>w'.cell? ⟨ga,oa+i*6,none⟩=some (.int .i64 k1)∧w'.cell? ⟨ga,oa+i*6+1,none⟩=some (.string n1)∧w'.cell? ⟨ga,oa+i*6+2,none⟩=some (.int .i64 re1)∧w'.cell? ⟨ga,oa+i*6+3,none⟩=some (.slice xa1 nvs1 xc1)∧w'.cell? ⟨ga,oa+i*6+4,none⟩=some (.slice xa2 nbo1 xc2)∧w'.cell? ⟨ga,oa+i*6+5,none⟩=some (.int .i64 at1)∧w'.cell? ⟨gb,ob+i*6,none⟩=some (.int .i64 k1)∧w'.cell? ⟨gb,ob+i*6+1,none⟩=some (.string n1)∧w'.cell? ⟨gb,ob+i*6+2,none⟩=some (.int .i64 re1)∧w'.cell? ⟨gb,ob+i*6+3,none⟩=some (.slice ya1 nvs1 yc1)∧w'.cell? ⟨gb,ob+i*6+4,none⟩=some (.slice ya2 nbo1 yc2)∧w'.cell? ⟨gb,ob+i*6+5,none⟩=some (.int .i64 at1)
set_option maxRecDepth 10000 in
theorem aer_ {W:World} {oka okb:Nat→Prop} {va vb:Value} {l:List PU} (hx:Li kdU 27 W oka va l) (hb:Li kdU 27 W okb vb l):Calls Tryz.prog 11 #[va,vb] W (qj_ W):=by
 obtain⟨ax,ac,rfl⟩:=hx.sl;obtain⟨bx,bc,rfl⟩:=hb.sl;have HA:=xa_ hx;have HB:=xa_ hb;have hne:((l.length:Int) != (l.length:Int))=false:=(by simp);clear hx hb;go_enter Tryz.func11,Tryz.ntmps11;go_wp2_with fail
 have LS:Hid (EsL W l.length (l.length+1) (.int .i64 0) W):=⟨0,rfl,⟨Nat.zero_le _,rfl⟩,gz_⟩;go_loopg [5] (l.length+1) (fun gk s5 wx=>EsL W l.length gk s5 wx)
 case atStart=>exact LS.out
 case round=>
  obtain⟨i,rfl,⟨hi1,hgk⟩,hg⟩:=hrel;by_cases hi:i<l.length;rotate_left
  · have hlt:¬((i:Int)<(l.length:Int)):=(by omega);have HH:=xa_ hg;clear hg;go_wp2_with fail
    go_ret;exact⟨rfl,HH.out⟩
  have hlt:((i:Int)<(l.length:Int)):=(by omega);obtain⟨ga,oa,ca,ka,ea,hn,hga,hka,hca⟩:=HA.out.pick abn_ (by omega) i hi;obtain⟨gb,ob,cb,kb,eb,_,hgb,hkb,hcb⟩:=HB.out.pick abn_ (by omega) i hi;injection ea with ea1 ea2 ea3;injection eb with eb1 eb2 eb3;subst ea1 eb1 ea3 eb3;obtain⟨ka1,ka2⟩:=ka;obtain⟨kb1,kb2⟩:=kb;obtain⟨hA1,hA2⟩:=hka;obtain⟨hB1,hB2⟩:=hkb;simp only at hA1 hA2 hB1 hB2;obtain⟨xa1,xc1,rfl⟩:=hA1.sl;obtain⟨xa2,xc2,rfl⟩:=hA2.sl;obtain⟨ya1,yc1,rfl⟩:=hB1.sl;obtain⟨ya2,yc2,rfl⟩:=hB2.sl;generalize hE:l[i]=E at hca hcb hA1 hA2 hB1 hB2;obtain⟨k1,n1,re1,vs1,bo1,at1⟩:=E;simp only at hA1 hA2 hB1 hB2 hca hcb;have cV:Hid (∀ U,W.grownBy U none→Calls Tryz.prog 33 #[.slice xa1 vs1.length xc1,.slice ya1 vs1.length yc1] U (qj_ U)):=fun U hU=>aep_ (hA1.gw hU) (hB1.gw hU);have cB:Hid (∀ U,W.grownBy U none→Calls Tryz.prog 34 #[.slice xa2 bo1.length xc2,.slice ya2 bo1.length yc2] U (qj_ U)):=fun U hU=>aeq_ hA2 U hU _ _ (hB2.gw hU);have HGR:=xa_ hg;clear hA1 hA2 hB1 hB2;have cga0:wr.cell? ⟨ga,oa+i*6,none⟩=some (.int .i64 k1):=by
   have h:=hca 0 (by omega);rw[show oa+(i*6+0)=oa+i*6 by omega] at h;exact(World.cell?_of_block (hg.block ga (by omega) (by simp))).trans h
  have cga1:wr.cell? ⟨ga,oa+i*6+1,none⟩=some (.string n1):=by
   have h:=hca 1 (by omega);rw[show oa+(i*6+1)=oa+i*6+1 by omega] at h;exact(World.cell?_of_block (hg.block ga (by omega) (by simp))).trans h
  have cga2:wr.cell? ⟨ga,oa+i*6+2,none⟩=some (.int .i64 re1):=by
   have h:=hca 2 (by omega);rw[show oa+(i*6+2)=oa+i*6+2 by omega] at h;exact(World.cell?_of_block (hg.block ga (by omega) (by simp))).trans h
  have cga3:wr.cell? ⟨ga,oa+i*6+3,none⟩=some (.slice xa1 vs1.length xc1):=by
   have h:=hca 3 (by omega);rw[show oa+(i*6+3)=oa+i*6+3 by omega] at h;exact(World.cell?_of_block (hg.block ga (by omega) (by simp))).trans h
  have cga4:wr.cell? ⟨ga,oa+i*6+4,none⟩=some (.slice xa2 bo1.length xc2):=by
   have h:=hca 4 (by omega);rw[show oa+(i*6+4)=oa+i*6+4 by omega] at h;exact(World.cell?_of_block (hg.block ga (by omega) (by simp))).trans h
  have cga5:wr.cell? ⟨ga,oa+i*6+5,none⟩=some (.int .i64 at1):=by
   have h:=hca 5 (by omega);rw[show oa+(i*6+5)=oa+i*6+5 by omega] at h;exact(World.cell?_of_block (hg.block ga (by omega) (by simp))).trans h
  have cgb0:wr.cell? ⟨gb,ob+i*6,none⟩=some (.int .i64 k1):=by
   have h:=hcb 0 (by omega);rw[show ob+(i*6+0)=ob+i*6 by omega] at h;exact(World.cell?_of_block (hg.block gb (by omega) (by simp))).trans h
  have cgb1:wr.cell? ⟨gb,ob+i*6+1,none⟩=some (.string n1):=by
   have h:=hcb 1 (by omega);rw[show ob+(i*6+1)=ob+i*6+1 by omega] at h;exact(World.cell?_of_block (hg.block gb (by omega) (by simp))).trans h
  have cgb2:wr.cell? ⟨gb,ob+i*6+2,none⟩=some (.int .i64 re1):=by
   have h:=hcb 2 (by omega);rw[show ob+(i*6+2)=ob+i*6+2 by omega] at h;exact(World.cell?_of_block (hg.block gb (by omega) (by simp))).trans h
  have cgb3:wr.cell? ⟨gb,ob+i*6+3,none⟩=some (.slice ya1 vs1.length yc1):=by
   have h:=hcb 3 (by omega);rw[show ob+(i*6+3)=ob+i*6+3 by omega] at h;exact(World.cell?_of_block (hg.block gb (by omega) (by simp))).trans h
  have cgb4:wr.cell? ⟨gb,ob+i*6+4,none⟩=some (.slice ya2 bo1.length yc2):=by
   have h:=hcb 4 (by omega);rw[show ob+(i*6+4)=ob+i*6+4 by omega] at h;exact(World.cell?_of_block (hg.block gb (by omega) (by simp))).trans h
  have cgb5:wr.cell? ⟨gb,ob+i*6+5,none⟩=some (.int .i64 at1):=by
   have h:=hcb 5 (by omega);rw[show ob+(i*6+5)=ob+i*6+5 by omega] at h;exact(World.cell?_of_block (hg.block gb (by omega) (by simp))).trans h
  have hga2:ga<wr.heap.size:=(by have:=hg.size;omega);have hgb2:gb<wr.heap.size:=(by have:=hg.size;omega);have hwi:IntKind.i64.wrap ((i:Int)+1)=i+1:=IntWalk.i64_in _ (by omega);clear hg hca hcb;go_upto_region 6 with fail;go_cut [6,7] from 19 to 26 (fun s6 s7 wx=>∃ qa qb:Nat,s6=.pointer (some ⟨qa,0,none⟩)∧s7=.pointer (some ⟨qb,0,none⟩)∧Hid (wx.heap[qa]?=some (.cells #[.int .i64 k1,.string n1,.int .i64 re1,.slice xa1 vs1.length xc1,.slice xa2 bo1.length xc2,.int .i64 at1] 27)∧wx.heap[qb]?=some (.cells #[.int .i64 k1,.string n1,.int .i64 re1,.slice ya1 vs1.length yc1,.slice ya2 bo1.length yc2,.int .i64 at1] 27)∧wr.grownBy wx none))
  case first=>
   have hHeld0:(ne1_ ga oa i vs1.length xc1 bo1.length xc2 gb ob yc1 yc2 k1 re1 at1 n1 xa1 xa2 ya1 ya2) wr:=⟨cga0,cga1,cga2,cga3,cga4,cga5,cgb0,cgb1,cgb2,cgb3,cgb4,cgb5⟩;have hDr:∀(W:World),(ne1_ ga oa i vs1.length xc1 bo1.length xc2 gb ob yc1 yc2 k1 re1 at1 n1 xa1 xa2 ya1 ya2) W→(ne1_ ga oa i vs1.length xc1 bo1.length xc2 gb ob yc1 yc2 k1 re1 at1 n1 xa1 xa2 ya1 ya2) W.drew:=by
    rintro W ⟨h0,h1,h2,h3,h4,h5,h6,h7,h8,h9,h10,h11⟩;exact⟨h0,h1,h2,h3,h4,h5,h6,h7,h8,h9,h10,h11⟩
   have hHeld:=hDr _ hHeld0;have hOld:∀(W:World) (obj:Obj),(ne1_ ga oa i vs1.length xc1 bo1.length xc2 gb ob yc1 yc2 k1 re1 at1 n1 xa1 xa2 ya1 ya2) W→(ne1_ ga oa i vs1.length xc1 bo1.length xc2 gb ob yc1 yc2 k1 re1 at1 n1 xa1 xa2 ya1 ya2) (W.alloc obj):=by
    rintro W obj ⟨h0,h1,h2,h3,h4,h5,h6,h7,h8,h9,h10,h11⟩;exact⟨xg_ h0,xg_ h1,xg_ h2,xg_ h3,xg_ h4,xg_ h5,xg_ h6,xg_ h7,xg_ h8,xg_ h9,xg_ h10,xg_ h11⟩
   clear cga0 cga1 cga2 cga3 cga4 cga5 cgb0 cgb1 cgb2 cgb3 cgb4 cgb5;refine x8_ (L:=11) (S:=(fun w':World=>w'.cell? ⟨ga,oa+i*6,none⟩=some (.int .i64 k1)∧w'.cell? ⟨ga,oa+i*6+1,none⟩=some (.string n1)∧w'.cell? ⟨ga,oa+i*6+2,none⟩=some (.int .i64 re1)∧w'.cell? ⟨ga,oa+i*6+3,none⟩=some (.slice xa1 vs1.length xc1)∧w'.cell? ⟨ga,oa+i*6+4,none⟩=some (.slice xa2 bo1.length xc2)∧w'.cell? ⟨ga,oa+i*6+5,none⟩=some (.int .i64 at1)∧w'.cell? ⟨gb,ob+i*6,none⟩=some (.int .i64 k1)∧w'.cell? ⟨gb,ob+i*6+1,none⟩=some (.string n1)∧w'.cell? ⟨gb,ob+i*6+2,none⟩=some (.int .i64 re1)∧w'.cell? ⟨gb,ob+i*6+3,none⟩=some (.slice ya1 vs1.length yc1)∧w'.cell? ⟨gb,ob+i*6+4,none⟩=some (.slice ya2 bo1.length yc2)∧w'.cell? ⟨gb,ob+i*6+5,none⟩=some (.int .i64 at1))) (by kernel_rfl) ?_;refine xm_ (i:=0) (v:=?_) rfl (by kernel_rfl) (by kernel_rfl) (by kernel_rfl) (fun _ _ _ h=>h) (by decide) (Or.inl ⟨by rfl,?_⟩) (fun _=>hHeld) ?_;rotate_left
   ·intro w hSw;go_simp;(try with_reducible rfl)
   (try simp only[pu_]);refine xm_ (i:=1) (v:=?_) rfl (by kernel_rfl) (by kernel_rfl) (by kernel_rfl) (fun _ _ _ h=>h) (by decide) (Or.inl ⟨by rfl,?_⟩) (fun _=>hHeld) ?_;rotate_left
   ·intro w hSw;go_simp;(try with_reducible rfl)
   (try simp only[pu_]);refine xm_ (i:=2) (v:=?_) rfl (by kernel_rfl) (by kernel_rfl) (by kernel_rfl) (fun _ _ _ h=>h) (by decide) (Or.inl ⟨by rfl,?_⟩) (fun _=>hHeld) ?_;rotate_left
   ·intro w hSw;go_simp;(try with_reducible rfl)
   (try simp only[pu_]);refine xh_ (i:=3) (v:=?_) rfl (by kernel_rfl) (by kernel_rfl) (by kernel_rfl) (fun _ _ _ h=>h) (by kernel_rfl) (by kernel_rfl) (Or.inl ⟨by rfl,?_⟩) hHeld ?_;rotate_left
   ·intro w hSw;(try dsimp only at hSw);go_simp;(try with_reducible rfl)
   (try simp only[pu_]);refine xm_ (i:=4) (v:=?_) rfl (by kernel_rfl) (by kernel_rfl) (by kernel_rfl) (fun _ _ _ h=>h) (by decide) (Or.inl ⟨by rfl,?_⟩) (fun _=>hHeld) ?_;rotate_left
   ·intro w hSw;go_simp;(try with_reducible rfl)
   (try simp only[pu_]);refine xm_ (i:=5) (v:=?_) rfl (by kernel_rfl) (by kernel_rfl) (by kernel_rfl) (fun _ _ _ h=>h) (by decide) (Or.inl ⟨by rfl,?_⟩) (fun _=>hHeld) ?_;rotate_left
   ·intro w hSw;go_simp;(try with_reducible rfl)
   (try simp only[pu_]);refine xm_ (i:=6) (v:=?_) rfl (by kernel_rfl) (by kernel_rfl) (by kernel_rfl) (fun _ _ _ h=>h) (by decide) (Or.inl ⟨by rfl,?_⟩) (fun _=>hHeld) ?_;rotate_left
   ·intro w hSw;go_simp;(try with_reducible rfl)
   (try simp only[pu_]);refine xh_ (i:=7) (v:=?_) rfl (by kernel_rfl) (by kernel_rfl) (by kernel_rfl) (fun _ _ _ h=>h) (by kernel_rfl) (by kernel_rfl) (Or.inl ⟨by rfl,?_⟩) hHeld ?_;rotate_left
   ·intro w hSw;(try dsimp only at hSw);go_simp;(try with_reducible rfl)
   (try simp only[pu_]);refine zy_ (i:=8) (j:=9) (by kernel_rfl) rfl rfl (fun K hK=>?_) (fun K hK=>?_)
   · skip
     go_simp;refine hK.out _ _ (fun _ _=>hDr _ (hOld _ _ hHeld0)) ?_;clear hK K;(try simp only[pu_]);refine xk_ (j:=9) (by kernel_rfl) rfl (fun K hK=>?_);go_simp;refine hK.out _ _ (fun _ _=>hDr _ (hOld _ _ (hOld _ _ hHeld0))) ?_;clear hK K;(try simp only[pu_]);obtain⟨W5,hW5⟩:∃ W:World,W=(wr.alloc (.cells #[.int .i64 0,.string ⟨#[]⟩,.int .i64 0,.slice none 0 0,.slice none 0 0,.int .i64 0] 27)).alloc (.cells #[.int .i64 0,.string ⟨#[]⟩,.int .i64 0,.slice none 0 0,.slice none 0 0,.int .i64 0] 27):=⟨_,rfl⟩;have X1:W5.heap[wr.heap.size]?=some (.cells #[.int .i64 0,.string ⟨#[]⟩,.int .i64 0,.slice none 0 0,.slice none 0 0,.int .i64 0] 27):=(by rw[hW5];exact old (new _ _) _);have X2:W5.heap[wr.heap.size+1]?=some (.cells #[.int .i64 0,.string ⟨#[]⟩,.int .i64 0,.slice none 0 0,.slice none 0 0,.int .i64 0] 27):=(by rw[hW5];exact xe_ (by simp) _);have gW:wr.grownBy W5 none:=(by rw[hW5];exact xf_ (gr1 _ _) _);have hHW:(ne1_ ga oa i vs1.length xc1 bo1.length xc2 gb ob yc1 yc2 k1 re1 at1 n1 xa1 xa2 ya1 ya2) W5:=(by rw[hW5];exact hOld _ _ (hOld _ _ hHeld0));change x7_ _ _ _ _ _ _ _ _ _ ((wr.alloc (.cells #[.int .i64 0,.string ⟨#[]⟩,.int .i64 0,.slice none 0 0,.slice none 0 0,.int .i64 0] 27)).alloc (.cells #[.int .i64 0,.string ⟨#[]⟩,.int .i64 0,.slice none 0 0,.slice none 0 0,.int .i64 0] 27)).drew;rw[← hW5];clear hW5 hHeld hHeld0;obtain⟨xp,xq,xr,xf,xg,xh⟩:=xb_ X1;obtain⟨yp,yq,yr,yf,yg,yh⟩:=xb_ X2;have nq:wr.heap.size≠wr.heap.size+1:=(by omega);have nq2:wr.heap.size+1≠wr.heap.size:=(by omega)
     have gC:W5.grownBy ((((((W5.setCell ⟨wr.heap.size,0,none⟩ (.int .i64 k1)).setCell ⟨wr.heap.size,1,none⟩ (.string n1)).setCell ⟨wr.heap.size,2,none⟩ (.int .i64 re1)).setCell ⟨wr.heap.size,3,none⟩ (.slice xa1 vs1.length xc1)).setCell ⟨wr.heap.size,4,none⟩ (.slice xa2 bo1.length xc2)).setCell ⟨wr.heap.size,5,none⟩ (.int .i64 at1)) (some (wr.heap.size)):=gr6 (World.grownBy.refl W5 _);have nga:ga≠wr.heap.size:=(by omega);have ngb:gb≠wr.heap.size:=(by omega);have hHW6:(ne1_ ga oa i vs1.length xc1 bo1.length xc2 gb ob yc1 yc2 k1 re1 at1 n1 xa1 xa2 ya1 ya2) ((((((W5.setCell ⟨wr.heap.size,0,none⟩ (.int .i64 k1)).setCell ⟨wr.heap.size,1,none⟩ (.string n1)).setCell ⟨wr.heap.size,2,none⟩ (.int .i64 re1)).setCell ⟨wr.heap.size,3,none⟩ (.slice xa1 vs1.length xc1)).setCell ⟨wr.heap.size,4,none⟩ (.slice xa2 bo1.length xc2)).setCell ⟨wr.heap.size,5,none⟩ (.int .i64 at1)).drew:=by
      obtain⟨h0,h1,h2,h3,h4,h5,h6,h7,h8,h9,h10,h11⟩:=hHW;exact hDr _ ⟨xc_ h0 gC nga,xc_ h1 gC nga,xc_ h2 gC nga,xc_ h3 gC nga,xc_ h4 gC nga,xc_ h5 gC nga,xc_ h6 gC ngb,xc_ h7 gC ngb,xc_ h8 gC ngb,xc_ h9 gC ngb,xc_ h10 gC ngb,xc_ h11 gC ngb⟩
     refine xk_ (j:=10) (by kernel_rfl) rfl (fun K hK=>?_);go_simp;refine hK.out _ _ (fun _ _=>hHW6) ?_;clear hK K;(try simp only[pu_]);refine xk_ (j:=11) (by kernel_rfl) rfl (fun K hK=>?_);go_simp;refine hK.out _ _ (fun h=>absurd rfl h) ?_;clear hK K;(try simp only[pu_]);refine xy_ (by kernel_rfl) ?_ _;go_wp2_with fail
     go_meet
     exact⟨wr.heap.size,wr.heap.size+1,rfl,rfl,xa_ ⟨by rw[x0_];exact x3_ (gr6 gz_) (box6 X1) (by omega),by rw[x0_];exact box6 (x3_ (gr6 gz_) X2 (by omega)),xi_ (gr6n (gr6n gW (by omega)) (by omega))⟩⟩
   · skip
     go_simp;refine hK.out _ _ (fun _ _=>hDr _ (hOld _ _ hHeld0)) ?_;clear hK K;(try simp only[pu_]);refine xk_ (j:=8) (by kernel_rfl) rfl (fun K hK=>?_);go_simp;refine hK.out _ _ (fun _ _=>hDr _ (hOld _ _ (hOld _ _ hHeld0))) ?_;clear hK K;(try simp only[pu_]);obtain⟨W5,hW5⟩:∃ W:World,W=(wr.alloc (.cells #[.int .i64 0,.string ⟨#[]⟩,.int .i64 0,.slice none 0 0,.slice none 0 0,.int .i64 0] 27)).alloc (.cells #[.int .i64 0,.string ⟨#[]⟩,.int .i64 0,.slice none 0 0,.slice none 0 0,.int .i64 0] 27):=⟨_,rfl⟩;have X1:W5.heap[wr.heap.size]?=some (.cells #[.int .i64 0,.string ⟨#[]⟩,.int .i64 0,.slice none 0 0,.slice none 0 0,.int .i64 0] 27):=(by rw[hW5];exact old (new _ _) _);have X2:W5.heap[wr.heap.size+1]?=some (.cells #[.int .i64 0,.string ⟨#[]⟩,.int .i64 0,.slice none 0 0,.slice none 0 0,.int .i64 0] 27):=(by rw[hW5];exact xe_ (by simp) _);have gW:wr.grownBy W5 none:=(by rw[hW5];exact xf_ (gr1 _ _) _);have hHW:(ne1_ ga oa i vs1.length xc1 bo1.length xc2 gb ob yc1 yc2 k1 re1 at1 n1 xa1 xa2 ya1 ya2) W5:=(by rw[hW5];exact hOld _ _ (hOld _ _ hHeld0));change x7_ _ _ _ _ _ _ _ _ _ ((wr.alloc (.cells #[.int .i64 0,.string ⟨#[]⟩,.int .i64 0,.slice none 0 0,.slice none 0 0,.int .i64 0] 27)).alloc (.cells #[.int .i64 0,.string ⟨#[]⟩,.int .i64 0,.slice none 0 0,.slice none 0 0,.int .i64 0] 27)).drew;rw[← hW5];clear hW5 hHeld hHeld0;obtain⟨xp,xq,xr,xf,xg,xh⟩:=xb_ X1;obtain⟨yp,yq,yr,yf,yg,yh⟩:=xb_ X2;have nq:wr.heap.size+1≠wr.heap.size:=(by omega);have nq2:wr.heap.size≠wr.heap.size+1:=(by omega)
     have gC:W5.grownBy ((((((W5.setCell ⟨wr.heap.size+1,0,none⟩ (.int .i64 k1)).setCell ⟨wr.heap.size+1,1,none⟩ (.string n1)).setCell ⟨wr.heap.size+1,2,none⟩ (.int .i64 re1)).setCell ⟨wr.heap.size+1,3,none⟩ (.slice xa1 vs1.length xc1)).setCell ⟨wr.heap.size+1,4,none⟩ (.slice xa2 bo1.length xc2)).setCell ⟨wr.heap.size+1,5,none⟩ (.int .i64 at1)) (some (wr.heap.size+1)):=gr6 (World.grownBy.refl W5 _);have nga:ga≠wr.heap.size+1:=(by omega);have ngb:gb≠wr.heap.size+1:=(by omega);have hHW6:(ne1_ ga oa i vs1.length xc1 bo1.length xc2 gb ob yc1 yc2 k1 re1 at1 n1 xa1 xa2 ya1 ya2) ((((((W5.setCell ⟨wr.heap.size+1,0,none⟩ (.int .i64 k1)).setCell ⟨wr.heap.size+1,1,none⟩ (.string n1)).setCell ⟨wr.heap.size+1,2,none⟩ (.int .i64 re1)).setCell ⟨wr.heap.size+1,3,none⟩ (.slice xa1 vs1.length xc1)).setCell ⟨wr.heap.size+1,4,none⟩ (.slice xa2 bo1.length xc2)).setCell ⟨wr.heap.size+1,5,none⟩ (.int .i64 at1)).drew:=by
      obtain⟨h0,h1,h2,h3,h4,h5,h6,h7,h8,h9,h10,h11⟩:=hHW;exact hDr _ ⟨xc_ h0 gC nga,xc_ h1 gC nga,xc_ h2 gC nga,xc_ h3 gC nga,xc_ h4 gC nga,xc_ h5 gC nga,xc_ h6 gC ngb,xc_ h7 gC ngb,xc_ h8 gC ngb,xc_ h9 gC ngb,xc_ h10 gC ngb,xc_ h11 gC ngb⟩
     refine xk_ (j:=10) (by kernel_rfl) rfl (fun K hK=>?_);go_simp;refine hK.out _ _ (fun _ _=>hHW6) ?_;clear hK K;(try simp only[pu_]);refine xk_ (j:=11) (by kernel_rfl) rfl (fun K hK=>?_);go_simp;refine hK.out _ _ (fun h=>absurd rfl h) ?_;clear hK K;(try simp only[pu_]);refine xy_ (by kernel_rfl) ?_ _;go_wp2_with fail
     go_meet
     exact⟨wr.heap.size+1,wr.heap.size,rfl,rfl,xa_ ⟨by rw[x0_];exact x3_ (gr6 gz_) (box6 X2) (by omega),by rw[x0_];exact box6 (x3_ (gr6 gz_) X1 (by omega)),xi_ (gr6n (gr6n gW (by omega)) (by omega))⟩⟩
  case rest=>
  rename World=>wb
  obtain⟨qa,qb,rfl,rfl,HCU⟩:=hcut;obtain⟨hqa,hqb,hgc⟩:=HCU.out;clear HCU;have G0:=xa_ (gtn HGR.out hgc);have A0:=xa_ hqa;have B0:=xa_ hqb;clear hgc hqa hqb;obtain⟨xp,xq,xr,xf,xg,xh⟩:=xb_ A0.out;obtain⟨yp,yq,yr,yf,yg,yh⟩:=xb_ B0.out;go_wp2_with fail
  refine(cV.out _ G0.out).mono ?_;rintro e w1 ⟨rfl,g0⟩;have G1:=xa_ (gtn G0.out g0);have A1:=xa_ (kept g0 A0.out);have B1:=xa_ (kept g0 B0.out);clear g0 xp xq xr xf xg xh yp yq yr yf yg yh;obtain⟨xp,xq,xr,xf,xg,xh⟩:=xb_ A1.out;obtain⟨yp,yq,yr,yf,yg,yh⟩:=xb_ B1.out;go_wp2_with fail
  refine(cB.out _ G1.out).mono ?_;rintro e w2 ⟨rfl,g0⟩;have G2:=xa_ (gtn G1.out g0);clear g0;go_wp2_with fail
  go_roundg (l.length+1 - (i+1))
  case measure=>omega
  case rel=>
   exact⟨i+1,by simp,⟨by omega,rfl⟩,G2.out⟩
theorem adi_ {α Q:Type} {K:Kd α Q} {T:Nat} {W:World} {e:α} {q:Q} (h:K.S W (fun _=>True) e q):Li K T (W.alloc (.cells (K.c e q).toArray T)) (fun _=>True) (.slice (some ⟨W.heap.size,0,none⟩) 1 1) [e]:=by
 refine⟨[q],rfl,Row.of (by simp) trivial (new W _) (fun j hj=>by simp),?_⟩;intro p hp;simp at hp;subst hp;exact K.keep h (fun b _ hl=>(gr1 W _).block b hl (by simp)) (by simp)
set_option maxRecDepth 100000 in
theorem adj_ {V W:World} (hT:Tabs V) (hP:TabP V) (hV:Vs V W) {ok:Nat→Prop} (uk ur:Int) (s1:ByteArray) (vs:List PV) (xv:Option Addr) (cv:Nat) (bo:List PS) (xb:Option Addr) (cb:Nat) (ua:Int)
 (h:kdU.S W ok ⟨uk,s1,ur,vs,bo,ua⟩ (.slice xv vs.length cv,.slice xb bo.length cb)) (hc:ju_ ⟨uk,s1,ur,vs,bo,ua⟩≤4000000) (TT:ByteArray) (hTT:bs (if yx_ ⟨uk,s1,ur,vs,bo,ua⟩=true then shU ⟨uk,s1,ur,vs,bo,ua⟩ else [])=TT)
 (h10:∀ X,W.grownBy X none→Calls Tryz.prog 10 #[.agg #[.int .i64 uk,.string s1,.int .i64 ur,.slice xv vs.length cv,.slice xb bo.length cb,.int .i64 ua]] X (xv_ X TT)) :
 Calls Tryz.prog 3 #[.agg #[.int .i64 uk,.string s1,.int .i64 ur,.slice xv vs.length cv,.slice xb bo.length cb,.int .i64 ua]] W fun e w'=>e=.returned (.bool true)∧W.grownBy w' none:=by
 have h':kdU.S W (fun _=>True) ⟨uk,s1,ur,vs,bo,ua⟩ (.slice xv vs.length cv,.slice xb bo.length cb):=kdU.imp h fun _ _ _=>trivial;have hl:yx_ ⟨uk,s1,ur,vs,bo,ua⟩=true→(shU ⟨uk,s1,ur,vs,bo,ua⟩).length≤70368744177664:=fun hm=>by
  have:=aap_ _ hm;omega
 have c8:Hid (∀ X,W.grownBy X none→Calls Tryz.prog 8 #[.agg #[.int .i64 uk,.string s1,.int .i64 ur,.slice xv vs.length cv,.slice xb bo.length cb,.int .i64 ua]] X (xs_ X (yx_ ⟨uk,s1,ur,vs,bo,ua⟩))):=xa_ fun X g=>adg_ uk ur s1 vs xv cv bo xb cb ua (h'.1.gw g) (adh_ (h'.2.gw g));have c10:=xa_ h10;have c7:Hid (∀ X,W.grownBy X none→∀ q,kdU.S X (fun _=>True) ⟨uk,s1,ur,vs,bo,ua⟩ q→Calls Tryz.prog 7 #[.agg (kdU.c ⟨uk,s1,ur,vs,bo,ua⟩ q).toArray] X (xs_ X (yx_ ⟨uk,s1,ur,vs,bo,ua⟩))):=xa_ fun X g q hq=>aeg_ hT (hV.gr g) _ q hq hc;have c9:Hid (∀ X,W.grownBy X none→∀ q,kdU.S X (fun _=>True) ⟨uk,s1,ur,vs,bo,ua⟩ q→Calls Tryz.prog 9 #[.agg (kdU.c ⟨uk,s1,ur,vs,bo,ua⟩ q).toArray] X (xv_ X TT)):=xa_ fun X g q hq=>by
  have:=ade_ hT hP (hV.gr g) _ q hq hc hl;rw[hTT] at this;exact this
 have HU:=xa_ h';clear h h' hc hl hTT h10 hT hP hV;generalize yx_ ⟨uk,s1,ur,vs,bo,ua⟩=Z at c7 c8;have c6:Hid (∀ X,W.grownBy X none→∀ p,p=X.heap.size→Calls Tryz.prog 6 #[.slice (some ⟨p,0,none⟩) 1 1] (X.alloc (.cells #[.int .i64 uk,.string s1,.int .i64 ur,.slice xv vs.length cv,.slice xb bo.length cb,.int .i64 ua] 27)) fun e w'=>∃ v',e=.returned v'∧CUs w' (X.heap.size+1) v' [⟨uk,s1,ur,vs,bo,ua⟩]∧(X.alloc (.cells #[.int .i64 uk,.string s1,.int .i64 ur,.slice xv vs.length cv,.slice xb bo.length cb,.int .i64 ua] 27)).grownBy w' none):=xa_ fun X g p hp=>by
  subst hp;have h1:kdU.S X (fun _=>True) ⟨uk,s1,ur,vs,bo,ua⟩ (.slice xv vs.length cv,.slice xb bo.length cb):=kdU.keep HU.out (fun b _ hl=>g.block b hl (by simp)) g.size;have h2:=age_ (adi_ h1 (T:=27)) _ (gr0 _);have h3:(X.alloc (.cells (kdU.c ⟨uk,s1,ur,vs,bo,ua⟩ (.slice xv vs.length cv,.slice xb bo.length cb)).toArray 27)).heap.size=X.heap.size+1:=(by simp);rw[h3] at h2;exact h2
 have HSA:Hid (∀ X (w:World) (v:Value) (B:Nat),W.grownBy X none→CUs w B v [⟨uk,s1,ur,vs,bo,ua⟩]→(w.grownBy X none)→∀ p,p=X.heap.size→Calls Tryz.prog 11 #[v,.slice (some ⟨p,0,none⟩) 1 1] (X.alloc (.cells #[.int .i64 uk,.string s1,.int .i64 ur,.slice xv vs.length cv,.slice xb bo.length cb,.int .i64 ua] 27)) (qj_ (X.alloc (.cells #[.int .i64 uk,.string s1,.int .i64 ur,.slice xv vs.length cv,.slice xb bo.length cb,.int .i64 ua] 27)))):=xa_ fun X w v B g hcu gw p hp=>by
  subst hp;have h1:kdU.S X (fun _=>True) ⟨uk,s1,ur,vs,bo,ua⟩ (.slice xv vs.length cv,.slice xb bo.length cb):=kdU.keep HU.out (fun b _ hl=>g.block b hl (by simp)) g.size;exact aer_ (hcu.us.gw (gtn gw (gr1 _ _))) (adi_ h1)
 clear HU;go_enter Tryz.func3,Tryz.ntmps3;go_wp2_with fail
 refine(c6.out _ (gr1 _ _) _ (by simp)).mono ?_;rintro e w3 ⟨v,rfl,hcu,g3⟩;have hA:=kept g3 (old (new W (.cells #[.int .i64 uk,.string s1,.int .i64 ur,.slice xv vs.length cv,.slice xb bo.length cb,.int .i64 ua] 27)) (.cells #[.int .i64 uk,.string s1,.int .i64 ur,.slice xv vs.length cv,.slice xb bo.length cb,.int .i64 ua] 27));have hG:W.grownBy w3 none:=gtn (gtn (gr1 _ _) (gr1 _ _)) g3;obtain⟨g,⟨q1,q2⟩,hv,⟨hq1,hq2⟩,hcell⟩:=hcu.at 0 (by simp);obtain⟨a3,n3,e1⟩:=hq1.sl;obtain⟨g4,e2,_⟩:=hq2.nine;have e1:q1=.slice a3 vs.length n3:=e1;have e2:q2=.slice (some ⟨g4,0,none⟩) bo.length (bo.length+2):=e2;have hv:v=.slice (some ⟨g,0,none⟩) 1 3:=hv;subst e1 e2 hv;have hS:∀ X,w3.grownBy X none→kdU.S X (fun _=>True) ⟨uk,s1,ur,vs,bo,ua⟩ (.slice a3 vs.length n3,.slice (some ⟨g4,0,none⟩) bo.length (bo.length+2)):=fun X gx=>⟨(hq1.gw gx).imp fun _ _ _=>trivial,((Sm.ss hq2.sm).gw gx).imp fun _ _ _=>trivial⟩;have d7:Hid (∀ X,w3.grownBy X none→Calls Tryz.prog 7 #[.agg #[.int .i64 uk,.string s1,.int .i64 ur,.slice a3 vs.length n3,.slice (some ⟨g4,0,none⟩) bo.length (bo.length+2),.int .i64 ua]] X (fun e w'=>e=.returned (.bool Z)∧w3.grownBy w' none)):=xa_ fun X gx=>(c7.out X (gtn hG gx) _ (hS X gx)).mono fun e w' h=>⟨h.1,gtn gx h.2⟩;have d9:Hid (∀ X,w3.grownBy X none→Calls Tryz.prog 9 #[.agg #[.int .i64 uk,.string s1,.int .i64 ur,.slice a3 vs.length n3,.slice (some ⟨g4,0,none⟩) bo.length (bo.length+2),.int .i64 ua]] X (fun e w'=>e=.returned (.string TT)∧w3.grownBy w' none)):=xa_ fun X gx=>(c9.out X (gtn hG gx) _ (hS X gx)).mono fun e w' h=>⟨h.1,gtn gx h.2⟩
 have d8:Hid (∀ X,w3.grownBy X none→Calls Tryz.prog 8 #[.agg #[.int .i64 uk,.string s1,.int .i64 ur,.slice xv vs.length cv,.slice xb bo.length cb,.int .i64 ua]] X (fun e w'=>e=.returned (.bool Z)∧w3.grownBy w' none)):=xa_ fun X gx=>(c8.out X (gtn hG gx)).mono fun e w' h=>⟨h.1,gtn gx h.2⟩;have d10:Hid (∀ X,w3.grownBy X none→Calls Tryz.prog 10 #[.agg #[.int .i64 uk,.string s1,.int .i64 ur,.slice xv vs.length cv,.slice xb bo.length cb,.int .i64 ua]] X (fun e w'=>e=.returned (.string TT)∧w3.grownBy w' none)):=xa_ fun X gx=>(c10.out X (gtn hG gx)).mono fun e w' h=>⟨h.1,gtn gx h.2⟩;have d11:Hid (∀ X,w3.grownBy X none→∀ p,p=X.heap.size→Calls Tryz.prog 11 #[.slice (some ⟨g,0,none⟩) 1 3,.slice (some ⟨p,0,none⟩) 1 1] (X.alloc (.cells #[.int .i64 uk,.string s1,.int .i64 ur,.slice xv vs.length cv,.slice xb bo.length cb,.int .i64 ua] 27)) (qj_ (X.alloc (.cells #[.int .i64 uk,.string s1,.int .i64 ur,.slice xv vs.length cv,.slice xb bo.length cb,.int .i64 ua] 27)))):=xa_ fun X gx p hp=>HSA.out X w3 _ _ (gtn hG gx) hcu gx p hp;have d12:=xa_ (ack_ hcu);have A3:=xa_ hA
 have HCC:Hid (∀ X,w3.grownBy X none→X.cell? ⟨g,0,none⟩=some (.int .i64 uk)∧X.cell? ⟨g,1,none⟩=some (.string s1)∧X.cell? ⟨g,2,none⟩=some (.int .i64 ur)∧X.cell? ⟨g,3,none⟩=some (.slice a3 vs.length n3)∧X.cell? ⟨g,4,none⟩=some (.slice (some ⟨g4,0,none⟩) bo.length (bo.length+2))∧X.cell? ⟨g,5,none⟩=some (.int .i64 ua)∧X.cell? ⟨W.heap.size,0,none⟩=some (.int .i64 uk)∧X.cell? ⟨W.heap.size,1,none⟩=some (.string s1)∧X.cell? ⟨W.heap.size,2,none⟩=some (.int .i64 ur)∧X.cell? ⟨W.heap.size,3,none⟩=some (.slice xv vs.length cv)∧X.cell? ⟨W.heap.size,4,none⟩=some (.slice xb bo.length cb)∧X.cell? ⟨W.heap.size,5,none⟩=some (.int .i64 ua)):=xa_ fun X gx=>by
  have p:=xn_ (kept gx hA);have hc6:=hcell X gx;exact⟨(hc6 0 (by decide)).trans rfl,(hc6 1 (by decide)).trans rfl,(hc6 2 (by decide)).trans rfl,(hc6 3 (by decide)).trans rfl,(hc6 4 (by decide)).trans rfl,(hc6 5 (by decide)).trans rfl,(p 0).trans rfl,(p 1).trans rfl,(p 2).trans rfl,(p 3).trans rfl,(p 4).trans rfl,(p 5).trans rfl⟩
 have HG:=xa_ hG;clear c6 c7 c8 c9 c10 HSA hcu g3 hA hG hq1 hq2 hcell hS;dsimp only;have z0:(Z==Z)=true:=beq_self_eq_true Z;go_upto_region 2 with fail;go_region_held3 (fun X=>X.cell? ⟨g,0,none⟩=some (.int .i64 uk)∧X.cell? ⟨g,1,none⟩=some (.string s1)∧X.cell? ⟨g,2,none⟩=some (.int .i64 ur)∧X.cell? ⟨g,3,none⟩=some (.slice a3 vs.length n3)∧X.cell? ⟨g,4,none⟩=some (.slice (some ⟨g4,0,none⟩) bo.length (bo.length+2))∧X.cell? ⟨g,5,none⟩=some (.int .i64 ua)∧X.cell? ⟨W.heap.size,0,none⟩=some (.int .i64 uk)∧X.cell? ⟨W.heap.size,1,none⟩=some (.string s1)∧X.cell? ⟨W.heap.size,2,none⟩=some (.int .i64 ur)∧X.cell? ⟨W.heap.size,3,none⟩=some (.slice xv vs.length cv)∧X.cell? ⟨W.heap.size,4,none⟩=some (.slice xb bo.length cb)∧X.cell? ⟨W.heap.size,5,none⟩=some (.int .i64 ua)) (first|exact HCC.out _ (by assumption)|exact HCC.out _ (xi_ (gr0 _))|exact HCC.out _ (gr0 _)) (first
  | (go_at_call 7;with_reducible refine(d7.out _ (by first | assumption | exact xi_ (gr0 _) | exact gr0 _)).mono ?_;rintro e w7 ⟨rfl,g7⟩;dsimp only)
  | (go_at_call 8;with_reducible refine(d8.out _ (by first | assumption | exact xi_ (gr0 _) | exact gr0 _)).mono ?_;rintro e w8 ⟨rfl,g8⟩;dsimp only)
  | (go_at_call 9;with_reducible refine(d9.out _ (by first | assumption | exact xi_ (gr0 _) | exact gr0 _)).mono ?_;rintro e w9 ⟨rfl,g9⟩;dsimp only)
  | (go_at_call 10;with_reducible refine(d10.out _ (by first | assumption | exact xi_ (gr0 _) | exact gr0 _)).mono ?_;rintro e w10 ⟨rfl,g10⟩;dsimp only))
 have A10:=xa_ (kept g10 A3.out);obtain⟨p1,p2,p3,p4,p5,p6⟩:=xb_ A10.out;have G10:=xa_ g10;clear d7 d8 d9 d10 HCC A3 g10;go_wp2_with fail
 refine(d11.out w10 G10.out _ rfl).mono ?_;rintro e w11 ⟨rfl,g11⟩;dsimp only;have G11:=xa_ (gtn (gtn G10.out (gr1 _ _)) g11);clear p1 p2 p3 p4 p5 p6;go_wp2_with fail
 refine(d12.out _ G11.out).mono ?_;rintro e w12 ⟨rfl,g12⟩;dsimp only;have G12:=xa_ (gtn HG.out (gtn G11.out g12));clear g12;go_wp2_with fail
 go_ret;exact⟨rfl,G12.out⟩
open Go.ChangeShapes Go.WideShapes Go.ChangeAt Go.Lib
theorem kc3:Tryz.prog.cellsOf 3=1:=by kernel_rfl
theorem kc4:Tryz.prog.cellsOf 4=1:=by kernel_rfl
theorem kc9:Tryz.prog.cellsOf 9=1:=by kernel_rfl
theorem kc22:Tryz.prog.cellsOf 22=1:=by kernel_rfl
theorem kc23:Tryz.prog.cellsOf 23=1:=by kernel_rfl
theorem kc24:Tryz.prog.cellsOf 24=1:=by kernel_rfl
theorem kc25:Tryz.prog.cellsOf 25=1:=by kernel_rfl
theorem kc46:Tryz.prog.cellsOf 46=1:=by kernel_rfl
theorem kc47:Tryz.prog.cellsOf 47=1:=by kernel_rfl
theorem kc48:Tryz.prog.cellsOf 48=1:=by kernel_rfl
theorem kc50:Tryz.prog.cellsOf 50=8:=by kernel_rfl
theorem kc52:Tryz.prog.cellsOf 52=1:=by kernel_rfl
theorem kc95:Tryz.prog.cellsOf 95=1:=by kernel_rfl
theorem kc96:Tryz.prog.cellsOf 96=1:=by kernel_rfl
theorem kc97:Tryz.prog.cellsOf 97=1:=by kernel_rfl
theorem ajn_:Tryz.prog.cellsOf 102=1:=by kernel_rfl
theorem afh_:Tryz.prog.cellsOf 126=2:=by kernel_rfl
theorem afi_:Tryz.prog.cellsOf 101=12:=by kernel_rfl
theorem afj_:Tryz.prog.cellsOf 104=10:=by kernel_rfl
theorem kc99:Tryz.prog.cellsOf 99=13:=by kernel_rfl
theorem kc54:Tryz.prog.cellsOf 54=15:=by kernel_rfl
theorem kc27:Tryz.prog.cellsOf 27=6:=by kernel_rfl
theorem ln2 {α:Type} {l:List α} (h:l.length=2):∃ a0 a1,l=[a0,a1]:=by
 match l,h with
 | [a0,a1],_=>exact⟨a0,a1,rfl⟩
theorem ln3 {α:Type} {l:List α} (h:l.length=3):∃ a0 a1 a2,l=[a0,a1,a2]:=by
 match l,h with
 | [a0,a1,a2],_=>exact⟨a0,a1,a2,rfl⟩
theorem ln5 {α:Type} {l:List α} (h:l.length=5):∃ a0 a1 a2 a3 a4,l=[a0,a1,a2,a3,a4]:=by
 match l,h with
 | [a0,a1,a2,a3,a4],_=>exact⟨a0,a1,a2,a3,a4,rfl⟩
theorem ln6 {α:Type} {l:List α} (h:l.length=6):∃ a0 a1 a2 a3 a4 a5,l=[a0,a1,a2,a3,a4,a5]:=by
 match l,h with
 | [a0,a1,a2,a3,a4,a5],_=>exact⟨a0,a1,a2,a3,a4,a5,rfl⟩
theorem ln8 {α:Type} {l:List α} (h:l.length=8):∃ a0 a1 a2 a3 a4 a5 a6 a7,l=[a0,a1,a2,a3,a4,a5,a6,a7]:=by
 match l,h with
 | [a0,a1,a2,a3,a4,a5,a6,a7],_=>exact⟨a0,a1,a2,a3,a4,a5,a6,a7,rfl⟩
theorem ln10 {α:Type} {l:List α} (h:l.length=10):∃ a0 a1 a2 a3 a4 a5 a6 a7 a8 a9,l=[a0,a1,a2,a3,a4,a5,a6,a7,a8,a9]:=by
 match l,h with
 | [a0,a1,a2,a3,a4,a5,a6,a7,a8,a9],_=>exact⟨a0,a1,a2,a3,a4,a5,a6,a7,a8,a9,rfl⟩
theorem ln12 {α:Type} {l:List α} (h:l.length=12):∃ a0 a1 a2 a3 a4 a5 a6 a7 a8 a9 a10 a11,l=[a0,a1,a2,a3,a4,a5,a6,a7,a8,a9,a10,a11]:=by
 match l,h with
 | [a0,a1,a2,a3,a4,a5,a6,a7,a8,a9,a10,a11],_=>exact⟨a0,a1,a2,a3,a4,a5,a6,a7,a8,a9,a10,a11,rfl⟩
theorem ln13 {α:Type} {l:List α} (h:l.length=13):∃ a0 a1 a2 a3 a4 a5 a6 a7 a8 a9 a10 a11 a12,l=[a0,a1,a2,a3,a4,a5,a6,a7,a8,a9,a10,a11,a12]:=by
 match l,h with
 | [a0,a1,a2,a3,a4,a5,a6,a7,a8,a9,a10,a11,a12],_=>exact⟨a0,a1,a2,a3,a4,a5,a6,a7,a8,a9,a10,a11,a12,rfl⟩
theorem ln15 {α:Type} {l:List α} (h:l.length=15):∃ a0 a1 a2 a3 a4 a5 a6 a7 a8 a9 a10 a11 a12 a13 a14,l=[a0,a1,a2,a3,a4,a5,a6,a7,a8,a9,a10,a11,a12,a13,a14]:=by
 match l,h with
 | [a0,a1,a2,a3,a4,a5,a6,a7,a8,a9,a10,a11,a12,a13,a14],_=>exact⟨a0,a1,a2,a3,a4,a5,a6,a7,a8,a9,a10,a11,a12,a13,a14,rfl⟩
theorem aez_ {w:World} {x:Addr} {v:Value} (h:w.cell? (x.add 0)=some v):∃ b off,x=⟨b,off,none⟩:=by
 have hs:=World.cell?_spot h;obtain⟨b,off,sp⟩:=x;cases sp with
 | none=>exact⟨b,off,rfl⟩
 | some y=>simp[Addr.add] at hs
section
variable {H:Type} {enc:TypeId×Value→H} {w:World}
theorem adl_ (d:DataW H):1≤Rows.uptoBulk d:=by
 cases d with
 | lit l=>cases l <;> simp[Rows.uptoBulk]
 | nil=>simp[Rows.uptoBulk]
 | ptr d=>simp[Rows.uptoBulk]
 | slice elems spare=>simp[Rows.uptoBulk]
 | agg parts=>simp[Rows.uptoBulk]
 | iface t d=>simp[Rows.uptoBulk]
 | map entries=>simp[Rows.uptoBulk]
 | held h=>simp[Rows.uptoBulk]
theorem aaq_ {d:DataW H}:∀ {l:List (DataW H)},d∈l→Rows.uptoBulk d≤Rows.uptoBulkAll l
 | [],h=>by cases h
 | x::r,h=>by
  simp only[Rows.uptoBulkAll];cases List.mem_cons.1 h with
  | inl e=>subst e;omega
  | inr e=>have:=aaq_ e;omega
theorem adm_:∀(l:List (DataW H)),l.length≤Rows.uptoBulkAll l
 | []=>by simp
 | x::r=>by have:=adl_ x;have:=adm_ r;simp only[Rows.uptoBulkAll,List.length_cons];omega
theorem adn_ {α:Type} (cnt:α→Nat):∀(l:List α) (es:List (DataW H×List MemPlace)),l.length=es.length→(∀(i:Nat) (h1:i<l.length) (h2:i<es.length),cnt l[i]≤Rows.uptoBulk es[i].1)→(l.map cnt).sum≤Rows.uptoBulkAll (es.map (·.1))
 | [],[],_,_=>by simp[Rows.uptoBulkAll]
 | a::l,e::es,hl,h=>by
  have h0:=h 0 (by simp) (by simp);have h1:=adn_ cnt l es (by simpa using hl) (fun i a b=>by
   have:=h (i+1) (by simpa using a) (by simpa using b);simpa using this)
  simp only[List.map_cons,List.sum_cons,Rows.uptoBulkAll];simp at h0;omega
theorem aar_ {α:Type}:∀(l:List α),(l.map fun _=>1).sum=l.length
 | []=>rfl
 | _::l=>by rw[List.map_cons,List.sum_cons,aar_ l,List.length_cons];omega
theorem abi_ {α Q:Type} {c:α→Q→List Value} {sz b off:Nat} {l:List α} {qs:List Q} (hl:qs.length=l.length) (hp:0<sz) (hsz:∀ e q,(c e q).length=sz) (h:∀(i:Nat) (h1:i<l.length) (h2:i<qs.length) (j:Nat),j<sz→w.cell? ⟨b,off+(i*sz+j),none⟩=(c l[i] qs[i])[j]?) :
 ∀ k,k<((l.zip qs).flatMap fun p=>c p.1 p.2).length→w.cell? ⟨b,off+k,none⟩=((l.zip qs).flatMap fun p=>c p.1 p.2)[k]?:=by
 intro k hk;have hz:(l.zip qs).length=l.length:=(by simp;omega);rw[qw_ hsz,hz] at hk;have e:=Nat.div_add_mod k sz;have hm:=Nat.mod_lt k hp;have hd:k / sz<l.length:=Nat.div_lt_of_lt_mul (by rw[Nat.mul_comm];exact hk);have hfa:=zp_ (fun p:α×Q=>c p.1 p.2) sz (l.zip qs) (fun x _=>hsz _ _) (k / sz) (k % sz) (by omega) hm;have hzi:(l.zip qs)[k / sz]'(by omega)=(l[k / sz],qs[k / sz]'(by omega)):=(by simp);have ek:k / sz*sz+k % sz=k:=(by rw[Nat.mul_comm];exact e);rw[hzi,ek] at hfa;rw[hfa];have:=h (k / sz) hd (by omega) (k % sz) hm;rw[ek] at this;exact this
theorem zg_ {α Q:Type} (K:Kd α Q) {t e sz fuel:Nat} {v:Value} {x:DataW H×List MemPlace} (a0:α) (d0:Q) (ht:Tryz.prog.underlying t=some (.slice e)) (hc:Tryz.prog.cellsOf e=sz) (hp:0<sz) (hsz:∀ a q,(K.c a q).length=sz) (cnt:α→Nat)
 (h:DataW.trod enc Tryz.prog w 0 (fun _=>true) true fuel t [v]=some x) (hb:Rows.uptoBulk x.1≤1048576)
 (each:∀ n cs y,n<fuel→DataW.trod enc Tryz.prog w 0 (fun _=>true) true n e cs=some y→Rows.uptoBulk y.1≤1048576→∃ a q,cs=K.c a q∧K.S w (fun _=>True) a q∧cnt a≤Rows.uptoBulk y.1) :
 ∃ l,Li K e w (fun _=>True) v l∧(l.map cnt).sum+1≤Rows.uptoBulk x.1:=by
 rcases DataW.trod_slice ht h with⟨hcs,rfl⟩|⟨a,len,cap,es,rest,n,hn,hcs,rfl,_,hl,hm,hel,hx,_⟩
 ·simp at hcs;subst hcs;exact⟨[],Li.nil _ _,by simp[Rows.uptoBulk]⟩
 · simp at hcs;subst hcs;have hbx:Rows.uptoBulkAll (es.map (·.1))+1≤Rows.uptoBulk (DataW.slice (es.map (·.1)) (rest.map (·.1))):=(by simp only[Rows.uptoBulk];omega);have hbl:len≤1048576:=by
    have:=adm_ (es.map (·.1));rw[List.length_map,hel] at this;simp only at hb;omega
   have one:∀ i,i<len→∃ p:α×Q,(∀ j,j<sz→w.cell? ((a.add (i*sz)).add j)=(K.c p.1 p.2)[j]?)∧K.S w (fun _=>True) p.1 p.2∧∀(h2:i<es.length),cnt p.1≤Rows.uptoBulk es[i].1:=fun i hi=>by
    have h1:=hx i hi;rw[hc,List.getElem?_eq_getElem (by omega)] at h1;cases hcc:w.cells? 0 (a.add (i*sz)) sz with
    | none=>rw[hcc] at h1;cases h1
    | some cs=>
     rw[hcc] at h1;have h1:DataW.trod enc Tryz.prog w 0 (fun _=>true) true n e cs=some es[i]:=h1;obtain⟨b1,q1,e1,e2,e3⟩:=each n cs _ (by omega) h1 (by
      have:=aaq_ (d:=es[i].1) (l:=es.map (·.1)) (List.mem_map.2 ⟨es[i],List.getElem_mem _,rfl⟩);simp only at hb;omega)
     obtain⟨_,hlen,hcell⟩:=World.cells?_some hcc;refine⟨(b1,q1),fun j hj=>?_,e2,fun _=>e3⟩;rw[hcell j (by omega),e1]
   obtain⟨f,hf⟩:=@Deep.choose_lt (α×Q) ⟨(a0,d0)⟩ _ _ one;have hql:((List.range len).map fun i=>(f i).2).length=((List.range len).map fun i=>(f i).1).length:=(by simp);have hll:((List.range len).map fun i=>(f i).1).length=len:=(by simp);refine⟨(List.range len).map fun i=>(f i).1,⟨(List.range len).map fun i=>(f i).2,hql,⟨some a,cap,by rw[hll],by rw[hll];omega,?_⟩,fun p hp'=>?_⟩,?_⟩
   · by_cases h0:len=0
     ·exact Or.inl ⟨by rw[hll];exact h0,by subst h0;simp⟩
     · right;have hc0:=(hf 0 (by omega)).1 0 hp;rw[List.getElem?_eq_getElem (by rw[hsz];exact hp)] at hc0;rw[Nat.zero_mul] at hc0;obtain⟨b,off,rfl⟩:∃ b off,a=⟨b,off,none⟩:=by
        have h1:=hc0;rw[Deep.add_add,Nat.add_zero] at h1;exact aez_ h1
       refine⟨b,off,rfl,trivial,?_,abi_ hql hp hsz fun i h1 h2 j hj=>?_⟩
       ·have:=World.block_lt_of_cell? w _ hc0;rw[vu_,vu_] at this;exact this
       ·have hi:i<len:=(by rw[hll] at h1;exact h1);have:=(hf i hi).1 j hj;rw[vu_,vu_] at this;simp only[List.getElem_map,List.getElem_range];rw[← Nat.add_assoc];exact this
   ·obtain⟨i,hi,rfl⟩:=List.getElem_of_mem hp';have h1:i<len:=(by simp at hi;omega);have:=(hf i h1).2.1;simpa using this
   · have:=adn_ cnt ((List.range len).map fun i=>(f i).1) es (by rw[hll,hel]) (fun i h1 h2=>by
      have hi:i<len:=(by rw[hll] at h1;exact h1);have:=(hf i hi).2.2 h2;simpa using this)
     simp only;omega
def kdX:Kd PE Value:=⟨xC,fun w ok e k=>Xs w ok k e.kids,fun h hk hs=>h.kept hk hs,fun h hk=>h.imp hk⟩
theorem Li.xs {ok:Nat→Prop} {v:Value} {l:List PE} (h:Li kdX 50 w ok v l):Xs w ok v l:=by
 obtain⟨ks,h1,h2,h3⟩:=h;exact .mk v l ks h1 h2 h3
theorem kl_:∀(l:List PE),y9_ l=(l.map yj_).sum
 | []=>by simp[y9_]
 | e::l=>by rw[y9_,kl_ l];simp
theorem z6_:∀(l:List PS),ys_ l=(l.map jb_).sum
 | []=>by simp[ys_]
 | e::l=>by rw[ys_,z6_ l];simp
theorem k7_:∀(l:List PArm),yv_ l=(l.map jm_).sum
 | []=>by simp[yv_]
 | e::l=>by rw[yv_,k7_ l];simp
def pz0:PE:=.mk 0 0 0 0 nob nob 0 []
theorem j3_:∀(fuel:Nat) (cs:List Value) (y:DataW H×List MemPlace),DataW.trod enc Tryz.prog w 0 (fun _=>true) true fuel 50 cs=some y→Rows.uptoBulk y.1≤1048576→∃(e:PE) (k:Value),cs=xC e k∧Xs w (fun _=>True) k e.kids∧yj_ e≤Rows.uptoBulk y.1:=by
 intro fuel;induction fuel using Nat.strongRecOn with
 | _ fuel ih=>
  intro cs y h hb;obtain⟨xs,k,hk,hxy,hcl,hxl,hf⟩:=DataW.trod_struct Tryz.underlying50 h;obtain⟨y0,y1,y2,y3,y4,y5,y6,y7,rfl⟩:=ln8 hxl;obtain⟨c0,c1,c2,c3,c4,c5,c6,c7,rfl⟩:=ln8 (hcl.trans kc50);have g0:=hf 0 _ rfl;have g1:=hf 1 _ rfl;have g2:=hf 2 _ rfl;have g3:=hf 3 _ rfl;have g4:=hf 4 _ rfl;have g5:=hf 5 _ rfl;have g6:=hf 6 _ rfl;have g7:=hf 7 _ rfl;simp[kc3,kc9,kc23,kc46,kc47,kc48] at g0 g1 g2 g3 g4 g5 g6 g7;have hby:Rows.uptoBulk y0.1+Rows.uptoBulk y1.1+Rows.uptoBulk y2.1+Rows.uptoBulk y3.1+Rows.uptoBulk y4.1+Rows.uptoBulk y5.1+Rows.uptoBulk y6.1+Rows.uptoBulk y7.1+1≤Rows.uptoBulk y.1:=by
   rw[hxy];simp only[List.map_cons,List.map_nil,Rows.uptoBulk,Rows.uptoBulkAll];omega
  clear hf hxl hcl hxy;obtain⟨z0,hz,_,_⟩:=DataW.trod_int Tryz.underlying46 g0;simp at hz;subst hz;obtain⟨z1,hz,_,_⟩:=DataW.trod_int Tryz.underlying47 g1;simp at hz;subst hz;obtain⟨z2,hz,_,_⟩:=DataW.trod_int Tryz.underlying23 g2;simp at hz;subst hz;obtain⟨z3,hz,_,_⟩:=DataW.trod_int Tryz.underlying3 g3;simp at hz;subst hz;obtain⟨z4,hz,b4,_⟩:=DataW.trod_string Tryz.underlying9 g4;simp at hz;subst hz;have b4:z4.size+1≤Rows.uptoBulk y4.1:=(by rw[b4];simp[Rows.uptoBulk]);obtain⟨z5,hz,b5,_⟩:=DataW.trod_string Tryz.underlying9 g5;simp at hz;subst hz;have b5:z5.size+1≤Rows.uptoBulk y5.1:=(by rw[b5];simp[Rows.uptoBulk]);obtain⟨z6,hz,_,_⟩:=DataW.trod_int Tryz.underlying3 g6;simp at hz;subst hz;obtain⟨l,hl,hs⟩:=zg_ kdX pz0 (.slice none 0 0) Tryz.underlying48 kc50 (by omega) z8_ yj_ g7 (by omega) (fun n cs y hn hh hbb=>ih n (by omega) cs y hh hbb);exact⟨.mk z0 z1 z2 z3 z4 z5 z6 l,c7,rfl,hl.xs,by rw[yj_,kl_];omega⟩
theorem ae0_ {fuel:Nat} {v:Value} {x:DataW H×List MemPlace} (h:DataW.trod enc Tryz.prog w 0 (fun _=>true) true fuel 48 [v]=some x) (hb:Rows.uptoBulk x.1≤1048576):∃ l,Xs w (fun _=>True) v l∧y9_ l+1≤Rows.uptoBulk x.1:=by
 obtain⟨l,hl,hs⟩:=zg_ kdX pz0 (.slice none 0 0) Tryz.underlying48 kc50 (by omega) z8_ yj_ h hb (fun n cs y _ hh hbb=>j3_ n cs y hh hbb);exact⟨l,hl.xs,by rw[kl_];exact hs⟩
theorem ae1_ {fuel:Nat} {v:Value} {x:DataW H×List MemPlace} (h:DataW.trod enc Tryz.prog w 0 (fun _=>true) true fuel 96 [v]=some x) (hb:Rows.uptoBulk x.1≤1048576):∃ l,Li kdA 101 w (fun _=>True) v l∧(l.map za_).sum+1≤Rows.uptoBulk x.1:=
 zg_ kdA ⟨nob,false,nob,pz0,0⟩ (.slice none 0 0) Tryz.underlying96 afi_ (by omega) zn_ za_ h hb (fun n cs y _ h hb=>by
  obtain⟨xs,k,hk,hxy,hcl,hxl,hf⟩:=DataW.trod_struct Tryz.underlying101 h;obtain⟨y0,y1,y2,y3,y4,rfl⟩:=ln5 hxl;obtain⟨c0,c1,c2,c3,c4,c5,c6,c7,c8,c9,c10,c11,rfl⟩:=ln12 (hcl.trans afi_);have g0:=hf 0 _ rfl;have g1:=hf 1 _ rfl;have g2:=hf 2 _ rfl;have g3:=hf 3 _ rfl;have g4:=hf 4 _ rfl;simp[kc3,kc4,kc9,kc50] at g0 g1 g2 g3 g4;have hby:Rows.uptoBulk y0.1+Rows.uptoBulk y1.1+Rows.uptoBulk y2.1+Rows.uptoBulk y3.1+Rows.uptoBulk y4.1+1≤Rows.uptoBulk y.1:=by
   rw[hxy];simp only[List.map_cons,List.map_nil,Rows.uptoBulk,Rows.uptoBulkAll];omega
  clear hf hxl hcl hxy;obtain⟨z0,hz,b0,_⟩:=DataW.trod_string Tryz.underlying9 g0;simp at hz;subst hz;have b0:z0.size+1≤Rows.uptoBulk y0.1:=(by rw[b0];simp[Rows.uptoBulk]);obtain⟨z1,hz,_⟩:=DataW.trod_bool Tryz.underlying4 g1;simp at hz;subst hz;obtain⟨z2,hz,b2,_⟩:=DataW.trod_string Tryz.underlying9 g2;simp at hz;subst hz;have b2:z2.size+1≤Rows.uptoBulk y2.1:=(by rw[b2];simp[Rows.uptoBulk]);obtain⟨⟨f3,o3,kd3,n3,nm3,pt3,at3,ks3⟩,k3,hz,x3,b3⟩:=j3_ k _ _ g3 (by omega);simp[xC] at hz;obtain⟨rfl,rfl,rfl,rfl,rfl,rfl,rfl,rfl⟩:=hz;obtain⟨z4,hz,_,_⟩:=DataW.trod_int Tryz.underlying3 g4;simp at hz;subst hz;exact⟨⟨z0,z1,z2,.mk f3 o3 kd3 n3 nm3 pt3 at3 ks3,z4⟩,c10,rfl,x3,by simp only[za_];omega⟩)
theorem ae2_ {fuel:Nat} {v:Value} {x:DataW H×List MemPlace} (h:DataW.trod enc Tryz.prog w 0 (fun _=>true) true fuel 102 [v]=some x) (hb:Rows.uptoBulk x.1≤1048576):∃ l,Li kdL 126 w (fun _=>True) v l∧l.length+1≤Rows.uptoBulk x.1:=by
 obtain⟨l,hl,hs⟩:=zg_ kdL (0,0) () Tryz.underlying102 afh_ (by omega) (fun _ _=>rfl) (fun _=>1) h hb (fun n cs y _ h hb=>by
  obtain⟨xs,k,hk,hxy,hcl,hxl,hf⟩:=DataW.trod_array Tryz.underlying126 h;obtain⟨y0,y1,rfl⟩:=ln2 hxl;obtain⟨c0,c1,rfl⟩:=ln2 (hcl.trans afh_);have g0:=hf 0 (by omega);have g1:=hf 1 (by omega);simp[kc3] at g0 g1;obtain⟨z0,hz,_,_⟩:=DataW.trod_int Tryz.underlying3 g0;simp at hz;subst hz;obtain⟨z1,hz,_,_⟩:=DataW.trod_int Tryz.underlying3 g1;simp at hz;subst hz;exact⟨(z0,z1),(),rfl,trivial,adl_ _⟩)
 exact⟨l,hl,by rw[aar_] at hs;exact hs⟩
def ps0:PS:=.mk 0 0 nob false [] [] [] [] [] 0 0 0 0
theorem ae3_:∀(fuel:Nat),(∀(cs:List Value) (y:DataW H×List MemPlace),DataW.trod enc Tryz.prog w 0 (fun _=>true) true fuel 99 cs=some y→Rows.uptoBulk y.1≤1048576→∃(s:PS) (q:Sq),cs=sC s q∧sS w (fun _=>True) s q∧jb_ s≤Rows.uptoBulk y.1)∧
 (∀(cs:List Value) (y:DataW H×List MemPlace),DataW.trod enc Tryz.prog w 0 (fun _=>true) true fuel 104 cs=some y→Rows.uptoBulk y.1≤1048576→∃(s:PArm) (q:Value×Value×Value),cs=mC s q∧mS w (fun _=>True) s q∧jm_ s≤Rows.uptoBulk y.1):=by
 intro fuel;induction fuel using Nat.strongRecOn with
 | _ fuel ih=>
  refine⟨fun cs y h hb=>?_,fun cs y h hb=>?_⟩
  · skip
    obtain⟨xs,k,hk,hxy,hcl,hxl,hf⟩:=DataW.trod_struct Tryz.underlying99 h;obtain⟨y0,y1,y2,y3,y4,y5,y6,y7,y8,y9,y10,y11,y12,rfl⟩:=ln13 hxl;obtain⟨c0,c1,c2,c3,c4,c5,c6,c7,c8,c9,c10,c11,c12,rfl⟩:=ln13 (hcl.trans kc99);have g0:=hf 0 _ rfl;have g1:=hf 1 _ rfl;have g2:=hf 2 _ rfl;have g3:=hf 3 _ rfl;have g4:=hf 4 _ rfl;have g5:=hf 5 _ rfl;have g6:=hf 6 _ rfl;have g7:=hf 7 _ rfl;have g8:=hf 8 _ rfl;have g9:=hf 9 _ rfl;have g10:=hf 10 _ rfl;have g11:=hf 11 _ rfl;have g12:=hf 12 _ rfl;simp[kc3,kc4,kc9,kc25,kc48,kc95,kc96,kc97] at g0 g1 g2 g3 g4 g5 g6 g7 g8 g9 g10 g11 g12;have hby:Rows.uptoBulk y0.1+Rows.uptoBulk y1.1+Rows.uptoBulk y2.1+Rows.uptoBulk y3.1+Rows.uptoBulk y4.1+Rows.uptoBulk y5.1+Rows.uptoBulk y6.1+Rows.uptoBulk y7.1+Rows.uptoBulk y8.1+Rows.uptoBulk y9.1+Rows.uptoBulk y10.1+Rows.uptoBulk y11.1+Rows.uptoBulk y12.1+1≤Rows.uptoBulk y.1:=by
     rw[hxy];simp only[List.map_cons,List.map_nil,Rows.uptoBulk,Rows.uptoBulkAll];omega
    clear hf hxl hcl hxy;obtain⟨z0,hz,_,_⟩:=DataW.trod_int Tryz.underlying95 g0;simp at hz;subst hz;obtain⟨z1,hz,_,_⟩:=DataW.trod_int Tryz.underlying3 g1;simp at hz;subst hz;obtain⟨z2,hz,b2,_⟩:=DataW.trod_string Tryz.underlying9 g2;simp at hz;subst hz;have b2:z2.size+1≤Rows.uptoBulk y2.1:=(by rw[b2];simp[Rows.uptoBulk]);obtain⟨z3,hz,_⟩:=DataW.trod_bool Tryz.underlying4 g3;simp at hz;subst hz;obtain⟨z9,hz,_,_⟩:=DataW.trod_int Tryz.underlying3 g9;simp at hz;subst hz;obtain⟨z10,hz,_,_⟩:=DataW.trod_int Tryz.underlying3 g10;simp at hz;subst hz;obtain⟨z11,hz,_,_⟩:=DataW.trod_int Tryz.underlying3 g11;simp at hz;subst hz;obtain⟨z12,hz,_,_⟩:=DataW.trod_int Tryz.underlying3 g12;simp at hz;subst hz;obtain⟨es,he,be⟩:=ae0_ g4 (by omega);obtain⟨ags,ha,ba⟩:=ae1_ g5 (by omega);obtain⟨ms,hm,bm⟩:=zg_ kdM (.mk pz0 [] []) (.slice none 0 0,.slice none 0 0,.slice none 0 0) Tryz.underlying97 afj_ (by omega) zb_ jm_ g6 (by omega) (fun n cs y hn hh hbb=>(ih n (by omega)).2 cs y hh hbb);obtain⟨el,hl,bl⟩:=zg_ kdS ps0 ⟨.slice none 0 0,.slice none 0 0,.slice none 0 0,.slice none 0 0,.slice none 0 0⟩ Tryz.underlying25 kc99 (by omega) y1_ jb_ g7 (by omega) (fun n cs y hn hh hbb=>(ih n (by omega)).1 cs y hh hbb);obtain⟨bo,hbo,bb⟩:=zg_ kdS ps0 ⟨.slice none 0 0,.slice none 0 0,.slice none 0 0,.slice none 0 0,.slice none 0 0⟩ Tryz.underlying25 kc99 (by omega) y1_ jb_ g8 (by omega) (fun n cs y hn hh hbb=>(ih n (by omega)).1 cs y hh hbb)
    exact⟨.mk z0 z1 z2 z3 es ags ms el bo z9 z10 z11 z12,⟨c4,c5,c6,c7,c8⟩,rfl,⟨⟨he,ha⟩,hm.ms,hl.ss,hbo.ss⟩,by rw[jb_,k7_,z6_,z6_];omega⟩
  · skip
    obtain⟨xs,k,hk,hxy,hcl,hxl,hf⟩:=DataW.trod_struct Tryz.underlying104 h;obtain⟨y0,y1,y2,rfl⟩:=ln3 hxl;obtain⟨c0,c1,c2,c3,c4,c5,c6,c7,c8,c9,rfl⟩:=ln10 (hcl.trans afj_);have g0:=hf 0 _ rfl;have g1:=hf 1 _ rfl;have g2:=hf 2 _ rfl;simp[kc25,kc50,ajn_] at g0 g1 g2;have hby:Rows.uptoBulk y0.1+Rows.uptoBulk y1.1+Rows.uptoBulk y2.1+1≤Rows.uptoBulk y.1:=by
     rw[hxy];simp only[List.map_cons,List.map_nil,Rows.uptoBulk,Rows.uptoBulkAll];omega
    clear hf hxl hcl hxy;obtain⟨⟨f0,o0,kd0,n0,nm0,pt0,at0,ks0⟩,k0,hz,x0,b0⟩:=j3_ k _ _ g0 (by omega);simp[xC] at hz;obtain⟨rfl,rfl,rfl,rfl,rfl,rfl,rfl,rfl⟩:=hz;obtain⟨ls,hl,bl⟩:=ae2_ g1 (by omega);obtain⟨bo,hbo,bb⟩:=zg_ kdS ps0 ⟨.slice none 0 0,.slice none 0 0,.slice none 0 0,.slice none 0 0,.slice none 0 0⟩ Tryz.underlying25 kc99 (by omega) y1_ jb_ g2 (by omega) (fun n cs y hn hh hbb=>(ih n (by omega)).1 cs y hh hbb);exact⟨.mk (.mk f0 o0 kd0 n0 nm0 pt0 at0 ks0) ls bo,(c7,c8,c9),rfl,⟨⟨x0,hl⟩,hbo.ss⟩,by rw[jm_,z6_];omega⟩
theorem ae4_ {fuel:Nat} {v:Value} {x:DataW H×List MemPlace} (h:DataW.trod enc Tryz.prog w 0 (fun _=>true) true fuel 24 [v]=some x) (hb:Rows.uptoBulk x.1≤1048576):∃ l,Li kdV 54 w (fun _=>True) v l∧(l.map zt_).sum+1≤Rows.uptoBulk x.1:=
 zg_ kdV ⟨nob,0,0,nob,0,0,pz0,0⟩ (.slice none 0 0) Tryz.underlying24 kc54 (by omega) zm_ zt_ h hb (fun n cs y _ h hb=>by
  obtain⟨xs,k,hk,hxy,hcl,hxl,hf⟩:=DataW.trod_struct Tryz.underlying54 h;obtain⟨y0,y1,y2,y3,y4,y5,y6,y7,rfl⟩:=ln8 hxl;obtain⟨c0,c1,c2,c3,c4,c5,c6,c7,c8,c9,c10,c11,c12,c13,c14,rfl⟩:=ln15 (hcl.trans kc54);have g0:=hf 0 _ rfl;have g1:=hf 1 _ rfl;have g2:=hf 2 _ rfl;have g3:=hf 3 _ rfl;have g4:=hf 4 _ rfl;have g5:=hf 5 _ rfl;have g6:=hf 6 _ rfl;have g7:=hf 7 _ rfl;simp[kc3,kc9,kc23,kc50,kc52] at g0 g1 g2 g3 g4 g5 g6 g7;have hby:Rows.uptoBulk y0.1+Rows.uptoBulk y1.1+Rows.uptoBulk y2.1+Rows.uptoBulk y3.1+Rows.uptoBulk y4.1+Rows.uptoBulk y5.1+Rows.uptoBulk y6.1+Rows.uptoBulk y7.1+1≤Rows.uptoBulk y.1:=by
   rw[hxy];simp only[List.map_cons,List.map_nil,Rows.uptoBulk,Rows.uptoBulkAll];omega
  clear hf hxl hcl hxy;obtain⟨z0,hz,b0,_⟩:=DataW.trod_string Tryz.underlying9 g0;simp at hz;subst hz;have b0:z0.size+1≤Rows.uptoBulk y0.1:=(by rw[b0];simp[Rows.uptoBulk]);obtain⟨z1,hz,_,_⟩:=DataW.trod_int Tryz.underlying52 g1;simp at hz;subst hz;obtain⟨z2,hz,_,_⟩:=DataW.trod_int Tryz.underlying23 g2;simp at hz;subst hz;obtain⟨z3,hz,b3,_⟩:=DataW.trod_string Tryz.underlying9 g3;simp at hz;subst hz;have b3:z3.size+1≤Rows.uptoBulk y3.1:=(by rw[b3];simp[Rows.uptoBulk]);obtain⟨z4,hz,_,_⟩:=DataW.trod_int Tryz.underlying3 g4;simp at hz;subst hz;obtain⟨z5,hz,_,_⟩:=DataW.trod_int Tryz.underlying3 g5;simp at hz;subst hz;obtain⟨⟨f6,o6,kd6,n6,nm6,pt6,at6,ks6⟩,k6,hz,x6,b6⟩:=j3_ k _ _ g6 (by omega);simp[xC] at hz;obtain⟨rfl,rfl,rfl,rfl,rfl,rfl,rfl,rfl⟩:=hz;obtain⟨z7,hz,_,_⟩:=DataW.trod_int Tryz.underlying3 g7;simp at hz;subst hz;exact⟨⟨z0,z1,z2,z3,z4,z5,.mk f6 o6 kd6 n6 nm6 pt6 at6 ks6,z7⟩,c13,rfl,x6,by simp only[zt_];omega⟩)
theorem ae5_ {fuel:Nat} {cs:List Value} {y:DataW H×List MemPlace} (h:DataW.trod enc Tryz.prog w 0 (fun _=>true) true fuel 27 cs=some y) (hb:Rows.uptoBulk y.1≤1048576):∃(u:PU) (q:Value×Value),cs=uC u q∧kdU.S w (fun _=>True) u q∧ju_ u≤Rows.uptoBulk y.1:=by
 obtain⟨xs,k,hk,hxy,hcl,hxl,hf⟩:=DataW.trod_struct Tryz.underlying27 h;obtain⟨y0,y1,y2,y3,y4,y5,rfl⟩:=ln6 hxl;obtain⟨c0,c1,c2,c3,c4,c5,rfl⟩:=ln6 (hcl.trans kc27);have g0:=hf 0 _ rfl;have g1:=hf 1 _ rfl;have g2:=hf 2 _ rfl;have g3:=hf 3 _ rfl;have g4:=hf 4 _ rfl;have g5:=hf 5 _ rfl;simp[kc3,kc9,kc22,kc23,kc24,kc25] at g0 g1 g2 g3 g4 g5;have hby:Rows.uptoBulk y0.1+Rows.uptoBulk y1.1+Rows.uptoBulk y2.1+Rows.uptoBulk y3.1+Rows.uptoBulk y4.1+Rows.uptoBulk y5.1+1≤Rows.uptoBulk y.1:=by
  rw[hxy];simp only[List.map_cons,List.map_nil,Rows.uptoBulk,Rows.uptoBulkAll];omega
 clear hf hxl hcl hxy;obtain⟨z0,hz,_,_⟩:=DataW.trod_int Tryz.underlying22 g0;simp at hz;subst hz;obtain⟨z1,hz,b1,_⟩:=DataW.trod_string Tryz.underlying9 g1;simp at hz;subst hz;have b1:z1.size+1≤Rows.uptoBulk y1.1:=(by rw[b1];simp[Rows.uptoBulk]);obtain⟨z2,hz,_,_⟩:=DataW.trod_int Tryz.underlying23 g2;simp at hz;subst hz;obtain⟨z5,hz,_,_⟩:=DataW.trod_int Tryz.underlying3 g5;simp at hz;subst hz;obtain⟨vs,hv,bv⟩:=ae4_ g3 (by omega);obtain⟨bo,hbo,bb⟩:=zg_ kdS ps0 ⟨.slice none 0 0,.slice none 0 0,.slice none 0 0,.slice none 0 0,.slice none 0 0⟩ Tryz.underlying25 kc99 (by omega) y1_ jb_ g4 (by omega) (fun n cs y _ hh hbb=>(ae3_ n).1 cs y hh hbb);exact⟨⟨z0,z1,z2,vs,bo,z5⟩,(c3,c4),rfl,⟨hv,hbo⟩,by simp only[ju_];rw[z6_];omega⟩
end
end Go.Proofs.YtcoglmaiahpooaaGreatDoor
