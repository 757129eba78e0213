/- Texts put together: Dy. -/
import Derived.Test.YtcoglmaiahpooaaGreatDoorQ27
set_option linter.unusedVariables false
set_option linter.unusedSimpArgs false
set_option maxHeartbeats 8000000
namespace Go.Proofs.YtcoglmaiahpooaaGreatDoor
open Go.RowKit
attribute [local go_sem ↓] Go.wp_at_zero Go.wp_at_succ
theorem way3 (d:Int) (e:PE) (ls:List (Int×Int)) (b:List PS):x5_ 3 d (.mk e ls b)=(decide (ls.length=0) && (xr_ d e && (ls.all y2_ && xq_ d b))):=by
 rw[x5_,kn_,if_pos rfl];cases ls with
 | nil=>simp
 | cons a l=>simp
theorem way4 (d:Int) (e:PE) (ls:List (Int×Int)) (b:List PS):x5_ 4 d (.mk e ls b)=(!decide (ls.length=0) && (xz_ e && (ls.all y2_ && xq_ d b))):=by
 rw[x5_,kn_,if_neg (by decide)];cases ls with
 | nil=>simp
 | cons a l=>simp[Bool.and_assoc]
def LO (W:World) (k:Value) (l:List PS):Prop:=∀(d:Int),0≤d→d≤100→∀ W',W.grownBy W' none→Calls Tryz.prog 26 #[k,.int .i64 d] W' (xs_ W' (xq_ d l))
theorem aak_ (p:Int×Int) (u:Unit):(kdL.c p u).length=2:=rfl
set_option maxRecDepth 100000 in
theorem ahm_ {W:World} {ok:Nat→Prop} (x1 x2 x3 x4 x5:Option Addr) (c1 c2 c3 c4 c5:Nat) (v sa:Int) (nm:ByteArray) (it:Bool) (es:List PE) (ps:List PArg) (ms:List PArm) (el bo:List PS) (lo hi by1 ti:Int) (hx1:Xs W ok (.slice x1 es.length c1) es) (hx2:Li kdA 101 W ok (.slice x2 ps.length c2) ps) (hx3:Li kdM 104 W ok (.slice x3 ms.length c3) ms)
 (hL3:∀(i:Nat) (hi:i<ms.length) (k:Value) (W':World),W.grownBy W' none→Sm W' ok k (.inl ms[i].body)→LO W' k ms[i].body) (hL4:LO W (.slice x4 el.length c4) el) (hL5:LO W (.slice x5 bo.length c5) bo) (d:Int) (h0:0≤d) (h1:d≤100) :
 Calls Tryz.prog 55 #[sV v sa nm it (.slice x1 es.length c1) (.slice x2 ps.length c2) (.slice x3 ms.length c3) (.slice x4 el.length c4) (.slice x5 bo.length c5) lo hi by1 ti,.int .i64 d] W (xs_ W (ye_ d (.mk v sa nm it es ps ms el bo lo hi by1 ti))):=by
 rw[← ahj_,docS];obtain⟨Z,hZ⟩:∃ Z,((decide (1≤v) && decide (v≤10)) && (wiL (usL nm it es.length ps.length ms.length el.length bo.length lo hi by1 ti) (zo_ v) && (decide (es.length=cnV v it) && (es.all (xr_ d) && ((!zz_ v ||nmB nm) && ((!decide (v=5) ||ke_ lo hi by1) && ((!z5_ v ||(decide (1≤ti) && decide (ti≤10000))) && (xq_ d bo && (xq_ d el && (decide (ps.length≤16) && (ps.all (yl_ d) && ((!qc_ v || !decide (ms.length=0)) && ms.all (x5_ v d)))))))))))))=Z:=⟨_,rfl⟩;rw[hZ];have HZ:=xa_ hZ;have HX1:=xa_ hx1;have HX2:=xa_ hx2;have HX3:=xa_ hx3;have HL3:=xa_ hL3;have HL4:=xa_ hL4;have HL5:=xa_ hL5;have hle1:=hx1.le;have hle2:=hx2.le;have hle3:=hx3.le;clear hZ hx1 hx2 hx3 hL3 hL4 hL5;obtain⟨W1,hW1⟩:∃ X,X=W.alloc (.cells #[.int .i64 v,.int .i64 sa,.string nm,.bool it,.slice x1 es.length c1,.slice x2 ps.length c2,.slice x3 ms.length c3,.slice x4 el.length c4,.slice x5 bo.length c5,.int .i64 lo,.int .i64 hi,.int .i64 by1,.int .i64 ti] 99):=⟨_,rfl⟩;have AX:Hid (W1.heap[W.heap.size]?=some (.cells #[.int .i64 v,.int .i64 sa,.string nm,.bool it,.slice x1 es.length c1,.slice x2 ps.length c2,.slice x3 ms.length c3,.slice x4 el.length c4,.slice x5 bo.length c5,.int .i64 lo,.int .i64 hi,.int .i64 by1,.int .i64 ti] 99)):=hW1▸xe_ rfl _;have GX:Hid (W.grownBy W1 none):=hW1▸gr1 _ _;have HW:=xa_ hW1;clear hW1;go_enter Tryz.func55,Tryz.ntmps55;go_upto_block 0 with fail
 rw[← HW.out];clear HW;obtain⟨p1,p2,p3,p4,p5,p6⟩:=xb_ AX.out;go_cut [5,6] from 15 (fun s5 s6 wx=>s5=.string ⟨(zo_ v).toArray⟩∧s6=.int .i64 ((cnV v it:Nat):Int)∧Hid (W.grownBy wx none∧wx.heap[W.heap.size]?=some (.cells #[.int .i64 v,.int .i64 sa,.string nm,.bool it,.slice x1 es.length c1,.slice x2 ps.length c2,.slice x3 ms.length c3,.slice x4 el.length c4,.slice x5 bo.length c5,.int .i64 lo,.int .i64 hi,.int .i64 by1,.int .i64 ti] 99)∧(wiL (usL nm it es.length ps.length ms.length el.length bo.length lo hi by1 ti) (zo_ v) && (decide (es.length=cnV v it) && (es.all (xr_ d) && ((!zz_ v ||nmB nm) && ((!decide (v=5) ||ke_ lo hi by1) && ((!z5_ v ||(decide (1≤ti) && decide (ti≤10000))) && (xq_ d bo && (xq_ d el && (decide (ps.length≤16) && (ps.all (yl_ d) && ((!qc_ v || !decide (ms.length=0)) && ms.all (x5_ v d))))))))))))=Z))
 case first=>
  as_aux_lemma=>
   by_cases hv:1≤v∧v≤10;rotate_left
   · have e:Z=false:=by
      rw[← HZ.out];have:(decide (1≤v) && decide (v≤10))=false:=(by rw[Bool.and_eq_false_iff];simp;omega)
      rw[this];rfl
     subst e;clear HZ;have j1:(v==1)=false:=(by rw[beq_eq_false_iff_ne];omega);have j2:(v==2)=false:=(by rw[beq_eq_false_iff_ne];omega);have j3:(v==3)=false:=(by rw[beq_eq_false_iff_ne];omega);have j4:(v==4)=false:=(by rw[beq_eq_false_iff_ne];omega);have j5:(v==5)=false:=(by rw[beq_eq_false_iff_ne];omega);have j6:(v==6)=false:=(by rw[beq_eq_false_iff_ne];omega);have j7:(v==7)=false:=(by rw[beq_eq_false_iff_ne];omega);have j8:(v==8)=false:=(by rw[beq_eq_false_iff_ne];omega);have j9:(v==9)=false:=(by rw[beq_eq_false_iff_ne];omega);have j10:(v==10)=false:=(by rw[beq_eq_false_iff_ne];omega);clear hv;go_wp2_with fail
     go_ret;exact⟨rfl,GX.out⟩
   have hY:(wiL (usL nm it es.length ps.length ms.length el.length bo.length lo hi by1 ti) (zo_ v) && (decide (es.length=cnV v it) && (es.all (xr_ d) && ((!zz_ v ||nmB nm) && ((!decide (v=5) ||ke_ lo hi by1) && ((!z5_ v ||(decide (1≤ti) && decide (ti≤10000))) && (xq_ d bo && (xq_ d el && (decide (ps.length≤16) && (ps.all (yl_ d) && ((!qc_ v || !decide (ms.length=0)) && ms.all (x5_ v d))))))))))))=Z:=by
    rw[← HZ.out,decide_eq_true hv.1,decide_eq_true hv.2];rfl
   have HY:=xa_ hY;clear hY HZ;have hv':v=1∨v=2∨v=3∨v=4∨v=5∨v=6∨v=7∨v=8∨v=9∨v=10:=(by omega);clear hv HX1 HX2 HX3 HL3 HL4 HL5;rcases hv' with rfl|rfl|rfl|rfl|rfl|rfl|rfl|rfl|rfl|rfl
   · cases it;all_goals
      go_wp2_with fail
      go_meet
      case rel=>exact⟨rfl,rfl,xa_ ⟨GX.out,AX.out,HY.out⟩⟩
   all_goals
    go_wp2_with fail
    go_meet
    case rel=>exact⟨rfl,rfl,xa_ ⟨GX.out,AX.out,HY.out⟩⟩
 case rest=>as_aux_lemma=>
 obtain⟨rfl,rfl,HC⟩:=hcut;obtain⟨gX,aX,hZ⟩:=HC.out;clear HC;have GX:=xa_ gX;have AX:=xa_ aX;have HZ:=xa_ hZ;clear gX aX hZ;obtain⟨p1,p2,p3,p4,p5,p6⟩:=xb_ AX.out;obtain⟨MV,hMV⟩:∃ M:ByteArray,⟨(zo_ v).toArray⟩=M:=⟨_,rfl⟩;have hMl:MV.data.toList=zo_ v:=(by rw[← hMV]);have hms:MV.size≤1000:=by
  rw[← hMV];show(zo_ v).toArray.size≤1000
  rw[List.size_toArray,zo_];repeat' split
  all_goals simp
 rw[hMV];clear hMV;have HM:=xa_ hMl;clear hMl;obtain⟨CN,hCN⟩:∃ c,cnV v it=c:=⟨_,rfl⟩;rw[hCN];rw[hCN] at HZ;clear hCN;have cU:=xa_ (acu_ v sa nm it x1 x2 x3 x4 x5 es.length ps.length ms.length el.length bo.length c1 c2 c3 c4 c5 lo hi by1 ti);obtain⟨US,hUS⟩:∃ u,usL nm it es.length ps.length ms.length el.length bo.length lo hi by1 ti=u:=⟨_,rfl⟩;have HW3:Hid (wiL US (zo_ v)=true→ms.length=0∨v=3∨v=4):=xa_ fun h=>by
  rw[← hUS,afe_] at h;simp only[Bool.and_eq_true] at h;have h5:=h.2.2.2.2.1;by_cases hv:v=3∨v=4
  ·exact .inr hv
  · left;have:(zo_ v).contains 109=false:=by
     rw[zo_];repeat' split
     all_goals first|rfl|omega
    rw[this,Bool.or_false] at h5;simpa using h5
 rw[hUS] at cU HZ;clear hUS;go_wp2_with fail
 refine(cU.out _).mono ?_;rintro e w2 ⟨S,rfl,hS1,hS2,g⟩;dsimp only;have AX0:=xa_ (kept g AX.out);have GX0:=xa_ (gtn GX.out g);clear g AX GX p1 p2 p3 p4 p5 p6 cU;have AX:=AX0;have GX:=GX0;clear AX0 GX0;obtain⟨p1,p2,p3,p4,p5,p6⟩:=xb_ AX.out;have cW:=xa_ (uz_ S MV (by omega) hms);rw[hS1,HM.out] at cW;clear hS1 HM;generalize wiL US (zo_ v)=ww at cW HZ HW3;go_wp2_with fail
 refine(cW.out _).mono ?_;rintro e w2 ⟨rfl,g⟩;dsimp only;have AX0:=xa_ (kept g AX.out);have GX0:=xa_ (gtn GX.out g);clear g AX GX p1 p2 p3 p4 p5 p6 cW hS2 hms;have AX:=AX0;have GX:=GX0;clear AX0 GX0;obtain⟨p1,p2,p3,p4,p5,p6⟩:=xb_ AX.out;cases ww with
 | false=>
  have e:Z=false:=HZ.out.symm;subst e;clear HZ;go_wp2_with fail
  go_ret;exact⟨rfl,GX.out⟩
 | true=>
 have HZ0:=xa_ ((Bool.true_and _).symm.trans HZ.out);clear HZ;have HZ:=HZ0;clear HZ0;have H34:=xa_ (HW3.out rfl);clear HW3;obtain⟨bq,hq⟩:∃ b,((es.length:Int)==(CN:Int))=b:=⟨_,rfl⟩;have hq2:decide (es.length=CN)=bq:=(by rw[← hq,Bool.eq_iff_iff];simp;omega);have nq:((es.length:Int) != (CN:Int))=!bq:=(by rw[bne,hq]);rw[hq2] at HZ;clear hq2;cases bq with
 | false=>
  have e:Z=false:=HZ.out.symm;subst e;clear HZ;go_wp2_with fail
  go_ret;exact⟨rfl,GX.out⟩
 | true=>
 have HZ0:=xa_ ((Bool.true_and _).symm.trans HZ.out);clear HZ;have HZ:=HZ0;clear HZ0;go_upto_block 1 with fail
 go_cut [7] from 15 (fun _ wx=>Hid (W.grownBy wx none∧wx.heap[W.heap.size]?=some (.cells #[.int .i64 v,.int .i64 sa,.string nm,.bool it,.slice x1 es.length c1,.slice x2 ps.length c2,.slice x3 ms.length c3,.slice x4 el.length c4,.slice x5 bo.length c5,.int .i64 lo,.int .i64 hi,.int .i64 by1,.int .i64 ti] 99)∧((!zz_ v ||nmB nm) && ((!decide (v=5) ||ke_ lo hi by1) && ((!z5_ v ||(decide (1≤ti) && decide (ti≤10000))) && (xq_ d bo && (xq_ d el && (decide (ps.length≤16) && (ps.all (yl_ d) && ((!qc_ v || !decide (ms.length=0)) && ms.all (x5_ v d)))))))))=Z))
 case first=>
  as_aux_lemma=>
   clear HX2 HX3 HL3 HL4 HL5;go_wp2_with fail
   have LS:Hid (∃ i:Nat,Value.int .i64 0=.int .i64 (i:Int)∧Hid (i≤es.length∧es.length+1=es.length+1 - i∧W.grownBy w2 none∧w2.heap[W.heap.size]?=some (.cells #[.int .i64 v,.int .i64 sa,.string nm,.bool it,.slice x1 es.length c1,.slice x2 ps.length c2,.slice x3 ms.length c3,.slice x4 el.length c4,.slice x5 bo.length c5,.int .i64 lo,.int .i64 hi,.int .i64 by1,.int .i64 ti] 99)∧((es.drop i).all (xr_ d) && ((!zz_ v ||nmB nm) && ((!decide (v=5) ||ke_ lo hi by1) && ((!z5_ v ||(decide (1≤ti) && decide (ti≤10000))) && (xq_ d bo && (xq_ d el && (decide (ps.length≤16) && (ps.all (yl_ d) && ((!qc_ v || !decide (ms.length=0)) && ms.all (x5_ v d))))))))))=Z)):=⟨0,rfl,xa_ ⟨by omega,rfl,GX.out,AX.out,by simpa using HZ.out⟩⟩;clear p1 p2 p3 p4 p5 p6 AX GX HZ;go_loopg [7] (es.length+1) (fun gk s7 wx=>∃ i:Nat,s7=.int .i64 (i:Int)∧Hid (i≤es.length∧gk=es.length+1 - i∧W.grownBy wx none∧wx.heap[W.heap.size]?=some (.cells #[.int .i64 v,.int .i64 sa,.string nm,.bool it,.slice x1 es.length c1,.slice x2 ps.length c2,.slice x3 ms.length c3,.slice x4 el.length c4,.slice x5 bo.length c5,.int .i64 lo,.int .i64 hi,.int .i64 by1,.int .i64 ti] 99)∧((es.drop i).all (xr_ d) && ((!zz_ v ||nmB nm) && ((!decide (v=5) ||ke_ lo hi by1) && ((!z5_ v ||(decide (1≤ti) && decide (ti≤10000))) && (xq_ d bo && (xq_ d el && (decide (ps.length≤16) && (ps.all (yl_ d) && ((!qc_ v || !decide (ms.length=0)) && ms.all (x5_ v d))))))))))=Z))
   case atStart=>exact LS.out
   case round=>
    clear LS;obtain⟨i,rfl,HH⟩:=hrel;obtain⟨hi1,hgk,hgW,X2,hm⟩:=HH.out;clear HH;obtain⟨p1,p2,p3,p4,p5,p6⟩:=xb_ X2;by_cases hi:i<es.length;rotate_left
    · have hlt:¬((i:Int)<(es.length:Int)):=(by omega);rw[List.drop_eq_nil_of_le (by omega)] at hm;have HM:=xa_ hm;have GX:=xa_ hgW;have AX:=xa_ X2;clear hgW X2 hm;go_wp2_with fail
      go_meet
      case rel=>exact xa_ ⟨GX.out,AX.out,HM.out⟩
    have hlt:((i:Int)<(es.length:Int)):=(by omega);have hwi:IntKind.i64.wrap ((i:Int)+1)=i+1:=IntWalk.i64_in _ (by omega);rw[List.drop_eq_getElem_cons hi,List.all_cons,Bool.and_assoc] at hm;obtain⟨g,off,c',ka,kc,ex,hn,hgl,hk,hc⟩:=HX1.out.at8 i hi;injection ex with e1 _ e3;subst e1 e3;have GX:=xa_ hgW;have HM:=xa_ hm;have AX:=xa_ X2;have hC:=hc wr hgW;have cE:=xa_ (exok hk d h0 h1 wr hgW);clear hm hc hk hgW X2;generalize es[i]=E at hC cE HM;obtain⟨kf,ko,kk,kn,knm,kpt,kat,kks⟩:=E;obtain⟨y0,y1,y2,y3,y4,y5,y6,y7⟩:=hC.all;clear hC;generalize hr:xr_ d (.mk kf ko kk kn knm kpt kat kks)=r at cE HM;clear hr;go_wp2_with fail
    refine cE.out.mono ?_;rintro e w3 ⟨rfl,g3⟩;have A3:=xa_ (kept g3 AX.out);have G3:=xa_ (gtn GX.out g3);clear g3;cases r with
    | false=>
     have e:Z=false:=HM.out.symm;subst e;clear HM;go_wp2_with fail
     go_ret;exact⟨rfl,G3.out⟩
    | true=>
     have HM2:=xa_ ((Bool.true_and _).symm.trans HM.out);clear HM;go_wp2_with fail
     go_roundg (es.length+1 - (i+1))
     case measure=>omega
     case rel=>exact⟨i+1,by simp,xa_ ⟨by omega,rfl,G3.out,A3.out,HM2.out⟩⟩
 case rest=>as_aux_lemma=>
 have HC:=hcut;clear hcut;obtain⟨gX,aX,hZ⟩:=HC.out;clear HC;have GX:=xa_ gX;have AX:=xa_ aX;have HZ:=xa_ hZ;clear gX aX hZ;obtain⟨p1,p2,p3,p4,p5,p6⟩:=xb_ AX.out;go_upto_region 31 with fail;go_cut [81] from 15 (fun s81 wx=>∃ b:Bool,s81=.bool (!b)∧Hid (W.grownBy wx none∧wx.heap[W.heap.size]?=some (.cells #[.int .i64 v,.int .i64 sa,.string nm,.bool it,.slice x1 es.length c1,.slice x2 ps.length c2,.slice x3 ms.length c3,.slice x4 el.length c4,.slice x5 bo.length c5,.int .i64 lo,.int .i64 hi,.int .i64 by1,.int .i64 ti] 99)∧(b && ((!decide (v=5) ||ke_ lo hi by1) && ((!z5_ v ||(decide (1≤ti) && decide (ti≤10000))) && (xq_ d bo && (xq_ d el && (decide (ps.length≤16) && (ps.all (yl_ d) && ((!qc_ v || !decide (ms.length=0)) && ms.all (x5_ v d)))))))))=Z))
 case first=>
  as_aux_lemma=>
   obtain⟨e1,q1⟩:∃ b,(v==1)=b:=⟨_,rfl⟩;obtain⟨e2,q2⟩:∃ b,(v==2)=b:=⟨_,rfl⟩;obtain⟨e5,q5⟩:∃ b,(v==5)=b:=⟨_,rfl⟩;have hn:zz_ v=(e1 ||(e2 ||e5)):=(by rw[zz_,← q1,← q2,← q5];rfl);rw[hn] at HZ;clear hn;have cN:=xa_ (zk_ nm);generalize nmB nm=vn at cN HZ;clear HX1 HX2 HX3 HL3 HL4 HL5 H34;cases e1;all_goals try cases e2
   all_goals try cases e5
   all_goals
    first
     | (go_wp2_with fail
        refine(cN.out _).mono ?_;rintro e w2 ⟨rfl,g⟩;dsimp only;have A2:=xa_ (kept g AX.out);have G2:=xa_ (gtn GX.out g);clear g;go_wp2_with fail
        go_meet
        case rel=>exact⟨vn,rfl,xa_ ⟨G2.out,A2.out,HZ.out⟩⟩)
     | (go_wp2_with fail
        go_meet
        case rel=>exact⟨true,rfl,xa_ ⟨GX.out,AX.out,HZ.out⟩⟩)
 case rest=>as_aux_lemma=>
 obtain⟨b81,rfl,HC⟩:=hcut;obtain⟨gX,aX,hZ⟩:=HC.out;clear HC;have GX:=xa_ gX;have AX:=xa_ aX;have HZ:=xa_ hZ;clear gX aX hZ;obtain⟨p1,p2,p3,p4,p5,p6⟩:=xb_ AX.out;cases b81 with
 | false=>
  have e:Z=false:=HZ.out.symm;subst e;clear HZ;go_wp2_with fail
  go_ret;exact⟨rfl,GX.out⟩
 | true=>
 have HZ0:=xa_ ((Bool.true_and _).symm.trans HZ.out);clear HZ;have HZ:=HZ0;clear HZ0;go_upto_region 33 with fail;go_cut [115] from 15 (fun s115 wx=>∃ b:Bool,s115=.bool (!b)∧Hid (W.grownBy wx none∧wx.heap[W.heap.size]?=some (.cells #[.int .i64 v,.int .i64 sa,.string nm,.bool it,.slice x1 es.length c1,.slice x2 ps.length c2,.slice x3 ms.length c3,.slice x4 el.length c4,.slice x5 bo.length c5,.int .i64 lo,.int .i64 hi,.int .i64 by1,.int .i64 ti] 99)∧(b && ((!z5_ v ||(decide (1≤ti) && decide (ti≤10000))) && (xq_ d bo && (xq_ d el && (decide (ps.length≤16) && (ps.all (yl_ d) && ((!qc_ v || !decide (ms.length=0)) && ms.all (x5_ v d))))))))=Z))
 case first=>
  as_aux_lemma=>
   obtain⟨e5,q5⟩:∃ b,(v==5)=b:=⟨_,rfl⟩;have hn:decide (v=5)=e5:=q5;rw[hn] at HZ;clear hn HX1 HX2 HX3 HL3 HL4 HL5 H34;cases e5 with
   | false=>
    go_wp2_with fail
    go_meet
    case rel=>exact⟨true,rfl,xa_ ⟨GX.out,AX.out,HZ.out⟩⟩
   | true=>
   have hF:Hid (((!true ||ke_ lo hi by1))=(xu_ lo && (xu_ hi && (decide (hi - lo+1≤10000) && (decide (1≤by1) && decide (by1≤10000)))))):=rfl;rw[hF.out] at HZ;clear hF;have cA:=xa_ (qe_ lo);have cB:=xa_ (qe_ hi);have hlo:Hid (xu_ lo=true→-4294967295≤lo∧lo≤4294967295):=xa_ fun h=>by simpa[xu_] using h
   have hhi:Hid (xu_ hi=true→-4294967295≤hi∧hi≤4294967295):=xa_ fun h=>by simpa[xu_] using h
   generalize xu_ lo=na at cA HZ hlo;generalize xu_ hi=nb at cB HZ hhi;go_wp2_with fail
   refine(cA.out _).mono ?_;rintro e w2 ⟨rfl,g⟩;dsimp only;have AX0:=xa_ (kept g AX.out);have GX0:=xa_ (gtn GX.out g);clear g AX GX p1 p2 p3 p4 p5 p6 cA;have AX:=AX0;have GX:=GX0;clear AX0 GX0;obtain⟨p1,p2,p3,p4,p5,p6⟩:=xb_ AX.out;cases na with
   | false=>
    go_wp2_with fail
    go_meet
    case rel=>exact⟨false,rfl,xa_ ⟨GX.out,AX.out,HZ.out⟩⟩
   | true=>
   have HZ0:=xa_ ((Bool.true_and _).symm.trans HZ.out);clear HZ;have HZ:=HZ0;clear HZ0;go_wp2_with fail
   refine(cB.out _).mono ?_;rintro e w2 ⟨rfl,g⟩;dsimp only;have AX0:=xa_ (kept g AX.out);have GX0:=xa_ (gtn GX.out g);clear g AX GX p1 p2 p3 p4 p5 p6 cB;have AX:=AX0;have GX:=GX0;clear AX0 GX0;obtain⟨p1,p2,p3,p4,p5,p6⟩:=xb_ AX.out;cases nb with
   | false=>
    go_wp2_with fail
    go_meet
    case rel=>exact⟨false,rfl,xa_ ⟨GX.out,AX.out,HZ.out⟩⟩
   | true=>
   have HZ0:=xa_ ((Bool.true_and _).symm.trans HZ.out);clear HZ;have HZ:=HZ0;clear HZ0;have hlo':=hlo.out (by first|rfl|trivial);have hhi':=hhi.out (by first|rfl|trivial);clear hlo hhi;have w1:IntKind.i64.wrap (hi - lo)=hi - lo:=IntWalk.i64_in _ (by omega);have w2':IntKind.i64.wrap (hi - lo+1)=hi - lo+1:=IntWalk.i64_in _ (by omega);by_cases r1:hi - lo+1≤10000;rotate_left
   · rw[decide_eq_false r1] at HZ;have k1:10000<hi - lo+1:=(by omega);clear r1;go_wp2_with fail
     go_meet
     case rel=>exact⟨false,rfl,xa_ ⟨GX.out,AX.out,HZ.out⟩⟩
   rw[decide_eq_true r1] at HZ;have k1:¬10000<hi - lo+1:=(by omega);clear r1;have HZ0:=xa_ ((Bool.true_and _).symm.trans HZ.out);clear HZ;have HZ:=HZ0;clear HZ0;by_cases r2:1≤by1;rotate_left
   · rw[decide_eq_false r2] at HZ;have k2:by1<1:=(by omega);clear r2;go_wp2_with fail
     go_meet
     case rel=>exact⟨false,rfl,xa_ ⟨GX.out,AX.out,HZ.out⟩⟩
   rw[decide_eq_true r2] at HZ;have k2:¬by1<1:=(by omega);clear r2;have HZ0:=xa_ ((Bool.true_and _).symm.trans HZ.out);clear HZ;have HZ:=HZ0;clear HZ0;by_cases r3:by1≤10000
   · rw[decide_eq_true r3] at HZ;have k3:¬10000<by1:=(by omega);clear r3;go_wp2_with fail
     go_meet
     case rel=>exact⟨true,rfl,xa_ ⟨GX.out,AX.out,HZ.out⟩⟩
   · rw[decide_eq_false r3] at HZ;have k3:10000<by1:=(by omega);clear r3;go_wp2_with fail
     go_meet
     case rel=>exact⟨false,rfl,xa_ ⟨GX.out,AX.out,HZ.out⟩⟩
 case rest=>as_aux_lemma=>
 obtain⟨b115,rfl,HC⟩:=hcut;obtain⟨gX,aX,hZ⟩:=HC.out;clear HC;have GX:=xa_ gX;have AX:=xa_ aX;have HZ:=xa_ hZ;clear gX aX hZ;obtain⟨p1,p2,p3,p4,p5,p6⟩:=xb_ AX.out;cases b115 with
 | false=>
  have e:Z=false:=HZ.out.symm;subst e;clear HZ;go_wp2_with fail
  go_ret;exact⟨rfl,GX.out⟩
 | true=>
 have HZ0:=xa_ ((Bool.true_and _).symm.trans HZ.out);clear HZ;have HZ:=HZ0;clear HZ0;go_upto_region 35 with fail;go_cut [133] from 15 (fun s133 wx=>∃ b:Bool,s133=.bool (!b)∧Hid (W.grownBy wx none∧wx.heap[W.heap.size]?=some (.cells #[.int .i64 v,.int .i64 sa,.string nm,.bool it,.slice x1 es.length c1,.slice x2 ps.length c2,.slice x3 ms.length c3,.slice x4 el.length c4,.slice x5 bo.length c5,.int .i64 lo,.int .i64 hi,.int .i64 by1,.int .i64 ti] 99)∧(b && (xq_ d bo && (xq_ d el && (decide (ps.length≤16) && (ps.all (yl_ d) && ((!qc_ v || !decide (ms.length=0)) && ms.all (x5_ v d)))))))=Z))
 case first=>
  as_aux_lemma=>
   obtain⟨e6,q6⟩:∃ b,(v==6)=b:=⟨_,rfl⟩;obtain⟨e7,q7⟩:∃ b,(v==7)=b:=⟨_,rfl⟩;have hn:z5_ v=(e6 ||e7):=(by rw[z5_,← q6,← q7];rfl);rw[hn] at HZ;clear hn HX1 HX2 HX3 HL3 HL4 HL5 H34;have key:Hid (e6=false→e7=false→((true && (xq_ d bo && (xq_ d el && (decide (ps.length≤16) && (ps.all (yl_ d) && ((!qc_ v || !decide (ms.length=0)) && ms.all (x5_ v d)))))))=Z)):=xa_ fun a b=>by subst a;subst b;exact HZ.out
   have key2:Hid (e6=true∨e7=true→(((decide (1≤ti) && decide (ti≤10000)) && (xq_ d bo && (xq_ d el && (decide (ps.length≤16) && (ps.all (yl_ d) && ((!qc_ v || !decide (ms.length=0)) && ms.all (x5_ v d)))))))=Z)):=xa_ fun h=>by
    have:=HZ.out;rcases h with h|h <;> subst h
    ·exact this
    ·rw[Bool.or_true] at this;exact this
   clear HZ;cases e6;all_goals cases e7
   · have HZ:=xa_ (key.out rfl rfl);clear key key2;go_wp2_with fail
     go_meet
     case rel=>exact⟨true,rfl,xa_ ⟨GX.out,AX.out,HZ.out⟩⟩
   all_goals
    have HZ:=xa_ (key2.out (by first|exact .inl rfl|exact .inr rfl));clear key key2;rw[Bool.and_assoc] at HZ;by_cases r2:1≤ti;rotate_left
    · rw[decide_eq_false r2] at HZ;have k2:ti<1:=(by omega);clear r2;go_wp2_with fail
      go_meet
      case rel=>exact⟨false,rfl,xa_ ⟨GX.out,AX.out,HZ.out⟩⟩
    rw[decide_eq_true r2] at HZ;have k2:¬ti<1:=(by omega);clear r2;have HZ0:=xa_ ((Bool.true_and _).symm.trans HZ.out);clear HZ;have HZ:=HZ0;clear HZ0;by_cases r3:ti≤10000
    · rw[decide_eq_true r3] at HZ;have k3:¬10000<ti:=(by omega);clear r3;go_wp2_with fail
      go_meet
      case rel=>exact⟨true,rfl,xa_ ⟨GX.out,AX.out,HZ.out⟩⟩
    · rw[decide_eq_false r3] at HZ;have k3:10000<ti:=(by omega);clear r3;go_wp2_with fail
      go_meet
      case rel=>exact⟨false,rfl,xa_ ⟨GX.out,AX.out,HZ.out⟩⟩
 case rest=>as_aux_lemma=>
 obtain⟨b133,rfl,HC⟩:=hcut;obtain⟨gX,aX,hZ⟩:=HC.out;clear HC;have GX:=xa_ gX;have AX:=xa_ aX;have HZ:=xa_ hZ;clear gX aX hZ;obtain⟨p1,p2,p3,p4,p5,p6⟩:=xb_ AX.out;cases b133 with
 | false=>
  have e:Z=false:=HZ.out.symm;subst e;clear HZ;go_wp2_with fail
  go_ret;exact⟨rfl,GX.out⟩
 | true=>
 have HZ0:=xa_ ((Bool.true_and _).symm.trans HZ.out);clear HZ;have HZ:=HZ0;clear HZ0;have cB:=xa_ (fun X (g:W.grownBy X none)=>HL5.out d h0 h1 X g);have cL:=xa_ (fun X (g:W.grownBy X none)=>HL4.out d h0 h1 X g);generalize xq_ d bo=vb at cB HZ;generalize xq_ d el=vl at cL HZ;go_wp2_with fail
 refine(cB.out _ GX.out).mono ?_;rintro e w2 ⟨rfl,g⟩;dsimp only;have AX0:=xa_ (kept g AX.out);have GX0:=xa_ (gtn GX.out g);clear g AX GX p1 p2 p3 p4 p5 p6 cB;have AX:=AX0;have GX:=GX0;clear AX0 GX0;obtain⟨p1,p2,p3,p4,p5,p6⟩:=xb_ AX.out;cases vb with
 | false=>
  have e:Z=false:=HZ.out.symm;subst e;clear HZ;go_wp2_with fail
  go_ret;exact⟨rfl,GX.out⟩
 | true=>
 have HZ0:=xa_ ((Bool.true_and _).symm.trans HZ.out);clear HZ;have HZ:=HZ0;clear HZ0;go_wp2_with fail
 refine(cL.out _ GX.out).mono ?_;rintro e w2 ⟨rfl,g⟩;dsimp only;have AX0:=xa_ (kept g AX.out);have GX0:=xa_ (gtn GX.out g);clear g AX GX p1 p2 p3 p4 p5 p6 cL;have AX:=AX0;have GX:=GX0;clear AX0 GX0;obtain⟨p1,p2,p3,p4,p5,p6⟩:=xb_ AX.out;cases vl with
 | false=>
  have e:Z=false:=HZ.out.symm;subst e;clear HZ;go_wp2_with fail
  go_ret;exact⟨rfl,GX.out⟩
 | true=>
 have HZ0:=xa_ ((Bool.true_and _).symm.trans HZ.out);clear HZ;have HZ:=HZ0;clear HZ0;by_cases r1:ps.length≤16;rotate_left
 · rw[decide_eq_false r1] at HZ;have k1:16<ps.length:=(by omega);have k2:(16:Int)<(ps.length:Int):=(by omega);clear r1;have e:Z=false:=HZ.out.symm;subst e;clear HZ;go_wp2_with fail
   go_ret;exact⟨rfl,GX.out⟩
 rw[decide_eq_true r1] at HZ;have k1:¬16<ps.length:=(by omega);have k2:¬(16:Int)<(ps.length:Int):=(by omega);clear r1;have HZ0:=xa_ ((Bool.true_and _).symm.trans HZ.out);clear HZ;have HZ:=HZ0;clear HZ0;go_upto_block 3 with fail
 go_cut [] from 15 (fun wx=>Hid (W.grownBy wx none∧wx.heap[W.heap.size]?=some (.cells #[.int .i64 v,.int .i64 sa,.string nm,.bool it,.slice x1 es.length c1,.slice x2 ps.length c2,.slice x3 ms.length c3,.slice x4 el.length c4,.slice x5 bo.length c5,.int .i64 lo,.int .i64 hi,.int .i64 by1,.int .i64 ti] 99)∧((!qc_ v || !decide (ms.length=0)) && ms.all (x5_ v d))=Z))
 case first=>
  as_aux_lemma=>
   clear HX1 HX3 HL3 HL4 HL5 H34;go_wp2_with fail
   have LS:Hid (∃ i:Nat,Value.int .i64 0=.int .i64 (i:Int)∧Hid (i≤ps.length∧ps.length+1=ps.length+1 - i∧W.grownBy w2 none∧w2.heap[W.heap.size]?=some (.cells #[.int .i64 v,.int .i64 sa,.string nm,.bool it,.slice x1 es.length c1,.slice x2 ps.length c2,.slice x3 ms.length c3,.slice x4 el.length c4,.slice x5 bo.length c5,.int .i64 lo,.int .i64 hi,.int .i64 by1,.int .i64 ti] 99)∧((ps.drop i).all (yl_ d) && ((!qc_ v || !decide (ms.length=0)) && ms.all (x5_ v d)))=Z)):=⟨0,rfl,xa_ ⟨by omega,rfl,GX.out,AX.out,by simpa using HZ.out⟩⟩;clear p1 p2 p3 p4 p5 p6 AX GX HZ;go_loopg [8,9] (ps.length+1) (fun gk s8 _ wx=>∃ i:Nat,s8=.int .i64 (i:Int)∧Hid (i≤ps.length∧gk=ps.length+1 - i∧W.grownBy wx none∧wx.heap[W.heap.size]?=some (.cells #[.int .i64 v,.int .i64 sa,.string nm,.bool it,.slice x1 es.length c1,.slice x2 ps.length c2,.slice x3 ms.length c3,.slice x4 el.length c4,.slice x5 bo.length c5,.int .i64 lo,.int .i64 hi,.int .i64 by1,.int .i64 ti] 99)∧((ps.drop i).all (yl_ d) && ((!qc_ v || !decide (ms.length=0)) && ms.all (x5_ v d)))=Z))
   case atStart=>exact LS.out
   case round=>
    clear LS;obtain⟨i,rfl,HH⟩:=hrel;obtain⟨hi1,hgk,hgW,X2,hm⟩:=HH.out;clear HH;obtain⟨p1,p2,p3,p4,p5,p6⟩:=xb_ X2;by_cases hiM:i<ps.length;rotate_left
    · have hlt:¬((i:Int)<(ps.length:Int)):=(by omega);rw[List.drop_eq_nil_of_le (by omega)] at hm;have HM:=xa_ hm;have GX:=xa_ hgW;have AX:=xa_ X2;clear hgW X2 hm;go_wp2_with fail
      go_meet
      case rel=>exact xa_ ⟨GX.out,AX.out,HM.out⟩
    have hlt:((i:Int)<(ps.length:Int)):=(by omega);have hwi:IntKind.i64.wrap ((i:Int)+1)=i+1:=IntWalk.i64_in _ (by omega);rw[List.drop_eq_getElem_cons hiM,List.all_cons,Bool.and_assoc] at hm;obtain⟨g,off,c',q,ex,hgl,hk,hc⟩:=HX2.out.atG (sz:=12) zn_ (by decide) i hiM;injection ex with e1 _ e3;subst e1 e3;have GX:=xa_ hgW;have HM:=xa_ hm;have AX:=xa_ X2;have hC:=hc wr hgW;have hk2:Xs W ok q ps[i].e.kids:=hk;obtain⟨ka,kc,rfl⟩:=hk2.sl;have cE:=xa_ (exok hk2 d h0 h1);clear hm hc hk hk2 hgW X2;generalize ps[i]=P at hC cE HM;obtain⟨an,ao,ato,⟨f,o,kd,n,nm2,pt,a,ks⟩,aa⟩:=P;have y0:wr.cell? ⟨g,off+i*12,none⟩=some (.string an):=hC 0 (by decide);have y1:wr.cell? ⟨g,off+i*12+1,none⟩=some (.bool ao):=hC 1 (by decide);have y2:wr.cell? ⟨g,off+i*12+2,none⟩=some (.string ato):=hC 2 (by decide);have y3:wr.cell? ⟨g,off+i*12+3,none⟩=some (.int .i64 f):=hC 3 (by decide);have y4:wr.cell? ⟨g,off+i*12+4,none⟩=some (.int .i64 o):=hC 4 (by decide);have y5:wr.cell? ⟨g,off+i*12+5,none⟩=some (.int .i64 kd):=hC 5 (by decide);have y6:wr.cell? ⟨g,off+i*12+6,none⟩=some (.int .i64 n):=hC 6 (by decide);have y7:wr.cell? ⟨g,off+i*12+7,none⟩=some (.string nm2):=hC 7 (by decide);have y8:wr.cell? ⟨g,off+i*12+8,none⟩=some (.string pt):=hC 8 (by decide);have y9:wr.cell? ⟨g,off+i*12+9,none⟩=some (.int .i64 a):=hC 9 (by decide);have y10:wr.cell? ⟨g,off+i*12+10,none⟩=some (.slice ka ks.length kc):=hC 10 (by decide);have y11:wr.cell? ⟨g,off+i*12+11,none⟩=some (.int .i64 aa):=hC 11 (by decide);clear hC
    have cE1:Hid (∀ X,W.grownBy X none→Calls Tryz.prog 25 #[xV f o kd n nm2 pt a (.slice ka ks.length kc),.int .i64 d] X (xs_ X (xr_ d (.mk f o kd n nm2 pt a ks)))):=(cE);clear cE;have cB:=xa_ (kb_ f o kd n nm2 pt a ks ka kc);have c1:=xa_ (zk_ an);have c2:=xa_ (zk_ ato);have hA:yl_ d ⟨an,ao,ato,.mk f o kd n nm2 pt a ks,aa⟩=(nmB an && (if ao=true then nmB ato && xz_ (.mk f o kd n nm2 pt a ks) else(ato.toList==[]) && xr_ d (.mk f o kd n nm2 pt a ks))):=by
     rw[eqN];rfl
    rw[hA,Bool.and_assoc] at HM;clear hA;obtain⟨yt,zt⟩:∃ b,(ato.toList==[])=b:=⟨_,rfl⟩;have nzt:(ato.toList != [])=!yt:=(by rw[bne,zt]);rw[zt] at HM;generalize nmB an=vn at c1 HM;generalize nmB ato=vt at c2 HM;generalize xz_ (.mk f o kd n nm2 pt a ks)=vb at cB HM;generalize xr_ d (.mk f o kd n nm2 pt a ks)=ve at cE1 HM;go_wp2_with fail
    refine(c1.out _).mono ?_;rintro e w2 ⟨rfl,g⟩;dsimp only;have AX0:=xa_ (kept g (old AX.out _));have BX0:Hid (w2.heap[wr.heap.size]?=some (.cells #[.string an,.bool ao,.string ato,.int .i64 f,.int .i64 o,.int .i64 kd,.int .i64 n,.string nm2,.string pt,.int .i64 a,.slice ka ks.length kc,.int .i64 aa] 101)):=xa_ (kept g (xe_ rfl _));have GX0:=xa_ (gtn (xf_ GX.out _) g);clear g AX GX p1 p2 p3 p4 p5 p6 c1;have AX:=AX0;have BX:=BX0;have GX:=GX0;clear AX0 GX0 BX0;obtain⟨p1,p2,p3,p4,p5,p6⟩:=xb_ AX.out;obtain⟨q1,q2,q3,q4,q5,q6⟩:=xb_ BX.out;clear y0 y1 y2 y3 y4 y5 y6 y7 y8 y9 y10 y11;cases vn with
    | false=>
     have e:Z=false:=HM.out.symm;subst e;clear HM;go_wp2_with fail
     go_ret;exact⟨rfl,GX.out⟩
    | true=>
    have HM0:=xa_ ((Bool.true_and _).symm.trans HM.out);clear HM;have HM:=HM0;clear HM0;cases ao with
    | true=>
     rw[if_pos rfl,Bool.and_assoc] at HM;go_wp2_with fail
     refine(c2.out _).mono ?_;rintro e w2 ⟨rfl,g⟩;dsimp only;have AX0:=xa_ (kept g AX.out);have BX0:Hid (w2.heap[wr.heap.size]?=some (.cells #[.string an,.bool true,.string ato,.int .i64 f,.int .i64 o,.int .i64 kd,.int .i64 n,.string nm2,.string pt,.int .i64 a,.slice ka ks.length kc,.int .i64 aa] 101)):=xa_ (kept g BX.out);have GX0:=xa_ (gtn GX.out g);clear g AX GX p1 p2 p3 p4 p5 p6 c2 BX q1 q2 q3 q4 q5 q6;have AX:=AX0;have BX:=BX0;have GX:=GX0;clear AX0 GX0 BX0;obtain⟨p1,p2,p3,p4,p5,p6⟩:=xb_ AX.out;obtain⟨q1,q2,q3,q4,q5,q6⟩:=xb_ BX.out;cases vt with
     | false=>
      have e:Z=false:=HM.out.symm;subst e;clear HM;go_wp2_with fail
      go_ret;exact⟨rfl,GX.out⟩
     | true=>
     have HM0:=xa_ ((Bool.true_and _).symm.trans HM.out);clear HM;have HM:=HM0;clear HM0;go_wp2_with fail
     refine(cB.out _).mono ?_;rintro e w2 ⟨rfl,g⟩;dsimp only;have AX0:=xa_ (kept g AX.out);have BX0:Hid (w2.heap[wr.heap.size]?=some (.cells #[.string an,.bool true,.string ato,.int .i64 f,.int .i64 o,.int .i64 kd,.int .i64 n,.string nm2,.string pt,.int .i64 a,.slice ka ks.length kc,.int .i64 aa] 101)):=xa_ (kept g BX.out);have GX0:=xa_ (gtn GX.out g);clear g AX GX p1 p2 p3 p4 p5 p6 cB BX q1 q2 q3 q4 q5 q6;have AX:=AX0;have BX:=BX0;have GX:=GX0;clear AX0 GX0 BX0;obtain⟨p1,p2,p3,p4,p5,p6⟩:=xb_ AX.out;obtain⟨q1,q2,q3,q4,q5,q6⟩:=xb_ BX.out;cases vb with
     | false=>
      have e:Z=false:=HM.out.symm;subst e;clear HM;go_wp2_with fail
      go_ret;exact⟨rfl,GX.out⟩
     | true=>
     have HM0:=xa_ ((Bool.true_and _).symm.trans HM.out);clear HM;have HM:=HM0;clear HM0;go_wp2_with fail
     go_roundg (ps.length+1 - (i+1))
     case measure=>omega
     case rel=>exact⟨i+1,by simp,xa_ ⟨by omega,rfl,GX.out,AX.out,HM.out⟩⟩
    | false=>
     rw[if_neg (by decide),Bool.and_assoc] at HM;cases yt with
     | false=>
      have e:Z=false:=HM.out.symm;subst e;clear HM;go_wp2_with fail
      go_ret;exact⟨rfl,GX.out⟩
     | true=>
     have HM0:=xa_ ((Bool.true_and _).symm.trans HM.out);clear HM;have HM:=HM0;clear HM0;go_wp2_with fail
     refine(cE1.out _ GX.out).mono ?_;rintro e w2 ⟨rfl,g⟩;dsimp only;have AX0:=xa_ (kept g AX.out);have BX0:Hid (w2.heap[wr.heap.size]?=some (.cells #[.string an,.bool false,.string ato,.int .i64 f,.int .i64 o,.int .i64 kd,.int .i64 n,.string nm2,.string pt,.int .i64 a,.slice ka ks.length kc,.int .i64 aa] 101)):=xa_ (kept g BX.out);have GX0:=xa_ (gtn GX.out g);clear g AX GX p1 p2 p3 p4 p5 p6 cE1 BX q1 q2 q3 q4 q5 q6;have AX:=AX0;have BX:=BX0;have GX:=GX0;clear AX0 GX0 BX0;obtain⟨p1,p2,p3,p4,p5,p6⟩:=xb_ AX.out;obtain⟨q1,q2,q3,q4,q5,q6⟩:=xb_ BX.out;cases ve with
     | false=>
      have e:Z=false:=HM.out.symm;subst e;clear HM;go_wp2_with fail
      go_ret;exact⟨rfl,GX.out⟩
     | true=>
     have HM0:=xa_ ((Bool.true_and _).symm.trans HM.out);clear HM;have HM:=HM0;clear HM0;go_wp2_with fail
     go_roundg (ps.length+1 - (i+1))
     case measure=>omega
     case rel=>exact⟨i+1,by simp,xa_ ⟨by omega,rfl,GX.out,AX.out,HM.out⟩⟩
 case rest=>as_aux_lemma=>
 have HC:=hcut;clear hcut;obtain⟨gX,aX,hZ⟩:=HC.out;clear HC;have GX:=xa_ gX;have AX:=xa_ aX;have HZ:=xa_ hZ;clear gX aX hZ;obtain⟨p1,p2,p3,p4,p5,p6⟩:=xb_ AX.out;go_upto_region 45 with fail;go_cut [214] from 15 (fun s214 wx=>∃ b:Bool,s214=.bool (!b)∧Hid (W.grownBy wx none∧wx.heap[W.heap.size]?=some (.cells #[.int .i64 v,.int .i64 sa,.string nm,.bool it,.slice x1 es.length c1,.slice x2 ps.length c2,.slice x3 ms.length c3,.slice x4 el.length c4,.slice x5 bo.length c5,.int .i64 lo,.int .i64 hi,.int .i64 by1,.int .i64 ti] 99)∧(b && ms.all (x5_ v d))=Z))
 case first=>
  as_aux_lemma=>
   obtain⟨e3,q3⟩:∃ b,(v==3)=b:=⟨_,rfl⟩;obtain⟨e4,q4⟩:∃ b,(v==4)=b:=⟨_,rfl⟩;have hn:qc_ v=(e3 ||e4):=(by rw[qc_,← q3,← q4];rfl);obtain⟨bz,qz⟩:∃ b,((ms.length:Int)==0)=b:=⟨_,rfl⟩;have hz2:decide (ms.length=0)=bz:=(by rw[← qz,aaj_]);rw[hn,hz2] at HZ;clear hn hz2 HX1 HX2 HX3 HL3 HL4 HL5 H34;cases e3;all_goals cases e4
   all_goals cases bz
   all_goals
    go_wp2_with fail
    go_meet
    case rel=>first
     | exact⟨true,rfl,xa_ ⟨GX.out,AX.out,HZ.out⟩⟩
     | exact⟨false,rfl,xa_ ⟨GX.out,AX.out,HZ.out⟩⟩
 case rest=>as_aux_lemma=>
 obtain⟨b214,rfl,HC⟩:=hcut;obtain⟨gX,aX,hZ⟩:=HC.out;clear HC;have GX:=xa_ gX;have AX:=xa_ aX;have HZ:=xa_ hZ;clear gX aX hZ;obtain⟨p1,p2,p3,p4,p5,p6⟩:=xb_ AX.out;cases b214 with
 | false=>
  have e:Z=false:=HZ.out.symm;subst e;clear HZ;go_wp2_with fail
  go_ret;exact⟨rfl,GX.out⟩
 | true=>
 have HZ0:=xa_ ((Bool.true_and _).symm.trans HZ.out);clear HZ;have HZ:=HZ0;clear HZ0;go_upto_block 5 with fail
 go_cut [] from 15 (fun wx=>Hid (W.grownBy wx none∧wx.heap[W.heap.size]?=some (.cells #[.int .i64 v,.int .i64 sa,.string nm,.bool it,.slice x1 es.length c1,.slice x2 ps.length c2,.slice x3 ms.length c3,.slice x4 el.length c4,.slice x5 bo.length c5,.int .i64 lo,.int .i64 hi,.int .i64 by1,.int .i64 ti] 99)∧true=Z))
 case first=>
  as_aux_lemma=>
   clear HX1 HX2 HL4 HL5;go_wp2_with fail
   have LS:Hid (∃ i:Nat,Value.int .i64 0=.int .i64 (i:Int)∧Hid (i≤ms.length∧ms.length+1=ms.length+1 - i∧W.grownBy wc none∧wc.heap[W.heap.size]?=some (.cells #[.int .i64 v,.int .i64 sa,.string nm,.bool it,.slice x1 es.length c1,.slice x2 ps.length c2,.slice x3 ms.length c3,.slice x4 el.length c4,.slice x5 bo.length c5,.int .i64 lo,.int .i64 hi,.int .i64 by1,.int .i64 ti] 99)∧(ms.drop i).all (x5_ v d)=Z)):=⟨0,rfl,xa_ ⟨by omega,rfl,GX.out,AX.out,by simpa using HZ.out⟩⟩;clear p1 p2 p3 p4 p5 p6 AX GX HZ;go_loopg [10,11,12,13,14] (ms.length+1) (fun gk s10 _ _ _ _ wx=>∃ i:Nat,s10=.int .i64 (i:Int)∧Hid (i≤ms.length∧gk=ms.length+1 - i∧W.grownBy wx none∧wx.heap[W.heap.size]?=some (.cells #[.int .i64 v,.int .i64 sa,.string nm,.bool it,.slice x1 es.length c1,.slice x2 ps.length c2,.slice x3 ms.length c3,.slice x4 el.length c4,.slice x5 bo.length c5,.int .i64 lo,.int .i64 hi,.int .i64 by1,.int .i64 ti] 99)∧(ms.drop i).all (x5_ v d)=Z))
   case atStart=>exact LS.out
   case round=>
    clear LS;obtain⟨i,rfl,HH⟩:=hrel;obtain⟨hi1,hgk,hgW,X2,hm⟩:=HH.out;clear HH;obtain⟨p1,p2,p3,p4,p5,p6⟩:=xb_ X2;by_cases hiM:i<ms.length;rotate_left
    · have hlt:¬((i:Int)<(ms.length:Int)):=(by omega);rw[List.drop_eq_nil_of_le (by omega)] at hm;have HM:=xa_ hm;have GX:=xa_ hgW;have AX:=xa_ X2;clear hgW X2 hm;go_wp2_with fail
      go_meet
      case rel=>exact xa_ ⟨GX.out,AX.out,HM.out⟩
    have hlt:((i:Int)<(ms.length:Int)):=(by omega);have hwi:IntKind.i64.wrap ((i:Int)+1)=i+1:=IntWalk.i64_in _ (by omega);rw[List.drop_eq_getElem_cons hiM,List.all_cons] at hm;obtain⟨g,off,c',⟨q,ql,bv⟩,ex,hgl,hk,hc⟩:=HX3.out.atG (sz:=10) zb_ (by decide) i hiM;injection ex with e1 _ e3;subst e1 e3;have GX:=xa_ hgW;have HM:=xa_ hm;have AX:=xa_ X2;have hC:=hc wr hgW;have hkE:Xs W ok q ms[i].e.kids:=hk.1.1;have hkL:Li kdL 126 W ok ql ms[i].labels:=hk.1.2;have hkB:Sm W ok bv (.inl ms[i].body):=hk.2;obtain⟨xb,cb,rfl⟩:=hkB.slS;have cL:=xa_ (HL3.out i hiM _ W (gr0 _) hkB d h0 h1);obtain⟨ka,kc,rfl⟩:=hkE.sl;obtain⟨la,lc,rfl⟩:=hkL.sl;have cE:=xa_ (exok hkE d h0 h1);have HLs:=xa_ hkL;have hlL:=hkL.le;clear hm hc hk hkE hkL hkB hgW X2;have hv:v=3∨v=4:=(by rcases H34.out with h|h|h <;> omega);clear H34;generalize ms[i]=P at hC cE cL HLs hlL HM;obtain⟨⟨f,o,kd,n,nm2,pt,a,ks⟩,ls,bo2⟩:=P;have y0:wr.cell? ⟨g,off+i*10,none⟩=some (.int .i64 f):=hC 0 (by decide);have y1:wr.cell? ⟨g,off+i*10+1,none⟩=some (.int .i64 o):=hC 1 (by decide);have y2:wr.cell? ⟨g,off+i*10+2,none⟩=some (.int .i64 kd):=hC 2 (by decide);have y3:wr.cell? ⟨g,off+i*10+3,none⟩=some (.int .i64 n):=hC 3 (by decide);have y4:wr.cell? ⟨g,off+i*10+4,none⟩=some (.string nm2):=hC 4 (by decide);have y5:wr.cell? ⟨g,off+i*10+5,none⟩=some (.string pt):=hC 5 (by decide);have y6:wr.cell? ⟨g,off+i*10+6,none⟩=some (.int .i64 a):=hC 6 (by decide);have y7:wr.cell? ⟨g,off+i*10+7,none⟩=some (.slice ka ks.length kc):=hC 7 (by decide);have y8:wr.cell? ⟨g,off+i*10+8,none⟩=some (.slice la ls.length lc):=hC 8 (by decide)
    have y9:wr.cell? ⟨g,off+i*10+9,none⟩=some (.slice xb bo2.length cb):=hC 9 (by decide);clear hC;have cE1:Hid (∀ X,W.grownBy X none→Calls Tryz.prog 25 #[xV f o kd n nm2 pt a (.slice ka ks.length kc),.int .i64 d] X (xs_ X (xr_ d (.mk f o kd n nm2 pt a ks)))):=(cE);have HLs1:Hid (Li kdL 126 W ok (.slice la ls.length lc) ls):=HLs;have hlL1:ls.length≤4000000:=hlL;have cL1:Hid (∀ X,W.grownBy X none→Calls Tryz.prog 26 #[.slice xb bo2.length cb,.int .i64 d] X (xs_ X (xq_ d bo2))):=(cL);clear cE HLs hlL cL;have HLs:=HLs1;have hlL:=hlL1;have cL:=cL1;clear HLs1 hlL1 cL1;have cB:=xa_ (kb_ f o kd n nm2 pt a ks ka kc);obtain⟨bl,ql⟩:∃ b,decide (ls.length=0)=b:=⟨_,rfl⟩;have ql2:((ls.length:Int)==0)=bl:=(by rw[aaj_,ql]);obtain⟨RB0,hRB⟩:∃ R,(ms.drop (i+1)).all (x5_ v d)=R:=⟨_,rfl⟩;rcases hv with rfl|rfl
    · rw[way3,ql,hRB] at HM;have HM0:Hid ((bl && (xr_ d (.mk f o kd n nm2 pt a ks) && (ls.all y2_ && (xq_ d bo2 && RB0))))=Z):=by
       have:=HM.out;simp only[Bool.and_assoc] at this;exact this
      clear HM;have HM:=HM0;clear HM0;generalize xr_ d (.mk f o kd n nm2 pt a ks)=ve at cE1 HM;cases bl with
      | false=>
       have hp0:ls.length≠0:=of_decide_eq_false ql;have hp1:0<ls.length:=(by omega);have hp2:(0:Int)<(ls.length:Int):=(by omega);clear ql hp0;have e:Z=false:=HM.out.symm;subst e;clear HM;go_wp2_with fail
       go_ret;exact⟨rfl,xf_ GX.out _⟩
      | true=>
      have hp0:ls.length=0:=of_decide_eq_true ql;have hp1:¬0<ls.length:=(by omega);have hp2:¬(0:Int)<(ls.length:Int):=(by omega);have HP0:=xa_ hp0;clear ql ql2 hp0;have HM0:=xa_ ((Bool.true_and _).symm.trans HM.out);clear HM;have HM:=HM0;clear HM0;go_wp2_with fail
      refine(cE1.out _ (xf_ GX.out _)).mono ?_;rintro e w2 ⟨rfl,g⟩;dsimp only;have AX0:=xa_ (kept g (old AX.out _));have BX0:Hid (w2.heap[wr.heap.size]?=some (.cells #[.int .i64 f,.int .i64 o,.int .i64 kd,.int .i64 n,.string nm2,.string pt,.int .i64 a,.slice ka ks.length kc,.slice la ls.length lc,.slice xb bo2.length cb] 104)):=xa_ (kept g (xe_ rfl _));have GX0:=xa_ (gtn (xf_ GX.out _) g);clear g AX GX p1 p2 p3 p4 p5 p6 cE1;have AX:=AX0;have BX:=BX0;have GX:=GX0;clear AX0 GX0 BX0;obtain⟨p1,p2,p3,p4,p5,p6⟩:=xb_ AX.out;obtain⟨q1,q2,q3,q4,q5,q6⟩:=xb_ BX.out;clear y0 y1 y2 y3 y4 y5 y6 y7 y8 y9 hp1 hp2;cases ve with
      | false=>
       have e:Z=false:=HM.out.symm;subst e;clear HM;go_wp2_with fail
       go_ret;exact⟨rfl,GX.out⟩
      | true=>
      have HM0:=xa_ ((Bool.true_and _).symm.trans HM.out);clear HM;have HM:=HM0;clear HM0;rw[← hRB] at HM;clear hRB;go_upto_block 7 with fail
      generalize hwr:wr.heap.size=WS at *;go_cut [] from 215 to 296 (fun wx=>Hid (W.grownBy wx none∧wx.heap[W.heap.size]?=some (.cells #[.int .i64 3,.int .i64 sa,.string nm,.bool it,.slice x1 es.length c1,.slice x2 ps.length c2,.slice (some ⟨g,off,none⟩) ms.length c3,.slice x4 el.length c4,.slice x5 bo.length c5,.int .i64 lo,.int .i64 hi,.int .i64 by1,.int .i64 ti] 99)∧wx.heap[WS]?=some (.cells #[.int .i64 f,.int .i64 o,.int .i64 kd,.int .i64 n,.string nm2,.string pt,.int .i64 a,.slice ka ks.length kc,.slice la ls.length lc,.slice xb bo2.length cb] 104)∧(xq_ d bo2 && (ms.drop (i+1)).all (x5_ 3 d))=Z))
      case first=>
       as_aux_lemma=>
        have GZ:=xa_ GX.out;go_wp2_with fail
        have LS:Hid (∃ j:Nat,Value.int .i64 0=.int .i64 (j:Int)∧Hid (j≤ls.length∧ls.length+1=ls.length+1 - j∧W.grownBy w2 none∧w2.heap[W.heap.size]?=some (.cells #[.int .i64 3,.int .i64 sa,.string nm,.bool it,.slice x1 es.length c1,.slice x2 ps.length c2,.slice (some ⟨g,off,none⟩) ms.length c3,.slice x4 el.length c4,.slice x5 bo.length c5,.int .i64 lo,.int .i64 hi,.int .i64 by1,.int .i64 ti] 99)∧w2.heap[WS]?=some (.cells #[.int .i64 f,.int .i64 o,.int .i64 kd,.int .i64 n,.string nm2,.string pt,.int .i64 a,.slice ka ks.length kc,.slice la ls.length lc,.slice xb bo2.length cb] 104)∧((ls.drop j).all y2_ && (xq_ d bo2 && (ms.drop (i+1)).all (x5_ 3 d)))=Z)):=⟨0,rfl,xa_ ⟨by omega,rfl,GX.out,AX.out,BX.out,by simpa using HM.out⟩⟩;clear p1 p2 p3 p4 p5 p6 q1 q2 q3 q4 q5 q6 AX BX GX HM;go_loopg [12,13,14] (ls.length+1) (fun gk s12 _ _ wx=>∃ j:Nat,s12=.int .i64 (j:Int)∧Hid (j≤ls.length∧gk=ls.length+1 - j∧W.grownBy wx none∧wx.heap[W.heap.size]?=some (.cells #[.int .i64 3,.int .i64 sa,.string nm,.bool it,.slice x1 es.length c1,.slice x2 ps.length c2,.slice (some ⟨g,off,none⟩) ms.length c3,.slice x4 el.length c4,.slice x5 bo.length c5,.int .i64 lo,.int .i64 hi,.int .i64 by1,.int .i64 ti] 99)∧wx.heap[WS]?=some (.cells #[.int .i64 f,.int .i64 o,.int .i64 kd,.int .i64 n,.string nm2,.string pt,.int .i64 a,.slice ka ks.length kc,.slice la ls.length lc,.slice xb bo2.length cb] 104)∧((ls.drop j).all y2_ && (xq_ d bo2 && (ms.drop (i+1)).all (x5_ 3 d)))=Z))
        case atStart=>exact LS.out
        case round=>
         clear LS;obtain⟨j,rfl,HH⟩:=hrel;obtain⟨hj1,hgk2,hgW,X2,X3,hm⟩:=HH.out;clear HH;obtain⟨p1,p2,p3,p4,p5,p6⟩:=xb_ X2;obtain⟨q1,q2,q3,q4,q5,q6⟩:=xb_ X3;by_cases hj:j<ls.length;rotate_left
         · have hlt2:¬((j:Int)<(ls.length:Int)):=(by omega);rw[List.drop_eq_nil_of_le (by omega)] at hm;have HM:=xa_ hm;have GX:=xa_ hgW;have AX:=xa_ X2;have BX:=xa_ X3;clear hgW X2 X3 hm;go_wp2_with fail
           go_meet
           case rel=>exact xa_ ⟨GX.out,AX.out,BX.out,(Bool.true_and _).symm.trans HM.out⟩
         have hlt2:((j:Int)<(ls.length:Int)):=(by omega);have hwj:IntKind.i64.wrap ((j:Int)+1)=j+1:=IntWalk.i64_in _ (by omega);rw[List.drop_eq_getElem_cons hj,List.all_cons] at hm;obtain⟨g2,off2,c2',u,ex,hgl2,hk2,hc2⟩:=HLs.out.atG (sz:=2) aak_ (by decide) j hj;injection ex with e1 _ e3;subst e1 e3;have hC:=hc2 wr hgW;have GX:=xa_ hgW;have AX:=xa_ X2;have BX:=xa_ X3;clear hc2 hk2 hgW X2 X3;generalize ls[j]=P at hC hm;obtain⟨ln,lm⟩:=P;have y0:wr.cell? ⟨g2,off2+j*2,none⟩=some (.int .i64 ln):=hC 0 (by decide);have y1:wr.cell? ⟨g2,off2+j*2+1,none⟩=some (.int .i64 lm):=hC 1 (by decide);clear hC;have hl:(y2_ (ln,lm) && (ls.drop (j+1)).all y2_ && (xq_ d bo2 && (ms.drop (i+1)).all (x5_ 3 d)))=(xu_ ln && (xu_ lm && (decide (ln≤lm) && ((ls.drop (j+1)).all y2_ && (xq_ d bo2 && (ms.drop (i+1)).all (x5_ 3 d)))))):=by
          rw[y2_];simp only[Bool.and_assoc]
         have HM:=xa_ (hl.symm.trans hm);clear hl hm;have c1:=xa_ (qe_ ln);have c2:=xa_ (qe_ lm);generalize xu_ ln=b1 at c1 HM;generalize xu_ lm=b2 at c2 HM;go_wp2_with fail
         go_quiet (fail)
         clear y0 y1;go_wp2_with fail
         refine(c1.out _).mono ?_;rintro e w3 ⟨rfl,g⟩;dsimp only;have AX0:=xa_ (kept g (show(wr.drewN nq).heap[W.heap.size]?=_ from AX.out));have BX0:=xa_ (kept g (show(wr.drewN nq).heap[WS]?=_ from BX.out));have GX0:=xa_ (gtn (xt_ GX.out nq) g);clear g AX BX GX p1 p2 p3 p4 p5 p6 q1 q2 q3 q4 q5 q6 c1;have AX:=AX0;have BX:=BX0;have GX:=GX0;clear AX0 BX0 GX0;cases b1 with
         | false=>
          have e:Z=false:=HM.out.symm;subst e;clear HM;go_wp2_with fail
          go_ret;exact⟨rfl,GX.out⟩
         | true=>
         have HM0:=xa_ ((Bool.true_and _).symm.trans HM.out);clear HM;have HM:=HM0;clear HM0;go_wp2_with fail
         refine(c2.out _).mono ?_;rintro e w4 ⟨rfl,g⟩;dsimp only;have AX0:=xa_ (kept g AX.out);have BX0:=xa_ (kept g BX.out);have GX0:=xa_ (gtn GX.out g);clear g AX BX GX c2;have AX:=AX0;have BX:=BX0;have GX:=GX0;clear AX0 BX0 GX0;cases b2 with
         | false=>
          have e:Z=false:=HM.out.symm;subst e;clear HM;go_wp2_with fail
          go_ret;exact⟨rfl,GX.out⟩
         | true=>
         have HM0:=xa_ ((Bool.true_and _).symm.trans HM.out);clear HM;have HM:=HM0;clear HM0;by_cases r1:ln≤lm;rotate_left
         · rw[decide_eq_false r1] at HM;have k1:lm<ln:=(by omega);clear r1;have e:Z=false:=HM.out.symm;subst e;clear HM;go_wp2_with fail
           go_ret;exact⟨rfl,GX.out⟩
         rw[decide_eq_true r1] at HM;have k1:¬lm<ln:=(by omega);clear r1;have HM0:=xa_ ((Bool.true_and _).symm.trans HM.out);clear HM;have HM:=HM0;clear HM0;go_wp2_with fail
         go_roundg (ls.length+1 - (j+1))
         case measure=>omega
         case rel=>exact⟨j+1,by simp,xa_ ⟨by omega,rfl,GX.out,AX.out,BX.out,HM.out⟩⟩
      case rest=>as_aux_lemma=>
      have HC:=hcut;clear hcut AX BX GX HM p1 p2 p3 p4 p5 p6 q1 q2 q3 q4 q5 q6;obtain⟨gX,aX,bX,hZ⟩:=HC.out;clear HC;have GX:=xa_ gX;have AX:=xa_ aX;have BX:=xa_ bX;have HM:=xa_ hZ;clear gX aX bX hZ;obtain⟨p1,p2,p3,p4,p5,p6⟩:=xb_ AX.out;obtain⟨q1,q2,q3,q4,q5,q6⟩:=xb_ BX.out;generalize xq_ d bo2=vb at cL HM;go_wp2_with fail
      refine(cL.out _ GX.out).mono ?_;rintro e w5 ⟨rfl,g⟩;dsimp only;have AX0:=xa_ (kept g AX.out);have GX0:=xa_ (gtn GX.out g);clear g AX BX GX p1 p2 p3 p4 p5 p6 q1 q2 q3 q4 q5 q6 cL;have AX:=AX0;have GX:=GX0;clear AX0 GX0;cases vb with
      | false=>
       have e:Z=false:=HM.out.symm;subst e;clear HM;go_wp2_with fail
       go_ret;exact⟨rfl,GX.out⟩
      | true=>
      have HM0:=xa_ ((Bool.true_and _).symm.trans HM.out);clear HM;have HM:=HM0;clear HM0;go_wp2_with fail
      go_roundg (ms.length+1 - (i+1))
      case measure=>omega
      case rel=>exact⟨i+1,by simp,xa_ ⟨by omega,rfl,GX.out,AX.out,HM.out⟩⟩
    · rw[way4,ql,hRB] at HM;have HM0:Hid (((!bl) && (xz_ (.mk f o kd n nm2 pt a ks) && (ls.all y2_ && (xq_ d bo2 && RB0))))=Z):=by
       have:=HM.out;simp only[Bool.and_assoc] at this;exact this
      clear HM;have HM:=HM0;clear HM0;generalize xz_ (.mk f o kd n nm2 pt a ks)=ve at cB HM;cases bl with
      | true=>
       clear ql;have e:Z=false:=HM.out.symm;subst e;clear HM;go_wp2_with fail
       go_ret;exact⟨rfl,xf_ GX.out _⟩
      | false=>
      clear ql;have HM0:=xa_ ((Bool.true_and _).symm.trans HM.out);clear HM;have HM:=HM0;clear HM0;go_wp2_with fail
      refine(cB.out _).mono ?_;rintro e w2 ⟨rfl,g⟩;dsimp only;have AX0:=xa_ (kept g (old AX.out _));have BX0:Hid (w2.heap[wr.heap.size]?=some (.cells #[.int .i64 f,.int .i64 o,.int .i64 kd,.int .i64 n,.string nm2,.string pt,.int .i64 a,.slice ka ks.length kc,.slice la ls.length lc,.slice xb bo2.length cb] 104)):=xa_ (kept g (xe_ rfl _));have GX0:=xa_ (gtn (xf_ GX.out _) g);clear g AX GX p1 p2 p3 p4 p5 p6 cB;have AX:=AX0;have BX:=BX0;have GX:=GX0;clear AX0 GX0 BX0;obtain⟨p1,p2,p3,p4,p5,p6⟩:=xb_ AX.out;obtain⟨q1,q2,q3,q4,q5,q6⟩:=xb_ BX.out;clear y0 y1 y2 y3 y4 y5 y6 y7 y8 y9 ql2;cases ve with
      | false=>
       have e:Z=false:=HM.out.symm;subst e;clear HM;go_wp2_with fail
       go_ret;exact⟨rfl,GX.out⟩
      | true=>
      have HM0:=xa_ ((Bool.true_and _).symm.trans HM.out);clear HM;have HM:=HM0;clear HM0;rw[← hRB] at HM;clear hRB;go_upto_block 7 with fail
      generalize hwr:wr.heap.size=WS at *;go_cut [] from 215 to 296 (fun wx=>Hid (W.grownBy wx none∧wx.heap[W.heap.size]?=some (.cells #[.int .i64 4,.int .i64 sa,.string nm,.bool it,.slice x1 es.length c1,.slice x2 ps.length c2,.slice (some ⟨g,off,none⟩) ms.length c3,.slice x4 el.length c4,.slice x5 bo.length c5,.int .i64 lo,.int .i64 hi,.int .i64 by1,.int .i64 ti] 99)∧wx.heap[WS]?=some (.cells #[.int .i64 f,.int .i64 o,.int .i64 kd,.int .i64 n,.string nm2,.string pt,.int .i64 a,.slice ka ks.length kc,.slice la ls.length lc,.slice xb bo2.length cb] 104)∧(xq_ d bo2 && (ms.drop (i+1)).all (x5_ 4 d))=Z))
      case first=>
       as_aux_lemma=>
        have GZ:=xa_ GX.out;go_wp2_with fail
        have LS:Hid (∃ j:Nat,Value.int .i64 0=.int .i64 (j:Int)∧Hid (j≤ls.length∧ls.length+1=ls.length+1 - j∧W.grownBy w2 none∧w2.heap[W.heap.size]?=some (.cells #[.int .i64 4,.int .i64 sa,.string nm,.bool it,.slice x1 es.length c1,.slice x2 ps.length c2,.slice (some ⟨g,off,none⟩) ms.length c3,.slice x4 el.length c4,.slice x5 bo.length c5,.int .i64 lo,.int .i64 hi,.int .i64 by1,.int .i64 ti] 99)∧w2.heap[WS]?=some (.cells #[.int .i64 f,.int .i64 o,.int .i64 kd,.int .i64 n,.string nm2,.string pt,.int .i64 a,.slice ka ks.length kc,.slice la ls.length lc,.slice xb bo2.length cb] 104)∧((ls.drop j).all y2_ && (xq_ d bo2 && (ms.drop (i+1)).all (x5_ 4 d)))=Z)):=⟨0,rfl,xa_ ⟨by omega,rfl,GX.out,AX.out,BX.out,by simpa using HM.out⟩⟩;clear p1 p2 p3 p4 p5 p6 q1 q2 q3 q4 q5 q6 AX BX GX HM;go_loopg [12,13,14] (ls.length+1) (fun gk s12 _ _ wx=>∃ j:Nat,s12=.int .i64 (j:Int)∧Hid (j≤ls.length∧gk=ls.length+1 - j∧W.grownBy wx none∧wx.heap[W.heap.size]?=some (.cells #[.int .i64 4,.int .i64 sa,.string nm,.bool it,.slice x1 es.length c1,.slice x2 ps.length c2,.slice (some ⟨g,off,none⟩) ms.length c3,.slice x4 el.length c4,.slice x5 bo.length c5,.int .i64 lo,.int .i64 hi,.int .i64 by1,.int .i64 ti] 99)∧wx.heap[WS]?=some (.cells #[.int .i64 f,.int .i64 o,.int .i64 kd,.int .i64 n,.string nm2,.string pt,.int .i64 a,.slice ka ks.length kc,.slice la ls.length lc,.slice xb bo2.length cb] 104)∧((ls.drop j).all y2_ && (xq_ d bo2 && (ms.drop (i+1)).all (x5_ 4 d)))=Z))
        case atStart=>exact LS.out
        case round=>
         clear LS;obtain⟨j,rfl,HH⟩:=hrel;obtain⟨hj1,hgk2,hgW,X2,X3,hm⟩:=HH.out;clear HH;obtain⟨p1,p2,p3,p4,p5,p6⟩:=xb_ X2;obtain⟨q1,q2,q3,q4,q5,q6⟩:=xb_ X3;by_cases hj:j<ls.length;rotate_left
         · have hlt2:¬((j:Int)<(ls.length:Int)):=(by omega);rw[List.drop_eq_nil_of_le (by omega)] at hm;have HM:=xa_ hm;have GX:=xa_ hgW;have AX:=xa_ X2;have BX:=xa_ X3;clear hgW X2 X3 hm;go_wp2_with fail
           go_meet
           case rel=>exact xa_ ⟨GX.out,AX.out,BX.out,(Bool.true_and _).symm.trans HM.out⟩
         have hlt2:((j:Int)<(ls.length:Int)):=(by omega);have hwj:IntKind.i64.wrap ((j:Int)+1)=j+1:=IntWalk.i64_in _ (by omega);rw[List.drop_eq_getElem_cons hj,List.all_cons] at hm;obtain⟨g2,off2,c2',u,ex,hgl2,hk2,hc2⟩:=HLs.out.atG (sz:=2) aak_ (by decide) j hj;injection ex with e1 _ e3;subst e1 e3;have hC:=hc2 wr hgW;have GX:=xa_ hgW;have AX:=xa_ X2;have BX:=xa_ X3;clear hc2 hk2 hgW X2 X3;generalize ls[j]=P at hC hm;obtain⟨ln,lm⟩:=P;have y0:wr.cell? ⟨g2,off2+j*2,none⟩=some (.int .i64 ln):=hC 0 (by decide);have y1:wr.cell? ⟨g2,off2+j*2+1,none⟩=some (.int .i64 lm):=hC 1 (by decide);clear hC;have hl:(y2_ (ln,lm) && (ls.drop (j+1)).all y2_ && (xq_ d bo2 && (ms.drop (i+1)).all (x5_ 4 d)))=(xu_ ln && (xu_ lm && (decide (ln≤lm) && ((ls.drop (j+1)).all y2_ && (xq_ d bo2 && (ms.drop (i+1)).all (x5_ 4 d)))))):=by
          rw[y2_];simp only[Bool.and_assoc]
         have HM:=xa_ (hl.symm.trans hm);clear hl hm;have c1:=xa_ (qe_ ln);have c2:=xa_ (qe_ lm);generalize xu_ ln=b1 at c1 HM;generalize xu_ lm=b2 at c2 HM;go_wp2_with fail
         go_quiet (fail)
         clear y0 y1;go_wp2_with fail
         refine(c1.out _).mono ?_;rintro e w3 ⟨rfl,g⟩;dsimp only;have AX0:=xa_ (kept g (show(wr.drewN nq).heap[W.heap.size]?=_ from AX.out));have BX0:=xa_ (kept g (show(wr.drewN nq).heap[WS]?=_ from BX.out));have GX0:=xa_ (gtn (xt_ GX.out nq) g);clear g AX BX GX p1 p2 p3 p4 p5 p6 q1 q2 q3 q4 q5 q6 c1;have AX:=AX0;have BX:=BX0;have GX:=GX0;clear AX0 BX0 GX0;cases b1 with
         | false=>
          have e:Z=false:=HM.out.symm;subst e;clear HM;go_wp2_with fail
          go_ret;exact⟨rfl,GX.out⟩
         | true=>
         have HM0:=xa_ ((Bool.true_and _).symm.trans HM.out);clear HM;have HM:=HM0;clear HM0;go_wp2_with fail
         refine(c2.out _).mono ?_;rintro e w4 ⟨rfl,g⟩;dsimp only;have AX0:=xa_ (kept g AX.out);have BX0:=xa_ (kept g BX.out);have GX0:=xa_ (gtn GX.out g);clear g AX BX GX c2;have AX:=AX0;have BX:=BX0;have GX:=GX0;clear AX0 BX0 GX0;cases b2 with
         | false=>
          have e:Z=false:=HM.out.symm;subst e;clear HM;go_wp2_with fail
          go_ret;exact⟨rfl,GX.out⟩
         | true=>
         have HM0:=xa_ ((Bool.true_and _).symm.trans HM.out);clear HM;have HM:=HM0;clear HM0;by_cases r1:ln≤lm;rotate_left
         · rw[decide_eq_false r1] at HM;have k1:lm<ln:=(by omega);clear r1;have e:Z=false:=HM.out.symm;subst e;clear HM;go_wp2_with fail
           go_ret;exact⟨rfl,GX.out⟩
         rw[decide_eq_true r1] at HM;have k1:¬lm<ln:=(by omega);clear r1;have HM0:=xa_ ((Bool.true_and _).symm.trans HM.out);clear HM;have HM:=HM0;clear HM0;go_wp2_with fail
         go_roundg (ls.length+1 - (j+1))
         case measure=>omega
         case rel=>exact⟨j+1,by simp,xa_ ⟨by omega,rfl,GX.out,AX.out,BX.out,HM.out⟩⟩
      case rest=>as_aux_lemma=>
      have HC:=hcut;clear hcut AX BX GX HM p1 p2 p3 p4 p5 p6 q1 q2 q3 q4 q5 q6;obtain⟨gX,aX,bX,hZ⟩:=HC.out;clear HC;have GX:=xa_ gX;have AX:=xa_ aX;have BX:=xa_ bX;have HM:=xa_ hZ;clear gX aX bX hZ;obtain⟨p1,p2,p3,p4,p5,p6⟩:=xb_ AX.out;obtain⟨q1,q2,q3,q4,q5,q6⟩:=xb_ BX.out;generalize xq_ d bo2=vb at cL HM;go_wp2_with fail
      refine(cL.out _ GX.out).mono ?_;rintro e w5 ⟨rfl,g⟩;dsimp only;have AX0:=xa_ (kept g AX.out);have GX0:=xa_ (gtn GX.out g);clear g AX BX GX p1 p2 p3 p4 p5 p6 q1 q2 q3 q4 q5 q6 cL;have AX:=AX0;have GX:=GX0;clear AX0 GX0;cases vb with
      | false=>
       have e:Z=false:=HM.out.symm;subst e;clear HM;go_wp2_with fail
       go_ret;exact⟨rfl,GX.out⟩
      | true=>
      have HM0:=xa_ ((Bool.true_and _).symm.trans HM.out);clear HM;have HM:=HM0;clear HM0;go_wp2_with fail
      go_roundg (ms.length+1 - (i+1))
      case measure=>omega
      case rel=>exact⟨i+1,by simp,xa_ ⟨by omega,rfl,GX.out,AX.out,HM.out⟩⟩
 case rest=>as_aux_lemma=>
 have HC:=hcut;clear hcut;obtain⟨gX,aX,hZ⟩:=HC.out;clear HC;have GX:=xa_ gX;have AX:=xa_ aX;have HZ:=xa_ hZ;clear gX aX hZ;obtain⟨p1,p2,p3,p4,p5,p6⟩:=xb_ AX.out;have e:Z=true:=HZ.out.symm;subst e;clear HZ;go_wp2_with fail
 go_ret;exact⟨rfl,GX.out⟩
end Go.Proofs.YtcoglmaiahpooaaGreatDoor
