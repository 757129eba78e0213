/- Texts put together: Ei. -/
import Derived.Test.YtcoglmaiahpooaaGreatDoorQ28
set_option linter.unusedVariables false
set_option linter.unusedSimpArgs false
set_option maxHeartbeats 8000000
namespace Go.Proofs.YtcoglmaiahpooaaGreatDoor
open Go.RowKit
attribute [local go_sem ↓] Go.wp_at_zero Go.wp_at_succ
set_option maxRecDepth 100000 in
theorem adg_ {W:World} {ok:Nat→Prop} (k ur:Int) (s1:ByteArray) (vs:List PV) (xv:Option Addr) (cv:Nat) (bo:List PS) (xb:Option Addr) (cb:Nat) (at1:Int) (hv:Li kdV 54 W ok (.slice xv vs.length cv) vs) (hb:LO W (.slice xb bo.length cb) bo) :
 Calls Tryz.prog 8 #[.agg #[.int .i64 k,.string s1,.int .i64 ur,.slice xv vs.length cv,.slice xb bo.length cb,.int .i64 at1]] W (xs_ W (yx_ ⟨k,s1,ur,vs,bo,at1⟩)):=by
 rw[← ub_,docU];obtain⟨Z,hZ⟩:∃ Z,((decide (1≤k) && decide (k≤3)) && ((nmB s1 && decide (vs.length≤200)) && ((if k=2 then kdB ur else decide (ur=0)) && (vs.all zu_ && xq_ 1 bo))))=Z:=⟨_,rfl⟩;show Calls _ _ _ _ (xs_ W ((decide (1≤k) && decide (k≤3)) && ((nmB s1 && decide (vs.length≤200)) && ((if k=2 then kdB ur else decide (ur=0)) && (vs.all zu_ && xq_ 1 bo)))))
 rw[hZ];have HZ:=xa_ hZ;have HV:=xa_ hv;have HL:=xa_ hb;have hle:=hv.le;clear hZ hv hb;obtain⟨W1,hW1⟩:∃ X,X=W.alloc (.cells #[.int .i64 k,.string s1,.int .i64 ur,.slice xv vs.length cv,.slice xb bo.length cb,.int .i64 at1] 27):=⟨_,rfl⟩;have AX:Hid (W1.heap[W.heap.size]?=some (.cells #[.int .i64 k,.string s1,.int .i64 ur,.slice xv vs.length cv,.slice xb bo.length cb,.int .i64 at1] 27)):=hW1▸xe_ rfl _;have GX:Hid (W.grownBy W1 none):=hW1▸gr1 _ _;have HW:=xa_ hW1;clear hW1;go_enter Tryz.func8,Tryz.ntmps8;go_upto_region 1 with fail;rw[← HW.out];clear HW;obtain⟨p1,p2,p3,p4,p5,p6⟩:=xb_ AX.out;go_cut [17] from 5 (fun s17 wx=>∃ b:Bool,s17=.bool (!b)∧Hid (W.grownBy wx none∧wx.heap[W.heap.size]?=some (.cells #[.int .i64 k,.string s1,.int .i64 ur,.slice xv vs.length cv,.slice xb bo.length cb,.int .i64 at1] 27)∧(b && ((nmB s1 && decide (vs.length≤200)) && ((if k=2 then kdB ur else decide (ur=0)) && (vs.all zu_ && xq_ 1 bo))))=Z))
 case first=>
  as_aux_lemma=>
   obtain⟨e1,q1⟩:∃ b,(k==1)=b:=⟨_,rfl⟩;have nq1:(k != 1)=!e1:=(by rw[bne,q1]);obtain⟨e2,q2⟩:∃ b,(k==2)=b:=⟨_,rfl⟩;have nq2:(k != 2)=!e2:=(by rw[bne,q2]);obtain⟨e3,q3⟩:∃ b,(k==3)=b:=⟨_,rfl⟩;have nq3:(k != 3)=!e3:=(by rw[bne,q3]);have hn:(decide (1≤k) && decide (k≤3))=(e1 ||(e2 ||e3)):=by
    rw[← q1,← q2,← q3,Bool.eq_iff_iff];simp;omega
   rw[hn] at HZ;clear hn HV HL;cases e1;all_goals cases e2
   all_goals cases e3
   all_goals
    go_wp2_with fail
    go_meet
    case rel=>first
     | exact⟨true,rfl,xa_ ⟨GX.out,AX.out,HZ.out⟩⟩
     | exact⟨false,rfl,xa_ ⟨GX.out,AX.out,HZ.out⟩⟩
 case rest=>as_aux_lemma=>
 obtain⟨b17,rfl,HC⟩:=hcut;obtain⟨gX,aX,hZ⟩:=HC.out;clear HC;have GX:=xa_ gX;have AX:=xa_ aX;have HZ:=xa_ hZ;clear gX aX hZ;obtain⟨p1,p2,p3,p4,p5,p6⟩:=xb_ AX.out;cases b17 with
 | false=>
  have e:Z=false:=HZ.out.symm;subst e;clear HZ;go_wp2_with fail
  go_ret;exact⟨rfl,GX.out⟩
 | true=>
 have HZ0:=xa_ ((Bool.true_and _).symm.trans HZ.out);clear HZ;have HZ:=HZ0;clear HZ0;rw[Bool.and_assoc] at HZ;have cN:=xa_ (zk_ s1);generalize nmB s1=vn at cN HZ;go_wp2_with fail
 refine(cN.out _).mono ?_;rintro e w2 ⟨rfl,g⟩;dsimp only;have AX0:=xa_ (kept g AX.out);have GX0:=xa_ (gtn GX.out g);clear g AX GX p1 p2 p3 p4 p5 p6 cN;have AX:=AX0;have GX:=GX0;clear AX0 GX0;obtain⟨p1,p2,p3,p4,p5,p6⟩:=xb_ AX.out;cases vn with
 | false=>
  have e:Z=false:=HZ.out.symm;subst e;clear HZ;go_wp2_with fail
  go_ret;exact⟨rfl,GX.out⟩
 | true=>
 have HZ0:=xa_ ((Bool.true_and _).symm.trans HZ.out);clear HZ;have HZ:=HZ0;clear HZ0;by_cases r1:vs.length≤200;rotate_left
 · rw[decide_eq_false r1] at HZ;have k1:200<vs.length:=(by omega);have k2:(200:Int)<(vs.length:Int):=(by omega);clear r1;have e:Z=false:=HZ.out.symm;subst e;clear HZ;go_wp2_with fail
   go_ret;exact⟨rfl,GX.out⟩
 rw[decide_eq_true r1] at HZ;have k1:¬200<vs.length:=(by omega);have k2:¬(200:Int)<(vs.length:Int):=(by omega);clear r1;have HZ0:=xa_ ((Bool.true_and _).symm.trans HZ.out);clear HZ;have HZ:=HZ0;clear HZ0;go_upto_region 5 with fail;go_cut [46] from 5 (fun s46 wx=>∃ b:Bool,s46=.bool (!b)∧Hid (W.grownBy wx none∧wx.heap[W.heap.size]?=some (.cells #[.int .i64 k,.string s1,.int .i64 ur,.slice xv vs.length cv,.slice xb bo.length cb,.int .i64 at1] 27)∧(b && (vs.all zu_ && xq_ 1 bo))=Z))
 case first=>
  as_aux_lemma=>
   have cK:=xa_ (v3_ ur);clear HV HL;by_cases h2:k=2
   · have HZ2:Hid ((kdB ur && (vs.all zu_ && xq_ 1 bo))=Z):=(by have:=HZ.out;rw[if_pos h2] at this;exact this);have j2:(k==2)=true:=(by rw[h2];rfl);have nj2:(k != 2)=false:=(by rw[bne,j2];rfl);clear HZ h2;have HZ:=HZ2;clear HZ2;generalize kdB ur=vk at cK HZ;go_wp2_with fail
     refine(cK.out _).mono ?_;rintro e w3 ⟨rfl,g⟩;dsimp only;have A2:=xa_ (kept g AX.out);have G2:=xa_ (gtn GX.out g);clear g p1 p2 p3 p4 p5 p6;obtain⟨p1,p2,p3,p4,p5,p6⟩:=xb_ A2.out;cases vk;all_goals
      go_wp2_with fail
      go_meet
      case rel=>first
       | exact⟨true,rfl,xa_ ⟨G2.out,A2.out,HZ.out⟩⟩
       | exact⟨false,rfl,xa_ ⟨G2.out,A2.out,HZ.out⟩⟩
   · have HZ2:Hid ((decide (ur=0) && (vs.all zu_ && xq_ 1 bo))=Z):=(by have:=HZ.out;rw[if_neg h2] at this;exact this);have j2:(k==2)=false:=(by rw[beq_eq_false_iff_ne];exact h2);have nj2:(k != 2)=true:=(by rw[bne,j2];rfl);clear HZ h2;obtain⟨b,hb⟩:∃ b,(ur==0)=b:=⟨_,rfl⟩;have nhb:(ur != 0)=!b:=(by rw[bne,hb]);have hd:decide (ur=0)=b:=hb;rw[hd] at HZ2;have HZ:=HZ2;clear hd HZ2;cases b;all_goals
      go_wp2_with fail
      go_meet
      case rel=>first
       | exact⟨true,rfl,xa_ ⟨GX.out,AX.out,HZ.out⟩⟩
       | exact⟨false,rfl,xa_ ⟨GX.out,AX.out,HZ.out⟩⟩
 case rest=>as_aux_lemma=>
 obtain⟨b46,rfl,HC⟩:=hcut;obtain⟨gX,aX,hZ⟩:=HC.out;clear HC;have GX:=xa_ gX;have AX:=xa_ aX;have HZ:=xa_ hZ;clear gX aX hZ;obtain⟨p1,p2,p3,p4,p5,p6⟩:=xb_ AX.out;cases b46 with
 | false=>
  have e:Z=false:=HZ.out.symm;subst e;clear HZ;go_wp2_with fail
  go_ret;exact⟨rfl,GX.out⟩
 | true=>
 have HZ0:=xa_ ((Bool.true_and _).symm.trans HZ.out);clear HZ;have HZ:=HZ0;clear HZ0;go_upto_block 0 with fail
 go_cut [] from 5 (fun wx=>Hid (W.grownBy wx none∧wx.heap[W.heap.size]?=some (.cells #[.int .i64 k,.string s1,.int .i64 ur,.slice xv vs.length cv,.slice xb bo.length cb,.int .i64 at1] 27)∧xq_ 1 bo=Z))
 case first=>
  as_aux_lemma=>
   go_wp2_with fail
   have LS:Hid (∃ i:Nat,Value.int .i64 0=.int .i64 (i:Int)∧Hid (i≤vs.length∧vs.length+1=vs.length+1 - i∧W.grownBy wc none∧wc.heap[W.heap.size]?=some (.cells #[.int .i64 k,.string s1,.int .i64 ur,.slice xv vs.length cv,.slice xb bo.length cb,.int .i64 at1] 27)∧((vs.drop i).all zu_ && xq_ 1 bo)=Z)):=⟨0,rfl,xa_ ⟨by omega,rfl,GX.out,AX.out,by simpa using HZ.out⟩⟩;clear p1 p2 p3 p4 p5 p6 AX GX HZ;go_loopg [3,4] (vs.length+1) (fun gk s3 _ wx=>∃ i:Nat,s3=.int .i64 (i:Int)∧Hid (i≤vs.length∧gk=vs.length+1 - i∧W.grownBy wx none∧wx.heap[W.heap.size]?=some (.cells #[.int .i64 k,.string s1,.int .i64 ur,.slice xv vs.length cv,.slice xb bo.length cb,.int .i64 at1] 27)∧((vs.drop i).all zu_ && xq_ 1 bo)=Z))
   case atStart=>exact LS.out
   case round=>
    clear LS;obtain⟨i,rfl,HH⟩:=hrel;obtain⟨hi1,hgk,hgW,X2,hm⟩:=HH.out;clear HH;obtain⟨p1,p2,p3,p4,p5,p6⟩:=xb_ X2;by_cases hiM:i<vs.length;rotate_left
    · have hlt:¬((i:Int)<(vs.length:Int)):=(by omega);rw[List.drop_eq_nil_of_le (by omega)] at hm;have HM:=xa_ hm;have GX:=xa_ hgW;have AX:=xa_ X2;clear hgW X2 hm;go_wp2_with fail
      go_meet
      case rel=>exact xa_ ⟨GX.out,AX.out,(Bool.true_and _).symm.trans HM.out⟩
    have hlt:((i:Int)<(vs.length:Int)):=(by omega);have hwi:IntKind.i64.wrap ((i:Int)+1)=i+1:=IntWalk.i64_in _ (by omega);rw[List.drop_eq_getElem_cons hiM,List.all_cons,Bool.and_assoc] at hm;obtain⟨g,off,c',q,ex,hgl,hk,hc⟩:=HV.out.atG (sz:=15) zm_ (by decide) i hiM;injection ex with e1 _ e3;subst e1 e3;have GX:=xa_ hgW;have HM:=xa_ hm;have AX:=xa_ X2;have hC:=hc wr hgW;have hk2:Xs W ok q vs[i].init.kids:=hk;obtain⟨ka,kc,rfl⟩:=hk2.sl;have cE:=xa_ (exok hk2 2 (by decide) (by decide));clear hm hc hk hk2 hgW X2;generalize vs[i]=P at hC cE HM;obtain⟨vn,ro,vk,vo,lo,ln,⟨f,o,kd,n,nm2,pt,a,ks⟩,va⟩:=P;have y0:wr.cell? ⟨g,off+i*15,none⟩=some (.string vn):=hC 0 (by decide);have y1:wr.cell? ⟨g,off+i*15+1,none⟩=some (.int .i64 ro):=hC 1 (by decide);have y2:wr.cell? ⟨g,off+i*15+2,none⟩=some (.int .i64 vk):=hC 2 (by decide);have y3:wr.cell? ⟨g,off+i*15+3,none⟩=some (.string vo):=hC 3 (by decide);have y4:wr.cell? ⟨g,off+i*15+4,none⟩=some (.int .i64 lo):=hC 4 (by decide);have y5:wr.cell? ⟨g,off+i*15+5,none⟩=some (.int .i64 ln):=hC 5 (by decide);have y6:wr.cell? ⟨g,off+i*15+6,none⟩=some (.int .i64 f):=hC 6 (by decide);have y7:wr.cell? ⟨g,off+i*15+7,none⟩=some (.int .i64 o):=hC 7 (by decide);have y8:wr.cell? ⟨g,off+i*15+8,none⟩=some (.int .i64 kd):=hC 8 (by decide);have y9:wr.cell? ⟨g,off+i*15+9,none⟩=some (.int .i64 n):=hC 9 (by decide);have y10:wr.cell? ⟨g,off+i*15+10,none⟩=some (.string nm2):=hC 10 (by decide);have y11:wr.cell? ⟨g,off+i*15+11,none⟩=some (.string pt):=hC 11 (by decide);have y12:wr.cell? ⟨g,off+i*15+12,none⟩=some (.int .i64 a):=hC 12 (by decide)
    have y13:wr.cell? ⟨g,off+i*15+13,none⟩=some (.slice ka ks.length kc):=hC 13 (by decide);have y14:wr.cell? ⟨g,off+i*15+14,none⟩=some (.int .i64 va):=hC 14 (by decide);clear hC;have cE1:Hid (∀ X,W.grownBy X none→Calls Tryz.prog 25 #[xV f o kd n nm2 pt a (.slice ka ks.length kc),.int .i64 2] X (xs_ X (xr_ 2 (.mk f o kd n nm2 pt a ks)))):=(cE);clear cE;have HM1:Hid (((nmB vn && (decide (1≤ro) && decide (ro≤5))) && (vp_ vk vo lo ln && (jv_ (.mk f o kd n nm2 pt a ks) && ((vs.drop (i+1)).all zu_ && xq_ 1 bo))))=Z):=by
     have:=HM.out;rw[zu_,Bool.and_assoc,Bool.and_assoc,Bool.and_assoc] at this;simp only[Bool.and_assoc] at this ⊢;exact this
    clear HM;have HM:=HM1;clear HM1;go_upto_region 11 with fail;go_cut [87] from 47 to 170 (fun s87 wx=>∃ b:Bool,s87=.bool (!b)∧Hid (W.grownBy wx none∧wx.heap[W.heap.size]?=some (.cells #[.int .i64 k,.string s1,.int .i64 ur,.slice (some ⟨g,off,none⟩) vs.length cv,.slice xb bo.length cb,.int .i64 at1] 27)∧wx.heap[wr.heap.size]?=some (.cells #[.string vn,.int .i64 ro,.int .i64 vk,.string vo,.int .i64 lo,.int .i64 ln,.int .i64 f,.int .i64 o,.int .i64 kd,.int .i64 n,.string nm2,.string pt,.int .i64 a,.slice ka ks.length kc,.int .i64 va] 54)∧(b && (vp_ vk vo lo ln && (jv_ (.mk f o kd n nm2 pt a ks) && ((vs.drop (i+1)).all zu_ && xq_ 1 bo))))=Z))
    case first=>
     as_aux_lemma=>
      obtain⟨e1,x1⟩:∃ b,(ro==1)=b:=⟨_,rfl⟩;have nx1:(ro != 1)=!e1:=(by rw[bne,x1]);obtain⟨e2,x2⟩:∃ b,(ro==2)=b:=⟨_,rfl⟩;have nx2:(ro != 2)=!e2:=(by rw[bne,x2]);obtain⟨e3,x3⟩:∃ b,(ro==3)=b:=⟨_,rfl⟩;have nx3:(ro != 3)=!e3:=(by rw[bne,x3]);obtain⟨e4,x4⟩:∃ b,(ro==4)=b:=⟨_,rfl⟩;have nx4:(ro != 4)=!e4:=(by rw[bne,x4]);obtain⟨e5,x5⟩:∃ b,(ro==5)=b:=⟨_,rfl⟩;have nx5:(ro != 5)=!e5:=(by rw[bne,x5]);have hn:(decide (1≤ro) && decide (ro≤5))=(e1 ||(e2 ||(e3 ||(e4 ||e5)))):=by
       rw[← x1,← x2,← x3,← x4,← x5,Bool.eq_iff_iff];simp;omega
      rw[hn] at HM;clear hn;have cN:=xa_ (zk_ vn);generalize nmB vn=b1 at cN HM;have GX1:=xa_ (xf_ GX.out (.cells #[.string vn,.int .i64 ro,.int .i64 vk,.string vo,.int .i64 lo,.int .i64 ln,.int .i64 f,.int .i64 o,.int .i64 kd,.int .i64 n,.string nm2,.string pt,.int .i64 a,.slice ka ks.length kc,.int .i64 va] 54));go_wp2_with fail
      refine(cN.out _).mono ?_;rintro e w3 ⟨rfl,g⟩;dsimp only;have AX0:=xa_ (kept g (old AX.out _));have BX0:Hid (w3.heap[wr.heap.size]?=some (.cells #[.string vn,.int .i64 ro,.int .i64 vk,.string vo,.int .i64 lo,.int .i64 ln,.int .i64 f,.int .i64 o,.int .i64 kd,.int .i64 n,.string nm2,.string pt,.int .i64 a,.slice ka ks.length kc,.int .i64 va] 54)):=xa_ (kept g (xe_ rfl _));have GX0:=xa_ (gtn GX1.out g);clear g AX GX GX1 p1 p2 p3 p4 p5 p6 cN;have AX:=AX0;have BX:=BX0;have GX:=GX0;clear AX0 BX0 GX0;obtain⟨p1,p2,p3,p4,p5,p6⟩:=xb_ AX.out;obtain⟨q1,q2,q3,q4,q5,q6⟩:=xb_ BX.out;cases b1 with
      | false=>
       go_wp2_with fail
       go_meet
       case rel=>exact⟨false,rfl,xa_ ⟨GX.out,AX.out,BX.out,HM.out⟩⟩
      | true=>
      cases e1;all_goals cases e2
      all_goals cases e3
      all_goals cases e4
      all_goals cases e5
      all_goals
       go_wp2_with fail
       go_meet
       case rel=>first
        | exact⟨true,rfl,xa_ ⟨GX.out,AX.out,BX.out,HM.out⟩⟩
        | exact⟨false,rfl,xa_ ⟨GX.out,AX.out,BX.out,HM.out⟩⟩
    case rest=>as_aux_lemma=>
    clear AX GX HM p1 p2 p3 p4 p5 p6 y0 y1 y2 y3 y4 y5 y6 y7 y8 y9 y10 y11 y12 y13 y14;obtain⟨b87,rfl,HC⟩:=hcut;obtain⟨gX,aX,bX,hZ⟩:=HC.out;clear HC;have GX:=xa_ gX;have AX:=xa_ aX;have BX:=xa_ bX;have HM:=xa_ hZ;clear gX aX bX hZ;obtain⟨p1,p2,p3,p4,p5,p6⟩:=xb_ AX.out;obtain⟨q1,q2,q3,q4,q5,q6⟩:=xb_ BX.out;cases b87 with
    | false=>
     have e:Z=false:=HM.out.symm;subst e;clear HM;go_wp2_with fail
     go_ret;exact⟨rfl,GX.out⟩
    | true=>
    have HM0:=xa_ ((Bool.true_and _).symm.trans HM.out);clear HM;have HM:=HM0;clear HM0;obtain⟨yb,hyb⟩:∃ b,(vo.toList==[])=b:=⟨_,rfl⟩;go_upto_region 13 with fail;go_cut [90] from 47 to 170 (fun s90 wx=>s90=.bool yb∧Hid (W.grownBy wx none∧wx.heap[W.heap.size]?=some (.cells #[.int .i64 k,.string s1,.int .i64 ur,.slice (some ⟨g,off,none⟩) vs.length cv,.slice xb bo.length cb,.int .i64 at1] 27)∧wx.heap[wr.heap.size]?=some (.cells #[.string vn,.int .i64 ro,.int .i64 vk,.string vo,.int .i64 lo,.int .i64 ln,.int .i64 f,.int .i64 o,.int .i64 kd,.int .i64 n,.string nm2,.string pt,.int .i64 a,.slice ka ks.length kc,.int .i64 va] 54)∧(vp_ vk vo lo ln && (jv_ (.mk f o kd n nm2 pt a ks) && ((vs.drop (i+1)).all zu_ && xq_ 1 bo)))=Z))
    case first=>
     as_aux_lemma=>
      go_wp2_with fail
      go_meet
      case rel=>exact⟨rfl,xa_ ⟨GX.out,AX.out,BX.out,HM.out⟩⟩
    case rest=>
    clear AX BX GX HM p1 p2 p3 p4 p5 p6 q1 q2 q3 q4 q5 q6;obtain⟨rfl,HC⟩:=hcut;obtain⟨gX,aX,bX,hZ⟩:=HC.out;clear HC;have GX:=xa_ gX;have AX:=xa_ aX;have BX:=xa_ bX;have HM:=xa_ hZ;clear gX aX bX hZ;obtain⟨p1,p2,p3,p4,p5,p6⟩:=xb_ AX.out;obtain⟨q1,q2,q3,q4,q5,q6⟩:=xb_ BX.out;go_upto_if 90 with fail;go_cut [] from 47 to 170 (fun wx=>Hid (W.grownBy wx none∧wx.heap[W.heap.size]?=some (.cells #[.int .i64 k,.string s1,.int .i64 ur,.slice (some ⟨g,off,none⟩) vs.length cv,.slice xb bo.length cb,.int .i64 at1] 27)∧wx.heap[wr.heap.size]?=some (.cells #[.string vn,.int .i64 ro,.int .i64 vk,.string vo,.int .i64 lo,.int .i64 ln,.int .i64 f,.int .i64 o,.int .i64 kd,.int .i64 n,.string nm2,.string pt,.int .i64 a,.slice ka ks.length kc,.int .i64 va] 54)∧(jv_ (.mk f o kd n nm2 pt a ks) && ((vs.drop (i+1)).all zu_ && xq_ 1 bo))=Z))
    case first=>
     as_aux_lemma=>
      by_cases ho:vo=nob
      · have HZ2:Hid (((kdB vk && docR lo ln) && (jv_ (.mk f o kd n nm2 pt a ks) && ((vs.drop (i+1)).all zu_ && xq_ 1 bo)))=Z):=(by have:=HM.out;rw[vp_,if_pos ho] at this;exact this);have j0:yb=true:=(by rw[← hyb,eqN,decide_eq_true ho]);subst j0;clear hyb;clear HM ho;rw[Bool.and_assoc] at HZ2;have cK:=xa_ (v3_ vk);generalize kdB vk=bk at cK HZ2;have HM:=HZ2;clear HZ2;go_wp2_with fail
        refine(cK.out _).mono ?_;rintro e w3 ⟨rfl,g⟩;dsimp only;have AX0:=xa_ (kept g AX.out);have BX0:=xa_ (kept g BX.out);have GX0:=xa_ (gtn GX.out g);clear g AX BX GX p1 p2 p3 p4 p5 p6 q1 q2 q3 q4 q5 q6 cK;have AX:=AX0;have BX:=BX0;have GX:=GX0;clear AX0 BX0 GX0;obtain⟨p1,p2,p3,p4,p5,p6⟩:=xb_ AX.out;obtain⟨q1,q2,q3,q4,q5,q6⟩:=xb_ BX.out;cases bk with
        | false=>
         have e:Z=false:=HM.out.symm;subst e;clear HM;go_wp2_with fail
         go_ret;exact⟨rfl,GX.out⟩
        | true=>
        have HM0:=xa_ ((Bool.true_and _).symm.trans HM.out);clear HM;have HM:=HM0;clear HM0;rw[docR] at HM;simp only[Bool.and_assoc] at HM;by_cases r1:0≤ln;rotate_left
        · rw[decide_eq_false r1] at HM;have k1:ln<0:=(by omega);clear r1;have e:Z=false:=HM.out.symm;subst e;clear HM;go_wp2_with fail
          go_ret;exact⟨rfl,GX.out⟩
        rw[decide_eq_true r1] at HM;have k1:¬ln<0:=(by omega);clear r1;have HM0:=xa_ ((Bool.true_and _).symm.trans HM.out);clear HM;have HM:=HM0;clear HM0;by_cases r2:ln≤1000;rotate_left
        · rw[decide_eq_false r2] at HM;have k2:1000<ln:=(by omega);clear r2;have e:Z=false:=HM.out.symm;subst e;clear HM;go_wp2_with fail
          go_ret;exact⟨rfl,GX.out⟩
        rw[decide_eq_true r2] at HM;have k2:¬1000<ln:=(by omega);clear r2;have HM0:=xa_ ((Bool.true_and _).symm.trans HM.out);clear HM;have HM:=HM0;clear HM0;have cA:=xa_ (qe_ lo);have cB:=xa_ (qe_ (lo+ln - 1));have hlo:Hid (xu_ lo=true→-4294967295≤lo∧lo≤4294967295):=xa_ fun h=>by simpa[xu_] using h
        obtain⟨b1,h1⟩:∃ b,(ln==0)=b:=⟨_,rfl⟩;obtain⟨b2,h2⟩:∃ b,(lo==0)=b:=⟨_,rfl⟩;have n1:(ln != 0)=!b1:=(by rw[bne,h1]);have n2:(lo != 0)=!b2:=(by rw[bne,h2]);have d1:decide (ln=0)=b1:=h1;have d2:decide (lo=0)=b2:=h2;rw[d1,d2] at HM;clear d1 d2;have hln:0≤ln∧ln≤1000:=(by omega);have hpos:Hid (b1=false→0<ln):=xa_ fun h=>by rw[h,beq_eq_false_iff_ne] at h1;omega
        have hpos2:Hid (b1=true→ln=0):=xa_ fun h=>by rw[h] at h1;exact beq_iff_eq.1 h1
        generalize hnA:xu_ lo=nA at cA hlo HM;generalize hnB:xu_ (lo+ln - 1)=nB at cB HM;clear hnA hnB;cases b1 with
        | true=>
         have hz:=hpos2.out rfl;have k3:¬0<ln:=(by omega);have hdz:decide (0<ln)=false:=decide_eq_false k3;rw[hdz] at HM;clear hpos hpos2 hln hdz hz;cases b2 with
         | false=>
          have e:Z=false:=HM.out.symm;subst e;clear HM;go_wp2_with fail
          go_ret;exact⟨rfl,GX.out⟩
         | true=>
         have HM0:=xa_ ((Bool.true_and _).symm.trans HM.out);clear HM;have HM:=HM0;clear HM0;go_wp2_with fail
         refine(cA.out _).mono ?_;rintro e w3 ⟨rfl,g⟩;dsimp only;have AX0:=xa_ (kept g AX.out);have BX0:=xa_ (kept g BX.out);have GX0:=xa_ (gtn GX.out g);clear g AX BX GX p1 p2 p3 p4 p5 p6 q1 q2 q3 q4 q5 q6 cA;have AX:=AX0;have BX:=BX0;have GX:=GX0;clear AX0 BX0 GX0;obtain⟨p1,p2,p3,p4,p5,p6⟩:=xb_ AX.out;obtain⟨q1,q2,q3,q4,q5,q6⟩:=xb_ BX.out;cases nA with
         | false=>
          have e:Z=false:=HM.out.symm;subst e;clear HM;go_wp2_with fail
          go_ret;exact⟨rfl,GX.out⟩
         | true=>
         have HM0:=xa_ ((Bool.true_and _).symm.trans HM.out);clear HM;have HM:=HM0;clear HM0;clear hlo;have HM0:=xa_ ((Bool.true_and _).symm.trans HM.out);clear HM;have HM:=HM0;clear HM0;go_wp2_with fail
         go_meet
         case rel=>exact xa_ ⟨GX.out,AX.out,BX.out,HM.out⟩
        | false=>
         have k3:=hpos.out rfl;have hdz:decide (0<ln)=true:=decide_eq_true k3;rw[hdz] at HM;clear hpos hpos2 hdz;have HM0:Hid ((nA && (nB && (jv_ (.mk f o kd n nm2 pt a ks) && ((vs.drop (i+1)).all zu_ && xq_ 1 bo))))=Z):=HM;clear HM;have HM:=HM0;clear HM0;go_wp2_with fail
         refine(cA.out _).mono ?_;rintro e w3 ⟨rfl,g⟩;dsimp only;have AX0:=xa_ (kept g AX.out);have BX0:=xa_ (kept g BX.out);have GX0:=xa_ (gtn GX.out g);clear g AX BX GX p1 p2 p3 p4 p5 p6 q1 q2 q3 q4 q5 q6 cA;have AX:=AX0;have BX:=BX0;have GX:=GX0;clear AX0 BX0 GX0;obtain⟨p1,p2,p3,p4,p5,p6⟩:=xb_ AX.out;obtain⟨q1,q2,q3,q4,q5,q6⟩:=xb_ BX.out;cases nA with
         | false=>
          have e:Z=false:=HM.out.symm;subst e;clear HM;go_wp2_with fail
          go_ret;exact⟨rfl,GX.out⟩
         | true=>
         have HM0:=xa_ ((Bool.true_and _).symm.trans HM.out);clear HM;have HM:=HM0;clear HM0;have hlo':=hlo.out (by first|rfl|trivial);have w1:IntKind.i64.wrap (lo+ln)=lo+ln:=IntWalk.i64_in _ (by omega);have w2:IntKind.i64.wrap (lo+ln - 1)=lo+ln - 1:=IntWalk.i64_in _ (by omega);clear hlo;go_wp2_with fail
         refine(cB.out _).mono ?_;rintro e w3 ⟨rfl,g⟩;dsimp only;have AX0:=xa_ (kept g AX.out);have BX0:=xa_ (kept g BX.out);have GX0:=xa_ (gtn GX.out g);clear g AX BX GX p1 p2 p3 p4 p5 p6 q1 q2 q3 q4 q5 q6 cB;have AX:=AX0;have BX:=BX0;have GX:=GX0;clear AX0 BX0 GX0;obtain⟨p1,p2,p3,p4,p5,p6⟩:=xb_ AX.out;obtain⟨q1,q2,q3,q4,q5,q6⟩:=xb_ BX.out;cases nB with
         | false=>
          have e:Z=false:=HM.out.symm;subst e;clear HM;go_wp2_with fail
          go_ret;exact⟨rfl,GX.out⟩
         | true=>
         have HM0:=xa_ ((Bool.true_and _).symm.trans HM.out);clear HM;have HM:=HM0;clear HM0;go_wp2_with fail
         go_meet
         case rel=>exact xa_ ⟨GX.out,AX.out,BX.out,HM.out⟩
      · have HZ2:Hid (((nmB vo && (decide (vk=0) && (decide (lo=0) && decide (ln=0)))) && (jv_ (.mk f o kd n nm2 pt a ks) && ((vs.drop (i+1)).all zu_ && xq_ 1 bo)))=Z):=(by have:=HM.out;rw[vp_,if_neg ho] at this;exact this);have j0:yb=false:=(by rw[← hyb,eqN,decide_eq_false ho]);subst j0;clear hyb;clear HM ho;simp only[Bool.and_assoc] at HZ2;have cN:=xa_ (zk_ vo);generalize nmB vo=bn at cN HZ2;obtain⟨b1,h1⟩:∃ b,(vk==0)=b:=⟨_,rfl⟩;obtain⟨b2,h2⟩:∃ b,(lo==0)=b:=⟨_,rfl⟩;obtain⟨b3,h3⟩:∃ b,(ln==0)=b:=⟨_,rfl⟩;have n1:(vk != 0)=!b1:=(by rw[bne,h1]);have n2:(lo != 0)=!b2:=(by rw[bne,h2]);have n3:(ln != 0)=!b3:=(by rw[bne,h3]);have d1:decide (vk=0)=b1:=h1;have d2:decide (lo=0)=b2:=h2;have d3:decide (ln=0)=b3:=h3;rw[d1,d2,d3] at HZ2;clear d1 d2 d3;have HM:=HZ2;clear HZ2;go_wp2_with fail
        refine(cN.out _).mono ?_;rintro e w3 ⟨rfl,g⟩;dsimp only;have AX0:=xa_ (kept g AX.out);have BX0:=xa_ (kept g BX.out);have GX0:=xa_ (gtn GX.out g);clear g AX BX GX p1 p2 p3 p4 p5 p6 q1 q2 q3 q4 q5 q6 cN;have AX:=AX0;have BX:=BX0;have GX:=GX0;clear AX0 BX0 GX0;obtain⟨p1,p2,p3,p4,p5,p6⟩:=xb_ AX.out;obtain⟨q1,q2,q3,q4,q5,q6⟩:=xb_ BX.out;cases bn with
        | false=>
         have e:Z=false:=HM.out.symm;subst e;clear HM;go_wp2_with fail
         go_ret;exact⟨rfl,GX.out⟩
        | true=>
        have HM0:=xa_ ((Bool.true_and _).symm.trans HM.out);clear HM;have HM:=HM0;clear HM0;cases b1 with
        | false=>
         have e:Z=false:=HM.out.symm;subst e;clear HM;go_wp2_with fail
         go_ret;exact⟨rfl,GX.out⟩
        | true=>
        have HM0:=xa_ ((Bool.true_and _).symm.trans HM.out);clear HM;have HM:=HM0;clear HM0;cases b2 with
        | false=>
         have e:Z=false:=HM.out.symm;subst e;clear HM;go_wp2_with fail
         go_ret;exact⟨rfl,GX.out⟩
        | true=>
        have HM0:=xa_ ((Bool.true_and _).symm.trans HM.out);clear HM;have HM:=HM0;clear HM0;cases b3 with
        | false=>
         have e:Z=false:=HM.out.symm;subst e;clear HM;go_wp2_with fail
         go_ret;exact⟨rfl,GX.out⟩
        | true=>
        have HM0:=xa_ ((Bool.true_and _).symm.trans HM.out);clear HM;have HM:=HM0;clear HM0;go_wp2_with fail
        go_meet
        case rel=>exact xa_ ⟨GX.out,AX.out,BX.out,HM.out⟩
    case rest=>as_aux_lemma=>
    clear AX BX GX HM p1 p2 p3 p4 p5 p6 q1 q2 q3 q4 q5 q6;have HC:=hcut;clear hcut;obtain⟨gX,aX,bX,hZ⟩:=HC.out;clear HC;have GX:=xa_ gX;have AX:=xa_ aX;have BX:=xa_ bX;have HM:=xa_ hZ;clear gX aX bX hZ;obtain⟨p1,p2,p3,p4,p5,p6⟩:=xb_ AX.out;obtain⟨q1,q2,q3,q4,q5,q6⟩:=xb_ BX.out;have cI:=xa_ (kb_ f o kd n nm2 pt a ks ka kc);rw[jv_] at HM;have hfm:PE.form (.mk f o kd n nm2 pt a ks)=f:=rfl;rw[hfm] at HM;obtain⟨b1,h1⟩:∃ b,(f==1)=b:=⟨_,rfl⟩;have n1:(f != 1)=!b1:=(by rw[bne,h1]);have d1:decide (f=1)=b1:=h1;rw[d1] at HM;clear d1 hfm;generalize xz_ (.mk f o kd n nm2 pt a ks)=bb at cI HM;generalize xr_ 2 (.mk f o kd n nm2 pt a ks)=be at cE1 HM;go_wp2_with fail
    refine(cI.out _).mono ?_;rintro e w3 ⟨rfl,g⟩;dsimp only;have AX0:=xa_ (kept g AX.out);have BX0:=xa_ (kept g BX.out);have GX0:=xa_ (gtn GX.out g);clear g AX BX GX p1 p2 p3 p4 p5 p6 q1 q2 q3 q4 q5 q6 cI;have AX:=AX0;have BX:=BX0;have GX:=GX0;clear AX0 BX0 GX0;obtain⟨p1,p2,p3,p4,p5,p6⟩:=xb_ AX.out;obtain⟨q1,q2,q3,q4,q5,q6⟩:=xb_ BX.out;cases bb with
    | true=>
     have HM0:Hid (((vs.drop (i+1)).all zu_ && xq_ 1 bo)=Z):=HM;clear HM;have HM:=HM0;clear HM0;go_wp2_with fail
     go_roundg (vs.length+1 - (i+1))
     case measure=>omega
     case rel=>exact⟨i+1,by simp,xa_ ⟨by omega,rfl,GX.out,AX.out,HM.out⟩⟩
    | false=>
     have HM0:Hid ((b1 && (be && ((vs.drop (i+1)).all zu_ && xq_ 1 bo)))=Z):=(by have:=HM.out;rw[Bool.false_or,Bool.and_assoc] at this;exact this);clear HM;have HM:=HM0;clear HM0;cases b1 with
     | false=>
      have e:Z=false:=HM.out.symm;subst e;clear HM;go_wp2_with fail
      go_ret;exact⟨rfl,GX.out⟩
     | true=>
     have HM0:=xa_ ((Bool.true_and _).symm.trans HM.out);clear HM;have HM:=HM0;clear HM0;go_wp2_with fail
     refine(cE1.out _ GX.out).mono ?_;rintro e w3 ⟨rfl,g⟩;dsimp only;have AX0:=xa_ (kept g AX.out);have BX0:=xa_ (kept g BX.out);have GX0:=xa_ (gtn GX.out g);clear g AX BX GX p1 p2 p3 p4 p5 p6 q1 q2 q3 q4 q5 q6 cE1;have AX:=AX0;have BX:=BX0;have GX:=GX0;clear AX0 BX0 GX0;obtain⟨p1,p2,p3,p4,p5,p6⟩:=xb_ AX.out;obtain⟨q1,q2,q3,q4,q5,q6⟩:=xb_ BX.out;cases be with
     | false=>
      have e:Z=false:=HM.out.symm;subst e;clear HM;go_wp2_with fail
      go_ret;exact⟨rfl,GX.out⟩
     | true=>
     have HM0:=xa_ ((Bool.true_and _).symm.trans HM.out);clear HM;have HM:=HM0;clear HM0;go_wp2_with fail
     go_roundg (vs.length+1 - (i+1))
     case measure=>omega
     case rel=>exact⟨i+1,by simp,xa_ ⟨by omega,rfl,GX.out,AX.out,HM.out⟩⟩
 case rest=>as_aux_lemma=>
 have HC:=hcut;clear hcut;obtain⟨gX,aX,hZ⟩:=HC.out;clear HC;have GX:=xa_ gX;have AX:=xa_ aX;have HZ:=xa_ hZ;clear gX aX hZ;obtain⟨p1,p2,p3,p4,p5,p6⟩:=xb_ AX.out;have cL:=xa_ (HL.out 1 (by decide) (by decide));have HZ2:Hid (xq_ 1 bo=Z):=HZ;clear HZ;rw[HZ2.out] at cL;go_wp2_with fail
 refine(cL.out _ GX.out).mono ?_;rintro e w5 ⟨rfl,g⟩;dsimp only;have G5:=xa_ (gtn GX.out g);clear g;go_wp2_with fail
 go_ret;exact⟨rfl,G5.out⟩
end Go.Proofs.YtcoglmaiahpooaaGreatDoor
