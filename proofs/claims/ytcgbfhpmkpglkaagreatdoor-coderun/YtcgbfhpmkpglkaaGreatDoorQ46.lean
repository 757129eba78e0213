/- Texts put together: G4. -/
import Derived.Test.YtcgbfhpmkpglkaaGreatDoorQ45
import Derived.Test.YtcgbfhpmkpglkaaGreatDoorQ13
import Derived.Test.YtcgbfhpmkpglkaaGreatDoorQ22
set_option linter.unusedVariables false
set_option linter.unusedSimpArgs false
set_option maxHeartbeats 8000000
namespace Go.Proofs.YtcgbfhpmkpglkaaGreatDoor
open Go.RowKit
attribute [local go_sem ↓] Go.wp_at_zero Go.wp_at_succ
theorem ac6_ {n k g:Nat} (h:g=n - k) (hk:k<n):n - (k+1)<g:=by omega
theorem u0_ (l:List (Int×Nat)) (bds:List Int) (kd:Int) (fn:Nat) (t:List Ins):(DocOk l kd fn t→q5_ (Classical.propDecidable,()) l bds kd fn t=if 1000000000<vj_ bds t then(0,13) else(vj_ bds t,0))∧(¬DocOk l kd fn t→q5_ (Classical.propDecidable,()) l bds kd fn t=(0,12)):=by
 rw[ari_];constructor
 ·intro h;unfold q5_;rw[if_pos h]
 ·intro h;unfold q5_;rw[if_neg h]
theorem aa0_ {ps:List Pr} {n k:Nat} {b:List Int} {c:Int} (hk:k<n) (hu:kh_ (Classical.propDecidable,()) ps k b=(0,c)) (hc:c≠0):kx_ (Classical.propDecidable,()) ps (n - k) k b=([],c,(k:Int)):=by
 rw[show n - k=(n - (k+1))+1 by omega];simp only[kx_,hu];rw[if_neg hc]
theorem anz_ {ps:List Pr} {n k:Nat} {b:List Int} {s:Int} (hk:k<n) (hu:kh_ (Classical.propDecidable,()) ps k b=(s,0)):kx_ (Classical.propDecidable,()) ps (n - k) k b=kx_ (Classical.propDecidable,()) ps (n - (k+1)) (k+1) (b++[s]):=by
 rw[show n - k=(n - (k+1))+1 by omega];simp only[kx_,hu];simp
def vl_ (kd:Int) (fn n:Nat):Bool:=(kd==1 ||kd==2 ||kd==3) && decide (fn≤20000) && decide (n≤100000)
set_option maxRecDepth 10000 in
theorem ajc_ (hSt:∀ tv t w,TxtAt w tv t→t.length≤100000→aid_ t→Calls Tryz.prog 23 #[tv] w (ad5_ (arh_ t) w)) (cv:Value) (ps:List Pr) (w:World) (hC:CdP w cv ps) (hl:ps.length≤1000000000000000) :
 Calls Tryz.prog 15 #[.agg #[cv]] w (adc_ w (jx_ (Classical.propDecidable,()) ps)):=by
 obtain⟨ca,cap,rfl,hcap,hc⟩:=hC;have HC:=hd_ hc;have HSt:=hd_ hSt;clear hc hSt;obtain⟨n,hn⟩:∃ n,ps.length=n:=⟨_,rfl⟩;have HN:=hd_ hn;rw[hn] at hl hcap ⊢;clear hn;by_cases h16:16<n
 ·have HR:=hd_ (by unfold jx_;rw[if_pos (by rw[HN.out];exact h16)]:jx_ (Classical.propDecidable,()) ps=([],12,0));have h16':(16:Int)<(n:Int):=(by omega);go_enter Tryz.func15,Tryz.ntmps15;go_wp2;refine bodyPost_ret (v:=.tuple #[.slice none 0 0,.agg #[.int .i64 12,.int .i64 0,.int .i64 0]]) (by simp[results,Tryz.results15,go_sem]) rfl ?_;rw[HR.out];exact⟨_,rfl,OwnV.nil _ _,xb_ (gr1 _ _) _⟩
 · have h16':¬((16:Int)<(n:Int)):=(by omega);obtain⟨H,hH⟩:∃ H,w.heap.size=H:=⟨_,rfl⟩;have HR:=hd_ (by unfold jx_;rw[if_neg (by rw[HN.out];exact h16),HN.out]:jx_ (Classical.propDecidable,()) ps=kx_ (Classical.propDecidable,()) ps n 0 []);go_enter Tryz.func15,Tryz.ntmps15;go_wp2;go_loopg [4,5] n (fun gk s4 s5 wx=>∃(k:Nat) (b:List Int) (bv:Value),bv=s4∧s5=.int .i64 k∧k≤n∧gk=n - k∧kx_ (Classical.propDecidable,()) ps (n - k) k b=kx_ (Classical.propDecidable,()) ps n 0 []∧b.length=k∧(∀ x,x∈b→0≤x∧x≤1000000000)∧OwnV (H+2) wx bv b∧wx.heap[H]?=some (.cells #[.slice ca n cap] 24)∧wx.heap[H+1]?=some (.cells #[.int .i64 0,.int .i64 0,.int .i64 0] 46)∧w.grownBy wx none∧H+2≤wx.heap.size∧∀ i,i<k→(ps.getD i pr0).fs.length≤20000)
   case atStart=>
    refine⟨0,[],_,rfl,rfl,Nat.zero_le _,by omega,rfl,rfl,by simp,OwnV.nil _ _,?_,?_,xb_ (gr1 _ _) _,by simp[hH],fun i hi=>by omega⟩
    ·rw[xh_ (by simp[hH]),xj_ hH.symm]
    ·rw[xj_ (by simp[hH])]
   case round=>
    obtain⟨k,b,bv,hs4,rfl,hk,hgk,hver,hbl,hbd,hown,hb0,hb1,hgr,hsz,hfr⟩:=hrel;subst hs4;have HG:=hd_ hgk;have HV:=hd_ hver;have HBL:=hd_ hbl;have HBD:=hd_ hbd;have HO:=hd_ hown;have HB0:=hd_ hb0;have HB1:=hd_ hb1;have HFR:=hd_ hfr;clear hgk hver hbl hbd hown hb0 hb1 hfr;have z0:=xa_ HB0.out 0;simp at z0;by_cases hlt:k<n
    · have hkl:k<ps.length:=(by rw[HN.out];exact hlt);rcases HC.out with h|⟨b',off,rfl,hc⟩
      ·subst h;simp at hkl
      obtain⟨fv,sv,tv,hp⟩:=hc k hkl;have HP:Hid (∀ w',w.grownBy w' none→PrAt w' b' (off+k*5) (ps.getD k pr0) fv sv tv):=fun w' hw'=>hp.grown hw';have HCD:=hd_ hc;have hpw:=hp.grown hgr;have c0:=hpw.kind;have c1:=hpw.name;have c2:=hpw.fcell;have c3:=hpw.scell;have c4:=hpw.tcell;obtain⟨fa,fc,hfv,_⟩:=hpw.first
      obtain⟨sa,sc,hsv,_⟩:=hpw.slots;obtain⟨ta,tc,htv,_⟩:=hpw.text;have HTV:=hd_ htv;rw[hfv] at c2;rw[hsv] at c3;rw[htv] at c4;have HUN:Hid (kh_ (Classical.propDecidable,()) ps k b=q5_ (Classical.propDecidable,()) (ahd ps k) b (ps.getD k pr0).k (ps.getD k pr0).fs.length (ps.getD k pr0).tx):=(rfl:kh_ (Classical.propDecidable,()) ps k b=_);clear hpw hp hc hfv hsv htv;obtain⟨P,hP⟩:∃ P,ps.getD k pr0=P:=⟨_,rfl⟩;rw[hP] at c0 c1 c2 c3 c4 HUN HP HTV;have HPP:=hd_ hP;clear hP;obtain⟨kd,nm,fs,sl,t⟩:=P;dsimp only at c0 c1 c2 c3 c4 HUN HP HTV;obtain⟨fn,hfnn⟩:∃ fn,fs.length=fn:=⟨_,rfl⟩;obtain⟨tn,htnn⟩:∃ tn,t.length=tn:=⟨_,rfl⟩;have HTN:=hd_ htnn;rw[hfnn] at c2 HUN;rw[htnn] at c4 HTV;have HFN:=hd_ hfnn;generalize sl.length=sn at c3;clear hfnn htnn;have i1:(0:Int)≤(k:Int):=(by omega);have i2:(k:Int)<(n:Int):=(by omega);have HM:Hid (∀ j,((ahd ps k).getD j (0,0)).2≤1000000000000):=fun j=>by
       by_cases hj:j<k
       ·rw[v9_ ps k j hj (by omega)];have:=HFR.out j hj;show(ps.getD j pr0).fs.length≤_;omega
       ·simp[List.getD,List.getElem?_eq_none (show(ahd ps k).length≤j by rw[ji_ ps k (by omega)];omega)]
      obtain⟨xb,hxb⟩:∃ xb,wr.heap.size=xb:=⟨_,rfl⟩;obtain⟨wy,hwy⟩:∃ wy,wr.alloc (.cells #[.int .i64 kd,.string nm,.slice fa fn fc,.slice sa sn sc,.slice ta tn tc] 44)=wy:=⟨_,rfl⟩;have hgy:wr.grownBy wy none:=(by rw[← hwy];exact gr1 _ _);have HXB:=hd_ (by rw[← hwy,← hxb];exact heap_alloc_new _ _:wy.heap[xb]?=some (.cells #[.int .i64 kd,.string nm,.slice fa fn fc,.slice sa sn sc,.slice ta tn tc] 44));go_upto_region 8 with(fail);(try rw[hwy,hxb]);have hxs:wr.heap.size≤xb:=(by omega);clear hwy hxb c0 c1 c2 c3 c4;have x0:=xa_ HXB.out 0;have x2:=xa_ HXB.out 2;have x4:=xa_ HXB.out 4;simp at x0 x2 x4;go_cut [7] (fun s7 wx=>s7=.bool (vl_ kd fn tn)∧wy=wx)
      case first=>
       by_cases q1:kd=1∨kd=2∨kd=3
       · by_cases q2:fn≤20000
         · have q2':(fn:Int)≤20000:=(by omega);have HX:=hd_ (by
            unfold vl_;rw[show(kd==1 ||kd==2 ||kd==3)=true by simp;omega,show decide (fn≤20000)=true by simpa using q2,Bool.eq_iff_iff];simp;omega:vl_ kd fn tn=decide ((tn:Int)≤100000))
           rcases q1 with rfl|rfl|rfl
           · go_wp2_with fail
             go_meet
             case rel=>exact⟨by rw[HX.out],rfl⟩
           · go_wp2_with fail
             go_meet
             case rel=>exact⟨by rw[HX.out],rfl⟩
           · go_wp2_with fail
             go_meet
             case rel=>exact⟨by rw[HX.out],rfl⟩
         · have q2':¬((fn:Int)≤20000):=(by omega);have HX:=hd_ (by
            unfold vl_;rw[show decide (fn≤20000)=false by simpa using q2];simp:vl_ kd fn tn=false)
           rcases q1 with rfl|rfl|rfl
           · go_wp2_with fail
             go_meet
             case rel=>exact⟨by rw[HX.out],rfl⟩
           · go_wp2_with fail
             go_meet
             case rel=>exact⟨by rw[HX.out],rfl⟩
           · go_wp2_with fail
             go_meet
             case rel=>exact⟨by rw[HX.out],rfl⟩
       · have e1:(kd==1)=false:=(by simp;omega);have e2:(kd==2)=false:=(by simp;omega);have e3:(kd==3)=false:=(by simp;omega);have HX:=hd_ (by unfold vl_;rw[e1,e2,e3];simp:vl_ kd fn tn=false);go_wp2_with fail
         go_meet
         case rel=>exact⟨by rw[HX.out],rfl⟩
      case rest=>
       obtain⟨rfl,hwc⟩:=hcut;subst hwc;have HNO:Hid (vl_ kd fn tn=false→¬DocOk (ahd ps k) kd fn t):=fun h hx=>by
        have h1:=hx.kind;have h2:=hx.frame;have h3:=hx.len;rw[HTN.out] at h3;simp only[vl_,Bool.and_eq_false_iff,Bool.or_eq_false_iff,beq_eq_false_iff_ne,decide_eq_false_iff_not] at h;omega
       have HYES:Hid (vl_ kd fn tn=true→(kd=1∨kd=2∨kd=3)∧fn≤20000∧tn≤100000):=fun h=>by
        simp only[vl_,Bool.and_eq_true,Bool.or_eq_true,beq_iff_eq,decide_eq_true_eq] at h;omega
       have HGW:Hid (w.grownBy wy none):=hgr.trans hgy;have HOy:Hid (OwnV (H+2) wy bv b):=HO.out.keptN hgy;have HB0y:Hid (wy.heap[H]?=some (.cells #[.slice (some ⟨b',off,none⟩) n cap] 24)):=kept hgy HB0.out;have HB1y:Hid (wy.heap[H+1]?=some (.cells #[.int .i64 0,.int .i64 0,.int .i64 0] 46)):=kept hgy HB1.out;have hsy:H+2≤wy.heap.size:=(by have:=hgy.size;omega);generalize vl_ kd fn tn=sz at *;clear HO HB0 HB1 x0 x2 hgy;go_wp2;go_loopg [7,8] (tn+1) (fun gk s7 s8 wx=>∃(i:Nat) (okb:Bool),s8=.int .i64 i∧s7=.bool okb∧i≤tn∧gk=tn+1 - i∧(okb=true→sz=true∧∀ i',i'<i→okD (ahd ps k) fn t.length i' (nth t i')=true)∧(okb=false→¬DocOk (ahd ps k) kd fn t)∧wy.grownBy wx none)
       case atStart=>exact⟨0,sz,rfl,rfl,Nat.zero_le _,by omega,fun h=>⟨h,fun i' hi=>by omega⟩,HNO.out,gz_⟩
       case round=>
        obtain⟨i,okb,rfl,rfl,hi,hgi,hok1,hok2,hgi2⟩:=hrel;have HGI:Hid (_=tn+1 - i):=hgi;have HOK1:=hd_ hok1;have HOK2:=hd_ hok2;clear hgi hok1 hok2;have e4:=hgi2.cell x4 (by simp);cases okb with
        | false=>
         have HX:Hid (¬DocOk (ahd ps k) kd fn t):=HOK2.out rfl;clear HOK1 HOK2;have HRR:=hd_ (by rw[HR.out,← HV.out,aa0_ hlt (by rw[HUN.out];exact(u0_ _ _ _ _ _).2 HX.out) (by omega)]:jx_ (Classical.propDecidable,()) ps=([],12,(k:Int)));have b1:=kept hgi2 HB1y.out;have y1:=xa_ b1 0;have y2:=xa_ b1 1;have y3:=xa_ b1 2;simp at y1 y2 y3;have f1:=xc_ b1 0;have f2:=xc_ b1 1;have f3:=xc_ b1 2;go_wp2_with fail
         refine bodyPost_ret (v:=.tuple #[.slice none 0 0,.agg #[.int .i64 12,.int .i64 k,.int .i64 0]]) (by simp[results,Tryz.results15,go_sem,y1,y2,y3]) rfl ?_;rw[HRR.out];exact⟨_,rfl,OwnV.nil _ _,yc_ (yc_ (yc_ (HGW.out.trans hgi2) (by omega) _ _) (by omega) _ _) (by omega) _ _⟩
        | true=>
         have HY:Hid (sz=true∧∀ i',i'<i→okD (ahd ps k) fn t.length i' (nth t i')=true):=HOK1.out rfl;obtain⟨hk3,hf3,ht3⟩:=HYES.out HY.out.1;clear HOK1 HOK2;by_cases hit:i<tn
         · have hitl:i<t.length:=(by rw[HTN.out];exact hit);have hit':(i:Int)<(tn:Int):=(by omega);have z1:=xa_ (kept hgi2 HB0y.out) 0;simp at z1;have cI:Calls Tryz.prog 20 #[.slice (some ⟨b',off,none⟩) n cap,.int .i64 k,.int .i64 i] wr fun e w'=>e=.returned (.bool (okD (ahd ps k) fn t.length i (nth t i)))∧wr.grownBy w' none:=by
            refine ajb_ (nth t i) (ahd ps k) fn t.length i k _ wr ?_ (by omega) (by rw[HTN.out];omega) (by omega) HM.out;have hpp:=HP.out wr (HGW.out.trans hgi2);obtain⟨fa2,fc2,hf2,_⟩:=hpp.first
            obtain⟨ta2,tc2,ht2,hlies⟩:=hpp.text;dsimp only at hf2 ht2 hlies;rcases hlies with hnil|⟨tb,toff,rfl,hcl⟩
            ·rw[hnil] at hitl;simp at hitl
            obtain⟨w0,w1,w2,w3⟩:=hcl i hitl;refine⟨b',off,n,cap,fa2,fc2,tb,toff,tc2,rfl,hlt,?_,?_,hitl,w0,w1,w2,w3,ji_ ps k (by omega),fun j hj=>?_⟩
            ·rw[← HFN.out,← hf2];exact hpp.fcell
            ·rw[← ht2];exact hpp.tcell
            · obtain⟨f1,s1,t1,h1⟩:=HCD.out j (by omega);have h1:=h1.grown (HGW.out.trans hgi2);obtain⟨fa3,fc3,hf3,_⟩:=h1.first
              rw[v9_ ps k j hj (by omega)];exact⟨h1.kind,fa3,fc3,by rw[← hf3];exact h1.fcell⟩
           obtain⟨okv,hokv⟩:∃ okv,okD (ahd ps k) fn t.length i (nth t i)=okv:=⟨_,rfl⟩;have HOV:=hd_ hokv;rw[hokv] at cI;clear hokv;go_wp2_with fail
           refine cI.mono ?_;rintro e w5 ⟨rfl,hg5⟩;clear cI;go_wp2_with fail
           have hgl:=HGI.out;go_roundg (tn+1 - (i+1))
           case measure=>omega
           case rel=>
            refine⟨i+1,okv,by simp,rfl,by omega,rfl,fun h=>⟨HY.out.1,fun i' hi'=>?_⟩,fun h hx=>?_,hgi2.trans hg5⟩
            · by_cases e1:i'=i
              ·subst e1;rw[HOV.out];exact h
              ·exact HY.out.2 i' (by omega)
            ·have:=hx.ok i hitl;rw[HOV.out,h] at this;simp at this
         · have hit':¬((i:Int)<(tn:Int)):=(by omega);have hii:i=tn:=(by omega);have HALL:Hid (∀ i',i'<t.length→okD (ahd ps k) fn t.length i' (nth t i')=true):=fun i' hi'=>HY.out.2 i' (by rw[HTN.out] at hi';omega);have hpp:=HP.out wr (HGW.out.trans hgi2);have HTX:Hid (∀ w',wr.grownBy w' none→TxtAt w' (.slice ta tn tc) t):=fun w' hw'=>by rw[← HTV.out];exact hpp.text.grown hw'
           have htl:t.length≤100000:=(by rw[HTN.out];exact ht3);have cL:=aff_ (.slice ta tn tc) t wr (HTX.out wr gz_) htl;obtain⟨wl,hwl⟩:∃ wl,wl=wr:=⟨_,rfl⟩;subst hwl;have HGL:=hd_ hgi2;clear hii hpp;go_wp2_with fail
           refine cL.mono ?_;rintro e w5 ⟨hg5,hpost⟩;clear cL;have f4:=hg5.cell e4 (by simp);have HG5:Hid (wy.grownBy w5 none):=HGL.out.trans hg5;rcases hpost with⟨hlp,hpa,lv,rfl,hLps⟩|⟨hno,rfl⟩
           · have HFW:Hid (Fwd t):=vo_ ((ag4_ (ahd ps k) fn t).1 HALL.out).1;have HLP:Hid (LpOk t∧qw_ t):=⟨hlp,hpa⟩;obtain⟨la,lcap,rfl,hla⟩:=hLps;have HLL:Hid (yh_ t t.length=[]∨∃ b off,la=some ⟨b,off,none⟩∧∀ j,j<(yh_ t t.length).length→
              w5.cell? ⟨b,off+j*4,none⟩=some (.int .i64 ((((yh_ t t.length).getD j 0):Nat)+1:Int))∧w5.cell? ⟨b,off+j*4+1,none⟩=some (.int .i64 (rnd t ((yh_ t t.length).getD j 0+1)))∧
              w5.cell? ⟨b,off+j*4+2,none⟩=some (.int .i64 (nth t ((yh_ t t.length).getD j 0)).a)∧w5.cell? ⟨b,off+j*4+3,none⟩=some (.int .i64 (nth t ((yh_ t t.length).getD j 0)).b)):=hla
             obtain⟨m,hm⟩:∃ m,(yh_ t t.length).length=m:=⟨_,rfl⟩;have HML:=hd_ hm;have hmb:m≤100000:=(by rw[← hm];exact Nat.le_trans (aao_ t t.length) htl);rw[hm];clear hm hla hlp hpa;go_wp2_with fail
             go_loopg [7,10] (tn+1) (fun gk s7 s10 wx=>∃(i:Nat) (okb:Bool),s10=.int .i64 i∧s7=.bool okb∧i≤tn∧gk=tn+1 - i∧(okb=true→∀ i',i'<i→((nth t i').d=11∨(nth t i').d=12)→∀ e,isE t e=true→inL t (e+1) (nth t i').a.toNat=true→inL t (e+1) i'=true)∧(okb=false→¬JDoc t)∧w5.grownBy wx none)
             case atStart=>exact⟨0,true,rfl,rfl,Nat.zero_le _,by omega,fun _ i' hi=>by omega,by simp,gz_⟩
             case round=>
              obtain⟨i,okb,rfl,rfl,hi6,hgi6,hok1,hok2,hg6⟩:=hrel;have HGI6:Hid (_=tn+1 - i):=hgi6;have HOK1:=hd_ hok1;have HOK2:=hd_ hok2;clear hgi6 hok1 hok2;cases okb with
              | false=>
               have HX:Hid (¬DocOk (ahd ps k) kd fn t):=fun hx=>HOK2.out rfl hx.jumps;clear HOK1 HOK2;have HGF:=HG5.out.trans hg6;have HRR:=hd_ (by rw[HR.out,← HV.out,aa0_ hlt (by rw[HUN.out];exact(u0_ _ _ _ _ _).2 HX.out) (by omega)]:jx_ (Classical.propDecidable,()) ps=([],12,(k:Int)));have b1:=kept HGF HB1y.out;have y1:=xa_ b1 0;have y2:=xa_ b1 1;have y3:=xa_ b1 2;simp at y1 y2 y3;have f1:=xc_ b1 0;have f2:=xc_ b1 1;have f3:=xc_ b1 2;go_wp2_with fail
               refine bodyPost_ret (v:=.tuple #[.slice none 0 0,.agg #[.int .i64 12,.int .i64 k,.int .i64 0]]) (by simp[results,Tryz.results15,go_sem,y1,y2,y3]) rfl ?_;rw[HRR.out];exact⟨_,rfl,OwnV.nil _ _,yc_ (yc_ (yc_ (HGW.out.trans HGF) (by omega) _ _) (by omega) _ _) (by omega) _ _⟩
              | true=>
               by_cases hit6:i<tn
               · have hitl:i<t.length:=(by rw[HTN.out];exact hit6);have hit6':(i:Int)<(tn:Int):=(by omega);have k4:=hg6.cell f4 (by simp);have htx:=HTX.out wr (hg5.trans hg6);obtain⟨ta2,tc2,htt,hlies⟩:=htx;injection htt with e1 e2 e3;subst e1 e3;rcases hlies with hnil|⟨tb,toff,rfl,hcl⟩
                 ·rw[hnil] at hitl;simp at hitl
                 obtain⟨w0',w1',w2',w3'⟩:=hcl i hitl;clear hcl e2;obtain⟨x,hx⟩:∃ x,nth t i=x:=⟨_,rfl⟩;have HXX:=hd_ hx;rw[hx] at w0' w1' w2' w3';clear hx;obtain⟨d,a,b6,c⟩:=x;dsimp only at w0' w1' w2' w3';have i6:(0:Int)≤(i:Int):=(by omega);go_wp2_with fail
                 obtain⟨wx6,hwx6⟩:∃ wx6,wr.alloc (.cells #[.int .i64 d,.int .i64 a,.int .i64 b6,.int .i64 c] 40)=wx6:=⟨_,rfl⟩;obtain⟨xi,hxi⟩:∃ xi,wr.heap.size=xi:=⟨_,rfl⟩;have hg66:wr.grownBy wx6 none:=(by rw[← hwx6];exact gr1 _ _);have HXI:=hd_ (by rw[← hwx6,← hxi];exact heap_alloc_new _ _:wx6.heap[xi]?=some (.cells #[.int .i64 d,.int .i64 a,.int .i64 b6,.int .i64 c] 40));rw[hwx6,hxi];clear hwx6 hxi;go_loopg [7,12] m (fun gk s7 s12 wx=>∃(j:Nat) (okj:Bool),s12=.int .i64 j∧s7=.bool okj∧j≤m∧gk=m - j∧(okj=true→(d=11∨d=12)→∀ j',j'<j→inL t ((yh_ t t.length).getD j' 0+1) a.toNat=true→inL t ((yh_ t t.length).getD j' 0+1) i=true)∧(okj=false→¬JDoc t)∧wx6.grownBy wx none)
                 case atStart=>exact⟨0,true,rfl,rfl,Nat.zero_le _,by omega,fun _ _ j' hj=>by omega,by simp,gz_⟩
                 case round=>
                  obtain⟨j,okj,rfl,rfl,hj7,hgj7,hj1,hj2,hg7⟩:=hrel;have HGJ:Hid (_=m - j):=hgj7;have HJ1:=hd_ hj1;have HJ2:=hd_ hj2;clear hgj7 hj1 hj2;by_cases hjm:j<m
                  · have hjl:j<(yh_ t t.length).length:=(by rw[HML.out];exact hjm);rcases HLL.out with h|⟨bl,ol,rfl,hcl⟩
                    ·rw[h] at hjl;simp at hjl
                    obtain⟨y0,y1,y2,y3⟩:=hcl j hjl;have g8:=(hg6.trans hg66).trans hg7;have y0:=g8.cell y0 (by simp);have y1:=g8.cell y1 (by simp);have y2:=g8.cell y2 (by simp);have y3:=g8.cell y3 (by simp);have bx:=kept hg7 HXI.out;have v0:=xa_ bx 0;have v1:=xa_ bx 1;simp at v0 v1;clear hcl bx;obtain⟨E,hE0⟩:∃ E,(yh_ t t.length).getD j 0=E:=⟨_,rfl⟩;have HEJ:=hd_ hE0;have hEe:isE t E=true:=(by rw[← hE0];have:(yh_ t t.length)[j]∈yh_ t t.length:=List.getElem_mem hjl;rw[List.getD,List.getElem?_eq_getElem hjl,Option.getD_some];exact(jm_.1 this).2);rw[hE0] at y0 y1 y2 y3;have HIN:Hid (∀ q:Nat,inL t (E+1) q=(decide (((E:Nat):Int)+1≤(q:Int)) && decide ((q:Int)≤((rnd t (E+1):Nat):Int)))):=fun q=>by rw[ab7_ hEe];simp
                    clear hE0;generalize((E:Nat):Int)+1=Fr at y0 HIN;generalize((rnd t (E+1):Nat):Int)=To at y1 HIN;generalize(nth t E).a=Cn at y2;generalize(nth t E).b=Tm at y3;have j1:(0:Int)≤(j:Int):=(by omega);have j2:(j:Int)<(m:Int):=(by omega);by_cases d11:d=11
                    · subst d11;have ha0:0≤a:=(by have:=(HFW.out i hitl (by rw[HXX.out];simp)).1;rw[HXX.out] at this;dsimp only at this;omega);obtain⟨il1,hil1⟩:∃ il,(decide (Fr≤a) && decide (a≤To))=il:=⟨_,rfl⟩;obtain⟨il2,hil2⟩:∃ il,(decide (Fr≤(i:Int)) && decide ((i:Int)≤To))=il:=⟨_,rfl⟩;have cI1:∀ w,Calls Tryz.prog 22 #[.agg #[.int .i64 Fr,.int .i64 To,.int .i64 Cn,.int .i64 Tm],.int .i64 a] w fun e w'=>e=.returned (.bool il1)∧w.grownBy w' none:=fun w=>by rw[← hil1];exact jw_ Fr To Cn Tm a w
                      have cI2:∀ w,Calls Tryz.prog 22 #[.agg #[.int .i64 Fr,.int .i64 To,.int .i64 Cn,.int .i64 Tm],.int .i64 i] w fun e w'=>e=.returned (.bool il2)∧w.grownBy w' none:=fun w=>by rw[← hil2];exact jw_ Fr To Cn Tm i w
                      have HI1:=hd_ (by rw[HIN.out,show((a.toNat:Nat):Int)=a by omega];exact hil1:inL t (E+1) a.toNat=il1);have HI2:=hd_ (by rw[HIN.out];exact hil2:inL t (E+1) i=il2);clear hil1 hil2;cases il1 with
                      | false=>
                       go_wp2_with fail
                       refine wp_region_held_drew (S:=(fun w':World=>w'.cell? ⟨xi,0,none⟩=some (.int .i64 11)∧w'.cell? ⟨xi,1,none⟩=some (.int .i64 a)∧w'.cell? ⟨bl,ol+j*4,none⟩=some (.int .i64 Fr)∧w'.cell? ⟨bl,ol+j*4+1,none⟩=some (.int .i64 To)∧w'.cell? ⟨bl,ol+j*4+2,none⟩=some (.int .i64 Cn)∧w'.cell? ⟨bl,ol+j*4+3,none⟩=some (.int .i64 Tm))) (by kernel_rfl) ⟨v0,v1,y0,y1,y2,y3⟩ (fun hHeld=>?_)
                       refine wpAnyH_take (i:=0) (oi:={ dst:=some 102,op:=Op.fieldAddr 40 (.tmp 11) 0,type:=0,pos:= "machine.go:221",after:=#[],guard:=none }) (v:=?_) rfl (by kernel_rfl) (by kernel_rfl) (by kernel_rfl) (fun _ _ _ h=>h) (Or.inl ⟨by rfl,?_⟩) (by assumption) ?_
                       rotate_left
                       ·intro w hSw;(try dsimp only at hSw);go_simp;(try with_reducible rfl)
                       (try simp only[Act.put,List.setIfInBounds_toArray,List.set_cons_zero,List.set_cons_succ])
                       refine wpAnyH_take (i:=1) (oi:={ dst:=some 103,op:=Op.load 38 (.tmp 102),type:=38,pos:= "machine.go:221",after:=#[⟨0,.data⟩],guard:=none }) (v:=?_) rfl (by kernel_rfl) (by kernel_rfl) (by kernel_rfl) (fun _ _ _ h=>h) (Or.inl ⟨by rfl,?_⟩) (by assumption) ?_
                       rotate_left
                       ·intro w hSw;(try dsimp only at hSw);go_simp;(try with_reducible rfl)
                       (try simp only[Act.put,List.setIfInBounds_toArray,List.set_cons_zero,List.set_cons_succ])
                       refine wpAnyH_take (i:=2) (oi:={ dst:=some 104,op:=Op.binOp BinOp.eql 38 (.tmp 103) (Operand.const (Value.int IntKind.i64 11)) 38,type:=4,pos:= "machine.go:221",after:=#[⟨1,.data⟩],guard:=none }) (v:=?_) rfl (by kernel_rfl) (by kernel_rfl) (by kernel_rfl) (fun _ _ _ h=>h) (Or.inl ⟨by rfl,?_⟩) (by assumption) ?_
                       rotate_left
                       ·intro w hSw;(try dsimp only at hSw);go_simp;(try with_reducible rfl)
                       (try simp only[Act.put,List.setIfInBounds_toArray,List.set_cons_zero,List.set_cons_succ])
                       refine wpAnyH_take (i:=3) (oi:={ dst:=some 105,op:=Op.move (.tmp 104),type:=4,pos:= "machine.go:221",after:=#[⟨2,.data⟩],guard:=none }) (v:=?_) rfl (by kernel_rfl) (by kernel_rfl) (by kernel_rfl) (fun _ _ _ h=>h) (Or.inl ⟨by rfl,?_⟩) (by assumption) ?_
                       rotate_left
                       ·intro w hSw;(try dsimp only at hSw);go_simp;(try with_reducible rfl)
                       (try simp only[Act.put,List.setIfInBounds_toArray,List.set_cons_zero,List.set_cons_succ])
                       refine wpAnyH_take (i:=4) (oi:={ dst:=some 106,op:=Op.fieldAddr 40 (.tmp 11) 0,type:=0,pos:= "machine.go:221",after:=#[⟨3,.guard⟩],guard:=some (3,false) }) (v:=undef) rfl (by kernel_rfl) (by kernel_rfl) (by kernel_rfl) (fun _ _ _ h=>h) (Or.inr ⟨by rfl,rfl⟩) (by assumption) ?_
                       (try simp only[Act.put,List.setIfInBounds_toArray,List.set_cons_zero,List.set_cons_succ])
                       refine wpAnyH_take (i:=5) (oi:={ dst:=some 107,op:=Op.load 38 (.tmp 106),type:=38,pos:= "machine.go:221",after:=#[⟨4,.data⟩,⟨3,.guard⟩],guard:=some (3,false) }) (v:=undef) rfl (by kernel_rfl) (by kernel_rfl) (by kernel_rfl) (fun _ _ _ h=>h) (Or.inr ⟨by rfl,rfl⟩) (by assumption) ?_
                       (try simp only[Act.put,List.setIfInBounds_toArray,List.set_cons_zero,List.set_cons_succ])
                       refine wpAnyH_take (i:=6) (oi:={ dst:=some 108,op:=Op.binOp BinOp.eql 38 (.tmp 107) (Operand.const (Value.int IntKind.i64 12)) 38,type:=4,pos:= "machine.go:221",after:=#[⟨5,.data⟩,⟨3,.guard⟩],guard:=some (3,false) }) (v:=undef) rfl (by kernel_rfl) (by kernel_rfl) (by kernel_rfl) (fun _ _ _ h=>h) (Or.inr ⟨by rfl,rfl⟩) (by assumption) ?_
                       (try simp only[Act.put,List.setIfInBounds_toArray,List.set_cons_zero,List.set_cons_succ])
                       refine wpAnyH_take (i:=7) (oi:={ dst:=some 109,op:=Op.pick (.tmp 105) (Operand.const (Value.bool true)) (.tmp 108),type:=4,pos:= "machine.go:221",after:=#[⟨3,.data⟩,⟨6,.data⟩],guard:=none }) (v:=?_) rfl (by kernel_rfl) (by kernel_rfl) (by kernel_rfl) (fun _ _ _ h=>h) (Or.inl ⟨by rfl,?_⟩) (by assumption) ?_
                       rotate_left
                       ·intro w hSw;(try dsimp only at hSw);go_simp;(try with_reducible rfl)
                       (try simp only[Act.put,List.setIfInBounds_toArray,List.set_cons_zero,List.set_cons_succ])
                       refine wpAnyH_take (i:=8) (oi:={ dst:=some 110,op:=Op.move (.tmp 109),type:=4,pos:= "machine.go:221",after:=#[⟨7,.data⟩,⟨3,.chain⟩],guard:=none }) (v:=?_) rfl (by kernel_rfl) (by kernel_rfl) (by kernel_rfl) (fun _ _ _ h=>h) (Or.inl ⟨by rfl,?_⟩) (by assumption) ?_
                       rotate_left
                       ·intro w hSw;(try dsimp only at hSw);go_simp;(try with_reducible rfl)
                       (try simp only[Act.put,List.setIfInBounds_toArray,List.set_cons_zero,List.set_cons_succ])
                       refine wpAnyH_take (i:=9) (oi:={ dst:=some 111,op:=Op.move (.tmp 9),type:=66,pos:= "machine.go:221",after:=#[⟨8,.guard⟩],guard:=some (8,true) }) (v:=?_) rfl (by kernel_rfl) (by kernel_rfl) (by kernel_rfl) (fun _ _ _ h=>h) (Or.inl ⟨by rfl,?_⟩) (by assumption) ?_
                       rotate_left
                       ·intro w hSw;(try dsimp only at hSw);go_simp;(try with_reducible rfl)
                       (try simp only[Act.put,List.setIfInBounds_toArray,List.set_cons_zero,List.set_cons_succ])
                       refine wpAnyH_take (i:=10) (oi:={ dst:=some 112,op:=Op.move (.tmp 12),type:=3,pos:= "machine.go:221",after:=#[⟨8,.guard⟩],guard:=some (8,true) }) (v:=?_) rfl (by kernel_rfl) (by kernel_rfl) (by kernel_rfl) (fun _ _ _ h=>h) (Or.inl ⟨by rfl,?_⟩) (by assumption) ?_
                       rotate_left
                       ·intro w hSw;(try dsimp only at hSw);go_simp;(try with_reducible rfl)
                       (try simp only[Act.put,List.setIfInBounds_toArray,List.set_cons_zero,List.set_cons_succ])
                       refine wpAnyH_take (i:=11) (oi:={ dst:=some 113,op:=Op.indexAddr 66 (.tmp 111) (.tmp 112),type:=0,pos:= "machine.go:221",after:=#[⟨9,.data⟩,⟨10,.data⟩,⟨8,.guard⟩],guard:=some (8,true) }) (v:=?_) rfl (by kernel_rfl) (by kernel_rfl) (by kernel_rfl) (fun _ _ _ h=>h) (Or.inl ⟨by rfl,?_⟩) (by assumption) ?_
                       rotate_left
                       ·intro w hSw;(try dsimp only at hSw);go_simp;(try with_reducible rfl)
                       (try simp only[Act.put,List.setIfInBounds_toArray,List.set_cons_zero,List.set_cons_succ])
                       refine wpAnyH_take (i:=12) (oi:={ dst:=some 114,op:=Op.load 71 (.tmp 113),type:=71,pos:= "machine.go:221",after:=#[⟨11,.data⟩,⟨8,.guard⟩],guard:=some (8,true) }) (v:=?_) rfl (by kernel_rfl) (by kernel_rfl) (by kernel_rfl) (fun _ _ _ h=>h) (Or.inl ⟨by rfl,?_⟩) (by assumption) ?_
                       rotate_left
                       ·intro w hSw;(try dsimp only at hSw);go_simp;(try with_reducible rfl)
                       (try simp only[Act.put,List.setIfInBounds_toArray,List.set_cons_zero,List.set_cons_succ])
                       refine wpAnyH_take (i:=13) (oi:={ dst:=some 115,op:=Op.fieldAddr 40 (.tmp 11) 1,type:=0,pos:= "machine.go:221",after:=#[⟨8,.guard⟩],guard:=some (8,true) }) (v:=?_) rfl (by kernel_rfl) (by kernel_rfl) (by kernel_rfl) (fun _ _ _ h=>h) (Or.inl ⟨by rfl,?_⟩) (by assumption) ?_
                       rotate_left
                       ·intro w hSw;(try dsimp only at hSw);go_simp;(try with_reducible rfl)
                       (try simp only[Act.put,List.setIfInBounds_toArray,List.set_cons_zero,List.set_cons_succ])
                       refine wpAnyH_take (i:=14) (oi:={ dst:=some 116,op:=Op.load 3 (.tmp 115),type:=3,pos:= "machine.go:221",after:=#[⟨13,.data⟩,⟨8,.guard⟩],guard:=some (8,true) }) (v:=?_) rfl (by kernel_rfl) (by kernel_rfl) (by kernel_rfl) (fun _ _ _ h=>h) (Or.inl ⟨by rfl,?_⟩) (by assumption) ?_
                       rotate_left
                       ·intro w hSw;(try dsimp only at hSw);go_simp;(try with_reducible rfl)
                       (try simp only[Act.put,List.setIfInBounds_toArray,List.set_cons_zero,List.set_cons_succ]);refine wpAnyH_ready (rs:=[15]) (by kernel_rfl) (by simp) ?_
                       refine AllReadyH.cons (o:={ dst:=some 117,op:=Op.call { callee:=Callee.value (Operand.func 22),args:=#[.tmp 114,.tmp 116],argTypes:=#[71,3] },type:=4,pos:= "machine.go:221",after:=#[⟨12,.data⟩,⟨14,.data⟩,⟨8,.chain⟩,⟨8,.guard⟩],guard:=some (8,true) }) rfl (fun K hK=>?_) AllReadyH.nil
                       go_simp;refine(cI1 _).mono ?_;rintro e wc1 ⟨rfl,hgc1⟩;go_wp2_with fail
                       refine hK.out _ _ ⟨hgc1.cell hHeld.1 (by simp),hgc1.cell hHeld.2.1 (by simp),hgc1.cell hHeld.2.2.1 (by simp),hgc1.cell hHeld.2.2.2.1 (by simp),hgc1.cell hHeld.2.2.2.2.1 (by simp),hgc1.cell hHeld.2.2.2.2.2 (by simp)⟩ (fun hHeld=>?_);clear hK K;(try simp only[Act.put,List.setIfInBounds_toArray,List.set_cons_zero,List.set_cons_succ])
                       refine wpAnyH_take (i:=16) (oi:={ dst:=some 118,op:=Op.pick (.tmp 110) (.tmp 117) (Operand.const (Value.bool false)),type:=4,pos:= "machine.go:221",after:=#[⟨8,.data⟩,⟨15,.data⟩],guard:=none }) (v:=?_) rfl (by kernel_rfl) (by kernel_rfl) (by kernel_rfl) (fun _ _ _ h=>h) (Or.inl ⟨by rfl,?_⟩) (by assumption) ?_
                       rotate_left
                       ·intro w hSw;(try dsimp only at hSw);go_simp;(try with_reducible rfl)
                       (try simp only[Act.put,List.setIfInBounds_toArray,List.set_cons_zero,List.set_cons_succ])
                       refine wpAnyH_take (i:=17) (oi:={ dst:=some 119,op:=Op.move (.tmp 118),type:=4,pos:= "machine.go:221",after:=#[⟨16,.data⟩,⟨15,.chain⟩],guard:=none }) (v:=?_) rfl (by kernel_rfl) (by kernel_rfl) (by kernel_rfl) (fun _ _ _ h=>h) (Or.inl ⟨by rfl,?_⟩) (by assumption) ?_
                       rotate_left
                       ·intro w hSw;(try dsimp only at hSw);go_simp;(try with_reducible rfl)
                       (try simp only[Act.put,List.setIfInBounds_toArray,List.set_cons_zero,List.set_cons_succ])
                       refine wpAnyH_take (i:=18) (oi:={ dst:=some 120,op:=Op.move (.tmp 9),type:=66,pos:= "machine.go:221",after:=#[⟨17,.guard⟩],guard:=some (17,true) }) (v:=undef) rfl (by kernel_rfl) (by kernel_rfl) (by kernel_rfl) (fun _ _ _ h=>h) (Or.inr ⟨by rfl,rfl⟩) (by assumption) ?_
                       (try simp only[Act.put,List.setIfInBounds_toArray,List.set_cons_zero,List.set_cons_succ])
                       refine wpAnyH_take (i:=19) (oi:={ dst:=some 121,op:=Op.move (.tmp 12),type:=3,pos:= "machine.go:221",after:=#[⟨17,.guard⟩],guard:=some (17,true) }) (v:=undef) rfl (by kernel_rfl) (by kernel_rfl) (by kernel_rfl) (fun _ _ _ h=>h) (Or.inr ⟨by rfl,rfl⟩) (by assumption) ?_
                       (try simp only[Act.put,List.setIfInBounds_toArray,List.set_cons_zero,List.set_cons_succ])
                       refine wpAnyH_take (i:=20) (oi:={ dst:=some 122,op:=Op.indexAddr 66 (.tmp 120) (.tmp 121),type:=0,pos:= "machine.go:221",after:=#[⟨18,.data⟩,⟨19,.data⟩,⟨17,.guard⟩],guard:=some (17,true) }) (v:=undef) rfl (by kernel_rfl) (by kernel_rfl) (by kernel_rfl) (fun _ _ _ h=>h) (Or.inr ⟨by rfl,rfl⟩) (by assumption) ?_
                       (try simp only[Act.put,List.setIfInBounds_toArray,List.set_cons_zero,List.set_cons_succ])
                       refine wpAnyH_take (i:=21) (oi:={ dst:=some 123,op:=Op.load 71 (.tmp 122),type:=71,pos:= "machine.go:221",after:=#[⟨20,.data⟩,⟨17,.guard⟩],guard:=some (17,true) }) (v:=undef) rfl (by kernel_rfl) (by kernel_rfl) (by kernel_rfl) (fun _ _ _ h=>h) (Or.inr ⟨by rfl,rfl⟩) (by assumption) ?_
                       (try simp only[Act.put,List.setIfInBounds_toArray,List.set_cons_zero,List.set_cons_succ])
                       refine wpAnyH_take (i:=22) (oi:={ dst:=some 124,op:=Op.move (.tmp 10),type:=3,pos:= "machine.go:221",after:=#[⟨17,.guard⟩],guard:=some (17,true) }) (v:=undef) rfl (by kernel_rfl) (by kernel_rfl) (by kernel_rfl) (fun _ _ _ h=>h) (Or.inr ⟨by rfl,rfl⟩) (by assumption) ?_
                       (try simp only[Act.put,List.setIfInBounds_toArray,List.set_cons_zero,List.set_cons_succ])
                       refine wpAnyH_take (i:=23) (oi:={ dst:=some 125,op:=Op.call { callee:=Callee.value (Operand.func 22),args:=#[.tmp 123,.tmp 124],argTypes:=#[71,3] },type:=4,pos:= "machine.go:221",after:=#[⟨21,.data⟩,⟨22,.data⟩,⟨17,.chain⟩,⟨17,.guard⟩],guard:=some (17,true) }) (v:=undef) rfl (by kernel_rfl) (by kernel_rfl) (by kernel_rfl) (fun _ _ _ h=>h) (Or.inr ⟨by rfl,rfl⟩) (by assumption) ?_
                       (try simp only[Act.put,List.setIfInBounds_toArray,List.set_cons_zero,List.set_cons_succ])
                       refine wpAnyH_take (i:=24) (oi:={ dst:=some 126,op:=Op.unOp UnOp.not 4 (.tmp 125),type:=4,pos:= "machine.go:221",after:=#[⟨23,.data⟩,⟨17,.guard⟩],guard:=some (17,true) }) (v:=undef) rfl (by kernel_rfl) (by kernel_rfl) (by kernel_rfl) (fun _ _ _ h=>h) (Or.inr ⟨by rfl,rfl⟩) (by assumption) ?_
                       (try simp only[Act.put,List.setIfInBounds_toArray,List.set_cons_zero,List.set_cons_succ])
                       refine wpAnyH_take (i:=25) (oi:={ dst:=some 127,op:=Op.pick (.tmp 119) (.tmp 126) (Operand.const (Value.bool false)),type:=4,pos:= "machine.go:221",after:=#[⟨17,.data⟩,⟨24,.data⟩],guard:=none }) (v:=?_) rfl (by kernel_rfl) (by kernel_rfl) (by kernel_rfl) (fun _ _ _ h=>h) (Or.inl ⟨by rfl,?_⟩) (by assumption) ?_
                       rotate_left
                       ·intro w hSw;(try dsimp only at hSw);go_simp;(try with_reducible rfl)
                       (try simp only[Act.put,List.setIfInBounds_toArray,List.set_cons_zero,List.set_cons_succ]);refine wpAnyH_done (by kernel_rfl) ?_ _;go_wp2_with fail
                       have hgl:=HGJ.out;go_roundg (m - (j+1))
                       case measure=>exact ac6_ HGJ.out hjm
                       case rel=>exact⟨j+1,okj,by go_num,rfl,hjm,rfl,(fun h1 h2 j' hj' h3=>by
                        by_cases e1:j'=j
                        ·subst e1;rw[HEJ.out,HI1.out] at h3;simp at h3
                        ·exact HJ1.out h1 h2 j' (by omega) h3),HJ2.out,hg7.trans ((xf_ gz_).trans hgc1)⟩
                      | true=>
                       go_wp2_with fail
                       refine wp_region_held_drew (S:=(fun w':World=>w'.cell? ⟨xi,0,none⟩=some (.int .i64 11)∧w'.cell? ⟨xi,1,none⟩=some (.int .i64 a)∧w'.cell? ⟨bl,ol+j*4,none⟩=some (.int .i64 Fr)∧w'.cell? ⟨bl,ol+j*4+1,none⟩=some (.int .i64 To)∧w'.cell? ⟨bl,ol+j*4+2,none⟩=some (.int .i64 Cn)∧w'.cell? ⟨bl,ol+j*4+3,none⟩=some (.int .i64 Tm))) (by kernel_rfl) ⟨v0,v1,y0,y1,y2,y3⟩ (fun hHeld=>?_)
                       refine wpAnyH_take (i:=0) (oi:={ dst:=some 102,op:=Op.fieldAddr 40 (.tmp 11) 0,type:=0,pos:= "machine.go:221",after:=#[],guard:=none }) (v:=?_) rfl (by kernel_rfl) (by kernel_rfl) (by kernel_rfl) (fun _ _ _ h=>h) (Or.inl ⟨by rfl,?_⟩) (by assumption) ?_
                       rotate_left
                       ·intro w hSw;(try dsimp only at hSw);go_simp;(try with_reducible rfl)
                       (try simp only[Act.put,List.setIfInBounds_toArray,List.set_cons_zero,List.set_cons_succ])
                       refine wpAnyH_take (i:=1) (oi:={ dst:=some 103,op:=Op.load 38 (.tmp 102),type:=38,pos:= "machine.go:221",after:=#[⟨0,.data⟩],guard:=none }) (v:=?_) rfl (by kernel_rfl) (by kernel_rfl) (by kernel_rfl) (fun _ _ _ h=>h) (Or.inl ⟨by rfl,?_⟩) (by assumption) ?_
                       rotate_left
                       ·intro w hSw;(try dsimp only at hSw);go_simp;(try with_reducible rfl)
                       (try simp only[Act.put,List.setIfInBounds_toArray,List.set_cons_zero,List.set_cons_succ])
                       refine wpAnyH_take (i:=2) (oi:={ dst:=some 104,op:=Op.binOp BinOp.eql 38 (.tmp 103) (Operand.const (Value.int IntKind.i64 11)) 38,type:=4,pos:= "machine.go:221",after:=#[⟨1,.data⟩],guard:=none }) (v:=?_) rfl (by kernel_rfl) (by kernel_rfl) (by kernel_rfl) (fun _ _ _ h=>h) (Or.inl ⟨by rfl,?_⟩) (by assumption) ?_
                       rotate_left
                       ·intro w hSw;(try dsimp only at hSw);go_simp;(try with_reducible rfl)
                       (try simp only[Act.put,List.setIfInBounds_toArray,List.set_cons_zero,List.set_cons_succ])
                       refine wpAnyH_take (i:=3) (oi:={ dst:=some 105,op:=Op.move (.tmp 104),type:=4,pos:= "machine.go:221",after:=#[⟨2,.data⟩],guard:=none }) (v:=?_) rfl (by kernel_rfl) (by kernel_rfl) (by kernel_rfl) (fun _ _ _ h=>h) (Or.inl ⟨by rfl,?_⟩) (by assumption) ?_
                       rotate_left
                       ·intro w hSw;(try dsimp only at hSw);go_simp;(try with_reducible rfl)
                       (try simp only[Act.put,List.setIfInBounds_toArray,List.set_cons_zero,List.set_cons_succ])
                       refine wpAnyH_take (i:=4) (oi:={ dst:=some 106,op:=Op.fieldAddr 40 (.tmp 11) 0,type:=0,pos:= "machine.go:221",after:=#[⟨3,.guard⟩],guard:=some (3,false) }) (v:=undef) rfl (by kernel_rfl) (by kernel_rfl) (by kernel_rfl) (fun _ _ _ h=>h) (Or.inr ⟨by rfl,rfl⟩) (by assumption) ?_
                       (try simp only[Act.put,List.setIfInBounds_toArray,List.set_cons_zero,List.set_cons_succ])
                       refine wpAnyH_take (i:=5) (oi:={ dst:=some 107,op:=Op.load 38 (.tmp 106),type:=38,pos:= "machine.go:221",after:=#[⟨4,.data⟩,⟨3,.guard⟩],guard:=some (3,false) }) (v:=undef) rfl (by kernel_rfl) (by kernel_rfl) (by kernel_rfl) (fun _ _ _ h=>h) (Or.inr ⟨by rfl,rfl⟩) (by assumption) ?_
                       (try simp only[Act.put,List.setIfInBounds_toArray,List.set_cons_zero,List.set_cons_succ])
                       refine wpAnyH_take (i:=6) (oi:={ dst:=some 108,op:=Op.binOp BinOp.eql 38 (.tmp 107) (Operand.const (Value.int IntKind.i64 12)) 38,type:=4,pos:= "machine.go:221",after:=#[⟨5,.data⟩,⟨3,.guard⟩],guard:=some (3,false) }) (v:=undef) rfl (by kernel_rfl) (by kernel_rfl) (by kernel_rfl) (fun _ _ _ h=>h) (Or.inr ⟨by rfl,rfl⟩) (by assumption) ?_
                       (try simp only[Act.put,List.setIfInBounds_toArray,List.set_cons_zero,List.set_cons_succ])
                       refine wpAnyH_take (i:=7) (oi:={ dst:=some 109,op:=Op.pick (.tmp 105) (Operand.const (Value.bool true)) (.tmp 108),type:=4,pos:= "machine.go:221",after:=#[⟨3,.data⟩,⟨6,.data⟩],guard:=none }) (v:=?_) rfl (by kernel_rfl) (by kernel_rfl) (by kernel_rfl) (fun _ _ _ h=>h) (Or.inl ⟨by rfl,?_⟩) (by assumption) ?_
                       rotate_left
                       ·intro w hSw;(try dsimp only at hSw);go_simp;(try with_reducible rfl)
                       (try simp only[Act.put,List.setIfInBounds_toArray,List.set_cons_zero,List.set_cons_succ])
                       refine wpAnyH_take (i:=8) (oi:={ dst:=some 110,op:=Op.move (.tmp 109),type:=4,pos:= "machine.go:221",after:=#[⟨7,.data⟩,⟨3,.chain⟩],guard:=none }) (v:=?_) rfl (by kernel_rfl) (by kernel_rfl) (by kernel_rfl) (fun _ _ _ h=>h) (Or.inl ⟨by rfl,?_⟩) (by assumption) ?_
                       rotate_left
                       ·intro w hSw;(try dsimp only at hSw);go_simp;(try with_reducible rfl)
                       (try simp only[Act.put,List.setIfInBounds_toArray,List.set_cons_zero,List.set_cons_succ])
                       refine wpAnyH_take (i:=9) (oi:={ dst:=some 111,op:=Op.move (.tmp 9),type:=66,pos:= "machine.go:221",after:=#[⟨8,.guard⟩],guard:=some (8,true) }) (v:=?_) rfl (by kernel_rfl) (by kernel_rfl) (by kernel_rfl) (fun _ _ _ h=>h) (Or.inl ⟨by rfl,?_⟩) (by assumption) ?_
                       rotate_left
                       ·intro w hSw;(try dsimp only at hSw);go_simp;(try with_reducible rfl)
                       (try simp only[Act.put,List.setIfInBounds_toArray,List.set_cons_zero,List.set_cons_succ])
                       refine wpAnyH_take (i:=10) (oi:={ dst:=some 112,op:=Op.move (.tmp 12),type:=3,pos:= "machine.go:221",after:=#[⟨8,.guard⟩],guard:=some (8,true) }) (v:=?_) rfl (by kernel_rfl) (by kernel_rfl) (by kernel_rfl) (fun _ _ _ h=>h) (Or.inl ⟨by rfl,?_⟩) (by assumption) ?_
                       rotate_left
                       ·intro w hSw;(try dsimp only at hSw);go_simp;(try with_reducible rfl)
                       (try simp only[Act.put,List.setIfInBounds_toArray,List.set_cons_zero,List.set_cons_succ])
                       refine wpAnyH_take (i:=11) (oi:={ dst:=some 113,op:=Op.indexAddr 66 (.tmp 111) (.tmp 112),type:=0,pos:= "machine.go:221",after:=#[⟨9,.data⟩,⟨10,.data⟩,⟨8,.guard⟩],guard:=some (8,true) }) (v:=?_) rfl (by kernel_rfl) (by kernel_rfl) (by kernel_rfl) (fun _ _ _ h=>h) (Or.inl ⟨by rfl,?_⟩) (by assumption) ?_
                       rotate_left
                       ·intro w hSw;(try dsimp only at hSw);go_simp;(try with_reducible rfl)
                       (try simp only[Act.put,List.setIfInBounds_toArray,List.set_cons_zero,List.set_cons_succ])
                       refine wpAnyH_take (i:=12) (oi:={ dst:=some 114,op:=Op.load 71 (.tmp 113),type:=71,pos:= "machine.go:221",after:=#[⟨11,.data⟩,⟨8,.guard⟩],guard:=some (8,true) }) (v:=?_) rfl (by kernel_rfl) (by kernel_rfl) (by kernel_rfl) (fun _ _ _ h=>h) (Or.inl ⟨by rfl,?_⟩) (by assumption) ?_
                       rotate_left
                       ·intro w hSw;(try dsimp only at hSw);go_simp;(try with_reducible rfl)
                       (try simp only[Act.put,List.setIfInBounds_toArray,List.set_cons_zero,List.set_cons_succ])
                       refine wpAnyH_take (i:=13) (oi:={ dst:=some 115,op:=Op.fieldAddr 40 (.tmp 11) 1,type:=0,pos:= "machine.go:221",after:=#[⟨8,.guard⟩],guard:=some (8,true) }) (v:=?_) rfl (by kernel_rfl) (by kernel_rfl) (by kernel_rfl) (fun _ _ _ h=>h) (Or.inl ⟨by rfl,?_⟩) (by assumption) ?_
                       rotate_left
                       ·intro w hSw;(try dsimp only at hSw);go_simp;(try with_reducible rfl)
                       (try simp only[Act.put,List.setIfInBounds_toArray,List.set_cons_zero,List.set_cons_succ])
                       refine wpAnyH_take (i:=14) (oi:={ dst:=some 116,op:=Op.load 3 (.tmp 115),type:=3,pos:= "machine.go:221",after:=#[⟨13,.data⟩,⟨8,.guard⟩],guard:=some (8,true) }) (v:=?_) rfl (by kernel_rfl) (by kernel_rfl) (by kernel_rfl) (fun _ _ _ h=>h) (Or.inl ⟨by rfl,?_⟩) (by assumption) ?_
                       rotate_left
                       ·intro w hSw;(try dsimp only at hSw);go_simp;(try with_reducible rfl)
                       (try simp only[Act.put,List.setIfInBounds_toArray,List.set_cons_zero,List.set_cons_succ]);refine wpAnyH_ready (rs:=[15]) (by kernel_rfl) (by simp) ?_
                       refine AllReadyH.cons (o:={ dst:=some 117,op:=Op.call { callee:=Callee.value (Operand.func 22),args:=#[.tmp 114,.tmp 116],argTypes:=#[71,3] },type:=4,pos:= "machine.go:221",after:=#[⟨12,.data⟩,⟨14,.data⟩,⟨8,.chain⟩,⟨8,.guard⟩],guard:=some (8,true) }) rfl (fun K hK=>?_) AllReadyH.nil
                       go_simp;refine(cI1 _).mono ?_;rintro e wc1 ⟨rfl,hgc1⟩;go_wp2_with fail
                       refine hK.out _ _ ⟨hgc1.cell hHeld.1 (by simp),hgc1.cell hHeld.2.1 (by simp),hgc1.cell hHeld.2.2.1 (by simp),hgc1.cell hHeld.2.2.2.1 (by simp),hgc1.cell hHeld.2.2.2.2.1 (by simp),hgc1.cell hHeld.2.2.2.2.2 (by simp)⟩ (fun hHeld=>?_);clear hK K;(try simp only[Act.put,List.setIfInBounds_toArray,List.set_cons_zero,List.set_cons_succ])
                       refine wpAnyH_take (i:=16) (oi:={ dst:=some 118,op:=Op.pick (.tmp 110) (.tmp 117) (Operand.const (Value.bool false)),type:=4,pos:= "machine.go:221",after:=#[⟨8,.data⟩,⟨15,.data⟩],guard:=none }) (v:=?_) rfl (by kernel_rfl) (by kernel_rfl) (by kernel_rfl) (fun _ _ _ h=>h) (Or.inl ⟨by rfl,?_⟩) (by assumption) ?_
                       rotate_left
                       ·intro w hSw;(try dsimp only at hSw);go_simp;(try with_reducible rfl)
                       (try simp only[Act.put,List.setIfInBounds_toArray,List.set_cons_zero,List.set_cons_succ])
                       refine wpAnyH_take (i:=17) (oi:={ dst:=some 119,op:=Op.move (.tmp 118),type:=4,pos:= "machine.go:221",after:=#[⟨16,.data⟩,⟨15,.chain⟩],guard:=none }) (v:=?_) rfl (by kernel_rfl) (by kernel_rfl) (by kernel_rfl) (fun _ _ _ h=>h) (Or.inl ⟨by rfl,?_⟩) (by assumption) ?_
                       rotate_left
                       ·intro w hSw;(try dsimp only at hSw);go_simp;(try with_reducible rfl)
                       (try simp only[Act.put,List.setIfInBounds_toArray,List.set_cons_zero,List.set_cons_succ])
                       refine wpAnyH_take (i:=18) (oi:={ dst:=some 120,op:=Op.move (.tmp 9),type:=66,pos:= "machine.go:221",after:=#[⟨17,.guard⟩],guard:=some (17,true) }) (v:=?_) rfl (by kernel_rfl) (by kernel_rfl) (by kernel_rfl) (fun _ _ _ h=>h) (Or.inl ⟨by rfl,?_⟩) (by assumption) ?_
                       rotate_left
                       ·intro w hSw;(try dsimp only at hSw);go_simp;(try with_reducible rfl)
                       (try simp only[Act.put,List.setIfInBounds_toArray,List.set_cons_zero,List.set_cons_succ])
                       refine wpAnyH_take (i:=19) (oi:={ dst:=some 121,op:=Op.move (.tmp 12),type:=3,pos:= "machine.go:221",after:=#[⟨17,.guard⟩],guard:=some (17,true) }) (v:=?_) rfl (by kernel_rfl) (by kernel_rfl) (by kernel_rfl) (fun _ _ _ h=>h) (Or.inl ⟨by rfl,?_⟩) (by assumption) ?_
                       rotate_left
                       ·intro w hSw;(try dsimp only at hSw);go_simp;(try with_reducible rfl)
                       (try simp only[Act.put,List.setIfInBounds_toArray,List.set_cons_zero,List.set_cons_succ])
                       refine wpAnyH_take (i:=20) (oi:={ dst:=some 122,op:=Op.indexAddr 66 (.tmp 120) (.tmp 121),type:=0,pos:= "machine.go:221",after:=#[⟨18,.data⟩,⟨19,.data⟩,⟨17,.guard⟩],guard:=some (17,true) }) (v:=?_) rfl (by kernel_rfl) (by kernel_rfl) (by kernel_rfl) (fun _ _ _ h=>h) (Or.inl ⟨by rfl,?_⟩) (by assumption) ?_
                       rotate_left
                       ·intro w hSw;(try dsimp only at hSw);go_simp;(try with_reducible rfl)
                       (try simp only[Act.put,List.setIfInBounds_toArray,List.set_cons_zero,List.set_cons_succ])
                       refine wpAnyH_take (i:=21) (oi:={ dst:=some 123,op:=Op.load 71 (.tmp 122),type:=71,pos:= "machine.go:221",after:=#[⟨20,.data⟩,⟨17,.guard⟩],guard:=some (17,true) }) (v:=?_) rfl (by kernel_rfl) (by kernel_rfl) (by kernel_rfl) (fun _ _ _ h=>h) (Or.inl ⟨by rfl,?_⟩) (by assumption) ?_
                       rotate_left
                       ·intro w hSw;(try dsimp only at hSw);go_simp;(try with_reducible rfl)
                       (try simp only[Act.put,List.setIfInBounds_toArray,List.set_cons_zero,List.set_cons_succ])
                       refine wpAnyH_take (i:=22) (oi:={ dst:=some 124,op:=Op.move (.tmp 10),type:=3,pos:= "machine.go:221",after:=#[⟨17,.guard⟩],guard:=some (17,true) }) (v:=?_) rfl (by kernel_rfl) (by kernel_rfl) (by kernel_rfl) (fun _ _ _ h=>h) (Or.inl ⟨by rfl,?_⟩) (by assumption) ?_
                       rotate_left
                       ·intro w hSw;(try dsimp only at hSw);go_simp;(try with_reducible rfl)
                       (try simp only[Act.put,List.setIfInBounds_toArray,List.set_cons_zero,List.set_cons_succ]);refine wpAnyH_ready (rs:=[23]) (by kernel_rfl) (by simp) ?_
                       refine AllReadyH.cons (o:={ dst:=some 125,op:=Op.call { callee:=Callee.value (Operand.func 22),args:=#[.tmp 123,.tmp 124],argTypes:=#[71,3] },type:=4,pos:= "machine.go:221",after:=#[⟨21,.data⟩,⟨22,.data⟩,⟨17,.chain⟩,⟨17,.guard⟩],guard:=some (17,true) }) rfl (fun K hK=>?_) AllReadyH.nil
                       go_simp;refine(cI2 _).mono ?_;rintro e wc2 ⟨rfl,hgc2⟩;go_wp2_with fail
                       refine hK.out _ _ ⟨hgc2.cell hHeld.1 (by simp),hgc2.cell hHeld.2.1 (by simp),hgc2.cell hHeld.2.2.1 (by simp),hgc2.cell hHeld.2.2.2.1 (by simp),hgc2.cell hHeld.2.2.2.2.1 (by simp),hgc2.cell hHeld.2.2.2.2.2 (by simp)⟩ (fun hHeld=>?_);clear hK K;(try simp only[Act.put,List.setIfInBounds_toArray,List.set_cons_zero,List.set_cons_succ])
                       refine wpAnyH_take (i:=24) (oi:={ dst:=some 126,op:=Op.unOp UnOp.not 4 (.tmp 125),type:=4,pos:= "machine.go:221",after:=#[⟨23,.data⟩,⟨17,.guard⟩],guard:=some (17,true) }) (v:=?_) rfl (by kernel_rfl) (by kernel_rfl) (by kernel_rfl) (fun _ _ _ h=>h) (Or.inl ⟨by rfl,?_⟩) (by assumption) ?_
                       rotate_left
                       ·intro w hSw;(try dsimp only at hSw);go_simp;(try with_reducible rfl)
                       (try simp only[Act.put,List.setIfInBounds_toArray,List.set_cons_zero,List.set_cons_succ])
                       refine wpAnyH_take (i:=25) (oi:={ dst:=some 127,op:=Op.pick (.tmp 119) (.tmp 126) (Operand.const (Value.bool false)),type:=4,pos:= "machine.go:221",after:=#[⟨17,.data⟩,⟨24,.data⟩],guard:=none }) (v:=?_) rfl (by kernel_rfl) (by kernel_rfl) (by kernel_rfl) (fun _ _ _ h=>h) (Or.inl ⟨by rfl,?_⟩) (by assumption) ?_
                       rotate_left
                       ·intro w hSw;(try dsimp only at hSw);go_simp;(try with_reducible rfl)
                       (try simp only[Act.put,List.setIfInBounds_toArray,List.set_cons_zero,List.set_cons_succ]);refine wpAnyH_done (by kernel_rfl) ?_ _;cases il2 with
                       | true=>
                        go_wp2_with fail
                        have hgl:=HGJ.out;go_roundg (m - (j+1))
                        case measure=>exact ac6_ HGJ.out hjm
                        case rel=>exact⟨j+1,okj,by go_num,rfl,hjm,rfl,(fun h1 h2 j' hj' h3=>by
                         by_cases e1:j'=j
                         ·subst e1;rw[HEJ.out];exact HI2.out
                         ·exact HJ1.out h1 h2 j' (by omega) h3),HJ2.out,hg7.trans (((xf_ gz_).trans hgc1).trans hgc2)⟩
                       | false=>
                        have HXJ:Hid (¬JDoc t):=fun hJ=>by
                         have:=hJ i hitl (by rw[HXX.out];simp) E hEe (by rw[HXX.out];exact HI1.out);rw[HI2.out] at this;simp at this
                        go_wp2_with fail
                        have hgl:=HGJ.out;go_roundg (m - (j+1))
                        case measure=>exact ac6_ HGJ.out hjm
                        case rel=>exact⟨j+1,false,by go_num,rfl,hjm,rfl,(by simp),fun _=>HXJ.out,hg7.trans (((xf_ gz_).trans hgc1).trans hgc2)⟩
                    · have f11:(d==11)=false:=(by simpa using d11);by_cases d12:d=12
                      · subst d12;have ha0:0≤a:=(by have:=(HFW.out i hitl (by rw[HXX.out];simp)).1;rw[HXX.out] at this;dsimp only at this;omega);obtain⟨il1,hil1⟩:∃ il,(decide (Fr≤a) && decide (a≤To))=il:=⟨_,rfl⟩;obtain⟨il2,hil2⟩:∃ il,(decide (Fr≤(i:Int)) && decide ((i:Int)≤To))=il:=⟨_,rfl⟩;have cI1:∀ w,Calls Tryz.prog 22 #[.agg #[.int .i64 Fr,.int .i64 To,.int .i64 Cn,.int .i64 Tm],.int .i64 a] w fun e w'=>e=.returned (.bool il1)∧w.grownBy w' none:=fun w=>by rw[← hil1];exact jw_ Fr To Cn Tm a w
                        have cI2:∀ w,Calls Tryz.prog 22 #[.agg #[.int .i64 Fr,.int .i64 To,.int .i64 Cn,.int .i64 Tm],.int .i64 i] w fun e w'=>e=.returned (.bool il2)∧w.grownBy w' none:=fun w=>by rw[← hil2];exact jw_ Fr To Cn Tm i w
                        have HI1:=hd_ (by rw[HIN.out,show((a.toNat:Nat):Int)=a by omega];exact hil1:inL t (E+1) a.toNat=il1);have HI2:=hd_ (by rw[HIN.out];exact hil2:inL t (E+1) i=il2);clear hil1 hil2;cases il1 with
                        | false=>
                         go_wp2_with fail
                         refine wp_region_held_drew (S:=(fun w':World=>w'.cell? ⟨xi,0,none⟩=some (.int .i64 12)∧w'.cell? ⟨xi,1,none⟩=some (.int .i64 a)∧w'.cell? ⟨bl,ol+j*4,none⟩=some (.int .i64 Fr)∧w'.cell? ⟨bl,ol+j*4+1,none⟩=some (.int .i64 To)∧w'.cell? ⟨bl,ol+j*4+2,none⟩=some (.int .i64 Cn)∧w'.cell? ⟨bl,ol+j*4+3,none⟩=some (.int .i64 Tm))) (by kernel_rfl) ⟨v0,v1,y0,y1,y2,y3⟩ (fun hHeld=>?_)
                         refine wpAnyH_take (i:=0) (oi:={ dst:=some 102,op:=Op.fieldAddr 40 (.tmp 11) 0,type:=0,pos:= "machine.go:221",after:=#[],guard:=none }) (v:=?_) rfl (by kernel_rfl) (by kernel_rfl) (by kernel_rfl) (fun _ _ _ h=>h) (Or.inl ⟨by rfl,?_⟩) (by assumption) ?_
                         rotate_left
                         ·intro w hSw;(try dsimp only at hSw);go_simp;(try with_reducible rfl)
                         (try simp only[Act.put,List.setIfInBounds_toArray,List.set_cons_zero,List.set_cons_succ])
                         refine wpAnyH_take (i:=1) (oi:={ dst:=some 103,op:=Op.load 38 (.tmp 102),type:=38,pos:= "machine.go:221",after:=#[⟨0,.data⟩],guard:=none }) (v:=?_) rfl (by kernel_rfl) (by kernel_rfl) (by kernel_rfl) (fun _ _ _ h=>h) (Or.inl ⟨by rfl,?_⟩) (by assumption) ?_
                         rotate_left
                         ·intro w hSw;(try dsimp only at hSw);go_simp;(try with_reducible rfl)
                         (try simp only[Act.put,List.setIfInBounds_toArray,List.set_cons_zero,List.set_cons_succ])
                         refine wpAnyH_take (i:=2) (oi:={ dst:=some 104,op:=Op.binOp BinOp.eql 38 (.tmp 103) (Operand.const (Value.int IntKind.i64 11)) 38,type:=4,pos:= "machine.go:221",after:=#[⟨1,.data⟩],guard:=none }) (v:=?_) rfl (by kernel_rfl) (by kernel_rfl) (by kernel_rfl) (fun _ _ _ h=>h) (Or.inl ⟨by rfl,?_⟩) (by assumption) ?_
                         rotate_left
                         ·intro w hSw;(try dsimp only at hSw);go_simp;(try with_reducible rfl)
                         (try simp only[Act.put,List.setIfInBounds_toArray,List.set_cons_zero,List.set_cons_succ])
                         refine wpAnyH_take (i:=3) (oi:={ dst:=some 105,op:=Op.move (.tmp 104),type:=4,pos:= "machine.go:221",after:=#[⟨2,.data⟩],guard:=none }) (v:=?_) rfl (by kernel_rfl) (by kernel_rfl) (by kernel_rfl) (fun _ _ _ h=>h) (Or.inl ⟨by rfl,?_⟩) (by assumption) ?_
                         rotate_left
                         ·intro w hSw;(try dsimp only at hSw);go_simp;(try with_reducible rfl)
                         (try simp only[Act.put,List.setIfInBounds_toArray,List.set_cons_zero,List.set_cons_succ])
                         refine wpAnyH_take (i:=4) (oi:={ dst:=some 106,op:=Op.fieldAddr 40 (.tmp 11) 0,type:=0,pos:= "machine.go:221",after:=#[⟨3,.guard⟩],guard:=some (3,false) }) (v:=?_) rfl (by kernel_rfl) (by kernel_rfl) (by kernel_rfl) (fun _ _ _ h=>h) (Or.inl ⟨by rfl,?_⟩) (by assumption) ?_
                         rotate_left
                         ·intro w hSw;(try dsimp only at hSw);go_simp;(try with_reducible rfl)
                         (try simp only[Act.put,List.setIfInBounds_toArray,List.set_cons_zero,List.set_cons_succ])
                         refine wpAnyH_take (i:=5) (oi:={ dst:=some 107,op:=Op.load 38 (.tmp 106),type:=38,pos:= "machine.go:221",after:=#[⟨4,.data⟩,⟨3,.guard⟩],guard:=some (3,false) }) (v:=?_) rfl (by kernel_rfl) (by kernel_rfl) (by kernel_rfl) (fun _ _ _ h=>h) (Or.inl ⟨by rfl,?_⟩) (by assumption) ?_
                         rotate_left
                         ·intro w hSw;(try dsimp only at hSw);go_simp;(try with_reducible rfl)
                         (try simp only[Act.put,List.setIfInBounds_toArray,List.set_cons_zero,List.set_cons_succ])
                         refine wpAnyH_take (i:=6) (oi:={ dst:=some 108,op:=Op.binOp BinOp.eql 38 (.tmp 107) (Operand.const (Value.int IntKind.i64 12)) 38,type:=4,pos:= "machine.go:221",after:=#[⟨5,.data⟩,⟨3,.guard⟩],guard:=some (3,false) }) (v:=?_) rfl (by kernel_rfl) (by kernel_rfl) (by kernel_rfl) (fun _ _ _ h=>h) (Or.inl ⟨by rfl,?_⟩) (by assumption) ?_
                         rotate_left
                         ·intro w hSw;(try dsimp only at hSw);go_simp;(try with_reducible rfl)
                         (try simp only[Act.put,List.setIfInBounds_toArray,List.set_cons_zero,List.set_cons_succ])
                         refine wpAnyH_take (i:=7) (oi:={ dst:=some 109,op:=Op.pick (.tmp 105) (Operand.const (Value.bool true)) (.tmp 108),type:=4,pos:= "machine.go:221",after:=#[⟨3,.data⟩,⟨6,.data⟩],guard:=none }) (v:=?_) rfl (by kernel_rfl) (by kernel_rfl) (by kernel_rfl) (fun _ _ _ h=>h) (Or.inl ⟨by rfl,?_⟩) (by assumption) ?_
                         rotate_left
                         ·intro w hSw;(try dsimp only at hSw);go_simp;(try with_reducible rfl)
                         (try simp only[Act.put,List.setIfInBounds_toArray,List.set_cons_zero,List.set_cons_succ])
                         refine wpAnyH_take (i:=8) (oi:={ dst:=some 110,op:=Op.move (.tmp 109),type:=4,pos:= "machine.go:221",after:=#[⟨7,.data⟩,⟨3,.chain⟩],guard:=none }) (v:=?_) rfl (by kernel_rfl) (by kernel_rfl) (by kernel_rfl) (fun _ _ _ h=>h) (Or.inl ⟨by rfl,?_⟩) (by assumption) ?_
                         rotate_left
                         ·intro w hSw;(try dsimp only at hSw);go_simp;(try with_reducible rfl)
                         (try simp only[Act.put,List.setIfInBounds_toArray,List.set_cons_zero,List.set_cons_succ])
                         refine wpAnyH_take (i:=9) (oi:={ dst:=some 111,op:=Op.move (.tmp 9),type:=66,pos:= "machine.go:221",after:=#[⟨8,.guard⟩],guard:=some (8,true) }) (v:=?_) rfl (by kernel_rfl) (by kernel_rfl) (by kernel_rfl) (fun _ _ _ h=>h) (Or.inl ⟨by rfl,?_⟩) (by assumption) ?_
                         rotate_left
                         ·intro w hSw;(try dsimp only at hSw);go_simp;(try with_reducible rfl)
                         (try simp only[Act.put,List.setIfInBounds_toArray,List.set_cons_zero,List.set_cons_succ])
                         refine wpAnyH_take (i:=10) (oi:={ dst:=some 112,op:=Op.move (.tmp 12),type:=3,pos:= "machine.go:221",after:=#[⟨8,.guard⟩],guard:=some (8,true) }) (v:=?_) rfl (by kernel_rfl) (by kernel_rfl) (by kernel_rfl) (fun _ _ _ h=>h) (Or.inl ⟨by rfl,?_⟩) (by assumption) ?_
                         rotate_left
                         ·intro w hSw;(try dsimp only at hSw);go_simp;(try with_reducible rfl)
                         (try simp only[Act.put,List.setIfInBounds_toArray,List.set_cons_zero,List.set_cons_succ])
                         refine wpAnyH_take (i:=11) (oi:={ dst:=some 113,op:=Op.indexAddr 66 (.tmp 111) (.tmp 112),type:=0,pos:= "machine.go:221",after:=#[⟨9,.data⟩,⟨10,.data⟩,⟨8,.guard⟩],guard:=some (8,true) }) (v:=?_) rfl (by kernel_rfl) (by kernel_rfl) (by kernel_rfl) (fun _ _ _ h=>h) (Or.inl ⟨by rfl,?_⟩) (by assumption) ?_
                         rotate_left
                         ·intro w hSw;(try dsimp only at hSw);go_simp;(try with_reducible rfl)
                         (try simp only[Act.put,List.setIfInBounds_toArray,List.set_cons_zero,List.set_cons_succ])
                         refine wpAnyH_take (i:=12) (oi:={ dst:=some 114,op:=Op.load 71 (.tmp 113),type:=71,pos:= "machine.go:221",after:=#[⟨11,.data⟩,⟨8,.guard⟩],guard:=some (8,true) }) (v:=?_) rfl (by kernel_rfl) (by kernel_rfl) (by kernel_rfl) (fun _ _ _ h=>h) (Or.inl ⟨by rfl,?_⟩) (by assumption) ?_
                         rotate_left
                         ·intro w hSw;(try dsimp only at hSw);go_simp;(try with_reducible rfl)
                         (try simp only[Act.put,List.setIfInBounds_toArray,List.set_cons_zero,List.set_cons_succ])
                         refine wpAnyH_take (i:=13) (oi:={ dst:=some 115,op:=Op.fieldAddr 40 (.tmp 11) 1,type:=0,pos:= "machine.go:221",after:=#[⟨8,.guard⟩],guard:=some (8,true) }) (v:=?_) rfl (by kernel_rfl) (by kernel_rfl) (by kernel_rfl) (fun _ _ _ h=>h) (Or.inl ⟨by rfl,?_⟩) (by assumption) ?_
                         rotate_left
                         ·intro w hSw;(try dsimp only at hSw);go_simp;(try with_reducible rfl)
                         (try simp only[Act.put,List.setIfInBounds_toArray,List.set_cons_zero,List.set_cons_succ])
                         refine wpAnyH_take (i:=14) (oi:={ dst:=some 116,op:=Op.load 3 (.tmp 115),type:=3,pos:= "machine.go:221",after:=#[⟨13,.data⟩,⟨8,.guard⟩],guard:=some (8,true) }) (v:=?_) rfl (by kernel_rfl) (by kernel_rfl) (by kernel_rfl) (fun _ _ _ h=>h) (Or.inl ⟨by rfl,?_⟩) (by assumption) ?_
                         rotate_left
                         ·intro w hSw;(try dsimp only at hSw);go_simp;(try with_reducible rfl)
                         (try simp only[Act.put,List.setIfInBounds_toArray,List.set_cons_zero,List.set_cons_succ]);refine wpAnyH_ready (rs:=[15]) (by kernel_rfl) (by simp) ?_
                         refine AllReadyH.cons (o:={ dst:=some 117,op:=Op.call { callee:=Callee.value (Operand.func 22),args:=#[.tmp 114,.tmp 116],argTypes:=#[71,3] },type:=4,pos:= "machine.go:221",after:=#[⟨12,.data⟩,⟨14,.data⟩,⟨8,.chain⟩,⟨8,.guard⟩],guard:=some (8,true) }) rfl (fun K hK=>?_) AllReadyH.nil
                         go_simp;refine(cI1 _).mono ?_;rintro e wc1 ⟨rfl,hgc1⟩;go_wp2_with fail
                         refine hK.out _ _ ⟨hgc1.cell hHeld.1 (by simp),hgc1.cell hHeld.2.1 (by simp),hgc1.cell hHeld.2.2.1 (by simp),hgc1.cell hHeld.2.2.2.1 (by simp),hgc1.cell hHeld.2.2.2.2.1 (by simp),hgc1.cell hHeld.2.2.2.2.2 (by simp)⟩ (fun hHeld=>?_);clear hK K;(try simp only[Act.put,List.setIfInBounds_toArray,List.set_cons_zero,List.set_cons_succ])
                         refine wpAnyH_take (i:=16) (oi:={ dst:=some 118,op:=Op.pick (.tmp 110) (.tmp 117) (Operand.const (Value.bool false)),type:=4,pos:= "machine.go:221",after:=#[⟨8,.data⟩,⟨15,.data⟩],guard:=none }) (v:=?_) rfl (by kernel_rfl) (by kernel_rfl) (by kernel_rfl) (fun _ _ _ h=>h) (Or.inl ⟨by rfl,?_⟩) (by assumption) ?_
                         rotate_left
                         ·intro w hSw;(try dsimp only at hSw);go_simp;(try with_reducible rfl)
                         (try simp only[Act.put,List.setIfInBounds_toArray,List.set_cons_zero,List.set_cons_succ])
                         refine wpAnyH_take (i:=17) (oi:={ dst:=some 119,op:=Op.move (.tmp 118),type:=4,pos:= "machine.go:221",after:=#[⟨16,.data⟩,⟨15,.chain⟩],guard:=none }) (v:=?_) rfl (by kernel_rfl) (by kernel_rfl) (by kernel_rfl) (fun _ _ _ h=>h) (Or.inl ⟨by rfl,?_⟩) (by assumption) ?_
                         rotate_left
                         ·intro w hSw;(try dsimp only at hSw);go_simp;(try with_reducible rfl)
                         (try simp only[Act.put,List.setIfInBounds_toArray,List.set_cons_zero,List.set_cons_succ])
                         refine wpAnyH_take (i:=18) (oi:={ dst:=some 120,op:=Op.move (.tmp 9),type:=66,pos:= "machine.go:221",after:=#[⟨17,.guard⟩],guard:=some (17,true) }) (v:=undef) rfl (by kernel_rfl) (by kernel_rfl) (by kernel_rfl) (fun _ _ _ h=>h) (Or.inr ⟨by rfl,rfl⟩) (by assumption) ?_
                         (try simp only[Act.put,List.setIfInBounds_toArray,List.set_cons_zero,List.set_cons_succ])
                         refine wpAnyH_take (i:=19) (oi:={ dst:=some 121,op:=Op.move (.tmp 12),type:=3,pos:= "machine.go:221",after:=#[⟨17,.guard⟩],guard:=some (17,true) }) (v:=undef) rfl (by kernel_rfl) (by kernel_rfl) (by kernel_rfl) (fun _ _ _ h=>h) (Or.inr ⟨by rfl,rfl⟩) (by assumption) ?_
                         (try simp only[Act.put,List.setIfInBounds_toArray,List.set_cons_zero,List.set_cons_succ])
                         refine wpAnyH_take (i:=20) (oi:={ dst:=some 122,op:=Op.indexAddr 66 (.tmp 120) (.tmp 121),type:=0,pos:= "machine.go:221",after:=#[⟨18,.data⟩,⟨19,.data⟩,⟨17,.guard⟩],guard:=some (17,true) }) (v:=undef) rfl (by kernel_rfl) (by kernel_rfl) (by kernel_rfl) (fun _ _ _ h=>h) (Or.inr ⟨by rfl,rfl⟩) (by assumption) ?_
                         (try simp only[Act.put,List.setIfInBounds_toArray,List.set_cons_zero,List.set_cons_succ])
                         refine wpAnyH_take (i:=21) (oi:={ dst:=some 123,op:=Op.load 71 (.tmp 122),type:=71,pos:= "machine.go:221",after:=#[⟨20,.data⟩,⟨17,.guard⟩],guard:=some (17,true) }) (v:=undef) rfl (by kernel_rfl) (by kernel_rfl) (by kernel_rfl) (fun _ _ _ h=>h) (Or.inr ⟨by rfl,rfl⟩) (by assumption) ?_
                         (try simp only[Act.put,List.setIfInBounds_toArray,List.set_cons_zero,List.set_cons_succ])
                         refine wpAnyH_take (i:=22) (oi:={ dst:=some 124,op:=Op.move (.tmp 10),type:=3,pos:= "machine.go:221",after:=#[⟨17,.guard⟩],guard:=some (17,true) }) (v:=undef) rfl (by kernel_rfl) (by kernel_rfl) (by kernel_rfl) (fun _ _ _ h=>h) (Or.inr ⟨by rfl,rfl⟩) (by assumption) ?_
                         (try simp only[Act.put,List.setIfInBounds_toArray,List.set_cons_zero,List.set_cons_succ])
                         refine wpAnyH_take (i:=23) (oi:={ dst:=some 125,op:=Op.call { callee:=Callee.value (Operand.func 22),args:=#[.tmp 123,.tmp 124],argTypes:=#[71,3] },type:=4,pos:= "machine.go:221",after:=#[⟨21,.data⟩,⟨22,.data⟩,⟨17,.chain⟩,⟨17,.guard⟩],guard:=some (17,true) }) (v:=undef) rfl (by kernel_rfl) (by kernel_rfl) (by kernel_rfl) (fun _ _ _ h=>h) (Or.inr ⟨by rfl,rfl⟩) (by assumption) ?_
                         (try simp only[Act.put,List.setIfInBounds_toArray,List.set_cons_zero,List.set_cons_succ])
                         refine wpAnyH_take (i:=24) (oi:={ dst:=some 126,op:=Op.unOp UnOp.not 4 (.tmp 125),type:=4,pos:= "machine.go:221",after:=#[⟨23,.data⟩,⟨17,.guard⟩],guard:=some (17,true) }) (v:=undef) rfl (by kernel_rfl) (by kernel_rfl) (by kernel_rfl) (fun _ _ _ h=>h) (Or.inr ⟨by rfl,rfl⟩) (by assumption) ?_
                         (try simp only[Act.put,List.setIfInBounds_toArray,List.set_cons_zero,List.set_cons_succ])
                         refine wpAnyH_take (i:=25) (oi:={ dst:=some 127,op:=Op.pick (.tmp 119) (.tmp 126) (Operand.const (Value.bool false)),type:=4,pos:= "machine.go:221",after:=#[⟨17,.data⟩,⟨24,.data⟩],guard:=none }) (v:=?_) rfl (by kernel_rfl) (by kernel_rfl) (by kernel_rfl) (fun _ _ _ h=>h) (Or.inl ⟨by rfl,?_⟩) (by assumption) ?_
                         rotate_left
                         ·intro w hSw;(try dsimp only at hSw);go_simp;(try with_reducible rfl)
                         (try simp only[Act.put,List.setIfInBounds_toArray,List.set_cons_zero,List.set_cons_succ]);refine wpAnyH_done (by kernel_rfl) ?_ _;go_wp2_with fail
                         have hgl:=HGJ.out;go_roundg (m - (j+1))
                         case measure=>exact ac6_ HGJ.out hjm
                         case rel=>exact⟨j+1,okj,by go_num,rfl,hjm,rfl,(fun h1 h2 j' hj' h3=>by
                          by_cases e1:j'=j
                          ·subst e1;rw[HEJ.out,HI1.out] at h3;simp at h3
                          ·exact HJ1.out h1 h2 j' (by omega) h3),HJ2.out,hg7.trans ((xf_ gz_).trans hgc1)⟩
                        | true=>
                         go_wp2_with fail
                         refine wp_region_held_drew (S:=(fun w':World=>w'.cell? ⟨xi,0,none⟩=some (.int .i64 12)∧w'.cell? ⟨xi,1,none⟩=some (.int .i64 a)∧w'.cell? ⟨bl,ol+j*4,none⟩=some (.int .i64 Fr)∧w'.cell? ⟨bl,ol+j*4+1,none⟩=some (.int .i64 To)∧w'.cell? ⟨bl,ol+j*4+2,none⟩=some (.int .i64 Cn)∧w'.cell? ⟨bl,ol+j*4+3,none⟩=some (.int .i64 Tm))) (by kernel_rfl) ⟨v0,v1,y0,y1,y2,y3⟩ (fun hHeld=>?_)
                         refine wpAnyH_take (i:=0) (oi:={ dst:=some 102,op:=Op.fieldAddr 40 (.tmp 11) 0,type:=0,pos:= "machine.go:221",after:=#[],guard:=none }) (v:=?_) rfl (by kernel_rfl) (by kernel_rfl) (by kernel_rfl) (fun _ _ _ h=>h) (Or.inl ⟨by rfl,?_⟩) (by assumption) ?_
                         rotate_left
                         ·intro w hSw;(try dsimp only at hSw);go_simp;(try with_reducible rfl)
                         (try simp only[Act.put,List.setIfInBounds_toArray,List.set_cons_zero,List.set_cons_succ])
                         refine wpAnyH_take (i:=1) (oi:={ dst:=some 103,op:=Op.load 38 (.tmp 102),type:=38,pos:= "machine.go:221",after:=#[⟨0,.data⟩],guard:=none }) (v:=?_) rfl (by kernel_rfl) (by kernel_rfl) (by kernel_rfl) (fun _ _ _ h=>h) (Or.inl ⟨by rfl,?_⟩) (by assumption) ?_
                         rotate_left
                         ·intro w hSw;(try dsimp only at hSw);go_simp;(try with_reducible rfl)
                         (try simp only[Act.put,List.setIfInBounds_toArray,List.set_cons_zero,List.set_cons_succ])
                         refine wpAnyH_take (i:=2) (oi:={ dst:=some 104,op:=Op.binOp BinOp.eql 38 (.tmp 103) (Operand.const (Value.int IntKind.i64 11)) 38,type:=4,pos:= "machine.go:221",after:=#[⟨1,.data⟩],guard:=none }) (v:=?_) rfl (by kernel_rfl) (by kernel_rfl) (by kernel_rfl) (fun _ _ _ h=>h) (Or.inl ⟨by rfl,?_⟩) (by assumption) ?_
                         rotate_left
                         ·intro w hSw;(try dsimp only at hSw);go_simp;(try with_reducible rfl)
                         (try simp only[Act.put,List.setIfInBounds_toArray,List.set_cons_zero,List.set_cons_succ])
                         refine wpAnyH_take (i:=3) (oi:={ dst:=some 105,op:=Op.move (.tmp 104),type:=4,pos:= "machine.go:221",after:=#[⟨2,.data⟩],guard:=none }) (v:=?_) rfl (by kernel_rfl) (by kernel_rfl) (by kernel_rfl) (fun _ _ _ h=>h) (Or.inl ⟨by rfl,?_⟩) (by assumption) ?_
                         rotate_left
                         ·intro w hSw;(try dsimp only at hSw);go_simp;(try with_reducible rfl)
                         (try simp only[Act.put,List.setIfInBounds_toArray,List.set_cons_zero,List.set_cons_succ])
                         refine wpAnyH_take (i:=4) (oi:={ dst:=some 106,op:=Op.fieldAddr 40 (.tmp 11) 0,type:=0,pos:= "machine.go:221",after:=#[⟨3,.guard⟩],guard:=some (3,false) }) (v:=?_) rfl (by kernel_rfl) (by kernel_rfl) (by kernel_rfl) (fun _ _ _ h=>h) (Or.inl ⟨by rfl,?_⟩) (by assumption) ?_
                         rotate_left
                         ·intro w hSw;(try dsimp only at hSw);go_simp;(try with_reducible rfl)
                         (try simp only[Act.put,List.setIfInBounds_toArray,List.set_cons_zero,List.set_cons_succ])
                         refine wpAnyH_take (i:=5) (oi:={ dst:=some 107,op:=Op.load 38 (.tmp 106),type:=38,pos:= "machine.go:221",after:=#[⟨4,.data⟩,⟨3,.guard⟩],guard:=some (3,false) }) (v:=?_) rfl (by kernel_rfl) (by kernel_rfl) (by kernel_rfl) (fun _ _ _ h=>h) (Or.inl ⟨by rfl,?_⟩) (by assumption) ?_
                         rotate_left
                         ·intro w hSw;(try dsimp only at hSw);go_simp;(try with_reducible rfl)
                         (try simp only[Act.put,List.setIfInBounds_toArray,List.set_cons_zero,List.set_cons_succ])
                         refine wpAnyH_take (i:=6) (oi:={ dst:=some 108,op:=Op.binOp BinOp.eql 38 (.tmp 107) (Operand.const (Value.int IntKind.i64 12)) 38,type:=4,pos:= "machine.go:221",after:=#[⟨5,.data⟩,⟨3,.guard⟩],guard:=some (3,false) }) (v:=?_) rfl (by kernel_rfl) (by kernel_rfl) (by kernel_rfl) (fun _ _ _ h=>h) (Or.inl ⟨by rfl,?_⟩) (by assumption) ?_
                         rotate_left
                         ·intro w hSw;(try dsimp only at hSw);go_simp;(try with_reducible rfl)
                         (try simp only[Act.put,List.setIfInBounds_toArray,List.set_cons_zero,List.set_cons_succ])
                         refine wpAnyH_take (i:=7) (oi:={ dst:=some 109,op:=Op.pick (.tmp 105) (Operand.const (Value.bool true)) (.tmp 108),type:=4,pos:= "machine.go:221",after:=#[⟨3,.data⟩,⟨6,.data⟩],guard:=none }) (v:=?_) rfl (by kernel_rfl) (by kernel_rfl) (by kernel_rfl) (fun _ _ _ h=>h) (Or.inl ⟨by rfl,?_⟩) (by assumption) ?_
                         rotate_left
                         ·intro w hSw;(try dsimp only at hSw);go_simp;(try with_reducible rfl)
                         (try simp only[Act.put,List.setIfInBounds_toArray,List.set_cons_zero,List.set_cons_succ])
                         refine wpAnyH_take (i:=8) (oi:={ dst:=some 110,op:=Op.move (.tmp 109),type:=4,pos:= "machine.go:221",after:=#[⟨7,.data⟩,⟨3,.chain⟩],guard:=none }) (v:=?_) rfl (by kernel_rfl) (by kernel_rfl) (by kernel_rfl) (fun _ _ _ h=>h) (Or.inl ⟨by rfl,?_⟩) (by assumption) ?_
                         rotate_left
                         ·intro w hSw;(try dsimp only at hSw);go_simp;(try with_reducible rfl)
                         (try simp only[Act.put,List.setIfInBounds_toArray,List.set_cons_zero,List.set_cons_succ])
                         refine wpAnyH_take (i:=9) (oi:={ dst:=some 111,op:=Op.move (.tmp 9),type:=66,pos:= "machine.go:221",after:=#[⟨8,.guard⟩],guard:=some (8,true) }) (v:=?_) rfl (by kernel_rfl) (by kernel_rfl) (by kernel_rfl) (fun _ _ _ h=>h) (Or.inl ⟨by rfl,?_⟩) (by assumption) ?_
                         rotate_left
                         ·intro w hSw;(try dsimp only at hSw);go_simp;(try with_reducible rfl)
                         (try simp only[Act.put,List.setIfInBounds_toArray,List.set_cons_zero,List.set_cons_succ])
                         refine wpAnyH_take (i:=10) (oi:={ dst:=some 112,op:=Op.move (.tmp 12),type:=3,pos:= "machine.go:221",after:=#[⟨8,.guard⟩],guard:=some (8,true) }) (v:=?_) rfl (by kernel_rfl) (by kernel_rfl) (by kernel_rfl) (fun _ _ _ h=>h) (Or.inl ⟨by rfl,?_⟩) (by assumption) ?_
                         rotate_left
                         ·intro w hSw;(try dsimp only at hSw);go_simp;(try with_reducible rfl)
                         (try simp only[Act.put,List.setIfInBounds_toArray,List.set_cons_zero,List.set_cons_succ])
                         refine wpAnyH_take (i:=11) (oi:={ dst:=some 113,op:=Op.indexAddr 66 (.tmp 111) (.tmp 112),type:=0,pos:= "machine.go:221",after:=#[⟨9,.data⟩,⟨10,.data⟩,⟨8,.guard⟩],guard:=some (8,true) }) (v:=?_) rfl (by kernel_rfl) (by kernel_rfl) (by kernel_rfl) (fun _ _ _ h=>h) (Or.inl ⟨by rfl,?_⟩) (by assumption) ?_
                         rotate_left
                         ·intro w hSw;(try dsimp only at hSw);go_simp;(try with_reducible rfl)
                         (try simp only[Act.put,List.setIfInBounds_toArray,List.set_cons_zero,List.set_cons_succ])
                         refine wpAnyH_take (i:=12) (oi:={ dst:=some 114,op:=Op.load 71 (.tmp 113),type:=71,pos:= "machine.go:221",after:=#[⟨11,.data⟩,⟨8,.guard⟩],guard:=some (8,true) }) (v:=?_) rfl (by kernel_rfl) (by kernel_rfl) (by kernel_rfl) (fun _ _ _ h=>h) (Or.inl ⟨by rfl,?_⟩) (by assumption) ?_
                         rotate_left
                         ·intro w hSw;(try dsimp only at hSw);go_simp;(try with_reducible rfl)
                         (try simp only[Act.put,List.setIfInBounds_toArray,List.set_cons_zero,List.set_cons_succ])
                         refine wpAnyH_take (i:=13) (oi:={ dst:=some 115,op:=Op.fieldAddr 40 (.tmp 11) 1,type:=0,pos:= "machine.go:221",after:=#[⟨8,.guard⟩],guard:=some (8,true) }) (v:=?_) rfl (by kernel_rfl) (by kernel_rfl) (by kernel_rfl) (fun _ _ _ h=>h) (Or.inl ⟨by rfl,?_⟩) (by assumption) ?_
                         rotate_left
                         ·intro w hSw;(try dsimp only at hSw);go_simp;(try with_reducible rfl)
                         (try simp only[Act.put,List.setIfInBounds_toArray,List.set_cons_zero,List.set_cons_succ])
                         refine wpAnyH_take (i:=14) (oi:={ dst:=some 116,op:=Op.load 3 (.tmp 115),type:=3,pos:= "machine.go:221",after:=#[⟨13,.data⟩,⟨8,.guard⟩],guard:=some (8,true) }) (v:=?_) rfl (by kernel_rfl) (by kernel_rfl) (by kernel_rfl) (fun _ _ _ h=>h) (Or.inl ⟨by rfl,?_⟩) (by assumption) ?_
                         rotate_left
                         ·intro w hSw;(try dsimp only at hSw);go_simp;(try with_reducible rfl)
                         (try simp only[Act.put,List.setIfInBounds_toArray,List.set_cons_zero,List.set_cons_succ]);refine wpAnyH_ready (rs:=[15]) (by kernel_rfl) (by simp) ?_
                         refine AllReadyH.cons (o:={ dst:=some 117,op:=Op.call { callee:=Callee.value (Operand.func 22),args:=#[.tmp 114,.tmp 116],argTypes:=#[71,3] },type:=4,pos:= "machine.go:221",after:=#[⟨12,.data⟩,⟨14,.data⟩,⟨8,.chain⟩,⟨8,.guard⟩],guard:=some (8,true) }) rfl (fun K hK=>?_) AllReadyH.nil
                         go_simp;refine(cI1 _).mono ?_;rintro e wc1 ⟨rfl,hgc1⟩;go_wp2_with fail
                         refine hK.out _ _ ⟨hgc1.cell hHeld.1 (by simp),hgc1.cell hHeld.2.1 (by simp),hgc1.cell hHeld.2.2.1 (by simp),hgc1.cell hHeld.2.2.2.1 (by simp),hgc1.cell hHeld.2.2.2.2.1 (by simp),hgc1.cell hHeld.2.2.2.2.2 (by simp)⟩ (fun hHeld=>?_);clear hK K;(try simp only[Act.put,List.setIfInBounds_toArray,List.set_cons_zero,List.set_cons_succ])
                         refine wpAnyH_take (i:=16) (oi:={ dst:=some 118,op:=Op.pick (.tmp 110) (.tmp 117) (Operand.const (Value.bool false)),type:=4,pos:= "machine.go:221",after:=#[⟨8,.data⟩,⟨15,.data⟩],guard:=none }) (v:=?_) rfl (by kernel_rfl) (by kernel_rfl) (by kernel_rfl) (fun _ _ _ h=>h) (Or.inl ⟨by rfl,?_⟩) (by assumption) ?_
                         rotate_left
                         ·intro w hSw;(try dsimp only at hSw);go_simp;(try with_reducible rfl)
                         (try simp only[Act.put,List.setIfInBounds_toArray,List.set_cons_zero,List.set_cons_succ])
                         refine wpAnyH_take (i:=17) (oi:={ dst:=some 119,op:=Op.move (.tmp 118),type:=4,pos:= "machine.go:221",after:=#[⟨16,.data⟩,⟨15,.chain⟩],guard:=none }) (v:=?_) rfl (by kernel_rfl) (by kernel_rfl) (by kernel_rfl) (fun _ _ _ h=>h) (Or.inl ⟨by rfl,?_⟩) (by assumption) ?_
                         rotate_left
                         ·intro w hSw;(try dsimp only at hSw);go_simp;(try with_reducible rfl)
                         (try simp only[Act.put,List.setIfInBounds_toArray,List.set_cons_zero,List.set_cons_succ])
                         refine wpAnyH_take (i:=18) (oi:={ dst:=some 120,op:=Op.move (.tmp 9),type:=66,pos:= "machine.go:221",after:=#[⟨17,.guard⟩],guard:=some (17,true) }) (v:=?_) rfl (by kernel_rfl) (by kernel_rfl) (by kernel_rfl) (fun _ _ _ h=>h) (Or.inl ⟨by rfl,?_⟩) (by assumption) ?_
                         rotate_left
                         ·intro w hSw;(try dsimp only at hSw);go_simp;(try with_reducible rfl)
                         (try simp only[Act.put,List.setIfInBounds_toArray,List.set_cons_zero,List.set_cons_succ])
                         refine wpAnyH_take (i:=19) (oi:={ dst:=some 121,op:=Op.move (.tmp 12),type:=3,pos:= "machine.go:221",after:=#[⟨17,.guard⟩],guard:=some (17,true) }) (v:=?_) rfl (by kernel_rfl) (by kernel_rfl) (by kernel_rfl) (fun _ _ _ h=>h) (Or.inl ⟨by rfl,?_⟩) (by assumption) ?_
                         rotate_left
                         ·intro w hSw;(try dsimp only at hSw);go_simp;(try with_reducible rfl)
                         (try simp only[Act.put,List.setIfInBounds_toArray,List.set_cons_zero,List.set_cons_succ])
                         refine wpAnyH_take (i:=20) (oi:={ dst:=some 122,op:=Op.indexAddr 66 (.tmp 120) (.tmp 121),type:=0,pos:= "machine.go:221",after:=#[⟨18,.data⟩,⟨19,.data⟩,⟨17,.guard⟩],guard:=some (17,true) }) (v:=?_) rfl (by kernel_rfl) (by kernel_rfl) (by kernel_rfl) (fun _ _ _ h=>h) (Or.inl ⟨by rfl,?_⟩) (by assumption) ?_
                         rotate_left
                         ·intro w hSw;(try dsimp only at hSw);go_simp;(try with_reducible rfl)
                         (try simp only[Act.put,List.setIfInBounds_toArray,List.set_cons_zero,List.set_cons_succ])
                         refine wpAnyH_take (i:=21) (oi:={ dst:=some 123,op:=Op.load 71 (.tmp 122),type:=71,pos:= "machine.go:221",after:=#[⟨20,.data⟩,⟨17,.guard⟩],guard:=some (17,true) }) (v:=?_) rfl (by kernel_rfl) (by kernel_rfl) (by kernel_rfl) (fun _ _ _ h=>h) (Or.inl ⟨by rfl,?_⟩) (by assumption) ?_
                         rotate_left
                         ·intro w hSw;(try dsimp only at hSw);go_simp;(try with_reducible rfl)
                         (try simp only[Act.put,List.setIfInBounds_toArray,List.set_cons_zero,List.set_cons_succ])
                         refine wpAnyH_take (i:=22) (oi:={ dst:=some 124,op:=Op.move (.tmp 10),type:=3,pos:= "machine.go:221",after:=#[⟨17,.guard⟩],guard:=some (17,true) }) (v:=?_) rfl (by kernel_rfl) (by kernel_rfl) (by kernel_rfl) (fun _ _ _ h=>h) (Or.inl ⟨by rfl,?_⟩) (by assumption) ?_
                         rotate_left
                         ·intro w hSw;(try dsimp only at hSw);go_simp;(try with_reducible rfl)
                         (try simp only[Act.put,List.setIfInBounds_toArray,List.set_cons_zero,List.set_cons_succ]);refine wpAnyH_ready (rs:=[23]) (by kernel_rfl) (by simp) ?_
                         refine AllReadyH.cons (o:={ dst:=some 125,op:=Op.call { callee:=Callee.value (Operand.func 22),args:=#[.tmp 123,.tmp 124],argTypes:=#[71,3] },type:=4,pos:= "machine.go:221",after:=#[⟨21,.data⟩,⟨22,.data⟩,⟨17,.chain⟩,⟨17,.guard⟩],guard:=some (17,true) }) rfl (fun K hK=>?_) AllReadyH.nil
                         go_simp;refine(cI2 _).mono ?_;rintro e wc2 ⟨rfl,hgc2⟩;go_wp2_with fail
                         refine hK.out _ _ ⟨hgc2.cell hHeld.1 (by simp),hgc2.cell hHeld.2.1 (by simp),hgc2.cell hHeld.2.2.1 (by simp),hgc2.cell hHeld.2.2.2.1 (by simp),hgc2.cell hHeld.2.2.2.2.1 (by simp),hgc2.cell hHeld.2.2.2.2.2 (by simp)⟩ (fun hHeld=>?_);clear hK K;(try simp only[Act.put,List.setIfInBounds_toArray,List.set_cons_zero,List.set_cons_succ])
                         refine wpAnyH_take (i:=24) (oi:={ dst:=some 126,op:=Op.unOp UnOp.not 4 (.tmp 125),type:=4,pos:= "machine.go:221",after:=#[⟨23,.data⟩,⟨17,.guard⟩],guard:=some (17,true) }) (v:=?_) rfl (by kernel_rfl) (by kernel_rfl) (by kernel_rfl) (fun _ _ _ h=>h) (Or.inl ⟨by rfl,?_⟩) (by assumption) ?_
                         rotate_left
                         ·intro w hSw;(try dsimp only at hSw);go_simp;(try with_reducible rfl)
                         (try simp only[Act.put,List.setIfInBounds_toArray,List.set_cons_zero,List.set_cons_succ])
                         refine wpAnyH_take (i:=25) (oi:={ dst:=some 127,op:=Op.pick (.tmp 119) (.tmp 126) (Operand.const (Value.bool false)),type:=4,pos:= "machine.go:221",after:=#[⟨17,.data⟩,⟨24,.data⟩],guard:=none }) (v:=?_) rfl (by kernel_rfl) (by kernel_rfl) (by kernel_rfl) (fun _ _ _ h=>h) (Or.inl ⟨by rfl,?_⟩) (by assumption) ?_
                         rotate_left
                         ·intro w hSw;(try dsimp only at hSw);go_simp;(try with_reducible rfl)
                         (try simp only[Act.put,List.setIfInBounds_toArray,List.set_cons_zero,List.set_cons_succ]);refine wpAnyH_done (by kernel_rfl) ?_ _;cases il2 with
                         | true=>
                          go_wp2_with fail
                          have hgl:=HGJ.out;go_roundg (m - (j+1))
                          case measure=>exact ac6_ HGJ.out hjm
                          case rel=>exact⟨j+1,okj,by go_num,rfl,hjm,rfl,(fun h1 h2 j' hj' h3=>by
                           by_cases e1:j'=j
                           ·subst e1;rw[HEJ.out];exact HI2.out
                           ·exact HJ1.out h1 h2 j' (by omega) h3),HJ2.out,hg7.trans (((xf_ gz_).trans hgc1).trans hgc2)⟩
                         | false=>
                          have HXJ:Hid (¬JDoc t):=fun hJ=>by
                           have:=hJ i hitl (by rw[HXX.out];simp) E hEe (by rw[HXX.out];exact HI1.out);rw[HI2.out] at this;simp at this
                          go_wp2_with fail
                          have hgl:=HGJ.out;go_roundg (m - (j+1))
                          case measure=>exact ac6_ HGJ.out hjm
                          case rel=>exact⟨j+1,false,by go_num,rfl,hjm,rfl,(by simp),fun _=>HXJ.out,hg7.trans (((xf_ gz_).trans hgc1).trans hgc2)⟩
                      · have f12:(d==12)=false:=(by simpa using d12);go_wp2_with fail
                        go_quiet (fail)
                        go_wp2_with fail
                        have hgl:=HGJ.out;go_roundg (m - (j+1))
                        case measure=>exact ac6_ HGJ.out hjm
                        case rel=>exact⟨j+1,okj,by simp,rfl,hjm,rfl,(fun _ h2=>by omega),HJ2.out,hg7.trans (x4_ gz_ _)⟩
                  · have hjm':¬((j:Int)<(m:Int)):=(by omega);have hjj:j=m:=(by omega);have HOKT:Hid (∀ i',i'<i→((nth t i').d=11∨(nth t i').d=12)→∀ e,isE t e=true→inL t (e+1) (nth t i').a.toNat=true→inL t (e+1) i'=true):=HOK1.out (by trivial);have HNEW:Hid (okj=true→∀ i',i'<i+1→((nth t i').d=11∨(nth t i').d=12)→∀ e,isE t e=true→inL t (e+1) (nth t i').a.toNat=true→inL t (e+1) i'=true):=fun ho i' hi' hd e he h1=>by
                     by_cases e1:i'=i
                     ·subst e1;rw[HXX.out] at hd h1;obtain⟨q,hq,hqe⟩:=List.getElem_of_mem (jm_.2 ⟨aam_ he,he⟩);have hg:(yh_ t t.length).getD q 0=e:=(by rw[List.getD,List.getElem?_eq_getElem hq,Option.getD_some];exact hqe);have:=HJ1.out ho hd q (by rw[hjj,← HML.out];exact hq) (by rw[hg];exact h1);rw[hg] at this;exact this
                     ·exact HOKT.out i' (by omega) hd e he h1
                    clear hjj HOK1;go_wp2_with fail
                    have hgl:=HGI6.out;go_roundg (tn+1 - (i+1))
                    case measure=>omega
                    case rel=>exact⟨i+1,okj,by go_num,rfl,by omega,rfl,HNEW.out,HJ2.out,(hg6.trans hg66).trans hg7⟩
               · have hit6':¬((i:Int)<(tn:Int)):=(by omega);have hii:i=tn:=(by omega);have HJD:Hid (JDoc t):=fun i' hi' hd e he h1=>HOK1.out (by trivial) i' (by rw[HTN.out] at hi';omega) hd e he h1;have HMAY:=(ag4_ (ahd ps k) fn t).1 HALL.out;have hrd:=((abm_ HMAY.2).1 HLP.out).1;have cS:=HSt.out (.slice ta tn tc) t wr (HTX.out wr (hg5.trans hg6)) htl (aii_ HMAY.1 hrd);have k4:=hg6.cell f4 (by simp);have HMY:Hid (vi_ (ahd ps k) fn t):=HMAY.1;clear hii HMAY hrd HOK1 HOK2;go_wp2_with fail
                 refine cS.mono ?_;rintro e w7 ⟨r,rfl,hr,hg7⟩;have HRS:=hd_ hr;have l4:=hg7.cell k4 (by simp);clear hr cS;have HGF:=(HG5.out.trans hg6).trans hg7;cases r with
                 | false=>
                  have HX:Hid (¬DocOk (ahd ps k) kd fn t):=fun hx=>by have:=HRS.out.2 hx.stack;simp at this
                  clear HRS;have HRR:=hd_ (by rw[HR.out,← HV.out,aa0_ hlt (by rw[HUN.out];exact(u0_ _ _ _ _ _).2 HX.out) (by omega)]:jx_ (Classical.propDecidable,()) ps=([],12,(k:Int)));have b1:=kept HGF HB1y.out;have y1:=xa_ b1 0;have y2:=xa_ b1 1;have y3:=xa_ b1 2;simp at y1 y2 y3;have f1:=xc_ b1 0;have f2:=xc_ b1 1;have f3:=xc_ b1 2;go_wp2_with fail
                  refine bodyPost_ret (v:=.tuple #[.slice none 0 0,.agg #[.int .i64 12,.int .i64 k,.int .i64 0]]) (by simp[results,Tryz.results15,go_sem,y1,y2,y3]) rfl ?_;rw[HRR.out];exact⟨_,rfl,OwnV.nil _ _,yc_ (yc_ (yc_ (HGW.out.trans HGF) (by omega) _ _) (by omega) _ _) (by omega) _ _⟩
                 | true=>
                  have HDO:Hid (DocOk (ahd ps k) kd fn t):=⟨hk3,hf3,htl,HALL.out,HLP.out,HJD.out,HRS.out.1 rfl⟩;have HLK:=(u0_ (ahd ps k) b kd fn t).1 HDO.out;have HLK':Hid (q5_ (Classical.propDecidable,()) (ahd ps k) b kd fn t=if 1000000000<vj_ b t then(0,13) else(vj_ b t,0)):=HLK;have hal:(ahd ps k).length=k:=ji_ ps k (by omega);have cB:=aj5_ (.slice ta tn tc) bv t b w7 (HTX.out w7 ((hg5.trans hg6).trans hg7)) (HOy.out.keptN HGF).rd htl HLP.out (ad9_ HMY.out) (fun q hq=>aa7_ HMY.out hf3 HBD.out (by rw[hal,HBL.out]) q hq) (fun q hq hd=>by have:=af7_ HMY.out q hq hd;rw[hal] at this;rw[HBL.out];exact this) (by rw[HBL.out];omega);clear HRS HLK hal;have HSB:Hid (q5_ (Classical.propDecidable,()) (ahd ps k) b kd fn t=(vj_ b t,0)→0≤vj_ b t∧vj_ b t≤1000000000):=fun h=>by
                   have:=aea_ (t:=t) (kd:=kd) (fn:=fn) HBD.out (by rw[ji_ ps k (by omega)];exact HBL.out) (show(q5_ (Classical.propDecidable,()) (ahd ps k) b kd fn t).2=0 by rw[h]);rw[h] at this;exact this
                  generalize vj_ b t=SS at *;go_wp2_with fail
                  refine cB.mono ?_;rintro e w8 ⟨rfl,hg8⟩;clear cB;have HGF:=HGF.trans hg8;by_cases hS:1000000000<SS
                  · have HX:=hd_ (by rw[HLK'.out,if_pos hS]:q5_ (Classical.propDecidable,()) (ahd ps k) b kd fn t=(0,13));clear HLK';have HRR:=hd_ (by rw[HR.out,← HV.out,aa0_ hlt (by rw[HUN.out];exact HX.out) (by omega)]:jx_ (Classical.propDecidable,()) ps=([],13,(k:Int)));have b1:=kept HGF HB1y.out;have y1:=xa_ b1 0;have y2:=xa_ b1 1;have y3:=xa_ b1 2;simp at y1 y2 y3;have f1:=xc_ b1 0;have f2:=xc_ b1 1;have f3:=xc_ b1 2;go_wp2_with fail
                    refine bodyPost_ret (v:=.tuple #[.slice none 0 0,.agg #[.int .i64 13,.int .i64 k,.int .i64 0]]) (by simp[results,Tryz.results15,go_sem,y1,y2,y3]) rfl ?_;rw[HRR.out];exact⟨_,rfl,OwnV.nil _ _,yc_ (yc_ (yc_ (HGW.out.trans HGF) (by omega) _ _) (by omega) _ _) (by omega) _ _⟩
                  · have HX:=hd_ (by rw[HLK'.out,if_neg hS]:q5_ (Classical.propDecidable,()) (ahd ps k) b kd fn t=(SS,0));have HBN:Hid (0≤SS∧SS≤1000000000):=HSB.out HX.out;have HVN:=hd_ (by rw[← HV.out,anz_ hlt (by rw[HUN.out];exact HX.out)]:kx_ (Classical.propDecidable,()) ps (n - (k+1)) (k+1) (b++[SS])=kx_ (Classical.propDecidable,()) ps n 0 []);have HO8:Hid (OwnV (H+2) w8 bv b):=HOy.out.keptN HGF;have hs8:H+2≤w8.heap.size:=(by have:=HGF.size;omega);have hrow:=HO8.out.row;obtain⟨v',w9,hrun,hown2,hg9⟩:=(HO8.out.keptN (gr1 w8 (.cells #[.int .i64 SS] 3))).more SS w8.heap.size (heap_alloc_new _ _) (by rw[HBL.out];omega) (by simp;omega);have HRUN:Hid (_=_):=hrun;have HO9:=hd_ hown2;have HG9:Hid (w.grownBy w9 none∧w9.heap[H]?=some (.cells #[.slice (some ⟨b',off,none⟩) n cap] 24)∧w9.heap[H+1]?=some (.cells #[.int .i64 0,.int .i64 0,.int .i64 0] 46)∧H+2≤w9.heap.size):=by
                     refine⟨x6_ (xb_ (HGW.out.trans HGF) _) hg9 (.inr fun x hx=>by have:=hrow x hx;omega),?_,?_,?_⟩
                     ·rw[hg9.block H (by simp;omega) (fun e=>by have:=hrow H e.symm;omega),xh_ (by omega)];exact kept HGF HB0y.out
                     ·rw[hg9.block (H+1) (by simp;omega) (fun e=>by have:=hrow (H+1) e.symm;omega),xh_ (by omega)];exact kept HGF HB1y.out
                     ·have:=hg9.size;simp at this;omega
                    have HFR2:Hid (∀ i',i'<k+1→(ps.getD i' pr0).fs.length≤20000):=fun i' hi'=>by
                     by_cases e1:i'=k
                     ·subst e1;rw[HPP.out];show fs.length≤20000;rw[HFN.out];exact hf3
                     ·exact HFR.out i' (by omega)
                    clear hrun hown2 hg9 hrow HLK' HSB;go_wp2_with (first|(at_builtin;refine x0_ rfl _ _ 25 rfl _ _ _ w9 rfl rfl HRUN.out ?_))
                    have hgl:=HG.out;go_roundg (n - (k+1))
                    case measure=>exact ac6_ HG.out hlt
                    case rel=>exact⟨k+1,b++[SS],v',rfl,by go_num,hlt,rfl,HVN.out,by simp[HBL.out],(fun x hx=>by
                     rcases List.mem_append.1 hx with h|h
                     ·exact HBD.out x h
                     ·simp at h;subst h;exact HBN.out),HO9.out,HG9.out.2.1,HG9.out.2.2.1,HG9.out.1,HG9.out.2.2.2,HFR2.out⟩
           · have HX:Hid (¬DocOk (ahd ps k) kd fn t):=fun hx=>hno hx.loops;have HRR:=hd_ (by rw[HR.out,← HV.out,aa0_ hlt (by rw[HUN.out];exact(u0_ _ _ _ _ _).2 HX.out) (by omega)]:jx_ (Classical.propDecidable,()) ps=([],12,(k:Int)));have b1:=kept HG5.out HB1y.out;have y1:=xa_ b1 0;have y2:=xa_ b1 1;have y3:=xa_ b1 2;simp at y1 y2 y3;have f1:=xc_ b1 0;have f2:=xc_ b1 1;have f3:=xc_ b1 2;go_wp2_with fail
             go_loopg [7,10] 1 (fun gk s7 s10 wx=>∃(i:Nat),s10=.int .i64 i∧s7=.bool false∧gk=1∧w5=wx)
             case atStart=>exact⟨0,rfl,rfl,rfl,rfl⟩
             case round=>
              obtain⟨i,rfl,rfl,hgk9,hw9⟩:=hrel;subst hw9;go_wp2_with fail
              refine bodyPost_ret (v:=.tuple #[.slice none 0 0,.agg #[.int .i64 12,.int .i64 k,.int .i64 0]]) (by simp[results,Tryz.results15,go_sem,y1,y2,y3]) rfl ?_;rw[HRR.out];exact⟨_,rfl,OwnV.nil _ _,yc_ (yc_ (yc_ (HGW.out.trans HG5.out) (by omega) _ _) (by omega) _ _) (by omega) _ _⟩
    · have hkn:k=n:=(by omega);subst hkn;have hk':¬((k:Int)<(k:Int)):=(by omega);have HRR:=hd_ (by rw[HR.out,← HV.out];simp[kx_]:jx_ (Classical.propDecidable,()) ps=(b,0,0));have z1:=xa_ HB1.out 0;have z2:=xa_ HB1.out 1;have z3:=xa_ HB1.out 2;simp at z1 z2 z3;have f1:=xc_ HB1.out 0;have f2:=xc_ HB1.out 1;have f3:=xc_ HB1.out 2;clear HG;go_wp2;refine bodyPost_ret (v:=.tuple #[bv,.agg #[.int .i64 0,.int .i64 0,.int .i64 0]]) (by simp[results,Tryz.results15,go_sem,z1,z2,z3]) rfl ?_;rw[HRR.out];have g1:wr.grownBy (((wr.setCell ⟨H+1,0,none⟩ (.int .i64 0)).setCell ⟨H+1,1,none⟩ (.int .i64 0)).setCell ⟨H+1,2,none⟩ (.int .i64 0)) (some (H+1)):=x3_ (x3_ (x3_ gz_ _ _) _ _) _ _;refine⟨_,rfl,?_,yc_ (yc_ (yc_ hgr (by omega) _ _) (by omega) _ _) (by omega) _ _⟩;have h1:=HO.out.kept g1 (.inr fun e=>by have:=HO.out.row _ e;omega);obtain⟨a1,a2⟩:=h1;refine⟨a1,?_⟩;rcases a2 with a2|⟨g,c,cur,q1,q2,q3⟩
      ·exact .inl a2
      ·exact .inr ⟨g,c,cur,q1,by omega,q3⟩
end Go.Proofs.YtcgbfhpmkpglkaaGreatDoor
