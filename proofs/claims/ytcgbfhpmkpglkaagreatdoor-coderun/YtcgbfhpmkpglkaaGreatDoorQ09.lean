/- Texts put together: L3, L4, L5, L6, V6, T5, G0. -/
import Derived.Test.YtcgbfhpmkpglkaaGreatDoorQ08
set_option linter.unusedVariables false
set_option linter.unusedSimpArgs false
set_option maxHeartbeats 8000000
namespace Go.Proofs.YtcgbfhpmkpglkaaGreatDoor
open Go.RowKit
attribute [local go_sem ↓] Go.wp_at_zero Go.wp_at_succ
def ab9_ (t:List Ins) (B:List Int):Prop:=∀ i,i<t.length→((nth t i).d=11∨(nth t i).d=12)→B.getD (nth t i).a.toNat 0≤(i:Int)
set_option maxRecDepth 10000 in
theorem af5_ (o bb:Nat) (t:List Ins) (B:List Int) (w:World) (hO:OvT w o t) (hl:t.length≤100000) (hb:w.cell? ⟨o,3,none⟩=some (.slice (some ⟨bb,0,none⟩) (t.length+1) (t.length+1))) (hB:w.heap[bb]?=some (.cells (xi_ B) 3)) (hBl:B.length=t.length+1)
 (hj:∀ i,i<t.length→((nth t i).d=11∨(nth t i).d=12)→(i:Int)<(nth t i).a∧(nth t i).a≤t.length) :
 Calls Tryz.prog 58 #[.pointer (some ⟨o,0,none⟩)] w (ad5_ (ab9_ t B) w):=by
 obtain⟨pb,po,tv,h1,h2,ta,tcap,rfl,hT⟩:=hO;have HT:Hid (t=[]∨∃ b off,ta=some ⟨b,off,none⟩∧∀ i,i<t.length→
  w.cell? ⟨b,off+i*4,none⟩=some (.int .i64 (nth t i).d)∧w.cell? ⟨b,off+i*4+1,none⟩=some (.int .i64 (nth t i).a)∧
  w.cell? ⟨b,off+i*4+2,none⟩=some (.int .i64 (nth t i).b)∧w.cell? ⟨b,off+i*4+3,none⟩=some (.int .i64 (nth t i).c)):=hT
 have HJ:=hd_ hj;have HB:=hd_ hB;have HBL:=hd_ hBl;clear hT hj hB hBl;obtain⟨n,hn⟩:∃ n,t.length=n:=⟨_,rfl⟩;have HN:=hd_ hn;rw[hn] at hl h2 hb;have HO3:=hd_ hb;clear hn hb;go_enter Tryz.func58,Tryz.ntmps58;go_wp2;go_loopg [13] n (fun gk s13 wx=>∃ k:Nat,s13=.int .i64 k∧k≤n∧gk=n - k∧(∀ i,i<k→((nth t i).d=11∨(nth t i).d=12)→B.getD (nth t i).a.toNat 0≤(i:Int))∧w.grownBy wx none)
 case atStart=>exact⟨0,rfl,Nat.zero_le _,by omega,fun i hi=>by omega,gz_⟩
 case round=>
  obtain⟨k,rfl,hk,hgk,hgood,hgr⟩:=hrel;have HG:=hd_ hgk;have HQ:=hd_ hgood;clear hgk hgood;by_cases hlt:k<n
  · have hkl:k<t.length:=(by rw[HN.out];exact hlt);rcases HT.out with h|⟨b',off,rfl,hc⟩
    ·subst h;simp at hkl
    obtain⟨q0,q1,q2,q3⟩:=hc k hkl;have q0:=hgr.cell q0 (by simp);have q1:=hgr.cell q1 (by simp);have q2:=hgr.cell q2 (by simp);have q3:=hgr.cell q3 (by simp);clear hc;obtain⟨d,hd⟩:∃ d,(nth t k).d=d:=⟨_,rfl⟩;obtain⟨a,ha⟩:∃ d,(nth t k).a=d:=⟨_,rfl⟩;generalize(nth t k).b=b at *;generalize(nth t k).c=c at *;rw[hd] at q0;rw[ha] at q1;have HD:Hid ((nth t k).d=d∧(nth t k).a=a):=⟨hd,ha⟩;clear hd ha;have i1:(0:Int)≤(k:Int):=(by omega);have i2:(k:Int)<(n:Int):=(by omega);by_cases hjmp:d=11∨d=12
    · have hja:=HJ.out k hkl (by rw[HD.out.1];exact hjmp);rw[HD.out.2,HN.out] at hja;obtain⟨m,hm⟩:=Int.eq_ofNat_of_zero_le (show 0≤a by omega);subst hm;have j1:(0:Int)≤(m:Int):=(by omega);have j2:(m:Int)<((n+1:Nat):Int):=(by omega);have r0:=yz_ HB.out m (by rw[HBL.out,HN.out];omega);have R0:∀ ob,(wr.alloc ob).cell? ⟨bb,m,none⟩=some (.int .i64 (B.getD m 0)):=fun ob=>(hgr.trans (gr1 wr ob)).cell r0 (by simp);have R3:∀ ob,(wr.alloc ob).cell? ⟨o,3,none⟩=some (.slice (some ⟨bb,0,none⟩) (n+1) (n+1)):=fun ob=>(hgr.trans (gr1 wr ob)).cell HO3.out (by simp);have HBM:=hd_ (by rw[HD.out.2];simp:B.getD (nth t k).a.toNat 0=B.getD m 0);generalize B.getD m 0=z at *;clear r0;by_cases hz:(k:Int)<z
      · have HX:Hid (¬ab9_ t B):=fun hr=>by
         have:=hr k hkl (by rw[HD.out.1];exact hjmp);rw[HBM.out] at this;omega
        rcases hjmp with rfl|rfl
        · go_wp2;go_quiet (fail)
          go_wp2;go_ret;exact⟨false,rfl,by simpa using HX.out,x4_ (xb_ hgr _) _⟩
        · go_wp2;go_quiet (fail)
          go_wp2;go_ret;exact⟨false,rfl,by simpa using HX.out,x4_ (xb_ hgr _) _⟩
      · have HK:Hid (∀ i,i<k+1→((nth t i).d=11∨(nth t i).d=12)→B.getD (nth t i).a.toNat 0≤(i:Int)):=fun i hi hh=>by
         by_cases e:i=k
         ·subst e;rw[HBM.out];omega
         ·exact HQ.out i (by omega) hh
        rcases hjmp with rfl|rfl
        · go_wp2;go_quiet (fail)
          go_wp2;have hgl:=HG.out;go_roundg (n - (k+1))
          all_goals first|omega|exact⟨k+1,by go_num,by omega,by omega,HK.out,x4_ (xb_ hgr _) _⟩
        · go_wp2;go_quiet (fail)
          go_wp2;have hgl:=HG.out;go_roundg (n - (k+1))
          all_goals first|omega|exact⟨k+1,by go_num,by omega,by omega,HK.out,x4_ (xb_ hgr _) _⟩
    · have e11:(d==11)=false:=(by simp;omega);have e12:(d==12)=false:=(by simp;omega);have HK:Hid (∀ i,i<k+1→((nth t i).d=11∨(nth t i).d=12)→B.getD (nth t i).a.toNat 0≤(i:Int)):=fun i hi hh=>by
       by_cases e:i=k
       ·subst e;rw[HD.out.1] at hh;exact absurd hh hjmp
       ·exact HQ.out i (by omega) hh
      go_wp2;go_quiet (fail)
      go_wp2;have hgl:=HG.out;go_roundg (n - (k+1))
      all_goals first|omega|exact⟨k+1,by go_num,by omega,by omega,HK.out,x4_ (xb_ hgr _) _⟩
  ·have hk':¬((k:Int)<(n:Int)):=(by omega);have HX:Hid (ab9_ t B):=fun i hi hh=>HQ.out i (by rw[HN.out] at hi;omega) hh;go_wp2;go_ret;exact⟨true,rfl,by simpa using HX.out,hgr⟩
def yi_ (bds:List Int) (x:Ins):Int:=if x.d=16 then x.b else if x.d=17 then 1+bds.getD x.a.toNat 0 else 1
theorem aus_ {a b:Int} (ha:1≤a) (ha':a≤1000000001) (hb:1≤b) (hb':b≤1000000001):1≤a*b∧a*b≤1000000002000000001:=by
 refine⟨(z7_ ha hb).1,?_⟩;have h1:a*b≤1000000001*b:=Int.mul_le_mul_of_nonneg_right ha' (by omega);have h2:(1000000001:Int)*b≤1000000001*1000000001:=Int.mul_le_mul_of_nonneg_left hb' (by omega);omega
set_option maxRecDepth 10000 in
theorem amp_ (o tb:Nat) (t:List Ins) (bds TM:List Int) (bv:Value) (w:World) (hO:OvT w o t) (hl:t.length≤100000) (hb1:w.cell? ⟨o,1,none⟩=some bv) (hb2:rd w bv bds) (ht:w.cell? ⟨o,4,none⟩=some (.slice (some ⟨tb,0,none⟩) t.length t.length)) (hT:w.heap[tb]?=some (.cells (xi_ TM) 3)) (hTl:TM.length=t.length)
 (hTM:∀ k,k<t.length→TM.getD k 0=prd t (inn t (k+1) k)∧1≤TM.getD k 0∧TM.getD k 0≤1000000001)
 (hs:∀ k,k<t.length→1≤yi_ bds (nth t k)∧yi_ bds (nth t k)≤1000000001)
 (hr:∀ k,k<t.length→(nth t k).d=17→0≤(nth t k).a∧(nth t k).a<bds.length) (hbl:bds.length≤1000) :
 Calls Tryz.prog 34 #[.pointer (some ⟨o,0,none⟩)] w fun e w'=>e=.returned (.int .i64 (z4_ t (fun k=>yi_ bds (nth t k)) t.length))∧w.grownBy w' none:=by
 obtain⟨pb,po,tv,h1,h2,ta,tcap,rfl,hTx⟩:=hO;obtain⟨ba,bcap,rfl,hbd⟩:=hb2;have HT:Hid (t=[]∨∃ b off,ta=some ⟨b,off,none⟩∧∀ i,i<t.length→
  w.cell? ⟨b,off+i*4,none⟩=some (.int .i64 (nth t i).d)∧w.cell? ⟨b,off+i*4+1,none⟩=some (.int .i64 (nth t i).a)∧
  w.cell? ⟨b,off+i*4+2,none⟩=some (.int .i64 (nth t i).b)∧w.cell? ⟨b,off+i*4+3,none⟩=some (.int .i64 (nth t i).c)):=hTx
 have HBD:=hd_ hbd;have HTM:=hd_ hTM;have HS:=hd_ hs;have HR:=hd_ hr;have HH:=hd_ hT;have HL:=hd_ hTl;clear hTx hbd hTM hs hr hT hTl;obtain⟨n,hn⟩:∃ n,t.length=n:=⟨_,rfl⟩;have HN:=hd_ hn;rw[hn] at hl h2 ht ⊢;have HO4:=hd_ ht;have HO1:=hd_ hb1;clear hn ht hb1;obtain⟨F,hF⟩:∃ F,F=(fun k=>yi_ bds (nth t k)):=⟨_,rfl⟩;rw[← hF];have HF:=hd_ hF;clear hF;go_enter Tryz.func34,Tryz.ntmps34;go_wp2;go_loopg [3,15] n (fun gk s3 s15 wx=>∃ k:Nat,s15=.int .i64 k∧k≤n∧gk=n - k∧s3=.int .i64 (z4_ t F k)∧0≤z4_ t F k∧z4_ t F k≤1000000001∧w.grownBy wx none)
 case atStart=>exact⟨0,rfl,Nat.zero_le _,by omega,rfl,by simp[z4_],by simp[z4_],gz_⟩
 case round=>
  obtain⟨k,rfl,hk,hgk,rfl,hp0,hp1,hgr⟩:=hrel;have HG:=hd_ hgk;clear hgk;by_cases hlt:k<n
  · have hkl:k<t.length:=(by rw[HN.out];exact hlt);rcases HT.out with h|⟨b',off,rfl,hc⟩
    ·subst h;simp at hkl
    obtain⟨q0,q1,q2,q3⟩:=hc k hkl;have q0:=hgr.cell q0 (by simp);have q1:=hgr.cell q1 (by simp);have q2:=hgr.cell q2 (by simp);have q3:=hgr.cell q3 (by simp);clear hc;obtain⟨s1,s2⟩:=HS.out k hkl;obtain⟨t0,t1,t2⟩:=HTM.out k hkl;have hnx:z4_ t F (k+1)=min (z4_ t F k+min (yi_ bds (nth t k)*TM.getD k 0) yx_) yx_:=(by rw[t0,HF.out];rfl);have HNX:=hd_ hnx;have c0:=yz_ HH.out k (by rw[HL.out];exact hkl);have C0:∀ ob,(wr.alloc ob).cell? ⟨tb,k,none⟩=some (.int .i64 (TM.getD k 0)):=fun ob=>(hgr.trans (gr1 wr ob)).cell c0 (by simp);have C4:∀ ob,(wr.alloc ob).cell? ⟨o,4,none⟩=some (.slice (some ⟨tb,0,none⟩) n n):=fun ob=>(hgr.trans (gr1 wr ob)).cell HO4.out (by simp);have C1:∀ ob,(wr.alloc ob).cell? ⟨o,1,none⟩=some (.slice ba bds.length bcap):=fun ob=>(hgr.trans (gr1 wr ob)).cell HO1.out (by simp);generalize TM.getD k 0=tm at *;have HRK:Hid ((nth t k).d=17→0≤(nth t k).a∧(nth t k).a<bds.length):=HR.out k hkl;generalize nth t k=x at *;obtain⟨d,a,b,c⟩:=x;dsimp only at q0 q1 q2 q3 HRK;clear c0 t0 hnx;generalize z4_ t F k=S at *;have i1:(0:Int)≤(k:Int):=(by omega);have i2:(k:Int)<(n:Int):=(by omega);obtain⟨m1,m2⟩:=aus_ s1 s2 t1 t2;obtain⟨st,hst⟩:∃ st,yi_ bds ⟨d,a,b,c⟩=st:=⟨_,rfl⟩;have HST:=hd_ hst;rw[hst] at m1 m2 s1 s2;have HN2:=hd_ (by rw[HNX.out,hst]:z4_ t F (k+1)=min (S+min (st*tm) yx_) yx_);have e1:wrap64 (st*tm)=st*tm:=(by unfold wrap64;omega);have e1':IntKind.i64.wrap (st*tm)=st*tm:=(by rw[IntWalk.i64_left];exact e1);have e2:wrap64 (S+min (st*tm) yx_)=S+min (st*tm) yx_:=(by simp only[yx_];unfold wrap64;omega)
    have HB2:=hd_ (by rw[HN2.out];simp only[yx_];omega:0≤z4_ t F (k+1)∧z4_ t F (k+1)≤1000000001);clear hst HNX;by_cases h16:d=16
    · subst h16;have:b=st:=(by rw[← HST.out];simp[yi_]);subst this;go_wp2_with (go_at_call 60;refine(v5_ _ _).mono ?_;rintro e w' ⟨rfl,rfl⟩)
      have hgl:=HG.out;go_roundg (n - (k+1))
      all_goals first|omega|exact⟨k+1,by go_num,by omega,by omega,by rw[HN2.out],HB2.out.1,HB2.out.2,xb_ hgr _⟩
    · by_cases h17:d=17
      · subst h17;obtain⟨r1,r2⟩:=HRK.out rfl;obtain⟨m,hm⟩:=Int.eq_ofNat_of_zero_le r1;subst hm;rcases HBD.out with h|⟨b2,off2,rfl,hcb⟩
        ·subst h;simp at r2;omega
        have d0:=hcb m (by omega);have D0:∀ ob,(wr.alloc ob).cell? ⟨b2,off2+m,none⟩=some (.int .i64 (bds.getD m 0)):=fun ob=>(hgr.trans (gr1 wr ob)).cell d0 (by simp);have hstz:1+bds.getD m 0=st:=(by rw[← HST.out];simp[yi_]);generalize bds.getD m 0=z at *;have e3:wrap64 (1+z)=st:=(by rw[← hstz];unfold wrap64;omega);have e3':IntKind.i64.wrap (1+z)=st:=(by rw[IntWalk.i64_left];exact e3);have HZ:=hd_ hstz;have j1:(0:Int)≤(m:Int):=(by omega);have j2:(m:Int)<(bds.length:Int):=(by omega);clear hcb d0 hstz;go_wp2_with (go_at_call 60;refine(v5_ _ _).mono ?_;rintro e w' ⟨rfl,rfl⟩)
        go_quiet (fail)
        go_wp2_with (go_at_call 60;refine(v5_ _ _).mono ?_;rintro e w' ⟨rfl,rfl⟩)
        have hgl:=HG.out;go_roundg (n - (k+1))
        all_goals first|omega|exact⟨k+1,by go_num,by omega,by omega,by rw[HN2.out],HB2.out.1,HB2.out.2,x4_ (xb_ hgr _) _⟩
      · have:st=1:=(by rw[← HST.out];simp[yi_,h16,h17]);subst this;have e16:(d==16)=false:=(by simpa using h16);have e17:(d==17)=false:=(by simpa using h17);rw[Int.one_mul] at e1 e1' e2;go_wp2_with (go_at_call 60;refine(v5_ _ _).mono ?_;rintro e w' ⟨rfl,rfl⟩)
        have hgl:=HG.out;go_roundg (n - (k+1))
        all_goals first|omega|exact⟨k+1,by go_num,by omega,by omega,by rw[HN2.out,Int.one_mul],HB2.out.1,HB2.out.2,xb_ hgr _⟩
  ·have hk':¬((k:Int)<(n:Int)):=(by omega);have hkn:k=n:=(by omega);subst hkn;go_wp2;go_ret;exact⟨rfl,hgr⟩
def z9_ (l:List Nat):List Int:=l.map (fun (p:Nat)=>(p:Int))
def ao8_ (hb:Nat) (m:Option (List Int)) (w:World) (e:Ending) (w':World):Prop:=
 w.grownBy w' (some hb)∧match m with
  | some hs'=>e=.returned (.bool true)∧w'.heap[hb]?=some (.cells (xi_ hs') 3)
  | none=>e=.returned (.bool false)
theorem amm_ (h:Int) (p:Nat) (ps:List Nat) (hs:List Int):y1_ h (p::ps) hs=if hs.getD p 0 = -1 then y1_ h ps (hs.set p h) else if hs.getD p 0=h then y1_ h ps hs else none:=rfl
set_option maxRecDepth 10000 in
theorem ao9_ (c hb pb n:Nat) (h:Int) (ps:List Nat) (hs:List Int) (w:World) (hC:w.heap[c]?=some (.cells #[.slice (some ⟨hb,0,none⟩) n n] 25)) (hH:w.heap[hb]?=some (.cells (xi_ hs) 3)) (hP:w.heap[pb]?=some (.cells (xi_ (z9_ ps)) 3))
 (hn:hs.length=n) (hps:∀ p,p∈ps→p<n) (hl:ps.length≤2) (h1:hb≠c) (h2:hb≠pb) (h0:0≤h) (hbig:n≤1000000000000) :
 Calls Tryz.prog 78 #[.int .i64 h,.slice (some ⟨pb,0,none⟩) ps.length ps.length,.pointer (some ⟨c,0,none⟩)] w (ao8_ hb (y1_ h ps hs) w):=by
 have HC:=hd_ hC;have HH:=hd_ hH;have HP:=hd_ hP;have HPS:=hd_ hps;have HN:=hd_ hn;obtain⟨m,hm⟩:∃ m,ps.length=m:=⟨_,rfl⟩;have HM:=hd_ hm;rw[hm] at hl ⊢;clear hC hH hP hps hn hm;go_enter Tryz.func78,Tryz.ntmps78;go_wp2;go_loopg [10] m (fun gk s10 wx=>∃(j:Nat) (hj:List Int),s10=.int .i64 j∧j≤m∧gk=m - j∧wx.heap[hb]?=some (.cells (xi_ hj) 3)∧hj.length=n∧y1_ h (ps.drop j) hj=y1_ h ps hs∧w.grownBy wx (some hb))
 case atStart=>exact⟨0,hs,rfl,Nat.zero_le _,by omega,HH.out,HN.out,rfl,gz_⟩
 case round=>
  obtain⟨j,hj,rfl,hjm,hgk,har,hal,hme,hgr⟩:=hrel;have HG:=hd_ hgk;have HA:=hd_ har;have HE:=hd_ hme;clear hgk har hme;by_cases hlt:j<m
  · have hjl:j<ps.length:=(by rw[HM.out];exact hlt);obtain⟨p,hp⟩:∃ p,ps[j]=p:=⟨_,rfl⟩;have hpn:p<n:=HPS.out p (by rw[← hp];exact List.getElem_mem hjl);have HDR:=hd_ (by rw[← hp];exact List.drop_eq_getElem_cons hjl:ps.drop j=p::ps.drop (j+1));have q0:wr.cell? ⟨pb,j,none⟩=some (.int .i64 (p:Int)):=by
     rw[yz_ (j7_ hgr HP.out (fun e=>h2 e.symm)) j (by simpa[z9_] using hjl)];simp[z9_,hjl,hp]
    have c0:wr.cell? ⟨c,0,none⟩=some (.slice (some ⟨hb,0,none⟩) n n):=by
     rw[xa_ (j7_ hgr HC.out (fun e=>h1 e.symm))];rfl
    have z0:=yz_ HA.out p (by omega);have f0:=xc_ HA.out p;have i1:(0:Int)≤(j:Int):=(by omega);have i2:(j:Int)<(m:Int):=(by omega);have j1:(0:Int)≤(p:Int):=(by omega);have j2:(p:Int)<(n:Int):=(by omega);clear hp;obtain⟨z,hz⟩:∃ z,hj.getD p 0=z:=⟨_,rfl⟩;rw[hz] at z0;have HZ:=hd_ hz;have HMC:=hd_ (by rw[← HE.out,HDR.out,amm_,hz]:y1_ h ps hs=if z = -1 then y1_ h (ps.drop (j+1)) (hj.set p h) else if z=h then y1_ h (ps.drop (j+1)) hj else none);clear hz;by_cases hm1:z = -1
    · subst hm1;have HF:=hd_ (by rw[HMC.out,if_pos rfl]:y1_ h (ps.drop (j+1)) (hj.set p h)=y1_ h ps hs);go_wp2;have hgl:=HG.out;go_roundg (m - (j+1))
      all_goals first|omega|exact⟨j+1,hj.set p h,by go_num,by omega,by omega,by rw[xk_ HA.out,yp_],by simp[hal],HF.out,x3_ hgr _ _⟩
    · have e1:(z==-1)=false:=(by simpa using hm1);by_cases hzh:z=h
      · subst hzh;have HF:=hd_ (by rw[HMC.out,if_neg hm1,if_pos rfl]:y1_ z (ps.drop (j+1)) hj=y1_ z ps hs);go_wp2;have hgl:=HG.out;go_roundg (m - (j+1))
        all_goals first|omega|exact⟨j+1,hj,by go_num,by omega,by omega,HA.out,hal,HF.out,hgr⟩
      ·have e2:(z==h)=false:=(by simpa using hzh);have HF:=hd_ (by rw[HMC.out,if_neg hm1,if_neg hzh]:y1_ h ps hs=none);go_wp2;go_ret;exact⟨hgr,by rw[HF.out];exact rfl⟩
  ·have hj':¬((j:Int)<(m:Int)):=(by omega);have hjm2:j=m:=(by omega);have HF:=hd_ (by rw[← HE.out,List.drop_eq_nil_of_le (by rw[HM.out];omega)];rfl:y1_ h ps hs=some hj);go_wp2;go_ret;exact⟨hgr,by rw[HF.out];exact⟨rfl,HA.out⟩⟩
def tkN (t:List Ins) (i:Nat):Int:=tkS (nth t i)
def gvN (t:List Ins) (i:Nat):Int:=gvS (nth t i)
theorem ad6_ (x:Ins):1≤zy_ x∧zy_ x≤2:=by unfold zy_;split <;> omega
theorem aj2_ (x:Ins):0≤tkS x∧tkS x≤3:=by
 have:=ad6_ x;unfold tkS;repeat' split
 all_goals omega
theorem vh_ (x:Ins):0≤gvS x∧gvS x≤2:=by
 unfold gvS;repeat' split
 all_goals omega
def aid_ (t:List Ins):Prop:=∀ i,i<t.length→(((nth t i).d=11∨(nth t i).d=12)→(i:Int)<(nth t i).a∧(nth t i).a≤t.length)∧((nth t i).d=14→1≤(nth t i).b∧(nth t i).b≤(i:Int))
theorem aie_ (t:List Ins) (i:Nat) (hi:i<t.length) (h:aid_ t):z9_ (x9_ t i)=wayS i (nth t i)∧∀ p,p∈x9_ t i→p<t.length+1:=by
 obtain⟨h1,h2⟩:=h i hi;unfold x9_ wayS z9_;by_cases e11:(nth t i).d=11
 ·have:=h1 (.inl e11);rw[if_pos e11,if_pos e11];refine⟨by simp;omega,fun p hp=>?_⟩;simp at hp;omega
 rw[if_neg e11,if_neg e11];by_cases e12:(nth t i).d=12
 ·have:=h1 (.inr e12);rw[if_pos e12,if_pos e12];refine⟨by simp;omega,fun p hp=>?_⟩;simp at hp;omega
 rw[if_neg e12,if_neg e12];by_cases e14:(nth t i).d=14
 ·have:=h2 e14;rw[if_pos e14,if_pos e14];refine⟨by simp;omega,fun p hp=>?_⟩;simp at hp;omega
 rw[if_neg e14,if_neg e14];refine⟨by simp,fun p hp=>?_⟩;simp at hp;omega
theorem aif_ (t:List Ins) (i:Nat):(x9_ t i).length≤2:=by
 unfold x9_;repeat' split
 all_goals simp
theorem apa_ {t:List Ins} {i:Nat} {hs:List Int} (he:hgt t (tkN t) (gvN t) i=some hs):∀ p:Nat,(hs[p]?).getD 0≤1000:=by
 induction i generalizing hs with
 | zero=>
  simp only[hgt,Option.some.injEq] at he;subst he;intro p;cases p with
  | zero=>simp
  | succ p=>
   simp only[List.getElem?_cons_succ,List.getElem?_replicate];split <;> simp
 | succ i ih=>
  simp only[hgt] at he;cases h1:hgt t (tkN t) (gvN t) i with
  | none=>rw[h1] at he;simp at he
  | some hs1=>
   rw[h1] at he;simp only[Option.bind_some] at he;split at he
   ·rw[← Option.some.inj he];exact ih h1
   · split at he
     ·simp at he
     · rename_i hc;have hle:(hs1[i]?).getD 0 - tkN t i+gvN t i≤1000:=(by omega);generalize(hs1[i]?).getD 0 - tkN t i+gvN t i=h at *;have key:∀(ps:List Nat) (a b:List Int),(∀ p:Nat,(a[p]?).getD 0≤1000)→y1_ h ps a=some b→∀ p:Nat,(b[p]?).getD 0≤1000:=by
        intro ps;induction ps with
        | nil=>intro a b ha hm;simp only[y1_,Option.some.injEq] at hm;rw[← hm];exact ha
        | cons q ps ihq=>
         intro a b ha hm;simp only[y1_] at hm;split at hm
         · refine ihq _ b (fun p=>?_) hm;rw[List.getElem?_set];split
           · split
             ·simpa using hle
             ·simp
           ·exact ha p
         · split at hm
           ·exact ihq _ b ha hm
           ·simp at hm
       exact key _ _ _ (ih h1) he
def aig_ (n j:Nat) (l:List Int):Prop:=l.length=n∧(∀ i,i<j→l.getD i 0 = -1)∧∀ i,j≤i→i<n→l.getD i 0=0
theorem afc_ {n j:Nat} {l:List Int} (h:aig_ n j l) (hj:j<n):aig_ n (j+1) (l.set j (-1)):=by
 obtain⟨h1,h2,h3⟩:=h;refine⟨by simp[h1],fun i hi=>?_,fun i hi hin=>?_⟩
 · by_cases e:i=j
   ·subst e;simp[List.getD,List.getElem?_set,h1,hj]
   ·have:=h2 i (by omega);simp only[List.getD,List.getElem?_set] at *;rw[if_neg (fun e'=>e e'.symm)];exact this
 ·have:=h3 i (by omega) hin;simp only[List.getD,List.getElem?_set] at *;rw[if_neg (by omega)];exact this
theorem afd_ {n:Nat} {l:List Int} (h:aig_ (n+1) (n+1) l):l.set 0 0=0::List.replicate n (-1):=by
 obtain⟨h1,h2,_⟩:=h;apply List.ext_getElem
 ·simp[h1]
 · intro i a b;have hi:i<n+1:=(by simpa[h1] using a);cases i with
   | zero=>simp
   | succ i=>
    have:=h2 (i+1) hi;have hl:i+1<l.length:=(by omega);simp[List.getD,hl] at this;simp[this]
end Go.Proofs.YtcgbfhpmkpglkaaGreatDoor
namespace Go.Proofs.YtcgbfhpmkpglkaaGreatDoor
theorem ar4_ {t:List Ins} (hB:Bs t) (k e:Nat) (he:isE t e=true) (n:Int) (h1:1≤n) (h2:n≤10000000000000):1≤mulR t k n e∧mulR t k n e≤10000000000000:=by
 unfold mulR;split
 ·rename_i hc;simp only[Bool.and_eq_true,decide_eq_true_eq] at hc;have hb:=hB e he;refine⟨(z7_ h1 hb.1).1,?_⟩;have h3:n*(nth t e).b≤1000000000*(nth t e).b:=Int.mul_le_mul_of_nonneg_right hc.2 (by omega);have h4:(1000000000:Int)*(nth t e).b≤1000000000*10000:=Int.mul_le_mul_of_nonneg_left hb.2 (by omega);omega
 ·exact⟨h1,h2⟩
def j6_ (t:List Ins) (k:Nat) (n:Int) (j:Nat):Int:=((yh_ t t.length).take j).foldl (mulR t k) n
theorem aa5_ (t:List Ins) (k:Nat) (n:Int):j6_ t k n 0=n:=by simp[j6_]
theorem aa6_ (t:List Ins) (k:Nat) (n:Int) (j:Nat) (hj:j<(yh_ t t.length).length):j6_ t k n (j+1)=mulR t k (j6_ t k n j) (yh_ t t.length)[j]:=by
 unfold j6_;rw[List.take_add_one,List.foldl_append];simp[hj]
theorem ad7_ (t:List Ins) (k:Nat) (n:Int):j6_ t k n (yh_ t t.length).length=v2_ t k n t.length:=by
 unfold j6_ v2_;rw[List.take_length];rfl
theorem af4_ {t:List Ins} (hB:Bs t) (k:Nat) (n:Int) (h1:1≤n) (h2:n≤1000000001) (j:Nat) (hj:j≤(yh_ t t.length).length):1≤j6_ t k n j∧j6_ t k n j≤10000000000000:=by
 induction j with
 | zero=>rw[aa5_];omega
 | succ j ih=>
  rw[aa6_ t k n j (by omega)];have:=ih (by omega);exact ar4_ hB k _ (jm_.1 (List.getElem_mem (by omega))).2 _ this.1 this.2
theorem ab7_ {t:List Ins} {e k:Nat} (he:isE t e=true):inL t (e+1) k=(decide (((e+1:Nat):Int)≤(k:Int)) && decide ((k:Int)≤((rnd t (e+1):Nat):Int))):=by
 rw[Bool.eq_iff_iff,xu_];simp[he];omega
theorem acn_ {t:List Ins} (hB:Bs t) (s:Nat→Int) (hs:∀ k,1≤s k) (k m:Nat) (hk:k<t.length) (hkm:k+1≤m) (hs2:s k≤1000000001) (h1:z4_ t s k≤1000000000) (h2:1000000000<z4_ t s k+v2_ t k (s k) t.length):z4_ t s m=yx_:=by
 have e:=aer_ hB s k hk (hs k) hs2 (afs_ hB s hs k).1 h1;rw[if_neg (by omega)] at e;obtain⟨d,rfl⟩:∃ d,m=k+1+d:=⟨m - (k+1),by omega⟩;exact aog_ hB s hs (k+1) d e
theorem aco_ {t:List Ins} (hB:Bs t) (s:Nat→Int) (hs:∀ k,1≤s k) (k:Nat) (hk:k<t.length) (hs2:s k≤1000000001) (h1:z4_ t s k≤1000000000) (h2:z4_ t s k+v2_ t k (s k) t.length≤1000000000):z4_ t s (k+1)=z4_ t s k+v2_ t k (s k) t.length:=by
 have e:=aer_ hB s k hk (hs k) hs2 (afs_ hB s hs k).1 h1;rw[if_pos h2] at e;exact e
end Go.Proofs.YtcgbfhpmkpglkaaGreatDoor
namespace Go.Proofs.YtcgbfhpmkpglkaaGreatDoor
open Go.RowKit
attribute [local go_sem ↓] Go.wp_at_zero Go.wp_at_succ
theorem aad_ (v u:Value) (l:List Int) (w:World) (hv:rd w v l) (hu:rd w u l) (hb:l.length≤17592186044416) :
 Calls Tryz.prog 9 #[v,u] w fun e w'=>e=.returned (.bool true)∧w.grownBy w' none:=by
 obtain⟨a,cap,rfl,ha⟩:=hv;obtain⟨a',cap',rfl,ha'⟩:=hu;have HA:=hd_ ha;have HA':Hid (l=[]∨∃ b off,a'=some ⟨b,off,none⟩∧∀ i,i<l.length→w.cell? ⟨b,off+i,none⟩=some (.int .i64 (l.getD i 0))):=ha';clear ha ha';obtain⟨n,hn⟩:∃ n,l.length=n:=⟨_,rfl⟩;have HN:=hd_ hn;rw[hn] at hb ⊢;clear hn;go_enter Tryz.func9,Tryz.ntmps9;go_wp2;go_loopg [5] n (fun gk s5 wx=>∃ k:Nat,s5=.int .i64 k∧k≤n∧gk=n - k∧w.grownBy wx none)
 case atStart=>exact⟨0,rfl,Nat.zero_le _,by omega,gz_⟩
 case round=>
  obtain⟨k,rfl,hk,hgk,hgr⟩:=hrel;have HG:=hd_ hgk;clear hgk;by_cases hlt:k<n
  · have hkl:k<l.length:=(by rw[HN.out];exact hlt);rcases HA.out with h|⟨b,off,rfl,hc⟩
    ·subst h;simp at hkl
    rcases HA'.out with h|⟨b',off',rfl,hc'⟩
    ·subst h;simp at hkl
    have q0:=hgr.cell (hc k hkl) (by simp);have q1:=hgr.cell (hc' k hkl) (by simp);clear hc hc';generalize l.getD k 0=x at q0 q1;have i1:(0:Int)≤(k:Int):=(by omega);have i2:(k:Int)<(n:Int):=(by omega);go_wp2;go_region_held3 (fun w'=>w'.cell? ⟨b,off+k,none⟩=some (.int .i64 x)∧w'.cell? ⟨b',off'+k,none⟩=some (.int .i64 x)) (go_keep) (fail)
    go_wp2;have hgl:=HG.out;go_roundg (n - (k+1))
    all_goals first|omega|exact⟨k+1,by go_num,by omega,by omega,xf_ hgr⟩
  ·have hk':¬((k:Int)<(n:Int)):=(by omega);go_wp2;go_ret;exact⟨rfl,hgr⟩
def RoomAt (w:World) (c:Nat) (l:List Int):Prop:=∃ ar:List Int,w.heap[c]?=some (.cells (xi_ ar) 3)∧ar.length=l.length+5∧(∀ i,i<l.length→ar.getD i 0=l.getD i 0)∧∀ j,j<5→ar.getD (l.length+j) 0 = -90 - ((l.length+j:Nat):Int)
theorem RoomAt.rd {w:World} {c:Nat} {l:List Int} (h:RoomAt w c l):rd w (.slice (some ⟨c,0,none⟩) l.length (l.length+5)) l:=by
 obtain⟨ar,h1,h2,h3,_⟩:=h;refine⟨_,_,rfl,.inr ⟨c,0,rfl,fun i hi=>?_⟩⟩;rw[xa_ h1,← h3 i hi];simp[xi_,show i<ar.length by omega]
theorem RoomAt.kept {w w':World} {c:Nat} {l:List Int} (h:RoomAt w c l) (hg:w.grownBy w' none):RoomAt w' c l:=by
 obtain⟨ar,h1,h2⟩:=h;exact⟨ar,YtcgbfhpmkpglkaaGreatDoor.kept hg h1,h2⟩
theorem RoomAt.but {w w':World} {c p:Nat} {l:List Int} (h:RoomAt w c l) (hg:w.grownBy w' (some p)) (hne:c≠p):RoomAt w' c l:=by
 obtain⟨ar,h1,h2⟩:=h;exact⟨ar,j7_ hg h1 hne,h2⟩
set_option maxRecDepth 10000 in
theorem afg_ (v:Value) (l:List Int) (w:World) (hr:rd w v l) (hb:l.length≤17592186043904) :
 Calls Tryz.prog 7 #[v] w fun e w'=>e=.returned (.slice (some ⟨w.heap.size,0,none⟩) l.length (l.length+5))∧RoomAt w' w.heap.size l∧w.grownBy w' none:=by
 obtain⟨a,cap,rfl,ha⟩:=hr;obtain⟨n,hn⟩:∃ n,l.length=n:=⟨_,rfl⟩;have HN:=hd_ hn;obtain⟨i0,hi,hz0,hz1,hz2⟩:=yt_ v1_;have hmk:∀ w:World,(Instr.makeSlice 25 (.int .i64 ((n:Int)+5)) (.int .i64 ((n:Int)+5))).run Tryz.prog w=.ok (.slice (some ⟨w.heap.size,0,none⟩) (n+5) (n+5)) (w.alloc (.cells (xi_ (List.replicate (n+5) 0)) 3)):=fun w=>by
  have h:=run_make (P:=Tryz.prog) w 25 3 i0 (.int .i64 0) Tryz.underlying25 hi hz0 .i64 .i64 ((n:Int)+5) ((n:Int)+5) (by omega) (by omega) (by rw[hz2];simp;omega) (by omega);rw[hz1,afb_] at h;have e:((n:Int)+5).toNat=n+5:=(by omega);rw[e] at h;simpa using h
 have HA:=hd_ ha;rw[hn] at hb ⊢;clear ha hi hz0 hz1 hz2;have hcp:∃ w2,(Builtin.copy_ #[25,25] 3 #[.slice (some ⟨w.heap.size,0,none⟩) (n+5) (n+5),.slice a n cap]).run Tryz.prog (w.alloc (.cells (xi_ (List.replicate (n+5) 0)) 3))=.ok (.int .i64 n) w2∧w2.heap[w.heap.size]?=some (.cells (xi_ (l++List.replicate 5 0)) 3)∧w.grownBy w2 none:=by
  have hs:(Tryz.prog.info? 3).map (·.size)=some 1:=(by kernel_rfl);rcases HA.out with h|⟨b,off,rfl,hc⟩
  ·have h0:n=0:=(by rw[← HN.out,h];rfl);subst h0;refine⟨_,run_copy_none _ 25 25 3 3 _ a 5 5 0 cap Tryz.underlying25 hs (by simp),?_,xb_ gz_ _⟩;rw[h];exact heap_alloc_new _ _
  · have hcell:∀ j v,(l.map (Value.int .i64))[j]?=some v→(w.alloc (.cells (xi_ (List.replicate (n+5) 0)) 3)).cell? ((⟨b,off,none⟩:Addr).add j)=some v:=fun j u hj=>by
     have hjl:j<l.length:=by
      rcases Nat.lt_or_ge j l.length with h|h
      ·exact h
      ·simp[List.getElem?_eq_none (show(l.map (Value.int .i64)).length≤j by simpa using h)] at hj
     rw[jc_];have:=(xb_ (World.grownBy.refl w none) (.cells (xi_ (List.replicate (n+5) 0)) 3)).cell (hc j hjl) (by simp);rw[this];simp[List.getElem?_eq_getElem hjl] at hj;subst hj;simp[hjl]
    have hr:=run_copy_row (P:=Tryz.prog) (w.alloc (.cells (xi_ (List.replicate (n+5) 0)) 3)) 25 25 3 3 w.heap.size 0 (n+5) (n+5) ⟨b,off,none⟩ n cap (xi_ (List.replicate (n+5) 0)) 3 (l.map (Value.int .i64)) Tryz.underlying25 hs (heap_alloc_new _ _) (by rw[List.length_map,HN.out];exact(Nat.min_eq_left (by omega)).symm) hcell (by simp[xi_,HN.out]) (by simp[Value.oneCell']);rw[List.length_map,HN.out] at hr;refine⟨_,hr,?_,?_⟩
    ·rw[setRow_heap _ _ _ _ 3 _ (heap_alloc_new _ _)];congr 2;simp[xi_,HN.out]
    ·exact an3_ (below_setRow (ag5_ (xb_ gz_ _)) (Nat.le_refl _) _)
 obtain⟨w2,hcopy,hg2,hb2⟩:=hcp;have HG2:=hd_ hg2;clear hg2 HA;go_enter Tryz.func7,Tryz.ntmps7;go_wp2;clear hmk hcopy;go_loopg [4] 5 (fun gk s4 wx=>∃(k:Nat) (ar:List Int),s4=.int .i64 ((n+k:Nat):Int)∧k≤5∧gk=5 - k∧wx.heap[w.heap.size]?=some (.cells (xi_ ar) 3)∧ar.length=n+5∧(∀ i,i<n→ar.getD i 0=l.getD i 0)∧(∀ j,j<k→ar.getD (n+j) 0 = -90 - ((n+j:Nat):Int))∧w.grownBy wx none)
 case atStart=>exact⟨0,_,rfl,by omega,by omega,HG2.out,by simp[HN.out],fun i hi=>by
  have:i<l.length:=(by rw[HN.out];exact hi);simp[List.getD,List.getElem?_append,this],by omega,hb2⟩
 case round=>
  obtain⟨k,ar,rfl,hk,hgk,har,hal,ha1,ha2,hgr⟩:=hrel;have HGK:=hd_ hgk;have HAR:=hd_ har;have H1:=hd_ ha1;have H2:=hd_ ha2;clear hgk ha1 ha2;by_cases hlt:k<5
  · have q2:wr.cell? ⟨w.heap.size,n+k,none⟩=some (.int .i64 (ar.getD (n+k) 0)):=(by rw[xa_ har];simp[xi_,show n+k<ar.length by omega]);have f2:=xc_ har (n+k);clear har;have i1:(0:Int)≤((n+k:Nat):Int):=(by omega);have i2:((n+k:Nat):Int)<((n+5:Nat):Int):=(by omega);go_wp2;have hgl:=HGK.out;go_roundg (5 - (k+1))
    all_goals first|omega|(refine⟨k+1,ar.set (n+k) (-90 - ((n:Int)+(k:Int))),by go_num,by omega,by omega,?_,by simp[hal],?_,?_,?_⟩)
    ·rw[xk_ HAR.out,yp_]
    ·intro i hi;rw[← H1.out i hi];simp[List.getD,List.getElem?_set,show ¬n+k=i by omega]
    · intro j hj;by_cases e:j=k
      ·subst e;simp[List.getD,List.getElem?_set,show n+j<ar.length by omega]
      ·rw[← H2.out j (by omega)];simp[List.getD,List.getElem?_set,show ¬k=j by omega]
    ·exact yc_ hgr (Nat.le_refl _) _ _
  ·have hk':¬(((n+k:Nat):Int)<((n+5:Nat):Int)):=(by omega);go_wp2;go_ret;refine⟨rfl,⟨ar,HAR.out,by rw[HN.out];exact hal,fun i hi=>H1.out i (by rw[← HN.out];exact hi),fun j hj=>?_⟩,hgr⟩;rw[HN.out];exact H2.out j (by omega)
set_option maxRecDepth 10000 in
theorem aeb_ (c:Nat) (u:Value) (l:List Int) (w:World) (hR:RoomAt w c l) (hu:rd w u l) (hb:l.length≤17592186044416) :
 Calls Tryz.prog 10 #[.slice (some ⟨c,0,none⟩) l.length (l.length+5),u] w fun e w'=>e=.returned (.bool true)∧w.grownBy w' none:=by
 obtain⟨a,cap,rfl,ha⟩:=hu;have HA:=hd_ ha;have HR:=hd_ hR;clear ha hR;obtain⟨n,hn⟩:∃ n,l.length=n:=⟨_,rfl⟩;have HN:=hd_ hn;rw[hn] at hb ⊢;clear hn;go_enter Tryz.func10,Tryz.ntmps10;go_wp2;go_loopg [6] (n+5) (fun gk s6 wx=>∃ k:Nat,s6=.int .i64 k∧k≤n+5∧gk=n+5 - k∧w.grownBy wx none)
 case atStart=>exact⟨0,rfl,Nat.zero_le _,by omega,gz_⟩
 case round=>
  obtain⟨k,rfl,hk,hgk,hgr⟩:=hrel;have HG:=hd_ hgk;clear hgk;by_cases hlt:k<n+5
  · obtain⟨ar,h1,h2,h3,h4⟩:=HR.out.kept hgr;rw[HN.out] at h2;have q0:wr.cell? ⟨c,k,none⟩=some (.int .i64 (ar.getD k 0)):=(by rw[xa_ h1];simp[xi_,show k<ar.length by omega]);have i1:(0:Int)≤(k:Int):=(by omega);have i2:(k:Int)<((n+5:Nat):Int):=(by omega);by_cases hkn:k<n
    · have hkl:k<l.length:=(by rw[HN.out];exact hkn);rw[h3 k hkl] at q0;rcases HA.out with h|⟨b,off,rfl,hc⟩
      ·subst h;simp at hkl
      have q1:=hgr.cell (hc k hkl) (by simp);generalize l.getD k 0=x at q0 q1;have i3:decide ((k:Int)<(n:Int))=true:=(by simp;omega);have i4:decide ((n:Int)≤(k:Int))=false:=(by simp;omega);have i5:decide (k<n)=true:=(by simp;omega);have i6:decide (n≤k)=false:=(by simp;omega);clear hc h1 h2 h3 h4;go_wp2;go_quiet (fail)
      go_wp2;have hgl:=HG.out;go_roundg (n+5 - (k+1))
      all_goals first|omega|exact⟨k+1,by go_num,by omega,by omega,x4_ hgr _⟩
    · have h5:=h4 (k - n) (by omega);rw[HN.out,show n+(k - n)=k by omega] at h5;rw[h5] at q0;have i3:decide ((k:Int)<(n:Int))=false:=(by simp;omega);have i4:decide ((n:Int)≤(k:Int))=true:=(by simp;omega);have i5:decide (k<n)=false:=(by simp;omega);have i6:decide (n≤k)=true:=(by simp;omega);clear h1 h2 h3 h4 h5;go_wp2;go_quiet (fail)
      go_wp2;have hgl:=HG.out;go_roundg (n+5 - (k+1))
      all_goals first|omega|exact⟨k+1,by go_num,by omega,by omega,x4_ hgr _⟩
  ·have hk':¬((k:Int)<((n+5:Nat):Int)):=(by omega);go_wp2;go_ret;exact⟨rfl,hgr⟩
end Go.Proofs.YtcgbfhpmkpglkaaGreatDoor
namespace Go.Proofs.YtcgbfhpmkpglkaaGreatDoor
open Go.RowKit
def lpV (t:List Ins) (e:Nat):List Value:=[.int .i64 ((e:Int)+1),.int .i64 (rnd t (e+1)),.int .i64 (nth t e).a,.int .i64 (nth t e).b]
theorem awc_ {α:Type} (f:α→List Value) (hf:∀ a,(f a).length=4) (l:List α) (i r:Nat) (hr:r<4) (hi:i<l.length):(l.flatMap f)[i*4+r]?=(f l[i])[r]?:=by
 induction l generalizing i with
 | nil=>simp at hi
 | cons x l ih=>
  rw[List.flatMap_cons];cases i with
  | zero=>
   rw[List.getElem?_append_left (by rw[hf];omega)];simp
  | succ i=>
   rw[List.getElem?_append_right (by rw[hf];omega),hf];have:=ih i (by simpa using hi);rw[show(i+1)*4+r - 4=i*4+r by omega,this];simp
def LpsAt (w:World) (v:Value) (t:List Ins) (l:List Nat):Prop:=
 ∃ a cap,v=.slice a l.length cap∧(l=[]∨∃ b off,a=some ⟨b,off,none⟩∧∀ i,i<l.length→
  w.cell? ⟨b,off+i*4,none⟩=some (.int .i64 (((l.getD i 0):Nat)+1:Int))∧w.cell? ⟨b,off+i*4+1,none⟩=some (.int .i64 (rnd t (l.getD i 0+1)))∧
  w.cell? ⟨b,off+i*4+2,none⟩=some (.int .i64 (nth t (l.getD i 0)).a)∧w.cell? ⟨b,off+i*4+3,none⟩=some (.int .i64 (nth t (l.getD i 0)).b))
theorem LpsAt.grown {w w':World} {v:Value} {t:List Ins} {l:List Nat} (h:LpsAt w v t l) (hg:w.grownBy w' none):LpsAt w' v t l:=by
 obtain⟨a,cap,rfl,h|⟨b,off,rfl,hc⟩⟩:=h
 ·exact⟨a,cap,rfl,.inl h⟩
 ·exact⟨_,cap,rfl,.inr ⟨b,off,rfl,fun i hi=>⟨hg.cell (hc i hi).1 (by simp),hg.cell (hc i hi).2.1 (by simp),hg.cell (hc i hi).2.2.1 (by simp),hg.cell (hc i hi).2.2.2 (by simp)⟩⟩⟩
def OwnL (B:Nat) (w:World) (v:Value) (t:List Ins) (l:List Nat):Prop:=w.ownsRow B 71 4 v l.length (l.flatMap (lpV t))
theorem OwnL.nil (B:Nat) (w:World) (t:List Ins):OwnL B w (.slice none 0 0) t []:=World.ownsRow_nil w B 71 4
theorem OwnL.keptN {B:Nat} {w w':World} {v:Value} {t:List Ins} {l:List Nat} (h:OwnL B w v t l) (hg:w.grownBy w' none):OwnL B w' v t l:=by
 refine World.ownsRow.kept h hg ?_;cases hv:v.ownBlock with
 | none=>exact .inl rfl
 | some x=>exact .inr (by simp)
theorem OwnL.row {B:Nat} {w:World} {v:Value} {t:List Ins} {l:List Nat} (h:OwnL B w v t l):∀ x,v.ownBlock=some x→B≤x:=fun x hx=>(World.ownsRow.lt h x hx).1
theorem OwnL.form {B:Nat} {w:World} {v:Value} {t:List Ins} {l:List Nat} (h:OwnL B w v t l):∃ a cap,v=.slice a l.length cap:=by
 obtain⟨_,⟨rfl,hn⟩|⟨g,cap,cur,rfl,_⟩⟩:=h
 ·rw[hn];exact⟨none,0,rfl⟩
 ·exact⟨_,cap,rfl⟩
theorem OwnL.at {B:Nat} {w:World} {v:Value} {t:List Ins} {l:List Nat} (h:OwnL B w v t l):LpsAt w v t l:=by
 have h':=h;obtain⟨_,⟨rfl,hn⟩|⟨g,cap,cur,rfl,_⟩⟩:=h
 ·have:l=[]:=(by simpa using hn);subst this;exact⟨none,0,rfl,.inl rfl⟩
 · refine⟨_,cap,rfl,.inr ⟨g,0,rfl,fun i hi=>?_⟩⟩;have key:∀ r,r<4→w.cell? ⟨g,0+i*4+r,none⟩=(lpV t l[i])[r]?:=fun r hr=>by
    rw[Nat.zero_add,World.ownsRow.cellAt h' (i*4+r) (by omega),awc_ _ (fun _=>rfl) l i r hr hi]
   have k0:=key 0 (by omega);have k1:=key 1 (by omega);have k2:=key 2 (by omega);have k3:=key 3 (by omega);have e:l.getD i 0=l[i]:=(by simp[hi]);rw[e];simp only[lpV,List.getElem?_cons_zero,List.getElem?_cons_succ,Nat.add_zero] at k0 k1 k2 k3;exact⟨k0,k1,k2,k3⟩
theorem aur_:(Tryz.prog.info? 71).map (fun i=>(i.zero,i.size,i.bytes))=some (some (.agg #[.int .i64 0,.int .i64 0,.int .i64 0,.int .i64 0]),4,32):=by kernel_rfl
theorem OwnL.more {B:Nat} {W:World} {v:Value} {t:List Ins} {l:List Nat} (h:OwnL B W v t l) (e:Nat) (xb:Nat) (hx:W.heap[xb]?=some (.cells (lpV t e).toArray 71)) (hl:l.length≤1000000) (hB:B≤W.heap.size) :
 ∃ v' w',(Builtin.append_ #[66,66] 66 #[v,.slice (some ⟨xb,0,none⟩) 1 1]).run Tryz.prog W=.ok v' w'∧OwnL B w' v' t (l++[e])∧W.grownBy w' v.ownBlock:=by
 obtain⟨i0,hi,hz0,hz1,hz2⟩:=yt_ aur_;obtain⟨v',w',r1,r2,r3,_,_⟩:=run_append_own_at (P:=Tryz.prog) W B 66 66 71 i0 (.agg #[.int .i64 0,.int .i64 0,.int .i64 0,.int .i64 0]) 4 32 Tryz.underlying66 hi hz0 hz1 hz2 rfl (by omega) _ _ _ h ⟨xb,0,none⟩ 1 1 (lpV t e) rfl
  (fun j u hj=>by
    rw[jc_,xa_ hx (0+j)];simpa using hj)
  (by simp[lpV,Value.oneCell']) (by unfold maxLen;omega) (by omega) hB
 refine⟨v',w',r1,?_,r3⟩;unfold OwnL;simpa using r2
def rdsK (t:List Ins) (k:Nat):Nat:=(t.take k).countP (fun x=>x.d==14)
theorem amn_ (t:List Ins) (k:Nat) (hk:k<t.length):rdsK t (k+1)=rdsK t k+(if isR t k then 1 else 0):=u4_ t _ k hk
theorem ar5_ (t:List Ins) (k:Nat):rdsK t k≤k:=by
 unfold rdsK;have:=List.countP_le_length (p:=fun x:Ins=>x.d==14) (l:=t.take k);simp at this;omega
theorem amo_ (t:List Ins):rdsK t t.length=t.countP (fun x=>x.d==14):=by simp[rdsK]
def alm_ (t:List Ins) (e:Nat):Prop:=isE t e=true→rnd t (e+1)<t.length∧e+1≤rnd t (e+1)∧(nth t (rnd t (e+1))).a=(nth t e).a
theorem aih_ (t:List Ins):LpOk t↔(∀ e,e<t.length→alm_ t e)∧rdsK t t.length=(yh_ t t.length).length:=by
 rw[amo_,ajg_];exact⟨fun h=>⟨fun e _=>h.enters e,h.same⟩,fun h=>⟨fun e he=>h.1 e (aam_ he) he,h.2⟩⟩
end Go.Proofs.YtcgbfhpmkpglkaaGreatDoor
