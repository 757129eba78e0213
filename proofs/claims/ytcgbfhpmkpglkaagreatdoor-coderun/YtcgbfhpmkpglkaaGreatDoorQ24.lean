/- Texts put together: X2, X3. -/
import Derived.Test.YtcgbfhpmkpglkaaGreatDoorQ22
set_option linter.unusedVariables false
set_option linter.unusedSimpArgs false
set_option maxHeartbeats 8000000
namespace Go.Proofs.YtcgbfhpmkpglkaaGreatDoor
open Go.RowKit
attribute [local go_sem ↓] Go.wp_at_zero Go.wp_at_succ
def CtE (ps:List Pr) (now:Int) (u off i:Nat) (cs:List Int) (m m0:Ms):Prop:=∀ k m',Ex ps now k u off i cs m m'→∃ k',Ex ps now k' u off 0 j4_ m0 m'
def RlX (ps:List Pr) (u:Nat) (m0:Ms) (c w0 w1:World) (B M F off fn fc al C:Nat) (sl0:Int) (pv:Value) (now:Int) (r0:Option Nat) (sp0 fl0 bd:Int) (t:List Ins) (s:Nat→Int) (gk i:Nat) (wx:World):Prop:=
 ∃ sa sc st ar sp fl cs,Ctx c wx B M F off fn fc ar pv now sa sc st sp fl∧wx.heap[C]?=some (.cells (xi_ cs) 82)∧(cs.length=40∧∀ x,x∈cs→x≤10000)∧ar.length=al∧Cn t (cF cs) i∧Lc t i∧(Hh t i≠-1∧Hh t i≤1000)∧(st.length:Int)=sl0+Hh t i∧sp+phi t s (cF cs) i≤sp0+bd∧sp0≤sp∧fl0≤fl∧fl≤fl0+(sp - sp0)∧Chg M (some F) r0 w0 wx∧Nx w1 r0 (sb sa)∧CtE ps now u off i cs ⟨st,ar,sp,fl⟩ m0∧gk=(phi t s (cF cs) i).toNat
theorem abq_ {ps:List Pr} {u:Nat} {m0:Ms} {c w0 w1 w':World} {B M F off fn fc al C:Nat} {sl0:Int} {pv:Value} {now:Int} {r0:Option Nat} {sp0 fl0 bd:Int} {t:List Ins} {s:Nat→Int} {i p:Nat} {sa':Option Addr} {sc':Nat} {st' ar':List Int} {sp sp' fl':Int} {cs cs':List Int}
 (hN:Nxt t s (cF cs) i p (cF cs')) (hx:Ctx c w' B M F off fn fc ar' pv now sa' sc' st' sp' fl') (hcb:w'.heap[C]?=some (.cells (xi_ cs') 82)) (hcl:cs'.length=40∧∀ x,x∈cs'→x≤10000) (hal:ar'.length=al) (hst:(st'.length:Int)=sl0+Hh t p) (hph:sp+phi t s (cF cs) i≤sp0+bd) (h1:sp0≤sp') (h2:sp'≤sp+s i) (h3:fl0≤fl') (h4:fl'≤fl0+(sp' - sp0)) (hchg:Chg M (some F) r0 w0 w') (hnx:Nx w1 r0 (sb sa')) (hce:CtE ps now u off p cs' ⟨st',ar',sp',fl'⟩ m0) :
 RlX ps u m0 c w0 w1 B M F off fn fc al C sl0 pv now r0 sp0 fl0 bd t s (phi t s (cF cs') p).toNat p w':=by
 obtain⟨n1,n2,n3,n4,n5,n6,n7⟩:=hN;exact⟨sa',sc',st',ar',sp',fl',cs',hx,hcb,hcl,hal,n2,n3,⟨by omega,n7⟩,hst,by omega,h1,h3,h4,hchg,hnx,hce,rfl⟩
set_option maxRecDepth 10000 in
theorem ano_ (ps:List Pr) (c:World) (pb po np pcap u fn tb to' tn tc:Nat) (kd now:Int) (l:List (Int×Nat)) (bds:List Int) (t:List Ins) (hT:TxtC c pb (po+u*5) tb to' tn tc t) (hP:ProgOk l kd fn t) (hlu:l.length=u) (hu:u≤16) (hS:Stds c) (hnp:l.length≤np) (hfst:∀ u,u<l.length→∃ fa ffc,c.cell? ⟨pb,po+u*5+2,none⟩=some (.slice fa (l.getD u (0,0)).2 ffc)) (hR:∀ u,u<l.length→RunX c pb po np pcap ps u (l.getD u (0,0)).2 (bds.getD u 0) now)
 (hb0:∀ u,0≤bds.getD u 0) (hsum:vj_ bds t≤1000000000) (hs1:∀ k,1≤yi_ bds (nth t k)) (htx:txt ps u=t) (hok:ac5_ ps) (hlp:l.length≤ps.length) (hlg:∀ u,u<l.length→(l.getD u (0,0)).2=(ps.getD u pr0).fs.length):RunX c pb po np pcap ps u fn (vj_ bds t) now:=by
 intro w B M F off fc ar0 sa0 sc0 st0 sp0 fl0 h0 hsp0 hfl0 hst0;have L:=abd_ hP;have HL:Hid (Lk t):=L;have HPO:Hid (ProgOk l kd fn t):=hP;have HT:Hid (TxtC c pb (po+u*5) tb to' tn tc t):=hT;have HH0:Hid (Ctx c w B M F off fn fc ar0 (.slice (some ⟨pb,po,none⟩) np pcap) now sa0 sc0 st0 sp0 fl0):=h0;have HS1:Hid (∀ k,1≤yi_ bds (nth t k)):=hs1;have HB0:Hid (∀ u,0≤bds.getD u 0):=hb0;have HSS:Hid (Stds c):=hS;have HFS:Hid (∀ u,u<l.length→∃ fa ffc,c.cell? ⟨pb,po+u*5+2,none⟩=some (.slice fa (l.getD u (0,0)).2 ffc)):=hfst;have HRR:Hid (∀ u,u<l.length→RunX c pb po np pcap ps u (l.getD u (0,0)).2 (bds.getD u 0) now):=hR;have HTX:Hid (txt ps u=t):=htx;have HOK:Hid (ac5_ ps):=hok;have HLP:Hid (l.length≤ps.length∧∀ u,u<l.length→(l.getD u (0,0)).2=(ps.getD u pr0).fs.length):=⟨hlp,hlg⟩;obtain⟨m0,hm0⟩:∃ m0:Ms,m0=⟨st0,ar0,sp0,fl0⟩:=⟨_,rfl⟩;have HM0:Hid (m0=⟨st0,ar0,sp0,fl0⟩):=hm0;have htn:=hT.len;have htl:=hP.len;rw[htn] at htl;have HLU:Hid (l.length=u):=hlu;obtain⟨s,hs⟩:∃ s:Nat→Int,s=fun k=>yi_ bds (nth t k):=⟨_,rfl⟩;have HSD:Hid (s=fun k=>yi_ bds (nth t k)):=hs;have HSN:Hid (∀ k,1≤s k):=fun k=>by rw[hs];exact hs1 k
 have HS0:Hid (∀ k,k<t.length→0≤s k):=fun k _=>by have:=HSN.out k;omega
 have HPH:Hid (∀ c,phi t s c 0=vj_ bds t):=fun c=>by
  rw[ann_ L.bs HSN.out c (by rw[hs];exact hsum),hs];rfl
 have hbw:=h0.bw;clear hT hP h0 hs1 hb0 hS hfst hR L hs htx hok hlp hlg hm0;obtain⟨C,hC⟩:∃ C,w.heap.size=C:=⟨_,rfl⟩;have HCC:Hid (w.heap.size=C):=hC;generalize hbd:vj_ bds t=bd at *;have HBD:Hid (vj_ bds t=bd):=hbd;clear hbd;go_enter Tryz.func18,Tryz.ntmps18;go_wp2_with fail
 have HW1:Hid ((w.alloc (.cells (xi_ (List.replicate 40 0)) 82)).heap[C]?=some (.cells (xi_ (List.replicate 40 0)) 82)):=(xj_ hC.symm _:(w.alloc (.cells (xi_ (List.replicate 40 0)) 82)).heap[C]?=some (.cells (xi_ (List.replicate 40 0)) 82));have HR0:Hid (RlX ps u m0 c w (w.alloc (.cells (xi_ (List.replicate 40 0)) 82)) B M F off fn fc ar0.length C (st0.length:Int) (.slice (some ⟨pb,po,none⟩) np pcap) now (sb sa0) sp0 fl0 bd t s bd.toNat 0 (w.alloc (.cells (xi_ (List.replicate 40 0)) 82))):=
  ⟨sa0,sc0,st0,ar0,sp0,fl0,List.replicate 40 0,HH0.out.kept (gr1 _ _),HW1.out,⟨by simp,fun x hx=>by have:=List.eq_of_mem_replicate hx;omega⟩,rfl,aqr_ _,atk_ t,by rw[alp_];exact⟨by omega,by omega⟩,by rw[alp_];omega,by rw[HPH.out];omega,by omega,by omega,by omega,Chg.of_none (gr1 _ _),Nx.refl _ _,fun k m' h=>⟨k,by rw[HM0.out];exact h⟩,by rw[HPH.out]⟩
 generalize hw1:w.alloc (.cells (xi_ (List.replicate 40 0)) 82)=w1 at HR0 HW1;have hws:w1.heap.size=C+1:=(by rw[← hw1];simp[hC]);have HWG:Hid (w.grownBy w1 none):=hw1▸gr1 _ _;have HR1:Hid (∀ y,(sb sa0)=some y→y<C∧B≤y):=fun y hy=>by have:=HH0.out.ma.row y hy;have:=HCC.out;omega
 clear HPH HW1;go_loopg [7] bd.toNat (fun gk s7 wx=>∃ i:Nat,s7=.int .i64 i∧i≤tn∧RlX ps u m0 c w w1 B M F off fn fc ar0.length C (st0.length:Int) (.slice (some ⟨pb,po,none⟩) np pcap) now (sb sa0) sp0 fl0 bd t s gk i wx)
 case atStart=>exact⟨0,rfl,Nat.zero_le _,by have h:=HR0.out;rw[← hw1] at h ⊢;exact h⟩
 case round=>
  obtain⟨i,rfl,hin,sa,sc,st,ar,sp,fl,cs,hctx,hcb,⟨hcl,hcm⟩,hal,hcn,hlc,⟨hhl,hhm⟩,hsl,hph,hsp,hf1,hf2,hchg,hnx,hce,hgk⟩:=hrel;have HCE:Hid (CtE ps now u off i cs ⟨st,ar,sp,fl⟩ m0):=hce;have HCX:Hid (Ctx c wr B M F off fn fc ar (.slice (some ⟨pb,po,none⟩) np pcap) now sa sc st sp fl):=hctx;by_cases hlt:i<tn
  · have hit:i<t.length:=(by rw[htn];exact hlt);have hphi:=abp_ (s:=s) HL.out.bs HS0.out hcn;have hq4:=hctx.cw.cell HT.out.cell (by simp);have m3:=xa_ hctx.ma.blk 3;simp at m3;have f3:=xc_ hctx.ma.blk 3;have hw3:=kv_ sp hctx.s0 hctx.s1;have i1:(0:Int)≤(i:Int):=(by omega);have i2:(i:Int)<(tn:Int):=(by omega);go_upto_region 6 with fail;have hsb:s i≤phi t s (cF cs) i:=by
     have:=HSN.out i;have h1:1≤1:=(by omega);exact avy_ HL.out HS0.out hit hcn
    have HSI:Hid (s i=yi_ bds (nth t i)):=(by rw[HSD.out];exact rfl);have hsi:=HSN.out i;have hspB:sp+1≤1000000000:=(by omega);have hx2:=hctx.step (by omega);generalize hw2:wr.setCell ⟨M,3,none⟩ (.int .i64 (sp+1))=w2;rw[hw2] at hx2;have hC2:Chg M (some F) (sb sa) wr w2:=hw2▸q4_ M 3 _ _ wr _;have hMB:=hctx.ma.lo;have hcb2:w2.heap[C]?=some (.cells (xi_ cs) 82):=(by rw[← hw2,Below.heap_setCell _ _ _ _ (by simp;omega)];exact hcb);have HC2:Hid (Ctx c w2 B M F off fn fc ar (.slice (some ⟨pb,po,none⟩) np pcap) now sa sc st (sp+1) fl):=hx2;have HCB:Hid (w2.heap[C]?=some (.cells (xi_ cs) 82)):=hcb2;have HCM:Hid (cs.length=40∧∀ x,x∈cs→x≤10000):=⟨hcl,hcm⟩;have HNW:Hid (Nx w (sb sa0) (sb sa)):=Nx.trans HWG.out.size (Nx.refl _ _) hnx;have HCH:Hid (Chg M (some F) (sb sa0) w w2):=hchg.trans HNW.out hC2;have HNX:Hid (Nx w1 (sb sa0) (sb sa)):=hnx;have hFB:=hctx.fb;have HNC:Hid (some C≠sb sa):=fun e=>by
     rcases hnx with h|h
     ·have:=(HR1.out C (h▸e.symm)).1;omega
     ·have:=h C e.symm;omega
    have hins:=(HT.out.ins i hlt).grown hx2.cw;have HIN:Hid (InsAt c tb (to'+i*4) (nth t i)):=HT.out.ins i hlt;have hmay:=HPO.out.may i hit;have hhs:=abc_ HPO.out.stack hit hhl;have HHS:Hid (tkN t i≤Hh t i∧Hh t i - tkN t i+gvN t i≤1000∧(∀ p,p∈x9_ t i→i<p→p≤t.length→Hh t p=Hh t i - tkN t i+gvN t i)∧(∀ p,p∈x9_ t i→p≤i→Hh t p≠-1→Hh t p=Hh t i - tkN t i+gvN t i)):=hhs;have HCN:Hid (Cn t (cF cs) i):=hcn;have HLC:Hid (Lc t i):=hlc;have HPHI:Hid (0≤phi t s (cF cs) i∧sp+phi t s (cF cs) i≤sp0+bd∧s i≤phi t s (cF cs) i∧gk=(phi t s (cF cs) i).toNat):=⟨hphi,hph,hsb,hgk⟩;have HMAY:Hid (ug_ l fn t.length i (nth t i)=true):=hmay;have HHL:Hid (Hh t i≠-1):=hhl;have hhge:=awl_ HPO.out.stack (Nat.le_of_lt hit);obtain⟨q0,q1,q2,q3⟩:=hins;obtain⟨x,hxe⟩:∃ x,nth t i=x:=⟨_,rfl⟩;have HXE:Hid (nth t i=x):=hxe;rw[hxe] at q0 q1 q2 q3;obtain⟨d,a,b,cc⟩:=x;dsimp only at q0 q1 q2 q3;have HGD:Hid (Gd ⟨d,a,b,cc⟩ ⟨st,ar,sp,fl⟩):=by
     have t1:=hhs.1;simp only[tkN,hxe] at t1;exact⟨by dsimp only;omega,by dsimp only;omega,hctx.s0,by dsimp only;omega,hctx.f0,by dsimp only;omega⟩
    have HIT:Hid (i<(txt ps u).length∧nth (txt ps u) i=⟨d,a,b,cc⟩):=(by rw[HTX.out];exact⟨hit,hxe⟩);clear hctx hcb hcn hlc hphi hph hsb hgk hmay hhs hw2 hC2 hcb2 hcm hchg hnx hx2 m3 f3 hw3 hq4 hxe hce;by_cases h11:d=11
    · subst h11;obtain⟨nx,hk⟩:=alq_ (s:=s) HPO.out HS0.out hit HCN.out HLC.out HHL.out (by rw[HXE.out];exact .inl rfl);have HNN:Hid (Nxt t s (cF cs) i (nth t i).a.toNat (cF cs)):=nx;have hkt:=nx.2.2.2.2.2.1;rw[HXE.out] at hk hkt;dsimp only at hk hkt;obtain⟨k,hkd⟩:∃ k,a.toNat=k:=⟨_,rfl⟩;rw[hkd] at hk hkt;have HKA:Hid ((nth t i).a.toNat=k):=(by rw[HXE.out];exact hkd);subst hk;clear nx hkd;go_wp2;go_roundg ((phi t s (cF cs) k).toNat)
      case rel=>exact⟨k,rfl,by omega,abq_ (sp:=sp) (HKA.out▸HNN.out) HC2.out HCB.out HCM.out hal (by have:=(HKA.out▸HNN.out:Nxt t s (cF cs) i k (cF cs)).2.2.2.1;simp[tkN,gvN,HXE.out,tkS,gvS] at this;omega) HPHI.out.2.1 (by omega) (by omega) (by omega) (by omega) HCH.out HNX.out (fun k' m' h=>HCE.out _ m' (Ex.jump _ HIT.out.1 HIT.out.2 rfl HGD.out (by dsimp only;omega) (by rw[HTX.out];simpa using hkt) (by simpa[Ms.tick] using h)))⟩
      case measure=>exact aag_ HL.out HS0.out (HKA.out▸HNN.out:Nxt t s (cF cs) i k (cF cs)) (HSN.out i) HPHI.out.2.2.2
    · have g11:(d==11)=false:=(by simpa using h11);by_cases h12:d=12
      · subst h12;have HTK:Hid (1≤Hh t i):=(by have h1:=HHS.out.1;simp[tkN,HXE.out,tkS] at h1;exact h1);obtain⟨r,v,rfl⟩:=vb_ (st:=st) (by have:=HTK.out;omega);obtain⟨nx,hk⟩:=alq_ (s:=s) HPO.out HS0.out hit HCN.out HLC.out HHL.out (by rw[HXE.out];exact .inr rfl);have ny:=aix_ (s:=s) HPO.out HS0.out hit HCN.out HLC.out HHL.out (by simp[isE,HXE.out]) (by simp[isR,HXE.out]) (by simp[x9_,HXE.out]);have HNY:Hid (Nxt t s (cF cs) i (i+1) (cF cs)):=ny;have HNN:Hid (Nxt t s (cF cs) i (nth t i).a.toNat (cF cs)):=nx;have hkt:=nx.2.2.2.2.2.1;rw[HXE.out] at hk hkt;dsimp only at hk hkt;obtain⟨k,hkd⟩:∃ k,a.toNat=k:=⟨_,rfl⟩;rw[hkd] at hk hkt;have HKA:Hid ((nth t i).a.toNat=k):=(by rw[HXE.out];exact hkd);have HNK:Hid (Nxt t s (cF cs) i k (cF cs)):=HKA.out▸HNN.out;subst hk;clear nx ny hkd;have HCL:=all_ B M _ now sa sc r (sp+1) fl v w2 HC2.out.ma (by have:=HC2.out.sl;simp at this;omega);go_wp2_with fail
        refine HCL.mono ?_;rintro e w3 ⟨rfl,g1,g2,g3⟩;have HC3:Hid (Ctx c w3 B M F off fn fc ar (.slice (some ⟨pb,po,none⟩) np pcap) now sa sc r (sp+1) fl∧w3.heap[C]?=some (.cells (xi_ cs) 82)∧ar.length=ar0.length∧Chg M (some F) (sb sa0) w w3∧Nx w1 (sb sa0) (sb sa)):=by
         have hx:=HC2.out;refine⟨⟨g1,hx.fr.chg g2 hx.fm rfl (fun y hy=>by have:=(hx.ma.row y hy).1;have:=hx.fb;omega),hx.fm,hx.fb,y4_ hx.cw g2 hx.cM (fun y hy=>by simp at hy) (fun y hy=>by have:=(hx.ma.row y hy).1;have:=hx.cB;omega),hx.cM,hx.cB,hx.cF,by have:=hx.bw;have:=g2.size;omega,hx.hn,hx.nc,hx.n2,by have:=hx.sl;simp at this;omega,hx.f0,hx.f1,hx.s0,hx.s1⟩,?_,hal,HCH.out.trans HNW.out g2.wide,HNX.out⟩;rw[g2.block C (xg_ HCB.out) (by have:=hx.ma.lo;omega) (fun e=>by simp at e) (fun e=>HNC.out e)];exact HCB.out
        have hln:(r.length:Int)+1=st0.length+Hh t i:=(by have:=hsl;simp at this;omega);have HLN:Hid ((r.length:Int)+1=st0.length+Hh t i):=hln;clear hln;obtain⟨p0,p1,p2,p3⟩:=(HXE.out▸HIN.out:InsAt c tb (to'+i*4) ⟨12,(k:Int),b,cc⟩).grown HC3.out.1.cw;dsimp only at p0 p1 p2 p3;clear g1 g2 g3 HCL q0 q1 q2 q3 hsl;by_cases hv:v=0
        · subst hv;go_wp2;go_roundg ((phi t s (cF cs) k).toNat)
          case rel=>
           obtain⟨y1,y2,y3,y4,y5⟩:=HC3.out;exact⟨k,rfl,by omega,abq_ (sp:=sp) HNK.out y1 y2 HCM.out y3 (by have:=HNK.out.2.2.2.1;simp[tkN,gvN,HXE.out,tkS,gvS] at this;have:=HLN.out;omega) HPHI.out.2.1 (by omega) (by omega) (by omega) (by omega) y4 y5 (fun k' m' h=>HCE.out _ m' (Ex.fall _ HIT.out.1 HIT.out.2 rfl HGD.out (by dsimp only;omega) (by rw[HTX.out];simpa using hkt) (by simpa[top,Ms.tick] using h)))⟩
          case measure=>exact aag_ HL.out HS0.out HNK.out (HSN.out i) HPHI.out.2.2.2
        · have hv':(v==0)=false:=(by simpa using hv);go_wp2;go_roundg ((phi t s (cF cs) (i+1)).toNat)
          case rel=>
           obtain⟨y1,y2,y3,y4,y5⟩:=HC3.out;exact⟨i+1,by go_num,by omega,abq_ (sp:=sp) HNY.out y1 y2 HCM.out y3 (by have:=HNY.out.2.2.2.1;simp[tkN,gvN,HXE.out,tkS,gvS] at this;have:=HLN.out;omega) HPHI.out.2.1 (by omega) (by omega) (by omega) (by omega) y4 y5 (fun k' m' h=>HCE.out _ m' (Ex.fall _ HIT.out.1 HIT.out.2 rfl HGD.out (by dsimp only;omega) (by rw[HTX.out];simpa using hkt) (by simpa[top,hv,Ms.tick] using h)))⟩
          case measure=>exact aag_ HL.out HS0.out HNY.out (HSN.out i) HPHI.out.2.2.2
      · have g12:(d==12)=false:=(by simpa using h12);by_cases h13:d=13
        · subst h13;have ha:=af6_ HPO.out.may i (by simp[isE,HXE.out]);rw[HXE.out] at ha;dsimp only at ha;obtain⟨k,rfl⟩:=Int.eq_ofNat_of_zero_le ha.1;have k1:(0:Int)≤(k:Int):=(by omega);have k2:(k:Int)<(40:Int):=ha.2;have hk40:k<cs.length:=(by omega);have ny:=aqt_ (s:=s) HPO.out HS0.out hit HCN.out HLC.out HHL.out (by simp[isE,HXE.out]) (by simp[x9_,HXE.out]);have HNY:Hid (Nxt t s (cF cs) i (i+1) (upd (cF cs) (k:Int) b)):=(by have h:=ny;rw[HXE.out] at h;exact h);have cq:=FrAt.getC HCB.out k hk40;have cf:=xc_ HCB.out k;generalize cs.getD k 0=y at cq;have htC:¬tb=C:=fun e=>by have:=aqx_ HIN.out;have:=HC2.out.cM;have:=HC2.out.ma.lo;omega
          have htD:¬C=tb:=fun e=>htC e.symm;have HBB:Hid (b≤10000):=by
           have h:=(HL.out.bs i (by simp[isE,HXE.out])).2;rw[HXE.out] at h;exact h
          clear ny ha;go_upto_region 14 with fail;go_region_held3 (fun w'=>w'.cell? ⟨tb,to'+i*4+1,none⟩=some (.int .i64 (k:Int))∧w'.cell? ⟨tb,to'+i*4+2,none⟩=some (.int .i64 b)) (go_keep) (fail)
          have HC3:Hid (Ctx c (w2.setCell ⟨C,k,none⟩ (.int .i64 b)).drew B M F off fn fc ar (.slice (some ⟨pb,po,none⟩) np pcap) now sa sc st (sp+1) fl∧(w2.setCell ⟨C,k,none⟩ (.int .i64 b)).drew.heap[C]?=some (.cells (xi_ (cs.set k b)) 82)∧Chg M (some F) (sb sa0) w (w2.setCell ⟨C,k,none⟩ (.int .i64 b)).drew):=by
           have hg:(w2.setCell ⟨C,k,none⟩ (.int .i64 b)).grownBy (w2.setCell ⟨C,k,none⟩ (.int .i64 b)).drew none:=xf_ gz_;have hBC:=HH0.out.bw;rw[HCC.out] at hBC;refine⟨(HC2.out.else hBC HNC.out k _).kept hg,?_,(aiz_ HCH.out (by rw[HCC.out];exact Nat.le_refl _) k _).trans HNW.out (Chg.of_none hg)⟩;refine kept hg ?_;rw[xk_ HCB.out,yp_]
          have HNZ:Hid (Nxt t s (cF cs) i (i+1) (cF (cs.set k b))):=by
           have h:=HNY.out;rw[← aqs_ cs (k:Int) b (by omega) (by simpa using hk40)] at h;exact h
          clear cq cf;go_wp2;go_roundg ((phi t s (cF (cs.set k b)) (i+1)).toNat)
          case rel=>
           obtain⟨y1,y2,y3⟩:=HC3.out;exact⟨i+1,by go_num,by omega,abq_ (sp:=sp) HNZ.out y1 y2 (akn_ HCM.out k (HBB.out)) hal (by have:=HNZ.out.2.2.2.1;simp[tkN,gvN,HXE.out,tkS,gvS] at this;omega) HPHI.out.2.1 (by omega) (by omega) (by omega) (by omega) y3 HNX.out (fun k' m' h=>HCE.out _ m' (Ex.enter _ HIT.out.1 HIT.out.2 rfl HGD.out (by dsimp only;omega) (by dsimp only;omega) (by simpa[Ms.tick] using h)))⟩
          case measure=>exact aag_ HL.out HS0.out HNZ.out (HSN.out i) HPHI.out.2.2.2
        · have g13:(d==13)=false:=(by simpa using h13);by_cases h14:d=14
          · subst h14;have hr:isR t i=true:=(by simp[isR,HXE.out]);obtain⟨rl1,rl2,rl3,rl4⟩:=v8_ HL.out.rds hr;have ha:0≤a∧a<40:=by
             have h:=af6_ HPO.out.may ((nth t i).b.toNat - 1) (xu_.1 rl1).2.2.1;have h2:aOf t (nth t i).b.toNat=(nth t ((nth t i).b.toNat - 1)).a:=rfl;rw[← h2,rl3,HXE.out] at h;exact h
            obtain⟨k,rfl⟩:=Int.eq_ofNat_of_zero_le ha.1;have k1:(0:Int)≤(k:Int):=(by omega);have k2:(k:Int)<(40:Int):=ha.2;have hk40:k<cs.length:=(by omega);have cq:=FrAt.getC HCB.out k hk40;have cf:=xc_ HCB.out k;have hyv:cF cs (k:Int)=cs.getD k 0:=(by simp[cF]);have hy1:1≤cs.getD k 0:=by
             have h:=HCN.out _ rl1;rw[rl3,HXE.out] at h;dsimp only at h;omega
            have hy2:cs.getD k 0≤10000:=HCM.out.2 _ (by simp[List.getD,hk40]);have HBJ:Hid (0≤b∧b.toNat≤i):=by
             have h1:=(xu_.1 rl1).2.1;rw[HXE.out] at h1 rl4;dsimp only at h1 rl4;exact⟨by omega,by omega⟩
            generalize hyd:cs.getD k 0=y at cq hyv hy1 hy2;have HYT:Hid (cs.getD ((k:Int).toNat) 0=y):=hyd;have HYV:Hid (cF cs (k:Int)=y):=hyv;have hwr:IntKind.i64.wrap (y - 1)=y - 1:=IntWalk.i64_in _ (by omega);have HY:Hid (1≤y∧y≤10000):=⟨hy1,hy2⟩;have htC:¬tb=C:=fun e=>by have:=aqx_ HIN.out;have:=HC2.out.cM;have:=HC2.out.ma.lo;omega
            have HRR2:Hid (isR t i=true):=hr;clear ha hr rl1 rl2 rl3 rl4 hyv hyd hy1 hy2;go_upto_region 17 with fail;have HC3:Hid (Ctx c (w2.setCell ⟨C,k,none⟩ (.int .i64 (y - 1))) B M F off fn fc ar (.slice (some ⟨pb,po,none⟩) np pcap) now sa sc st (sp+1) fl∧(w2.setCell ⟨C,k,none⟩ (.int .i64 (y - 1))).heap[C]?=some (.cells (xi_ (cs.set k (y - 1))) 82)∧Chg M (some F) (sb sa0) w (w2.setCell ⟨C,k,none⟩ (.int .i64 (y - 1)))):=by
             have hBC:=HH0.out.bw;rw[HCC.out] at hBC;refine⟨HC2.out.else hBC HNC.out k _,?_,aiz_ HCH.out (by rw[HCC.out];exact Nat.le_refl _) k _⟩;rw[xk_ HCB.out,yp_]
            generalize hw3:w2.setCell ⟨C,k,none⟩ (.int .i64 (y - 1))=w3 at HC3 ⊢;obtain⟨p0,p1,p2,p3⟩:=(HXE.out▸HIN.out:InsAt c tb (to'+i*4) ⟨14,(k:Int),b,cc⟩).grown HC3.out.1.cw;dsimp only at p0 p1 p2 p3;have cq3:=FrAt.getC HC3.out.2.1 k (by simpa using hk40);rw[show(cs.set k (y - 1)).getD k 0=y - 1 by simp[List.getD,hk40]] at cq3;have HCS:Hid (cF (cs.set k (y - 1))=upd (cF cs) (k:Int) (y - 1)):=by
             have h:=aqs_ cs (k:Int) (y - 1) (by omega) (by simpa using hk40);exact h
            clear cq cf q0 q1 q2 q3 hw3;by_cases hy:0<y - 1
            · have nx:=atl_ (s:=s) HPO.out HS0.out hit HCN.out HLC.out HHL.out HRR2.out (by rw[HXE.out];dsimp only;rw[HYV.out];exact hy) (by simp[x9_,HXE.out]);obtain⟨nx,hk⟩:=nx;rw[HXE.out] at nx hk;dsimp only at nx hk;rw[HYV.out,← HCS.out] at nx;obtain⟨j,hj⟩:∃ j,b.toNat=j:=⟨_,rfl⟩;rw[hj] at nx hk;subst hk;have HNZ:Hid (Nxt t s (cF cs) i j (cF (cs.set k (y - 1)))):=nx;have hjt:=nx.2.2.2.2.2.1;clear nx hj;have hyb:decide (0<y - 1)=true:=(by simpa using hy);go_wp2;go_roundg ((phi t s (cF (cs.set k (y - 1))) j).toNat)
              case rel=>
               obtain⟨y1,y2,y3⟩:=HC3.out;exact⟨j,rfl,by omega,abq_ (sp:=sp) HNZ.out y1 y2 (akn_ HCM.out k (by have:=HY.out;omega)) hal (by have:=HNZ.out.2.2.2.1;simp[tkN,gvN,HXE.out,tkS,gvS] at this;omega) HPHI.out.2.1 (by omega) (by omega) (by omega) (by omega) y3 HNX.out (fun k' m' h=>HCE.out _ m' (Ex.round _ HIT.out.1 HIT.out.2 rfl HGD.out (by dsimp only;omega) (by dsimp only;omega) (by rw[HYT.out];exact HY.out.1) (by rw[HYT.out];exact HY.out.2) HBJ.out.1 (by have:=HBJ.out.2;rw[HTX.out];dsimp only at this ⊢;omega) (by rw[HYT.out,if_pos hy];simpa[Ms.tick] using h)))⟩
              case measure=>exact aag_ HL.out HS0.out HNZ.out (HSN.out i) HPHI.out.2.2.2
            · have nx:=aqu_ (s:=s) HPO.out HS0.out hit HCN.out HLC.out HHL.out HRR2.out (by rw[HXE.out];dsimp only;rw[HYV.out];exact hy) (by simp[x9_,HXE.out]);rw[HXE.out] at nx;dsimp only at nx;rw[HYV.out,← HCS.out] at nx;have HNZ:Hid (Nxt t s (cF cs) i (i+1) (cF (cs.set k (y - 1)))):=nx;clear nx;have hyb:decide (0<y - 1)=false:=(by simpa using hy);go_wp2;go_roundg ((phi t s (cF (cs.set k (y - 1))) (i+1)).toNat)
              case rel=>
               obtain⟨y1,y2,y3⟩:=HC3.out;exact⟨i+1,by go_num,by omega,abq_ (sp:=sp) HNZ.out y1 y2 (akn_ HCM.out k (by have:=HY.out;omega)) hal (by have:=HNZ.out.2.2.2.1;simp[tkN,gvN,HXE.out,tkS,gvS] at this;omega) HPHI.out.2.1 (by omega) (by omega) (by omega) (by omega) y3 HNX.out (fun k' m' h=>HCE.out _ m' (Ex.round _ HIT.out.1 HIT.out.2 rfl HGD.out (by dsimp only;omega) (by dsimp only;omega) (by rw[HYT.out];exact HY.out.1) (by rw[HYT.out];exact HY.out.2) HBJ.out.1 (by have:=HBJ.out.2;rw[HTX.out];dsimp only at this ⊢;omega) (by rw[HYT.out,if_neg (by omega)];simpa[Ms.tick] using h)))⟩
              case measure=>exact aag_ HL.out HS0.out HNZ.out (HSN.out i) HPHI.out.2.2.2
          · have g14:(d==14)=false:=(by simpa using h14);have hnE:isE t i=false:=(by simpa[isE,HXE.out] using h13);have hnR:isR t i=false:=(by simpa[isR,HXE.out] using h14);have nx:=aix_ (s:=s) HPO.out HS0.out hit HCN.out HLC.out HHL.out hnE hnR (by simp[x9_,HXE.out,h11,h12,h14]);have HNN:Hid (Nxt t s (cF cs) i (i+1) (cF cs)):=nx;have HX:Hid (tkS ⟨d,a,b,cc⟩≤Hh t i∧Hh t (i+1)=Hh t i - tkS ⟨d,a,b,cc⟩+gvS ⟨d,a,b,cc⟩∧0≤Hh t (i+1)∧yi_ bds ⟨d,a,b,cc⟩=s i∧Hh t i≤1000):=by
             have h1:=HHS.out.1;have h2:=nx.2.2.2.1;have h3:=HHS.out.2.1;have h4:=(vh_ ⟨d,a,b,cc⟩).1;have h5:=(aj2_ ⟨d,a,b,cc⟩).2;have h6:=HSI.out;simp only[tkN,gvN,HXE.out] at h1 h2 h3 h6;exact⟨h1,h2,nx.2.2.2.2.1,h6.symm,hhm⟩
            have HCL:=do_x (ps:=ps) l bds t.length i ⟨d,a,b,cc⟩ HC2.out (HXE.out▸HIN.out) (HXE.out▸HMAY.out) ⟨h11,h12,h13,h14⟩ HSS.out (by have:=HX.out.1;omega) hnp HFS.out HRR.out HOK.out HLP.out.1 HLP.out.2 HB0.out (by have:=HX.out.2.2.2.1;have:=HPHI.out;omega) (by omega) (by have:=HX.out.2.2.2.2;have:=HLU.out;omega);clear nx hnE hnR;go_wp2_with fail
            refine HCL.mono ?_;rintro e w3 ⟨rfl,⟨st',ar',sp',fl'⟩,⟨sa',sc',g1,g2,g3,g4,g5,g6,g7,g8,g9,g10⟩,hwh⟩;dsimp only at g1 g2 g3 g4 g5 g6 g7 g8;have HWH:Hid (WhX ps now off ⟨d,a,b,cc⟩ ⟨st,ar,sp+1,fl⟩ ⟨st',ar',sp',fl'⟩):=hwh;clear hwh;have HC3:Hid (Ctx c w3 B M F off fn fc ar' (.slice (some ⟨pb,po,none⟩) np pcap) now sa' sc' st' sp' fl'∧w3.heap[C]?=some (.cells (xi_ cs) 82)∧ar'.length=ar0.length∧(st'.length:Int)=(st0.length:Int)+Hh t (i+1)∧sp0≤sp'∧sp'≤sp+s i∧fl0≤fl'∧fl'≤fl0+(sp' - sp0)∧Chg M (some F) (sb sa0) w w3∧Nx w1 (sb sa0) (sb sa')):=by
             obtain⟨x1,x2,x3,x4,x5⟩:=HX.out;have hx:=HC2.out;have hz:=hx.s1;have hph:=HPHI.out;have hf:=hx.f0;have hf':=hx.f1;have hbw2:=hx.bw;have hsz:=g9.size;refine⟨⟨g1,g2,hx.fm,hx.fb,y4_ hx.cw g9 hx.cM (fun y hy=>by simp at hy;have:=hx.cF;omega) (fun y hy=>by have:=(hx.ma.row y hy).1;have:=hx.cB;omega),hx.cM,hx.cB,hx.cF,by omega,by rw[g3];exact hx.hn,hx.nc,hx.n2,by have:=HNN.out.2.2.2.2.2.2;omega,by omega,by omega,by have:=hx.s0;omega,by omega⟩,?_,by omega,by omega,by omega,by omega,by omega,by omega,HCH.out.trans HNW.out g9,Nx.trans (by have:=xg_ HCB.out;omega) HNX.out g10⟩;rw[g9.block C (xg_ HCB.out) (by have:=hx.ma.lo;omega) (fun e=>by simp at e;have:=hx.fb;omega) (fun e=>HNC.out e)];exact HCB.out
            clear g1 g2 g3 g4 g5 g6 g7 g8 g9 g10 HCL;go_wp2;go_roundg ((phi t s (cF cs) (i+1)).toNat)
            case rel=>
             obtain⟨y1,y2,y3,y4,y5,y6,y7,y8,y9,y10⟩:=HC3.out;exact⟨i+1,by go_num,by omega,abq_ (sp:=sp) HNN.out y1 y2 HCM.out y3 y4 HPHI.out.2.1 y5 y6 y7 y8 y9 y10 (fun k' m' h=>by
              rcases HWH.out with⟨h17,he⟩|⟨h17,k1,hex⟩
              ·exact HCE.out _ m' (Ex.plain _ HIT.out.1 HIT.out.2 h11 h12 h13 h14 h17 HGD.out (by rw[he] at h;exact h))
              ·exact HCE.out _ m' (Ex.call _ HIT.out.1 HIT.out.2 h17 HGD.out hex h))⟩
            case measure=>exact aag_ HL.out HS0.out HNN.out (HSN.out i) HPHI.out.2.2.2
  · have hie:i=tn:=(by omega);subst hie;have hHe:=avx_ HPO.out.stack;rw[htn] at hHe;have HEX:Hid (∃ m',WkX w B M F (.slice (some ⟨pb,po,none⟩) np pcap) now (sb sa0) ar0.length st0.length sp0 fl0 bd 0 m' wr∧∃ k,Ex ps now k u off 0 j4_ ⟨st0,ar0,sp0,fl0⟩ m'):=
     ⟨⟨st,ar,sp,fl⟩,⟨sa,sc,hctx.ma,hctx.fr,hal,by dsimp only;omega,hsp,by have:=abp_ (s:=s) HL.out.bs HS0.out hcn;dsimp only;omega,hf1,by dsimp only;omega,hchg,Nx.trans HWG.out.size (Nx.refl _ _) hnx⟩,by
      have h:=HCE.out 0 _ (Ex.fin (by rw[HTX.out,htn]));rw[HM0.out] at h;exact h⟩
    have hq4:=hctx.cw.cell HT.out.cell (by simp);clear hctx hcb hcn hlc hph hchg hnx hgk hce;go_wp2;go_end0;exact⟨rfl,HEX.out⟩
set_option maxRecDepth 10000 in
theorem an0_ (ps:List Pr) (c:World) (pb po np pcap u fn tc:Nat) (ta:Option Addr) (now:Int) (hT:c.cell? ⟨pb,po+u*5+4,none⟩=some (.slice ta 0 tc)) (htx:txt ps u=[]):RunX c pb po np pcap ps u fn 0 now:=by
 intro w B M F off fc ar0 sa0 sc0 st0 sp0 fl0 h0 hsp0 hfl0 hst0;have HH0:=hd_ h0;have hq4:=h0.cw.cell hT (by simp);obtain⟨C,hC⟩:∃ C,w.heap.size=C:=⟨_,rfl⟩;have HCC:=hd_ hC;clear h0 hT;go_enter Tryz.func18,Tryz.ntmps18;go_wp2_with fail
 have hlt:pb<w.heap.size:=by
  cases hl:w.heap[pb]? with
  | none=>simp[World.cell?,hl] at hq4
  | some o'=>exact xg_ hl
 have HG:Hid (w.grownBy (w.alloc (.cells (xi_ (List.replicate 40 0)) 82)) none):=gr1 _ _;have hq5:=HG.out.cell hq4 (by simp);have HWK:Hid (∃ m',WkX w B M F (.slice (some ⟨pb,po,none⟩) np pcap) now (sb sa0) ar0.length st0.length sp0 fl0 0 0 m' (w.alloc (.cells (xi_ (List.replicate 40 0)) 82))∧∃ k,Ex ps now k u off 0 j4_ ⟨st0,ar0,sp0,fl0⟩ m'):=by
  have h:=HH0.out.kept HG.out;exact⟨⟨st0,ar0,sp0,fl0⟩,⟨sa0,sc0,h.ma,h.fr,rfl,rfl,by dsimp only;omega,by dsimp only;omega,by dsimp only;omega,by dsimp only;omega,Chg.of_none HG.out,Nx.refl _ _⟩,0,.fin (by rw[htx];rfl)⟩
 have HQ5:=hd_ hq5;clear hq4 hq5;go_loopg [7] 0 (fun gk s7 wx=>s7=.int .i64 0∧wx.cell? ⟨pb,po+u*5+4,none⟩=some (.slice ta 0 tc)∧Hid (∃ m',WkX w B M F (.slice (some ⟨pb,po,none⟩) np pcap) now (sb sa0) ar0.length st0.length sp0 fl0 0 0 m' wx∧∃ k,Ex ps now k u off 0 j4_ ⟨st0,ar0,sp0,fl0⟩ m'))
 case atStart=>exact⟨rfl,HQ5.out,HWK.out⟩
 case round=>
  obtain⟨rfl,hq,hwk⟩:=hrel;clear HQ5 HWK HG;go_wp2;go_end0;exact⟨rfl,hwk.out⟩
theorem ak8_ {c:World} {pb po pcap:Nat} {ps:List Pr} {now:Int} (hc:∀ i,i<ps.length→∃ fv sv tv,PrAt c pb (po+i*5) (ps.getD i pr0) fv sv tv) (hS:Stds c) (h16:ps.length≤16) (hok:ac5_ ps):∀(m k:Nat) (b bds:List Int) (e:Int),k+m=ps.length→b.length=k→(∀ x,x∈b→0≤x∧x≤1000000000)→(∀ u,u<k→RunX c pb po ps.length pcap ps u (ps.getD u pr0).fs.length (b.getD u 0) now)→kx_ (Classical.propDecidable,()) ps m k b=(bds,0,e)→
 bds.length=ps.length∧(∀ x,x∈bds→0≤x∧x≤1000000000)∧∀ u,u<ps.length→RunX c pb po ps.length pcap ps u (ps.getD u pr0).fs.length (bds.getD u 0) now:=by
 intro m;induction m with
 | zero=>
  intro k b bds e hk hb hbd hR hv;simp[kx_] at hv;obtain⟨rfl,-⟩:=hv;exact⟨by omega,hbd,fun u hu=>hR u om_⟩
 | succ m ih=>
  intro k b bds e hk hb hbd hR hv;simp only[kx_] at hv;by_cases h0:(kh_ (Classical.propDecidable,()) ps k b).2=0
  · rw[if_pos h0] at hv;have hbd1:=aea_ hbd (by rw[hb,ji_ ps k om_]) h0;refine ih (k+1) _ bds e om_ (by simp[hb]) (fun x hx=>?_) (fun u hu=>?_) hv
    · rw[List.mem_append,List.mem_singleton] at hx;rcases hx with hx|rfl
      ·exact hbd x hx
      ·exact hbd1
    · by_cases huk:u<k
      ·have:=hR u huk;rw[show(b++[(kh_ (Classical.propDecidable,()) ps k b).1]).getD u 0=b.getD u 0 by simp[List.getD,List.getElem?_append,show u<b.length by omega]];exact this
      · have hu2:u=k:=om_;subst hu2;rw[show(b++[(kh_ (Classical.propDecidable,()) ps u b).1]).getD u 0=(kh_ (Classical.propDecidable,()) ps u b).1 by simp[List.getD,← hb]];obtain⟨fv,sv,tv,hp⟩:=hc u om_;unfold kh_ q5_ at h0 ⊢;split at h0
        · rename_i hP;rw[if_pos hP];split at h0
          ·simp at h0
          · rename_i hsum;rw[if_neg hsum];dsimp only;have hl:=ji_ ps u om_;have hget:∀ v,b.getD v 0=0∨b.getD v 0∈b:=fun v=>by
             by_cases hv:v<b.length
             ·exact .inr (by simp[List.getD,hv])
             ·exact .inl (by simp[List.getD,Nat.le_of_not_lt hv])
            have hb0:∀ v,0≤b.getD v 0:=fun v=>by
             rcases hget v with h|h
             ·omega
             ·exact(hbd _ h).1
            have hR':∀ v,v<(ahd ps u).length→RunX c pb po ps.length pcap ps v ((ahd ps u).getD v (0,0)).2 (b.getD v 0) now:=fun v hv=>by
             rw[hl] at hv;rw[v9_ ps u v hv om_];exact hR v hv
            have hF':∀ v,v<(ahd ps u).length→∃ fa ffc,c.cell? ⟨pb,po+v*5+2,none⟩=some (.slice fa ((ahd ps u).getD v (0,0)).2 ffc):=fun v hv=>by
             rw[hl] at hv;rw[v9_ ps u v hv om_];obtain⟨fv',sv',tv',h⟩:=hc v om_;obtain⟨fa,fc,rfl,_⟩:=h.first
             exact⟨fa,fc,h.fcell⟩
            obtain⟨ta,tc,rfl,htx⟩:=hp.text;by_cases hnil:(ps.getD u pr0).tx=[]
            ·have e:vj_ b (ps.getD u pr0).tx=0:=(by rw[hnil];rfl);rw[e];have h4:=hp.tcell;rw[hnil] at h4;exact an0_ ps c pb po ps.length pcap u _ tc ta now h4 hnil
            · rcases htx with h|⟨tb,to',rfl,htx⟩
              ·exact absurd h hnil
              · exact ano_ ps c pb po ps.length pcap u _ tb to' _ tc _ now (ahd ps u) b _ ⟨hp.tcell,rfl,fun i hi=>⟨(htx i hi).1,(htx i hi).2.1,(htx i hi).2.2.1,(htx i hi).2.2.2⟩⟩ hP hl om_ hS (by rw[hl];omega) hF' hR' hb0 om_ (fun k=>by
                 by_cases hk:k<(ps.getD u pr0).tx.length
                 ·exact(aa7_ hP.may hP.frame hbd (by rw[hb,hl]) k hk).1
                 · have e:nth (ps.getD u pr0).tx k=⟨0,0,0,0⟩:=by
                    unfold nth;rw[List.getElem?_eq_none om_];rfl
                   rw[e];simp[yi_]) rfl hok (by rw[hl];omega) (fun v hv=>by rw[hl] at hv;rw[v9_ ps u v hv om_])
        ·simp at h0
  ·rw[if_neg h0] at hv;simp at hv;exact absurd hv.2.1 h0
def aw1_ (w:World) (ps:List Pr) (unit:Int) (fr:List Int) (now:Int) (e:Ending) (w':World):Prop:=
 w.grownBy w' none∧((vs_ (Classical.propDecidable,()) ps unit fr.length≠0∧e=.returned (.agg #[.slice none 0 0,.int .i64 0,.int .i64 0,.int .i64 (vs_ (Classical.propDecidable,()) ps unit fr.length)]))
  ∨(vs_ (Classical.propDecidable,()) ps unit fr.length=0∧∃(F:Nat) (m1:Ms) (k:Nat),e=.returned (.agg #[.slice (some ⟨F,0,none⟩) fr.length fr.length,.int .i64 m1.sp,.int .i64 m1.fl,.int .i64 0])∧w.heap.size≤F∧FrAt w' F m1.ar∧m1.ar.length=fr.length∧Ex ps now k unit.toNat 0 0 j4_ ⟨[],fr,0,0⟩ m1))
set_option maxRecDepth 10000 in
theorem aua_ (cv:Value) (ps:List Pr) (unit now:Int) (fa:Option Addr) (fr:List Int) (fc:Nat) (w:World) (hC:CdP w cv ps) (hS:Stds w) (hl:ps.length≤1000000000000000) (hf:rd w (.slice fa fr.length fc) fr) :
 Calls Tryz.prog 8 #[.agg #[cv],.int .i64 unit,.slice fa fr.length fc,.int .i64 now] w (aw1_ w ps unit fr now):=by
 obtain⟨ca,cap,rfl,hcap,hc⟩:=hC;have HC:Hid (CdP w (.slice ca ps.length cap) ps):=⟨ca,cap,rfl,hcap,hc⟩;have HCC:=hd_ hc;have HS:=hd_ hS;have HF:=hd_ hf;obtain⟨n,hn⟩:∃ n,ps.length=n:=⟨_,rfl⟩;have HN:=hd_ hn;obtain⟨m,hm⟩:∃ m,fr.length=m:=⟨_,rfl⟩;have HM:=hd_ hm;rw[hn] at hl hcap HC;obtain⟨R,hR⟩:∃ R,vs_ (Classical.propDecidable,()) ps unit m=R:=⟨_,rfl⟩;have HR:=hd_ hR;have cV:∀ W,w.grownBy W none→Calls Tryz.prog 17 #[.agg #[.slice ca n cap],.int .i64 unit,.slice fa m fc] W fun e w'=>e=.returned (.int .i64 R)∧W.grownBy w' none:=fun W hW=>by
  rw[← hR];exact ako_ _ ps unit fa m fc W (HC.out.grown hW) (HS.out.grown hW) om_
 rw[hn,hm];clear hc hS hR hn hcap hf hm;obtain⟨H,hH⟩:∃ H,w.heap.size=H:=⟨_,rfl⟩;have HHH:=hd_ hH;go_enter Tryz.func8,Tryz.ntmps8;go_wp2_with fail
 refine(cV _ (xb_ (gr1 _ _) _)).mono ?_;rintro e w1 ⟨rfl,hg⟩;have HG:Hid (w.grownBy w1 none):=(xb_ (gr1 _ _) _).trans hg;have z1:=xa_ (kept ((gr1 _ _).trans hg) (xj_ hH.symm (.cells #[.slice ca n cap] 24))) 0;simp at z1;have HZ1:=hd_ z1;have HZ2:Hid (w1.heap[H+1]?=some (.cells #[.slice none 0 0,.int .i64 0,.int .i64 0,.int .i64 0] 28)):=kept hg (xj_ (by simp[hH]) _);obtain⟨H1,hH1⟩:∃ H1,w1.heap.size=H1:=⟨_,rfl⟩;have HH1:=hd_ hH1;clear hg cV;by_cases h1:R=0
 · subst h1;obtain⟨k,bds,ue,rfl,hk,hv,hmk⟩:=acr_ HR.out;have m0:(0:Int)≤(m:Int):=om_;have hun:∃ b off,ca=some ⟨b,off,none⟩∧∀ i,i<ps.length→∃ fv sv tv,PrAt w b (off+i*5) (ps.getD i pr0) fv sv tv:=by
    rcases HCC.out with h|h
    ·rw[h] at hk;simp at hk
    ·exact h
   obtain⟨pb,po,rfl,hpr⟩:=hun;have h16:ps.length≤16:=by
    rcases Nat.lt_or_ge 16 ps.length with h|h
    ·unfold jx_ at hv;rw[if_pos h] at hv;simp at hv
    ·exact h
   have hv2:=hv;unfold jx_ at hv2;rw[if_neg om_] at hv2;obtain⟨u1,u2,u3⟩:=ak8_ (c:=w) (pb:=pb) (po:=po) (pcap:=cap) (now:=now) hpr HS.out h16 (fun u hu=>alr_ ps.length 0 [] bds ue hv2 u om_ om_) ps.length 0 [] bds ue om_ rfl (by simp) (by simp) hv2;have HRW:Hid (RunX w pb po n cap ps k m (bds.getD k 0) now):=(by have h:=u3 k hk;rw[HN.out,← hmk] at h;exact h);have hm2:m≤20000:=(by rw[hmk];exact abr_ ps.length 0 [] bds ue hv2 k om_ om_);have HBD:Hid ((jx_ (Classical.propDecidable,()) ps).1.getD k 0=bds.getD k 0∧0≤bds.getD k 0∧bds.getD k 0≤1000000000):=by
    rw[hv];refine⟨rfl,u2 _ ?_⟩;have:k<bds.length:=om_;simp[List.getD,this]
   have HK16:Hid (k≤16):=(by have:=h16;exact(Nat.le_of_lt (Nat.lt_of_lt_of_le hk this)));have HKN:Hid (k<n):=(by rw[← HN.out];exact hk);clear hv hv2 hpr hmk u1 u2 u3 hk h16 z1;have HFa:Hid (FrAt (w1.alloc (.cells (xi_ (List.replicate m 0)) 3)) H1 (List.replicate m 0)):=xj_ hH1.symm _;obtain⟨w2,hrun,hfr,hoth,hsz,ho1,ho2,ho3⟩:=atn_ (w:=w1.alloc (.cells (xi_ (List.replicate m 0)) 3)) (fc:=fc) (fa:=fa) (fr:=fr) HFa.out (by have h:=HF.out;rw[HM.out] at h;exact xo_ h (xb_ HG.out _)) HM.out;have hmk:=j0_ m om_ w1;rw[hH1] at hmk;have hs2:w2.heap.size=H1+1:=(by rw[hsz];simp[hH1]);have hHH:=HHH.out;have hle:H≤H1:=(by have:=HG.out.size;omega);have HG2:Hid (w.grownBy w2 none):=by
    refine⟨ho1.trans HG.out.os,ho2.trans HG.out.tape,ho3.trans HG.out.output,by omega,fun x hx h=>?_⟩;rw[hoth x om_];exact((gr1 w1 _).block x (by have:=HG.out.size;omega) (by simp)).trans (HG.out.block x hx h)
   have HZ3:Hid (w2.heap[H+1]?=some (.cells #[.slice none 0 0,.int .i64 0,.int .i64 0,.int .i64 0] 28)):=by
    have hlt:=xg_ HZ2.out;rw[hoth (H+1) om_];exact kept (gr1 w1 _) HZ2.out
   have z3:w2.cell? ⟨H,0,none⟩=some (.slice (some ⟨pb,po,none⟩) n cap):=by
    have hlt:=xg_ HZ2.out;have e:w2.cell? ⟨H,0,none⟩=(w1.alloc (.cells (xi_ (List.replicate m 0)) 3)).cell? ⟨H,0,none⟩:=by
     unfold World.cell?;rw[hoth H om_]
    rw[e];exact(gr1 w1 _).cell HZ1.out (by simp)
   have hlt2:H+1<H1:=(by have:=xg_ HZ2.out;omega);have z3a:∀ o:Obj,(w2.alloc o).cell? ⟨H,0,none⟩=some (.slice (some ⟨pb,po,none⟩) n cap):=fun o=>(gr1 w2 o).cell z3 (by simp);have i1:(0:Int)≤(k:Int):=om_;have i2:(k:Int)<(n:Int):=(by have:=HKN.out;omega);have HFR:=hd_ hfr;clear hoth hsz ho1 ho2 ho3 hfr;go_wp2_with fail
   have HCT:Hid (Ctx w (w2.alloc (.cells #[.slice (some ⟨pb,po,none⟩) n cap,.int .i64 now,.slice none 0 0,.int .i64 0,.int .i64 0] 56)) (H1+2) (H1+1) H1 0 m m fr (.slice (some ⟨pb,po,none⟩) n cap) now none 0 [] 0 0):=
    ⟨⟨xj_ hs2.symm _,⟨by simp[hs2],.inl ⟨rfl,rfl⟩⟩,by omega⟩,kept (gr1 _ _) HFR.out,by omega,by omega,xb_ HG2.out _,by omega,by omega,by omega,by simp[hs2],by have:=HM.out;omega,by omega,by omega,by simp,by omega,by omega,by omega,by omega⟩
   refine(HRW.out _ _ _ _ _ _ _ _ _ _ _ _ HCT.out (by have:=HBD.out;omega) om_ (by have:=HK16.out;simp;omega)).mono ?_;rintro e w4 ⟨rfl,⟨st',ar',sp',fl'⟩,⟨sa',sc',g1,g2,g3,g4,g5,g6,g7,g8,g9,g10⟩,kx,hex⟩;dsimp only at g1 g2 g3 g4 g5 g6 g7 g8;have hb4:=g1.blk;have y3:=xa_ hb4 3;have y4:=xa_ hb4 4;simp at y3 y4;have HZ4:Hid (w4.heap[H+1]?=some (.cells #[.slice none 0 0,.int .i64 0,.int .i64 0,.int .i64 0] 28)):=
    (g9.block (H+1) (by simp[hs2];omega) om_ (by simp;omega) (by simp[sb])).trans (kept (gr1 _ _) HZ3.out)
   have HG4:Hid (w.grownBy w4 none):=y4_ (xb_ HG2.out _) g9 om_ (fun y hy=>by simp at hy;omega) (fun y hy=>by simp[sb] at hy);have HEX:Hid (FrAt w4 H1 ar'∧ar'.length=m∧Ex ps now kx k 0 0 j4_ ⟨[],fr,0,0⟩ ⟨st',ar',sp',fl'⟩):=⟨g2,by have:=HM.out;omega,hex⟩;have f0:=xc_ HZ4.out 0;have f1:=xc_ HZ4.out 1;have f2:=xc_ HZ4.out 2;have f3:=xc_ HZ4.out 3;have r0:=xa_ HZ4.out 0;have r1:=xa_ HZ4.out 1;have r2:=xa_ HZ4.out 2;have r3:=xa_ HZ4.out 3;simp at r0 r1 r2 r3;clear g1 g2 g3 g4 g5 g6 g7 g8 g9 g10 hex hb4 hrun hmk z3 z3a HCT;have n1:¬H1=H:=om_;have n2:¬H=H1:=om_;go_wp2;go_region_held3 (fun w'=>w'.cell? ⟨H1+1,3,none⟩=some (.int .i64 sp')∧w'.cell? ⟨H1+1,4,none⟩=some (.int .i64 fl')) (go_keep) (fail)
   go_wp2;refine⟨rfl,.agg #[.slice (some ⟨H1,0,none⟩) m m,.int .i64 sp',.int .i64 fl',.int .i64 0],?_,?_⟩
   ·simp[results,Tryz.f8];exact aah_ _ _ _ rfl (kept (xf_ gz_) (by rw[xk_ (xk_ (xk_ (xk_ HZ4.out 0 _) 1 _) 2 _) 3 _];rfl))
   · refine⟨xf_ (((HG4.out.trans2 om_ 0 _).trans2 om_ 1 _ |>.trans2 om_ 2 _).trans2 om_ 3 _),.inr ⟨by rw[HM.out];exact HR.out,H1,⟨st',ar',sp',fl'⟩,kx,by rw[HM.out],by omega,?_,by rw[HM.out];exact HEX.out.2.1,?_⟩⟩
     ·refine kept (xf_ gz_) ?_;rw[Below.heap_setCell _ _ _ _ (by simp;omega),Below.heap_setCell _ _ _ _ (by simp;omega),Below.heap_setCell _ _ _ _ (by simp;omega),Below.heap_setCell _ _ _ _ (by simp;omega)];exact HEX.out.1
     ·simpa using HEX.out.2.2
 · have g1:(R != 0)=true:=(by simpa using h1);have f0:=xc_ HZ2.out 0;have f1:=xc_ HZ2.out 1;have f2:=xc_ HZ2.out 2;have f3:=xc_ HZ2.out 3;have r0:=xa_ HZ2.out 0;have r1:=xa_ HZ2.out 1;have r2:=xa_ HZ2.out 2;have r3:=xa_ HZ2.out 3;simp at r0 r1 r2 r3;go_wp2;refine⟨rfl,.agg #[.slice none 0 0,.int .i64 0,.int .i64 0,.int .i64 R],?_,?_⟩
   ·simp[results,Tryz.f8];exact aah_ _ _ _ rfl (by rw[xk_ (xk_ (xk_ (xk_ HZ2.out 0 _) 1 _) 2 _) 3 _];rfl)
   ·have hHH:=HHH.out;exact⟨((HG.out.trans2 om_ 0 _).trans2 om_ 1 _ |>.trans2 om_ 2 _).trans2 om_ 3 _,.inl ⟨by rw[HM.out,HR.out];exact h1,by rw[HM.out,HR.out]⟩⟩
end Go.Proofs.YtcgbfhpmkpglkaaGreatDoor
