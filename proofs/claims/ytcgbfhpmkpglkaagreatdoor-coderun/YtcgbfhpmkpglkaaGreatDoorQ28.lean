/- Texts put together: Y3work2, Y3runc, W3. -/
import Derived.Test.YtcgbfhpmkpglkaaGreatDoorQ27
import Derived.Test.YtcgbfhpmkpglkaaGreatDoorQ26
set_option linter.unusedVariables false
set_option linter.unusedSimpArgs false
set_option maxHeartbeats 8000000
namespace Go.Proofs.YtcgbfhpmkpglkaaGreatDoor
open Go.RowKit
attribute [local go_sem ↓] Go.wp_at_zero Go.wp_at_succ
set_option maxRecDepth 1000000 in
theorem aq9_ (c w wr:World) (B M C:Nat) (fv:Value) (n off al:Nat) (pb po np pcap:Nat) (now:Int) (r0:Option Nat) (sa:Option Addr) (sc:Nat) (st ar:List Int) (sp fl:Int) (cs:List Int) (u q tb to' tn tc i:Nat) (t:List Ins) (a b cc:Int) (K K0:Act→World→Prop) (Pst:Ending→World→Prop) (c3 c4 c5:Value)
 (hS:St c w B M C fv n off al (.slice (some ⟨pb,po,none⟩) np pcap) now r0 sa sc st ar sp fl cs wr) (hT:TxtC c pb q tb to' tn tc t) (hx:nth t i=⟨6,a,b,cc⟩) (hi:i<tn) (hn:tn≤100000) (hG:Gd ⟨6,a,b,cc⟩ ⟨st,ar,sp,fl⟩) (r:List Int) (x y:Int) (hst:st=r++[x]++[y]) (hop:zy_ ⟨6,a,b,cc⟩=2)
 (hN:∀ sa' sc' w' l,l.length=397→St c w B M C fv n off al (.slice (some ⟨pb,po,none⟩) np pcap) now r0 sa' sc' (r++[Ce.doN a b x y]) ar (sp+1) (if Ce.doZ a b y=true then fl+1 else fl) cs w'→K (yr_ M u fv (.slice (some ⟨tb,to',none⟩) tn tc) (.slice (some ⟨C,0,none⟩) 40 40) c3 c4 c5 ((i:Int)+1) l) w')
 : Ap 397 fun l=>(zg_ Tryz.f16).wp Tryz.prog (Exit.then K (Exit.inBlock 0 (Exit.then K0 (bodyPost Tryz.prog Tryz.f16 Pst)))) (yr_ M u fv (.slice (some ⟨tb,to',none⟩) tn tc) (.slice (some ⟨C,0,none⟩) 40 40) c3 c4 c5 (i:Int) l) wr:=by
 iterate 397 intro _
 dsimp only[Ap];obtain⟨g1,g2,g3,g4,g5,g6⟩:=hG;dsimp only at g1 g2 g3 g4 g5 g6;have HS:=hd_ hS;obtain⟨X,hX⟩:∃ X,wr.heap.size=X:=⟨_,rfl⟩;have hq:=(hT.ins i hi).grown hS.rc.cw;rw[hx] at hq;obtain⟨q0,q1,q2,q3⟩:=hq;dsimp only at q0 q1 q2 q3;have HS1:Hid (St c w B M C fv n off al (.slice (some ⟨pb,po,none⟩) np pcap) now r0 sa sc st ar (sp+1) fl cs ((wr.setCell ⟨M,3,none⟩ (.int .i64 (sp+1))).alloc (.cells #[.int .i64 6,.int .i64 a,.int .i64 b,.int .i64 cc] 40))):=(hS.setS (sp+1)).kept (gr1 _ _);have hMX:M<X:=(by have:=hS.rc.ma.blk;have:=xg_ this;omega);have m3:=(gr1 wr (.cells #[.int .i64 6,.int .i64 a,.int .i64 b,.int .i64 cc] 40)).cell (xa_ hS.rc.ma.blk 3) (by simp);simp at m3;have f3:=xc_ (kept (gr1 wr (.cells #[.int .i64 6,.int .i64 a,.int .i64 b,.int .i64 cc] 40)) hS.rc.ma.blk) 3;have hw3:IntKind.i64.wrap (sp+1)=sp+1:=IntWalk.i64_in _ (by omega);have i1:(0:Int)≤(i:Int):=(by omega);have i2:(i:Int)<(tn:Int):=(by omega);have HXB:Hid (((wr.setCell ⟨M,3,none⟩ (.int .i64 (sp+1))).alloc (.cells #[.int .i64 6,.int .i64 a,.int .i64 b,.int .i64 cc] 40)).heap[X]?=some (.cells #[.int .i64 6,.int .i64 a,.int .i64 b,.int .i64 cc] 40)):=by
  exact xj_ (by simp[hX]) _
 have n1:¬M=X:=(by omega);have n2:¬X=M:=(by omega);have hwi:IntKind.i64.wrap ((i:Int)+1)=(i:Int)+1:=IntWalk.i64_in _ (by omega);clear hS hT hx;unfold yr_;conv=>arg 2;whnf
 go_upto_region 8 with fail;generalize hw2:(wr.setCell ⟨M,3,none⟩ (.int .i64 (sp+1))).alloc (.cells #[.int .i64 6,.int .i64 a,.int .i64 b,.int .i64 cc] 40)=w2 at HS1 HXB ⊢;have x0:=xa_ HXB.out 0;have x1:=xa_ HXB.out 1;have x2:=xa_ HXB.out 2;have x3:=xa_ HXB.out 3;simp at x0 x1 x2 x3;clear q0 q1 q2 q3 m3 f3 hw3 hw2;subst hst;have hXs:some X≠sb sa:=fun e=>by have:=(HS.out.rc.ma.row X e.symm).2;omega
 have hs2:(xt_ a b==0)=false:=(by unfold zy_ at hop;dsimp only at hop;split at hop <;> simp_all);have hs2b:(xt_ a b != 0)=true:=(by unfold zy_ at hop;dsimp only at hop;split at hop <;> simp_all);go_wp2_with fail
 refine(x2_ a b _).mono ?_;rintro e w' ⟨rfl,rfl⟩;have HT1:=HS1.out.top (by simp at g2 ⊢;omega) HXB.out (by omega) hXs _ gz_;go_wp2_with fail
 refine HT1.mono ?_;rintro e w4 ⟨rfl,hs1,hx1⟩;have HS1a:Hid _:=hs1;have HX1a:Hid _:=hx1;clear hs1 hx1 HT1;have HT2:=HS1a.out.top (by simp at g2 ⊢;omega) HX1a.out (by omega) hXs _ gz_;go_wp2_with fail
 refine HT2.mono ?_;rintro e w5 ⟨rfl,hs2,hx2⟩;have HS2a:Hid _:=hs2;have HX2a:Hid _:=hx2;clear hs2 hx2 HT2;have y21:=xa_ HX2a.out 1;simp at y21;have y22:=xa_ HX2a.out 2;simp at y22;have HDO:=(Ce.rdo_any a b x y w5).mono (fun _ _ h=>(⟨h.1,h.2.symm⟩:_∧w5=_));generalize Ce.doN a b x y=fx at HDO hN;by_cases hz:Ce.doZ a b y=true
 · rw[if_pos hz] at hN;rw[hz] at HDO;have HF1:Hid _:=HS2a.out.setF (fl+1);have m4:=xa_ HS2a.out.rc.ma.blk 4;simp at m4;have f4:=xc_ HS2a.out.rc.ma.blk 4;have hw4:IntKind.i64.wrap (fl+1)=fl+1:=(by rw[show fl+1=fl+1 by omega];exact IntWalk.i64_in _ (by omega));have hw4b:IntKind.i64.wrap fl=fl:=IntWalk.i64_in _ (by omega);have HYS:Hid (∀ W,Calls Tryz.prog 28 #[.bool true] W fun e w'=>e=.returned (.int .i64 1)∧W=w'):=fun W=>(Ce.yes_any true W).mono fun _ _ h=>⟨by rw[h.1];rfl,h.2.symm⟩;obtain⟨w7,hw7e⟩:∃ w7,w5.setCell ⟨M,4,none⟩ (.int .i64 (fl+1))=w7:=⟨_,rfl⟩;have HF2:Hid (St c w B M C fv n off al (.slice (some ⟨pb,po,none⟩) np pcap) now r0 sa sc r ar (sp+1) (fl+1) cs w7):=hw7e▸HF1.out;have HF3:Hid (St c w B M C fv n off al (.slice (some ⟨pb,po,none⟩) np pcap) now r0 sa sc r ar (sp+1) (fl+1) cs w7.drew):=HF2.out.kept (xf_ gz_);go_wp2_with (go_at_call 27;refine HDO.mono ?_;rintro e w' ⟨rfl,rfl⟩)
   go_region_with (first|(go_at_call 28;refine(HYS.out _).mono ?_;rintro e w' ⟨rfl,rfl⟩))
   all_goals try rw[hw7e]
   all_goals
    generalize hw8:w7.drew=w8 at HF3 ⊢;have hB2:=HF3.out.rc.bw;obtain⟨ga,gc,w3,hrun,hb3,hm3,hc3,hn3,_⟩:=z6_ (W:=w8.alloc (.cells #[.int .i64 fx] 3)) (xb:=w8.heap.size) (x:=fx) (HF3.out.rc.ma.kept (gr1 _ _)) (by first|omega|(simp at g2 ⊢;omega)) (by have:=((gr1 w8 (.cells #[.int .i64 fx] 3))).size;omega) (heap_alloc_new w8 _);have HS2:Hid (St c w B M C fv n off al (.slice (some ⟨pb,po,none⟩) np pcap) now r0 ga gc (r++[fx]) ar (sp+1) (fl+1) cs (w3.setCell ⟨M,2,none⟩ (.slice ga (r.length+1) gc))):=(HF3.out.kept (gr1 _ _)).stack hm3 hc3 hn3;have d2:=xa_ HF3.out.rc.ma.blk 2;simp at d2;have d2a:∀ o:Obj,(w8.alloc o).cell? ⟨M,2,none⟩=some (.slice sa r.length sc):=fun o=>(gr1 w8 o).cell d2 (by simp);have k2:=xa_ hb3 2;simp at k2;have f2:=xc_ hb3 2;have HRUN:Hid (_=_):=hrun;clear hrun hb3 hm3 hc3 hn3;go_wp2_with (first|(at_builtin;refine x0_ rfl _ _ 25 rfl _ _ _ w3 rfl rfl HRUN.out ?_))
    first|exact hN _ _ _ _ rfl HS2.out|exact hN _ _ _ _ rfl (HS2.out.kept (xf_ gz_))
 · have hz':Ce.doZ a b y=false:=(by simpa using hz);rw[if_neg hz] at hN;rw[hz'] at HDO;have HF1:Hid _:=HS2a.out.setF (fl);have m4:=xa_ HS2a.out.rc.ma.blk 4;simp at m4;have f4:=xc_ HS2a.out.rc.ma.blk 4;have hw4:IntKind.i64.wrap (fl+0)=fl:=(by rw[show fl+0=fl by omega];exact IntWalk.i64_in _ (by omega));have hw4b:IntKind.i64.wrap fl=fl:=IntWalk.i64_in _ (by omega);have HYS:Hid (∀ W,Calls Tryz.prog 28 #[.bool false] W fun e w'=>e=.returned (.int .i64 0)∧W=w'):=fun W=>(Ce.yes_any false W).mono fun _ _ h=>⟨by rw[h.1];rfl,h.2.symm⟩;obtain⟨w7,hw7e⟩:∃ w7,w5.setCell ⟨M,4,none⟩ (.int .i64 (fl))=w7:=⟨_,rfl⟩;have HF2:Hid (St c w B M C fv n off al (.slice (some ⟨pb,po,none⟩) np pcap) now r0 sa sc r ar (sp+1) (fl) cs w7):=hw7e▸HF1.out;have HF3:Hid (St c w B M C fv n off al (.slice (some ⟨pb,po,none⟩) np pcap) now r0 sa sc r ar (sp+1) (fl) cs w7.drew):=HF2.out.kept (xf_ gz_);go_wp2_with (go_at_call 27;refine HDO.mono ?_;rintro e w' ⟨rfl,rfl⟩)
   go_region_with (first|(go_at_call 28;refine(HYS.out _).mono ?_;rintro e w' ⟨rfl,rfl⟩))
   all_goals try rw[hw7e]
   all_goals
    generalize hw8:w7.drew=w8 at HF3 ⊢;have hB2:=HF3.out.rc.bw;obtain⟨ga,gc,w3,hrun,hb3,hm3,hc3,hn3,_⟩:=z6_ (W:=w8.alloc (.cells #[.int .i64 fx] 3)) (xb:=w8.heap.size) (x:=fx) (HF3.out.rc.ma.kept (gr1 _ _)) (by first|omega|(simp at g2 ⊢;omega)) (by have:=((gr1 w8 (.cells #[.int .i64 fx] 3))).size;omega) (heap_alloc_new w8 _);have HS2:Hid (St c w B M C fv n off al (.slice (some ⟨pb,po,none⟩) np pcap) now r0 ga gc (r++[fx]) ar (sp+1) (fl) cs (w3.setCell ⟨M,2,none⟩ (.slice ga (r.length+1) gc))):=(HF3.out.kept (gr1 _ _)).stack hm3 hc3 hn3;have d2:=xa_ HF3.out.rc.ma.blk 2;simp at d2;have d2a:∀ o:Obj,(w8.alloc o).cell? ⟨M,2,none⟩=some (.slice sa r.length sc):=fun o=>(gr1 w8 o).cell d2 (by simp);have k2:=xa_ hb3 2;simp at k2;have f2:=xc_ hb3 2;have HRUN:Hid (_=_):=hrun;clear hrun hb3 hm3 hc3 hn3;go_wp2_with (first|(at_builtin;refine x0_ rfl _ _ 25 rfl _ _ _ w3 rfl rfl HRUN.out ?_))
    first|exact hN _ _ _ _ rfl HS2.out|exact hN _ _ _ _ rfl (HS2.out.kept (xf_ gz_))
set_option maxRecDepth 1000000 in
theorem at3_ (c w wr:World) (B M C:Nat) (fv:Value) (n off al:Nat) (pb po np pcap:Nat) (now:Int) (r0:Option Nat) (sa:Option Addr) (sc:Nat) (st ar:List Int) (sp fl:Int) (cs:List Int) (u q tb to' tn tc i:Nat) (t:List Ins) (a b cc:Int) (K K0:Act→World→Prop) (Pst:Ending→World→Prop) (c3 c4 c5:Value)
 (hS:St c w B M C fv n off al (.slice (some ⟨pb,po,none⟩) np pcap) now r0 sa sc st ar sp fl cs wr) (hT:TxtC c pb q tb to' tn tc t) (hx:nth t i=⟨17,a,b,cc⟩) (hi:i<tn) (hn:tn≤100000) (hG:Gd ⟨17,a,b,cc⟩ ⟨st,ar,sp,fl⟩) (ps:List Pr) (nv k1:Nat) (m1:Ms) (ffa:Option Addr) (ffc:Nat) (h0a:0≤a) (hvn:a.toNat<np) (h0b:0≤b) (hjn:b.toNat+nv≤n) (hn2:n≤20000) (hF:c.cell? ⟨pb,po+a.toNat*5+2,none⟩=some (.slice ffa nv ffc)) (hR:RefU c pb po np pcap ps now a.toNat nv) (hE:Ex ps now k1 a.toNat (off+b.toNat) 0 j4_ ⟨st,ar,sp+1,fl⟩ m1) (hml:m1.ar.length=ar.length) (hmo:∀ q,q<off+b.toNat∨off+b.toNat+nv≤q→m1.ar.getD q 0=ar.getD q 0) (hnv:nv=0) (hfv:∃ g fc,fv=.slice (some ⟨g,0,none⟩) n fc∧n≤fc∧fc=b.toNat)
 (hN:∀ sa' sc' w' l,l.length=397→St c w B M C fv n off al (.slice (some ⟨pb,po,none⟩) np pcap) now r0 sa' sc' m1.st m1.ar m1.sp m1.fl cs w'→K (yr_ M u fv (.slice (some ⟨tb,to',none⟩) tn tc) (.slice (some ⟨C,0,none⟩) 40 40) c3 c4 c5 ((i:Int)+1) l) w')
 : Ap 397 fun l=>(zg_ Tryz.f16).wp Tryz.prog (Exit.then K (Exit.inBlock 0 (Exit.then K0 (bodyPost Tryz.prog Tryz.f16 Pst)))) (yr_ M u fv (.slice (some ⟨tb,to',none⟩) tn tc) (.slice (some ⟨C,0,none⟩) 40 40) c3 c4 c5 (i:Int) l) wr:=by
 iterate 397 intro _
 dsimp only[Ap];obtain⟨g1,g2,g3,g4,g5,g6⟩:=hG;dsimp only at g1 g2 g3 g4 g5 g6;have HS:=hd_ hS;obtain⟨X,hX⟩:∃ X,wr.heap.size=X:=⟨_,rfl⟩;have hq:=(hT.ins i hi).grown hS.rc.cw;rw[hx] at hq;obtain⟨q0,q1,q2,q3⟩:=hq;dsimp only at q0 q1 q2 q3;have HS1:Hid (St c w B M C fv n off al (.slice (some ⟨pb,po,none⟩) np pcap) now r0 sa sc st ar (sp+1) fl cs ((wr.setCell ⟨M,3,none⟩ (.int .i64 (sp+1))).alloc (.cells #[.int .i64 17,.int .i64 a,.int .i64 b,.int .i64 cc] 40))):=(hS.setS (sp+1)).kept (gr1 _ _);have hMX:M<X:=(by have:=hS.rc.ma.blk;have:=xg_ this;omega);have m3:=(gr1 wr (.cells #[.int .i64 17,.int .i64 a,.int .i64 b,.int .i64 cc] 40)).cell (xa_ hS.rc.ma.blk 3) (by simp);simp at m3;have f3:=xc_ (kept (gr1 wr (.cells #[.int .i64 17,.int .i64 a,.int .i64 b,.int .i64 cc] 40)) hS.rc.ma.blk) 3;have hw3:IntKind.i64.wrap (sp+1)=sp+1:=IntWalk.i64_in _ (by omega);have i1:(0:Int)≤(i:Int):=(by omega);have i2:(i:Int)<(tn:Int):=(by omega);have HXB:Hid (((wr.setCell ⟨M,3,none⟩ (.int .i64 (sp+1))).alloc (.cells #[.int .i64 17,.int .i64 a,.int .i64 b,.int .i64 cc] 40)).heap[X]?=some (.cells #[.int .i64 17,.int .i64 a,.int .i64 b,.int .i64 cc] 40)):=by
  exact xj_ (by simp[hX]) _
 have n1:¬M=X:=(by omega);have n2:¬X=M:=(by omega);have hwi:IntKind.i64.wrap ((i:Int)+1)=(i:Int)+1:=IntWalk.i64_in _ (by omega);clear hS hT hx;unfold yr_;conv=>arg 2;whnf
 go_upto_region 8 with fail;generalize hw2:(wr.setCell ⟨M,3,none⟩ (.int .i64 (sp+1))).alloc (.cells #[.int .i64 17,.int .i64 a,.int .i64 b,.int .i64 cc] 40)=w2 at HS1 HXB ⊢;have x0:=xa_ HXB.out 0;have x1:=xa_ HXB.out 1;have x2:=xa_ HXB.out 2;have x3:=xa_ HXB.out 3;simp at x0 x1 x2 x3;clear q0 q1 q2 q3 m3 f3 hw3 hw2;obtain⟨v,rfl⟩:=Int.eq_ofNat_of_zero_le h0a;obtain⟨j,rfl⟩:=Int.eq_ofNat_of_zero_le h0b;rw[show((v:Int)).toNat=v by simp] at hR hE hF hvn;rw[show((j:Int)).toNat=j by simp] at hE hjn hmo;have hXs:some X≠sb sa:=fun e=>by have:=(HS.out.rc.ma.row X e.symm).2;omega
 obtain⟨i3,hi3,hz3,hs3,hb3⟩:=yt_ v1_;have HRU:=hd_ hR;have HE:=hd_ hE;have m0:=xa_ HS1.out.rc.ma.blk 0;simp at m0;have q5:=HS1.out.rc.cw.cell hF (by simp);have a1:(0:Int)≤(v:Int):=(by omega);have a2:(v:Int)<(np:Int):=(by omega);have hwj:IntKind.i64.wrap ((j:Int)+(nv:Int))=(j:Int)+(nv:Int):=IntWalk.i64_in _ (by omega);have b1:(0:Int)≤(j:Int):=(by omega);have b2:(j:Int)≤(j:Int)+(nv:Int):=(by omega);have b4:((j:Int)+(nv:Int)).toNat - j=nv:=(by omega);have b5:(0:Int)≤(nv:Int):=(by omega);clear hR hE hF;obtain⟨g,fc,hfv,hfc,hfcj⟩:=hfv;rw[show((j:Int)).toNat=j by simp] at hfcj;subst hfv;subst hnv;subst hfcj;have hwj2:IntKind.i64.wrap (fc:Int)=(fc:Int):=IntWalk.i64_in _ (by omega);have b3:(fc:Int)≤(fc:Int):=(by omega);have HIM:Hid (m1.ar.length=ar.length∧bl ar m1.ar (off+fc) 0=m1.ar):=⟨hml,akr_ hml hmo⟩;have HBL:Hid (bl ar m1.ar (off+fc) 0=m1.ar):=HIM.out.2;have HM1:Hid (off+fc+0≤m1.ar.length):=(by have h1:=HIM.out.1;have h2:=HS1.out.hal;have h3:=HS1.out.ol;exact(by omega:off+fc+0≤m1.ar.length));go_upto_region 69 with fail;go_region_held3 (fun w'=>w'.cell? ⟨M,0,none⟩=some (.slice (some ⟨pb,po,none⟩) np pcap)∧w'.cell? ⟨X,1,none⟩=some (.int .i64 (v:Int))∧w'.cell? ⟨pb,po+v*5+2,none⟩=some (.slice ffa 0 ffc)) (go_keep) (fail)
 have HS3:Hid _:=HS1.out.kept (xf_ (World.grownBy.refl w2 none));have HX3:Hid _:=kept (xf_ (World.grownBy.refl w2 none)) HXB.out;go_upto_region 70 with fail;generalize hw4:w2.drew=w4 at HS3 HX3 ⊢;have v1:=xa_ HX3.out 1;have v2:=xa_ HX3.out 2;simp at v1 v2;have hw4s:w4.heap.size=w2.heap.size:=(by rw[← hw4];rfl);clear x0 x1 x2 x3 hw4 m0 q5;go_region_held3 (fun w'=>w'.cell? ⟨X,1,none⟩=some (.int .i64 (v:Int))∧w'.cell? ⟨X,2,none⟩=some (.int .i64 (fc:Int))) (first|(go_keep;done)|exact HK7.out|exact HK6.out) (first
  | (go_at_call 16
     refine(HRU.out w6 B M (.slice oa 0 oc) sa sc st (sp+1) fl (off+fc) k1 ar m1 ⟨HS6.out.rc.ma,k9_ HOW.out (by have h1:=HS1.out.cw;have h2:=HS3.out.ch.size;omega),fun y hy=>?_,HS6.out.rc.cw,HS6.out.rc.cM,HS6.out.rc.cB,HS6.out.rc.bw⟩ (by have h1:=HS1.out.hal;have h2:=HS1.out.ol;omega) HE.out).mono ?_
     ·have h1:=(HOW.out.lt y hy).1;have h4:=xg_ HX3.out;refine⟨by omega,fun e=>?_⟩;have h2:=(HS3.out.rc.ma.row y e.symm).2;omega
     rintro e w7 ⟨rfl,sa',sc',hrc,hlen,hch,hnx⟩;have HIB:Hid (∀ y,(Value.slice oa 0 oc).ownBlock=some y→w4.heap.size≤y):=fun y hy=>(HOW.out.lt y hy).1;have HS5:Hid (St c w B M C (.slice (some ⟨g,0,none⟩) n fc) n off al (.slice (some ⟨pb,po,none⟩) np pcap) now r0 sa' sc' m1.st ar m1.sp m1.fl cs w7):=HS6.out.call hrc.ma hch hnx (fun y hy=>by
      have h1:=HIB.out y hy;have h2:=xg_ HS3.out.lb;refine⟨by omega,fun e=>?_,by have:=HS3.out.ch.size;omega⟩;have h3:=(HS3.out.rc.fr.lt y e.symm).2;omega)
     have HX5:Hid (w7.heap[X]?=some (.cells #[.int .i64 17,.int .i64 (v:Int),.int .i64 (fc:Int),.int .i64 cc] 40)):=(hch.block X (xg_ HX6.out) (by omega) (fun e=>by have:=HIB.out X e.symm;have:=xg_ HX3.out;omega) (fun e=>hXs e)).trans HX6.out;have HO5:Hid (OwnV c.heap.size w7 (.slice oa 0 oc) (sub m1.ar (off+fc) 0)):=hrc.fr;have HK7:Hid (w7.cell? ⟨X,1,none⟩=some (.int .i64 (v:Int))∧w7.cell? ⟨X,2,none⟩=some (.int .i64 (fc:Int))):=by
      have t1:=xa_ HX5.out 1;have t2:=xa_ HX5.out 2;simp at t1 t2;exact⟨t1,t2⟩
     skip
     clear hrc hlen hch hnx)
  | (refine qz_ (by rfl) _ _ 25 (by rfl) 3 i3 _ 1 8 Tryz.underlying25 hi3 hz3 hs3 hb3 rfl (by omega) (some (⟨g,0,none⟩:Addr)) 0 0 ((sub ar (off+fc) 0).map (Value.int .i64)) (by rfl) (by rfl) (by simp[sub]) (.inl rfl) (by simp[Value.oneCell']) (by unfold maxLen;omega) (by omega) ?_
     intro oa oc w6 hown6 hg6;have hg46:w4.grownBy w6 none:=(xf_ gz_).trans hg6;have HS6:Hid _:=HS3.out.kept hg46;have HX6:Hid _:=kept hg46 HX3.out;have HK6:Hid (w6.cell? ⟨X,1,none⟩=some (.int .i64 (v:Int))∧w6.cell? ⟨X,2,none⟩=some (.int .i64 (fc:Int))):=by
      have t1:=xa_ HX6.out 1;have t2:=xa_ HX6.out 2;simp at t1 t2;exact⟨t1,t2⟩
     have HOW:Hid (OwnV w4.heap.size w6 (.slice oa 0 oc) (sub ar (off+fc) 0)):=by
      have hsl:(sub ar (off+fc) 0).length=0:=jt_ _ _ _ (by have h1:=HS1.out.hal;have h2:=HS1.out.ol;omega);unfold OwnV;rw[hsl];exact hown6
     clear hown6 hg6))
 all_goals go_wp2
 all_goals
  go_loopg [25] 0 (fun gk s25 wx=>s25=.int .i64 0∧Hid (St c w B M C (.slice (some ⟨g,0,none⟩) n fc) n off al (.slice (some ⟨pb,po,none⟩) np pcap) now r0 sa' sc' m1.st ar m1.sp m1.fl cs wx))
  case atStart=>exact⟨rfl,HS5.out⟩
  case round=>
   obtain⟨rfl,hst⟩:=hrel;go_wp2;exact hN _ _ _ _ rfl (by
    have e:=HBL.out;rw[agt_] at e;rw[← e];exact hst.out)
theorem afn_ {w:World} {a:Option Addr} {c:Nat} {l:List Slt} (h:SlAt w (.slice a l.length c) l) (j:Nat) (hj:j<l.length):∃ b o,a=some ⟨b,o,none⟩∧∀ s,l.getD j slt0=s→w.cell? ⟨b,o+j*6,none⟩=some (.string s.path)∧w.cell? ⟨b,o+j*6+1,none⟩=some (.int .i64 s.kind)∧w.cell? ⟨b,o+j*6+2,none⟩=some (.int .i64 s.at')∧w.cell? ⟨b,o+j*6+3,none⟩=some (.int .i64 s.len)∧w.cell? ⟨b,o+j*6+4,none⟩=some (.bool s.keep)∧w.cell? ⟨b,o+j*6+5,none⟩=some (.int .i64 s.role):=by
 obtain⟨a',c',e,h|⟨b,o,rfl,hc⟩⟩:=h
 ·subst h;simp at hj
 ·simp at e;refine⟨b,o,e.1,fun s hs=>?_⟩;have:=hc j hj;rw[hs] at this;exact this
theorem ajd_ {w:World} {a:Option Addr} {c:Nat} {l:List Ins} (h:TxtAt w (.slice a l.length c) l) (j:Nat) (hj:j<l.length):∃ b o,a=some ⟨b,o,none⟩∧∀ s,nth l j=s→w.cell? ⟨b,o+j*4,none⟩=some (.int .i64 s.d)∧w.cell? ⟨b,o+j*4+1,none⟩=some (.int .i64 s.a)∧w.cell? ⟨b,o+j*4+2,none⟩=some (.int .i64 s.b)∧w.cell? ⟨b,o+j*4+3,none⟩=some (.int .i64 s.c):=by
 obtain⟨a',c',e,h|⟨b,o,rfl,hc⟩⟩:=h
 ·subst h;simp at hj
 ·simp at e;refine⟨b,o,e.1,fun s hs=>?_⟩;have:=hc j hj;rw[hs] at this;exact this
set_option maxRecDepth 10000 in
theorem arm_ (hv cv:Value) (ps:List Pr) (w:World) (h1:CdP w hv ps) (h2:CdP w cv ps) (hB:BdP ps) :
 Calls Tryz.prog 12 #[.agg #[hv],.agg #[cv]] w fun e w'=>e=.returned (.bool true)∧w.grownBy w' none:=by
 obtain⟨a1,c1,rfl,hc1,h1⟩:=h1;obtain⟨a2,c2,rfl,hc2,h2⟩:=h2;have HC1:=hd_ h1;have HC2:=hd_ h2;have HBD:=hd_ hB;have hl:=hB.n;clear h1 h2 hB;obtain⟨n,hn⟩:∃ n,ps.length=n:=⟨_,rfl⟩;have HN:=hd_ hn;rw[hn] at hl hc1 hc2 ⊢;clear hn;obtain⟨H,hH⟩:∃ H,w.heap.size=H:=⟨_,rfl⟩;go_enter Tryz.func12,Tryz.ntmps12;go_wp2;go_loopg [5] n (fun gk s5 wx=>∃(k:Nat),s5=.int .i64 k∧k≤n∧gk=n - k∧wx.heap[H]?=some (.cells #[.slice a1 n c1] 24)∧wx.heap[H+1]?=some (.cells #[.slice a2 n c2] 24)∧w.grownBy wx none∧H+2≤wx.heap.size)
 case atStart=>
  refine⟨0,rfl,Nat.zero_le _,by omega,?_,?_,xb_ (gr1 _ _) _,by simp[hH]⟩
  ·rw[xh_ (by simp[hH]),xj_ hH.symm]
  ·rw[xj_ (by simp[hH])]
 case round=>
  obtain⟨k,rfl,hk,hgk,hb0,hb1,hgr,hsz⟩:=hrel;have HG:=hd_ hgk;have HB0:=hd_ hb0;have HB1:=hd_ hb1;have z0:=xa_ hb0 0;have z1:=xa_ hb1 0;simp at z0 z1;clear hgk hb0 hb1;by_cases hlt:k<n
  · have hkl:k<ps.length:=(by rw[HN.out];exact hlt);rcases HC1.out with h|⟨b',off,rfl,hc⟩
    ·subst h;simp at hkl
    rcases HC2.out with h|⟨b2,off2,rfl,hc2'⟩
    ·subst h;simp at hkl
    obtain⟨fv,sv,tv,hp0⟩:=hc k hkl;obtain⟨fv2,sv2,tv2,hp2⟩:=hc2' k hkl;have hp:=hp0.grown hgr;have hq:=hp2.grown hgr;have e1:=HBD.out.fs k hkl;have e2:=HBD.out.sl k hkl;have e3:=HBD.out.tx k hkl;generalize ps.getD k pr0=p at hp hq e1 e2 e3;obtain⟨pk,pn,fs,sl,tx⟩:=p;dsimp only at e1 e2 e3;obtain⟨fa,fc,rfl,_⟩:=hp.first
    obtain⟨fa2,fc2,rfl,_⟩:=hq.first
    obtain⟨sa,sc,rfl,_⟩:=hp.slots;obtain⟨ta,tc,rfl,_⟩:=hp.text;obtain⟨sa2,sc2,rfl,_⟩:=hq.slots;obtain⟨ta2,tc2,rfl,_⟩:=hq.text;have cI:∀ W,wr.grownBy W none→Calls Tryz.prog 9 #[.slice fa fs.length fc,.slice fa2 fs.length fc2] W fun e w'=>e=.returned (.bool true)∧W.grownBy w' none:=fun W hW=>aad_ _ _ fs W (xo_ hp.first hW) (xo_ hq.first hW) (by omega);have q0:=hp.kind;have q1:=hp.name;have q2:=hp.fcell;have q3:=hp.scell;have q4:=hp.tcell;have r0:=hq.kind;have r1:=hq.name;have r2:=hq.fcell;have r3:=hq.scell;have r4:=hq.tcell;dsimp only at q0 q1 q2 q3 q4 r0 r1 r2 r3 r4;have HP:=hd_ hp;have HQ:=hd_ hq;clear hp hq hp0 hp2 hc hc2';have i1:(0:Int)≤(k:Int):=(by omega);have i2:(k:Int)<(n:Int):=(by omega);obtain⟨nf,hnf⟩:∃ m,fs.length=m:=⟨_,rfl⟩;rw[hnf] at cI e1 q2 r2;clear hnf;obtain⟨ns,hns⟩:∃ m,sl.length=m:=⟨_,rfl⟩;obtain⟨nt,hnt⟩:∃ m,tx.length=m:=⟨_,rfl⟩;have HNS:=hd_ hns;have HNT:=hd_ hnt;rw[hns] at e2 q3 r3;rw[hnt] at e3 q4 r4;clear hns hnt;go_upto_region 6 with fail;go_cut [6,7] (fun s6 s7 wx=>∃ x6 x7,s6=.pointer (some ⟨x6,0,none⟩)∧s7=.pointer (some ⟨x7,0,none⟩)∧Hid (wx.heap[x6]?=some (.cells #[.int .i64 pk,.string pn,.slice fa nf fc,.slice sa ns sc,.slice ta nt tc] 44))∧Hid (wx.heap[x7]?=some (.cells #[.int .i64 pk,.string pn,.slice fa2 nf fc2,.slice sa2 ns sc2,.slice ta2 nt tc2] 44))∧wr.grownBy wx none)
    case first=>
     go_region_held3 (fun w'=>w'.cell? ⟨H,0,none⟩=some (.slice (some ⟨b',off,none⟩) n c1)∧w'.cell? ⟨H+1,0,none⟩=some (.slice (some ⟨b2,off2,none⟩) n c2)∧w'.cell? ⟨b',off+k*5,none⟩=some (.int .i64 pk)∧w'.cell? ⟨b',off+k*5+1,none⟩=some (.string pn)∧w'.cell? ⟨b',off+k*5+2,none⟩=some (.slice fa nf fc)∧w'.cell? ⟨b',off+k*5+3,none⟩=some (.slice sa ns sc)∧w'.cell? ⟨b',off+k*5+4,none⟩=some (.slice ta nt tc)∧w'.cell? ⟨b2,off2+k*5,none⟩=some (.int .i64 pk)∧w'.cell? ⟨b2,off2+k*5+1,none⟩=some (.string pn)∧w'.cell? ⟨b2,off2+k*5+2,none⟩=some (.slice fa2 nf fc2)∧w'.cell? ⟨b2,off2+k*5+3,none⟩=some (.slice sa2 ns sc2)∧w'.cell? ⟨b2,off2+k*5+4,none⟩=some (.slice ta2 nt tc2)) (go_keep) (fail)
     all_goals go_wp2_with fail
     all_goals go_meet
     all_goals
      refine⟨_,_,rfl,rfl,?_,?_,xf_ (xb_ (gr1 _ _) _)⟩
      ·first|(refine(xe_ _ _).trans (xj_ ?_ _);simp;done)|(refine(xe_ _ _).trans ((xh_ (by simp) _).trans (xj_ ?_ _));simp;done)
      ·first|(refine(xe_ _ _).trans (xj_ ?_ _);simp;done)|(refine(xe_ _ _).trans ((xh_ (by simp) _).trans (xj_ ?_ _));simp;done)
    case rest=>
     obtain⟨x6,x7,rfl,rfl,HX6,HX7,hgc⟩:=hcut;have a0:=xa_ HX6.out 0;have a1:=xa_ HX6.out 1;have a2:=xa_ HX6.out 2;have a3:=xa_ HX6.out 3;have a4:=xa_ HX6.out 4;have b0:=xa_ HX7.out 0;have b1:=xa_ HX7.out 1;have b2:=xa_ HX7.out 2;have b3:=xa_ HX7.out 3;have b4:=xa_ HX7.out 4;simp at a0 a1 a2 a3 a4 b0 b1 b2 b3 b4;clear z0 z1 q0 q1 q2 q3 q4 r0 r1 r2 r3 r4;go_wp2_with fail
     refine(cI _ hgc).mono ?_;rintro e w1 ⟨rfl,hg1⟩;have HX6x:Hid (w1.heap[x6]?=some (.cells #[.int .i64 pk,.string pn,.slice fa nf fc,.slice sa ns sc,.slice ta nt tc] 44)):=kept hg1 HX6.out;have HX7x:Hid (w1.heap[x7]?=some (.cells #[.int .i64 pk,.string pn,.slice fa2 nf fc2,.slice sa2 ns sc2,.slice ta2 nt tc2] 44)):=kept hg1 HX7.out;have hgw1:wr.grownBy w1 none:=hgc.trans hg1;clear a0 a1 a2 a3 a4 b0 b1 b2 b3 b4;have a3:=xa_ HX6x.out 3;have a4:=xa_ HX6x.out 4;have b3:=xa_ HX7x.out 3;have b4:=xa_ HX7x.out 4;simp at a3 a4 b3 b4;clear hg1 hgc cI;go_wp2_with fail
     go_loopg [8] ns (fun gk s8 wx=>∃(j:Nat),s8=.int .i64 j∧j≤ns∧gk=ns - j∧w1.grownBy wx none)
     case atStart=>exact⟨0,rfl,Nat.zero_le _,by omega,gz_⟩
     case round=>
      obtain⟨j,rfl,hj,hgj,hgr1⟩:=hrel;have HGJ:=hd_ hgj;have a3':=hgr1.cell a3 (by simp);have b3':=hgr1.cell b3 (by simp);clear hgj;by_cases hjl:j<ns
      · obtain⟨p1,o1,rfl,hs1⟩:=afn_ (HP.out.slots.grown (hgw1.trans hgr1)) j (by show j<sl.length;rw[HNS.out];exact hjl);obtain⟨p2,o2,rfl,hs2⟩:=afn_ (HQ.out.slots.grown (hgw1.trans hgr1)) j (by show j<sl.length;rw[HNS.out];exact hjl);obtain⟨s,hse⟩:∃ s,sl.getD j slt0=s:=⟨_,rfl⟩;obtain⟨c0,c1',c2',c3,c4,c5⟩:=hs1 s hse;obtain⟨g0,g1,g2,g3,g4,g5⟩:=hs2 s hse;obtain⟨s0,s1,s2,s3,s4,s5⟩:=s;dsimp only at c0 c1' c2' c3 c4 c5 g0 g1 g2 g3 g4 g5;clear hs1 hs2 hse;have j1:(0:Int)≤(j:Int):=(by omega);have j2:(j:Int)<(ns:Int):=(by omega);go_wp2_with fail
        go_quiet (fail)
        go_wp2_with fail
        have hgl:=HGJ.out;go_roundg (ns - (j+1))
        all_goals first|omega|exact⟨j+1,by go_num,by omega,by omega,x4_ hgr1 _⟩|exact⟨j+1,by go_num,by omega,by omega,xf_ hgr1⟩
      · have hj':¬((j:Int)<(ns:Int)):=(by omega);have a4':=hgr1.cell a4 (by simp);have b4':=hgr1.cell b4 (by simp);have hgw2:=hgw1.trans hgr1;clear HGJ a3 a4 b3 b4;go_wp2_with fail
        go_loopg [9] nt (fun gk s9 wx=>∃(i:Nat),s9=.int .i64 i∧i≤nt∧gk=nt - i∧wr.grownBy wx none)
        case atStart=>exact⟨0,rfl,Nat.zero_le _,by omega,gz_⟩
        case round=>
         obtain⟨i,rfl,hi,hgi,hgr2⟩:=hrel;have HGI:=hd_ hgi;have a4x:=hgr2.cell a4' (by simp);have b4x:=hgr2.cell b4' (by simp);clear hgi;by_cases hil:i<nt
         · obtain⟨p1,o1,rfl,hs1⟩:=ajd_ (HP.out.text.grown (hgw2.trans hgr2)) i (by show i<tx.length;rw[HNT.out];exact hil);obtain⟨p2,o2,rfl,hs2⟩:=ajd_ (HQ.out.text.grown (hgw2.trans hgr2)) i (by show i<tx.length;rw[HNT.out];exact hil);obtain⟨s,hse⟩:∃ s,nth tx i=s:=⟨_,rfl⟩;obtain⟨c0,c1',c2',c3⟩:=hs1 s hse;obtain⟨g0,g1,g2,g3⟩:=hs2 s hse;obtain⟨s0,s1,s2,s3⟩:=s;dsimp only at c0 c1' c2' c3 g0 g1 g2 g3;clear hs1 hs2 hse;have j1:(0:Int)≤(i:Int):=(by omega);have j2:(i:Int)<(nt:Int):=(by omega);go_wp2_with fail
           go_quiet (fail)
           go_wp2_with fail
           have hgl:=HGI.out;go_roundg (nt - (i+1))
           all_goals first|omega|exact⟨i+1,by go_num,by omega,by omega,x4_ hgr2 _⟩|exact⟨i+1,by go_num,by omega,by omega,xf_ hgr2⟩
         · have hi':¬((i:Int)<(nt:Int)):=(by omega);have hgw3:=hgw2.trans hgr2;have hk0:=kept hgw3 HB0.out;have hk1:=kept hgw3 HB1.out;have hss:=hgw3.size;have HK0:Hid (_=_):=hk0;have HK1:Hid (_=_):=hk1;clear HGI hk0 hk1;go_wp2_with fail
           have hgl:=HG.out;go_roundg (n - (k+1))
           all_goals first|omega|exact⟨k+1,by go_num,by omega,by omega,HK0.out,HK1.out,hgr.trans hgw3,by omega⟩
  ·have hk':¬((k:Int)<(n:Int)):=(by omega);go_wp2;go_ret;exact⟨rfl,hgr⟩
end Go.Proofs.YtcgbfhpmkpglkaaGreatDoor
namespace Go.Proofs.YtcgbfhpmkpglkaaGreatDoor
open Go.RowKit
attribute [local go_sem ↓] Go.wp_at_zero Go.wp_at_succ
set_option linter.unusedVariables false
set_option linter.unusedSimpArgs false
set_option maxRecDepth 10000 in
theorem an1_ (B:Nat) (v:Value) (us:List Un) (w:World) (h:CopyAt w B v us) (hB:BdP (us.map Un.p)) :
 Calls Tryz.prog 13 #[.agg #[v]] w fun e w'=>e=.returned (.bool true)∧w.grownBy w' none:=by
 have HCP:Hid (∀ i,i<us.length→CpAt w B v.ownBlock (us.getD i un0)):=h.2;obtain⟨a,cap,rfl,hcap,hc⟩:=h.cells;have HC:=hd_ hc;have HBD:=hd_ hB;have hl:=hB.n;rw[List.length_map] at hl;clear h hc hB;obtain⟨n,hn⟩:∃ n,us.length=n:=⟨_,rfl⟩;have HN:=hd_ hn;rw[hn] at hl hcap ⊢;clear hn;obtain⟨H,hH⟩:∃ H,w.heap.size=H:=⟨_,rfl⟩;obtain⟨i3,hi3,z3,s3,b3⟩:=yt_ v1_;go_enter Tryz.func13,Tryz.ntmps13;go_wp2;go_loopg [3] n (fun gk s3 wx=>∃(k:Nat),s3=.int .i64 k∧k≤n∧gk=n - k∧wx.heap[H]?=some (.cells #[.slice a n cap] 24)∧w.grownBy wx none∧H+1≤wx.heap.size)
 case atStart=>
  refine⟨0,rfl,Nat.zero_le _,by omega,?_,gr1 _ _,by simp[hH]⟩;rw[xj_ hH.symm]
 case round=>
  obtain⟨k,rfl,hk,hgk,hb0,hgr,hsz⟩:=hrel;have HG:=hd_ hgk;have HB0:=hd_ hb0;have z0:=xa_ hb0 0;simp at z0;clear hgk hb0;by_cases hlt:k<n
  · have hkl:k<us.length:=(by rw[HN.out];exact hlt);rcases HC.out with h|⟨b',rfl,hc⟩
    ·subst h;simp at hkl
    obtain⟨q0,q1,q2,q3,q4⟩:=hc k hkl;have hu:=HCP.out k hkl;have e1:=HBD.out.fs k (by simpa using hkl);have e3:=HBD.out.tx k (by simpa using hkl);have eg:(us.map Un.p).getD k pr0=(us.getD k un0).p:=(by simp[List.getD,hkl]);rw[eg] at e1 e3;generalize us.getD k un0=u at q0 q1 q2 q3 q4 hu e1 e3;obtain⟨⟨pk,pn,fs,sl,tx⟩,fv,sv,tv⟩:=u;obtain⟨c,hfv,hroom,_,_,_⟩:=hu.first
    obtain⟨g,tcap,htv,htc,hmk,_⟩:=hu.mark;obtain⟨sa,sc,hsv,_⟩:=hu.slots;dsimp only at e1 e3 q0 q1 q2 q3 q4 htc hmk hroom hfv htv hsv;subst hfv htv hsv;have q0':=hgr.cell q0 (by simp);have q1':=hgr.cell q1 (by simp);have q2':=hgr.cell q2 (by simp);have q3':=hgr.cell q3 (by simp);have q4':=hgr.cell q4 (by simp);have mk':=hgr.cell hmk (by simp);have HR:Hid (∀ W,wr.grownBy W none→RoomAt W c fs):=fun W hW=>(hroom.kept hgr).kept hW;clear q0 q1 q2 q3 q4 hmk hc hu eg hroom;obtain⟨nf,hnf⟩:∃ m,fs.length=m:=⟨_,rfl⟩;obtain⟨nt,hnt⟩:∃ m,tx.length=m:=⟨_,rfl⟩;have HNF:=hd_ hnf;rw[hnf] at e1 q2';rw[hnt] at e3 q4' htc mk';clear hnf hnt;have HAP:Hid (∀ W,wr.grownBy W none→(fs.map (Value.int .i64)).length=nf*1∧(nf=0∨∃ b off,(some ⟨c,0,none⟩:Option Addr)=some ⟨b,off,none⟩∧∀ j u,(fs.map (Value.int .i64))[j]?=some u→W.cell? ((⟨b,off,none⟩:Addr).add j)=some u)):=fun W hW=>by
     refine⟨by simp[HNF.out],.inr ⟨c,0,rfl,fun j u hj=>?_⟩⟩;obtain⟨fa,fc,e,h|⟨b,off,h,hc⟩⟩:=(HR.out W hW).rd
     ·subst h;simp at hj
     · simp at e;obtain⟨rfl,rfl⟩:=e;simp at h;obtain⟨rfl,rfl⟩:=h;have hjl:j<fs.length:=by
        rcases Nat.lt_or_ge j fs.length with h|h
        ·exact h
        ·rw[List.getElem?_eq_none (by simpa using h)] at hj;simp at hj
       rw[jc_,hc j hjl,← hj];simp[hjl]
    have cL:∀ W v',wr.grownBy W none→W.ownsRow 0 3 1 v' nf (fs.map (Value.int .i64))→Calls Tryz.prog 10 #[.slice (some ⟨c,0,none⟩) nf (nf+5),v'] W fun e w'=>e=.returned (.bool true)∧W.grownBy w' none:=fun W v' hW ho=>by
     have h:=aeb_ c v' fs W (HR.out W hW) (OwnV.rd (B:=0) (by unfold OwnV;rw[HNF.out];exact ho)) (by rw[HNF.out];omega);rw[HNF.out] at h;exact h
    have i1:(0:Int)≤(k:Int):=(by omega);have i2:(k:Int)<(n:Int):=(by omega);have j1:(0:Int)≤(nt:Int):=(by omega);have j2:(nt:Int)<(nt:Int)+1:=(by omega);have j3:(nt:Int)+1≤(tcap:Int):=(by omega);have j4:(0:Int)≤(nt:Int)+1:=(by omega);go_wp2_with fail
    generalize hw1:wr.alloc (.cells #[.int .i64 pk,.string pn,.slice (some ⟨c,0,none⟩) nf (nf+5),.slice sa sl.length sc,.slice (some ⟨g,0,none⟩) nt tcap] 44)=w1;have hX1:w1.heap[wr.heap.size]?=some (.cells #[.int .i64 pk,.string pn,.slice (some ⟨c,0,none⟩) nf (nf+5),.slice sa sl.length sc,.slice (some ⟨g,0,none⟩) nt tcap] 44):=hw1▸heap_alloc_new _ _;have hgw1:wr.grownBy w1 none:=hw1▸gr1 _ _;have d2:=xa_ hX1 2;have d4:=xa_ hX1 4;simp at d2 d4;have mk1:=hgw1.cell mk' (by simp);clear hw1 hX1 q0' q1' q2' q3' q4' mk';have jw:IntKind.i64.wrap ((nt:Int)+1)=(nt:Int)+1:=IntWalk.i64_in _ (by omega);go_region_held3 (fun w'=>w'.cell? ⟨wr.heap.size,2,none⟩=some (.slice (some ⟨c,0,none⟩) nf (nf+5))∧w'.cell? ⟨wr.heap.size,4,none⟩=some (.slice (some ⟨g,0,none⟩) nt tcap)∧w'.cell? ⟨g,nt*4+1,none⟩=some (.int .i64 (-9))) (first|(go_keep;done)|exact HK3.out|exact HK2.out) (first
     | (go_at_call 10
        refine(cL _ _ hgw2 (k9_ hown2 (Nat.zero_le _))).mono ?_;rintro e w3 ⟨rfl,hg3⟩;have HK3:Hid (w3.cell? ⟨wr.heap.size,2,none⟩=some (.slice (some ⟨c,0,none⟩) nf (nf+5))∧w3.cell? ⟨wr.heap.size,4,none⟩=some (.slice (some ⟨g,0,none⟩) nt tcap)∧w3.cell? ⟨g,nt*4+1,none⟩=some (.int .i64 (-9))):=⟨hg3.cell HK2.out.1 (by simp),hg3.cell HK2.out.2.1 (by simp),hg3.cell HK2.out.2.2 (by simp)⟩)
     | (refine qz_ (by rfl) _ _ 25 (by rfl) 3 i3 _ 1 8 Tryz.underlying25 hi3 z3 s3 b3 rfl (by omega) (some ⟨c,0,none⟩) nf (nf+5) (fs.map (Value.int .i64)) (by rfl) (by rfl) (HAP.out _ (xf_ hgw1)).1 (HAP.out _ (xf_ hgw1)).2 (by simp[Value.oneCell']) (by unfold maxLen;omega) (by omega) ?_
        intro oa oc w2 hown2 hg2;have hgw2:wr.grownBy w2 none:=(xf_ hgw1).trans hg2;have HK2:Hid (w2.cell? ⟨wr.heap.size,2,none⟩=some (.slice (some ⟨c,0,none⟩) nf (nf+5))∧w2.cell? ⟨wr.heap.size,4,none⟩=some (.slice (some ⟨g,0,none⟩) nt tcap)∧w2.cell? ⟨g,nt*4+1,none⟩=some (.int .i64 (-9))):=⟨hg2.cell d2 (by simp),hg2.cell d4 (by simp),hg2.cell mk1 (by simp)⟩))
    go_wp2_with fail
    have hgw3:=hgw2.trans hg3;have hss:=hgw3.size;have hgl:=HG.out;go_roundg (n - (k+1))
    all_goals first|omega|exact⟨k+1,by go_num,by omega,by omega,kept hgw3 HB0.out,hgr.trans hgw3,by omega⟩
  ·have hk':¬((k:Int)<(n:Int)):=(by omega);go_wp2;go_ret;exact⟨rfl,hgr⟩
end Go.Proofs.YtcgbfhpmkpglkaaGreatDoor
