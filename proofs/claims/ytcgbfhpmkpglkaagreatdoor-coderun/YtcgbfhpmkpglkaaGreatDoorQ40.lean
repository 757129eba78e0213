/- Texts put together: BlT6u, Y6, Y3std. -/
import Derived.Test.YtcgbfhpmkpglkaaGreatDoorQ36
import Derived.Test.YtcgbfhpmkpglkaaGreatDoorQ32
import Derived.Test.YtcgbfhpmkpglkaaGreatDoorQ37
import Derived.Test.YtcgbfhpmkpglkaaGreatDoorQ38
import Derived.Test.YtcgbfhpmkpglkaaGreatDoorQ39
set_option linter.unusedVariables false
set_option linter.unusedSimpArgs false
set_option maxHeartbeats 8000000
namespace Go.Proofs.YtcgbfhpmkpglkaaGreatDoor.Bl
open Go.RowKit
attribute [local go_sem ↓] Go.wp_at_zero Go.wp_at_succ
set_option maxRecDepth 10000 in
theorem ag0_:qq_ ze_ 3 3 [1,1,2] [1,1,1,1,2] yn_:=by
 intro vs vi l li now w hr hri;obtain⟨a0,a1,a2,e⟩:=uq_ 1 1 2 l;obtain⟨c0,c1,c2,c3,c4,e'⟩:=apj_ 1 1 1 1 2 li;have HR:Hid (rd w vs l):=hr;have HRI:Hid (rd w vi li):=hri;have HE:Hid (xm_ (yb_ adt_) l=_):=e;have HE':Hid (xm_ (yb_ acu_) li=_):=e';rw[e,e'];clear hr hri e e';have h_x0:=ye_ a0;have h_x1:=ye_ a1;have h_x2:=q6_ a2;have h_i0:=ye_ c0;have h_i1:=ye_ c1;have h_i2:=ye_ c2;have h_i3:=ye_ c3;have h_i4:=q6_ c4;have h_now:=yo_ now;generalize xd_ 1 a0=x0 at *;generalize xd_ 1 a1=x1 at *;generalize xd_ 2 a2=x2 at *;generalize xd_ 1 c0=i0 at *;generalize xd_ 1 c1=i1 at *;generalize xd_ 1 c2=i2 at *;generalize xd_ 1 c3=i3 at *;generalize xd_ 2 c4=i4 at *;have hlS:adt_.length=3:=rfl;have hlI:acu_.length=5:=rfl;unfold ze_;go_enter Tryz.func47,Tryz.ntmps47;go_wp2_with fail
 refine(uf_ _).mono ?_;rintro e w1 ⟨v,rfl,⟨r1,r2,r3,rfl,_,_,_,_,_,_,R1,R2,R3⟩,hg1⟩;go_wp2_with fail
 refine(xp_ adt_ (by decide) r3 vs l _ ?_ ?_).mono ?_
 ·exact(xh_ (xg_ R3) _).trans R3
 ·exact xo_ HR.out (xb_ hg1 _)
 rintro e w2 ⟨rfl,S2,hg2⟩;have X2:=xa_ (kept hg2 (heap_alloc_new w1 _)) 0;simp at X2;go_wp2_with fail
 refine(xp_ acu_ (by decide) r1 vi li _ ?_ ?_).mono ?_
 ·exact kept hg2 ((xh_ (xg_ R1) _).trans R1)
 ·exact xo_ HRI.out ((xb_ hg1 _).trans hg2)
 rintro e w3 ⟨rfl,I3,hg3⟩;have S3:=kept hg3 S2;rw[HE.out] at S3;rw[HE'.out] at I3;have hgw:w.grownBy w3 none:=((xb_ hg1 _).trans hg2).trans hg3;have ls:=xg_ S3;have li3:=xg_ I3;clear X2 R1 R2 R3 S2 hg1 hg2 hg3;simp only[World.size_alloc] at S3 ls;generalize w1.heap.size+1=cs at S3 ls ⊢;generalize w2.heap.size=ci at I3 li3 ⊢;go_wp2_with (go_at_call 42;refine(xq_ _ _ _).mono ?_;rintro e w' ⟨rfl,rfl⟩)
 refine(aem_ cs ci x0 x1 x2 i0 i1 i2 i3 i4 _ h_x0 h_x1 h_x2 h_i0 h_i1 h_i2 h_i3 h_i4 S3 I3).mono ?_;rintro e w4 ⟨d1,d2,rfl,g1,g2,gne,h1,h2,hg4⟩;go_wp2_with fail
 go_ret2;exact xy_ ⟨d1,d2,rfl,g1,g2,gne,h1,h2,hg4⟩ hgw
end Go.Proofs.YtcgbfhpmkpglkaaGreatDoor.Bl
namespace Go.Proofs.YtcgbfhpmkpglkaaGreatDoor
open Go.RowKit
theorem arf_ (num:Int) (h1:1≤num) (h2:num≤12) (w:World) (M g n fc p bs:Nat) (f:List Int) (now cc:Int) (hM:w.cell? ⟨M,1,none⟩=some (.int .i64 now)) (hf:OwnV bs w (.slice (some ⟨g,0,none⟩) n fc) f) (hfl:f.length=n) (hp:(p:Int)+yk_ num≤n) (hn2:n≤20000) (hfc:n≤fc) :
 Calls Tryz.prog 30 #[.pointer (some ⟨M,0,none⟩),.agg #[.int .i64 18,.int .i64 num,.int .i64 (p:Int),.int .i64 cc],.slice (some ⟨g,0,none⟩) n fc] w fun e w'=>e=.returned (.tuple #[])∧w.grownBy w' (some g)∧OwnV bs w' (.slice (some ⟨g,0,none⟩) n fc) (q0_ num now f p):=by
 have hn:num=1∨num=2∨num=3∨num=4∨num=5∨num=6∨num=7∨num=8∨num=9∨num=10∨num=11∨num=12:=(by omega);rcases hn with rfl|rfl|rfl|rfl|rfl|rfl|rfl|rfl|rfl|rfl|rfl|rfl
 ·simp[yk_] at hp;exact q2_ zu_ 0 (by omega) rfl tonI tonO tonS 2 2 4 rfl rfl rfl [1,5,1,5] [1,5] Bl.jy_ u8_ Bl.ai5_ Bl.us_ (by omega) (by omega) (by omega) w M g n fc p bs f now cc hM hf hfl (by omega) hn2 hfc
 ·simp[yk_] at hp;exact q2_ zv_ 1 (by omega) rfl tofI tofO tofS 2 2 4 rfl rfl rfl [1,5,1,5] [1,5] Bl.qv_ u9_ Bl.ai6_ Bl.ut_ (by omega) (by omega) (by omega) w M g n fc p bs f now cc hM hf hfl (by omega) hn2 hfc
 ·simp[yk_] at hp;exact q2_ qu_ 2 (by omega) rfl tpI tpO tpS 2 2 4 rfl rfl rfl [1,5,1,5] [1,5] Bl.tpF aat_ Bl.akt_ Bl.aa9_ (by omega) (by omega) (by omega) w M g n fc p bs f now cc hM hf hfl (by omega) hn2 hfc
 ·simp[yk_] at hp;exact q2_ zw_ 3 (by omega) rfl ctuI ctuO ctuS 3 2 2 rfl rfl rfl [1,2] [1,1,2] Bl.qr_ aaa_ Bl.ai7_ Bl.uu_ (by omega) (by omega) (by omega) w M g n fc p bs f now cc hM hf hfl (by omega) hn2 hfc
 ·simp[yk_] at hp;exact q2_ zx_ 4 (by omega) rfl ctdI ctdO ctdS 3 2 2 rfl rfl rfl [1,2] [1,1,2] Bl.qs_ aab_ Bl.ai8_ Bl.uv_ (by omega) (by omega) (by omega) w M g n fc p bs f now cc hM hf hfl (by omega) hn2 hfc
 ·simp[yk_] at hp;exact q2_ ze_ 5 (by omega) rfl acu_ aeu_ adt_ 5 3 3 rfl rfl rfl [1,1,2] [1,1,1,1,2] Bl.yn_ uf_ Bl.ag0_ Bl.vx_ (by omega) (by omega) (by omega) w M g n fc p bs f now cc hM hf hfl (by omega) hn2 hfc
 ·simp[yk_] at hp;exact q2_ zb_ 6 (by omega) rfl kd_ aar_ k7_ 1 1 1 rfl rfl rfl [1] [1] Bl.qi_ q9_ Bl.aen_ Bl.ky_ (by omega) (by omega) (by omega) w M g n fc p bs f now cc hM hf hfl (by omega) hn2 hfc
 ·simp[yk_] at hp;exact q2_ zc_ 7 (by omega) rfl kd_ aar_ k7_ 1 1 1 rfl rfl rfl [1] [1] Bl.qj_ ja_ Bl.aeo_ Bl.kz_ (by omega) (by omega) (by omega) w M g n fc p bs f now cc hM hf hfl (by omega) hn2 hfc
 ·simp[yk_] at hp;exact q2_ q7_ 8 (by omega) rfl srI srO srS 2 1 1 rfl rfl rfl [1] [1,1] Bl.srF z0_ Bl.akv_ Bl.aba_ (by omega) (by omega) (by omega) w M g n fc p bs f now cc hM hf hfl (by omega) hn2 hfc
 ·simp[yk_] at hp;exact q2_ q8_ 9 (by omega) rfl rsI rsO rsS 2 1 1 rfl rfl rfl [1] [1,1] Bl.rsF z1_ Bl.akw_ Bl.abb_ (by omega) (by omega) (by omega) w M g n fc p bs f now cc hM hf hfl (by omega) hn2 hfc
 ·simp[yk_] at hp;exact q2_ zo_ 10 (by omega) rfl up_ aev_ aai_ 2 1 1 rfl rfl rfl [2] [2,2] Bl.zl_ z2_ Bl.ag1_ Bl.vy_ (by omega) (by omega) (by omega) w M g n fc p bs f now cc hM hf hfl (by omega) hn2 hfc
 ·simp[yk_] at hp;exact q2_ zp_ 11 (by omega) rfl abi_ aew_ ab0_ 3 1 1 rfl rfl rfl [1] [2,2,2] Bl.qh_ jn_ Bl.ag2_ Bl.vz_ (by omega) (by omega) (by omega) w M g n fc p bs f now cc hM hf hfl (by omega) hn2 hfc
theorem alz_ (ar:List Int) (off n q:Nat) (l:List Int) (hq:q+l.length≤n) (hn:off+n≤ar.length):sub (put ar (off+q) l) off n=put (sub ar off n) q l:=by
 apply List.ext_getElem?;intro i;have hs:(sub ar off n).length=n:=jt_ ar off n hn;have hl:(put ar (off+q) l).length=ar.length:=vp_ _ _ _ (by omega);by_cases hi:i<n
 · have e1:(sub (put ar (off+q) l) off n)[i]?=(put ar (off+q) l)[off+i]?:=(by simp[sub,List.getElem?_take,hi]);rw[e1];unfold put;by_cases h2:i<q
   ·rw[List.append_assoc,List.getElem?_append_left (by simp;omega),List.getElem?_take,if_pos (by omega),List.append_assoc,List.getElem?_append_left (by simp[hs];omega),List.getElem?_take,if_pos h2];simp[sub,List.getElem?_take,hi]
   · by_cases h3:i<q+l.length
     ·rw[List.append_assoc,List.getElem?_append_right (by simp;omega),List.getElem?_append_left (by simp;omega),List.append_assoc,List.getElem?_append_right (by simp[hs];omega),List.getElem?_append_left (by simp[hs];omega)];congr 1;simp[hs];omega
     · rw[List.getElem?_append_right (by simp;omega),List.getElem?_drop,List.getElem?_append_right (by simp[hs];omega),List.getElem?_drop];simp only[List.length_append,List.length_take,hs];have e2:(sub ar off n)[q+l.length+(i - (min q n+l.length))]?=ar[off+i]?:=by
        rw[show q+l.length+(i - (min q n+l.length))=i by omega];simp[sub,List.getElem?_take,hi]
       rw[e2];congr 1;omega
 ·rw[List.getElem?_eq_none (by rw[jt_ _ _ _ (by rw[hl];exact hn)];omega),List.getElem?_eq_none (by rw[vp_ _ _ _ (by rw[hs];exact hq),hs];omega)]
theorem q3_ (Fn:List Int→List Int→Int→List Int×List Int) (kS kI:List Int) (ni no ns:Nat) (hl:Bl.k8_ ns no kS kI Fn) (now:Int) (ar:List Int) (off n p:Nat) (h:p+(ni+no+ns)≤n) (hn:off+n≤ar.length):sub (vq_ Fn kS kI ni no ns now ar (off+p)) off n=vq_ Fn kS kI ni no ns now (sub ar off n) p:=by
 unfold vq_;rw[alt_ ar off n p ni (by omega),alt_ ar off n (p+(ni+no)) ns (by omega),show off+p+(ni+no)=off+(p+(ni+no)) by omega,show off+p+ni=off+(p+ni) by omega];obtain⟨h1,h2⟩:=hl (sub ar (off+(p+(ni+no))) ns) (sub ar (off+p) ni) (Bl.xd_ 5 now);rw[alz_ _ off n (p+(ni+no)) _ (by rw[h1];omega) (by rw[vp_ _ _ _ (by rw[h2];omega)];exact hn),alz_ _ off n (p+ni) _ (by rw[h2];omega) hn]
theorem arg_ (num now:Int) (ar:List Int) (off n p:Nat) (h1:1≤num) (h2:num≤12) (h:(p:Int)+yk_ num≤n) (hn:off+n≤ar.length):sub (q0_ num now ar (off+p)) off n=q0_ num now (sub ar off n) p:=by
 have hn':num=1∨num=2∨num=3∨num=4∨num=5∨num=6∨num=7∨num=8∨num=9∨num=10∨num=11∨num=12:=(by omega);rcases hn' with rfl|rfl|rfl|rfl|rfl|rfl|rfl|rfl|rfl|rfl|rfl|rfl
 ·simp[yk_] at h;exact q3_ _ _ _ 2 2 4 Bl.us_ now ar off n p (by omega) hn
 ·simp[yk_] at h;exact q3_ _ _ _ 2 2 4 Bl.ut_ now ar off n p (by omega) hn
 ·simp[yk_] at h;exact q3_ _ _ _ 2 2 4 Bl.aa9_ now ar off n p (by omega) hn
 ·simp[yk_] at h;exact q3_ _ _ _ 3 2 2 Bl.uu_ now ar off n p (by omega) hn
 ·simp[yk_] at h;exact q3_ _ _ _ 3 2 2 Bl.uv_ now ar off n p (by omega) hn
 ·simp[yk_] at h;exact q3_ _ _ _ 5 3 3 Bl.vx_ now ar off n p (by omega) hn
 ·simp[yk_] at h;exact q3_ _ _ _ 1 1 1 Bl.ky_ now ar off n p (by omega) hn
 ·simp[yk_] at h;exact q3_ _ _ _ 1 1 1 Bl.kz_ now ar off n p (by omega) hn
 ·simp[yk_] at h;exact q3_ _ _ _ 2 1 1 Bl.aba_ now ar off n p (by omega) hn
 ·simp[yk_] at h;exact q3_ _ _ _ 2 1 1 Bl.abb_ now ar off n p (by omega) hn
 ·simp[yk_] at h;exact q3_ _ _ _ 2 1 1 Bl.vy_ now ar off n p (by omega) hn
 ·simp[yk_] at h;exact q3_ _ _ _ 3 1 1 Bl.vz_ now ar off n p (by omega) hn
theorem St.framed {c w wr w':World} {B M C g fc:Nat} {n off al:Nat} {pv:Value} {now:Int} {r0:Option Nat} {sa:Option Addr} {sc:Nat} {st ar ar':List Int} {sp fl:Int} {cs:List Int} (h:St c w B M C (.slice (some ⟨g,0,none⟩) n fc) n off al pv now r0 sa sc st ar sp fl cs wr) (hg:wr.grownBy w' (some g)) (hf:OwnV c.heap.size w' (.slice (some ⟨g,0,none⟩) n fc) (sub ar' off n)) (ha:ar'.length=al):St c w B M C (.slice (some ⟨g,0,none⟩) n fc) n off al pv now r0 sa sc st ar' sp fl cs w':=by
 have hgM:=h.rc.fm g rfl;have hgl:=h.rc.fr.lt g rfl;refine h.next ⟨⟨(hg.block M (xg_ h.rc.ma.blk) (by simpa using Ne.symm hgM.1)).trans h.rc.ma.blk,World.ownsRow.kept h.rc.ma.own hg (.inr fun e=>by rw[jl_] at e;exact hgM.2 e.symm),h.rc.ma.lo⟩,hf,h.rc.fm,?_,h.rc.cM,h.rc.cB,by have:=h.rc.bw;have:=hg.size;omega⟩ ⟨hg.os,hg.tape,hg.output,hg.size,fun x hx _ hF _=>hg.block x hx hF⟩ (Nx.refl _ _) ha;exact⟨hg.os.trans h.rc.cw.os,hg.tape.trans h.rc.cw.tape,hg.output.trans h.rc.cw.output,Nat.le_trans h.rc.cw.size hg.size,fun x hx hn=>(hg.block x (by have:=h.rc.cw.size;omega) (by simp;omega)).trans (h.rc.cw.block x hx hn)⟩
end Go.Proofs.YtcgbfhpmkpglkaaGreatDoor
namespace Go.Proofs.YtcgbfhpmkpglkaaGreatDoor
open Go.RowKit
attribute [local go_sem ↓] Go.wp_at_zero Go.wp_at_succ
set_option maxRecDepth 1000000 in
theorem av3_ (c w wr:World) (B M C:Nat) (fv:Value) (n off al:Nat) (pb po np pcap:Nat) (now:Int) (r0:Option Nat) (sa:Option Addr) (sc:Nat) (st ar:List Int) (sp fl:Int) (cs:List Int) (u q tb to' tn tc i:Nat) (t:List Ins) (a b cc:Int) (K K0:Act→World→Prop) (Pst:Ending→World→Prop) (c3 c4 c5:Value)
 (hS:St c w B M C fv n off al (.slice (some ⟨pb,po,none⟩) np pcap) now r0 sa sc st ar sp fl cs wr) (hT:TxtC c pb q tb to' tn tc t) (hx:nth t i=⟨18,a,b,cc⟩) (hi:i<tn) (hn:tn≤100000) (hG:Gd ⟨18,a,b,cc⟩ ⟨st,ar,sp,fl⟩) (h1:1≤a) (h2:a≤12) (h0b:0≤b) (hp:b+yk_ a≤n) (hn2:n≤20000)
 (hN:∀ sa' sc' w' l,l.length=397→St c w B M C fv n off al (.slice (some ⟨pb,po,none⟩) np pcap) now r0 sa' sc' st (q0_ a now ar (off+b.toNat)) (sp+1) fl cs w'→K (yr_ M u fv (.slice (some ⟨tb,to',none⟩) tn tc) (.slice (some ⟨C,0,none⟩) 40 40) c3 c4 c5 ((i:Int)+1) l) w')
 : Ap 397 fun l=>(zg_ Tryz.f16).wp Tryz.prog (Exit.then K (Exit.inBlock 0 (Exit.then K0 (bodyPost Tryz.prog Tryz.f16 Pst)))) (yr_ M u fv (.slice (some ⟨tb,to',none⟩) tn tc) (.slice (some ⟨C,0,none⟩) 40 40) c3 c4 c5 (i:Int) l) wr:=by
 iterate 397 intro _
 dsimp only[Ap];obtain⟨g1,g2,g3,g4,g5,g6⟩:=hG;dsimp only at g1 g2 g3 g4 g5 g6;have HS:=hd_ hS;obtain⟨X,hX⟩:∃ X,wr.heap.size=X:=⟨_,rfl⟩;have hq:=(hT.ins i hi).grown hS.rc.cw;rw[hx] at hq;obtain⟨q0,q1,q2,q3⟩:=hq;dsimp only at q0 q1 q2 q3;have HS1:Hid (St c w B M C fv n off al (.slice (some ⟨pb,po,none⟩) np pcap) now r0 sa sc st ar (sp+1) fl cs ((wr.setCell ⟨M,3,none⟩ (.int .i64 (sp+1))).alloc (.cells #[.int .i64 18,.int .i64 a,.int .i64 b,.int .i64 cc] 40))):=(hS.setS (sp+1)).kept (gr1 _ _);have hMX:M<X:=(by have:=hS.rc.ma.blk;have:=xg_ this;omega);have m3:=(gr1 wr (.cells #[.int .i64 18,.int .i64 a,.int .i64 b,.int .i64 cc] 40)).cell (xa_ hS.rc.ma.blk 3) (by simp);simp at m3;have f3:=xc_ (kept (gr1 wr (.cells #[.int .i64 18,.int .i64 a,.int .i64 b,.int .i64 cc] 40)) hS.rc.ma.blk) 3;have hw3:IntKind.i64.wrap (sp+1)=sp+1:=IntWalk.i64_in _ (by omega);have i1:(0:Int)≤(i:Int):=(by omega);have i2:(i:Int)<(tn:Int):=(by omega);have HXB:Hid (((wr.setCell ⟨M,3,none⟩ (.int .i64 (sp+1))).alloc (.cells #[.int .i64 18,.int .i64 a,.int .i64 b,.int .i64 cc] 40)).heap[X]?=some (.cells #[.int .i64 18,.int .i64 a,.int .i64 b,.int .i64 cc] 40)):=by
  exact xj_ (by simp[hX]) _
 have n1:¬M=X:=(by omega);have n2:¬X=M:=(by omega);have hwi:IntKind.i64.wrap ((i:Int)+1)=(i:Int)+1:=IntWalk.i64_in _ (by omega);clear hS hT hx;unfold yr_;conv=>arg 2;whnf
 go_upto_region 8 with fail;generalize hw2:(wr.setCell ⟨M,3,none⟩ (.int .i64 (sp+1))).alloc (.cells #[.int .i64 18,.int .i64 a,.int .i64 b,.int .i64 cc] 40)=w2 at HS1 HXB ⊢;have x0:=xa_ HXB.out 0;have x1:=xa_ HXB.out 1;have x2:=xa_ HXB.out 2;have x3:=xa_ HXB.out 3;simp at x0 x1 x2 x3;clear q0 q1 q2 q3 m3 f3 hw3 hw2;obtain⟨j,rfl⟩:=Int.eq_ofNat_of_zero_le h0b;rw[show((j:Int)).toNat=j by simp] at hN;have hs3:3≤yk_ a:=by
  unfold yk_;repeat' split
  all_goals omega
 obtain⟨g,fc,rfl,hfc⟩:=HS1.out.fvs (by omega);have m1:=xa_ HS1.out.rc.ma.blk 1;simp at m1;have HST:=arf_ a h1 h2 w2 M g n fc j c.heap.size (sub ar off n) now cc m1 HS1.out.rc.fr HS1.out.slen hp hn2 hfc;clear m1;go_wp2_with fail
 refine HST.mono ?_;rintro e w3 ⟨rfl,hg3,ho3⟩;have HS2:Hid (St c w B M C (.slice (some ⟨g,0,none⟩) n fc) n off al (.slice (some ⟨pb,po,none⟩) np pcap) now r0 sa sc st (q0_ a now ar (off+j)) (sp+1) fl cs w3):=HS1.out.framed hg3 (by rw[arg_ a now ar off n j h1 h2 hp (by rw[HS1.out.hal];exact HS1.out.ol)];exact ho3) ((ai2_ a now ar (off+j) h1 h2 (by have e1:=HS1.out.hal;have e2:=HS1.out.ol;omega)).1.trans HS1.out.hal);clear hg3 ho3 HST;go_wp2;all_goals first|exact hN _ _ _ _ rfl HS2.out|exact hN _ _ _ _ rfl (HS2.out.kept (xf_ gz_))
end Go.Proofs.YtcgbfhpmkpglkaaGreatDoor
