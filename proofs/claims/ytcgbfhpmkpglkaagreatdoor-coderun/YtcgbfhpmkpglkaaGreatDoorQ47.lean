/- Texts put together: G2. -/
import Derived.Test.YtcgbfhpmkpglkaaGreatDoorQ11
set_option linter.unusedVariables false
set_option linter.unusedSimpArgs false
set_option maxHeartbeats 8000000
namespace Go.Proofs.YtcgbfhpmkpglkaaGreatDoor
open Go.RowKit
attribute [local go_sem ↓] Go.wp_at_zero Go.wp_at_succ
theorem meas {n k g:Nat} (h:g=n - k) (hk:k<n):n - (k+1)<g:=by omega
def ach_ (t:List Ins):Prop:=∃ hs,hgt t (tkN t) (gvN t) t.length=some hs∧hs.getD t.length 0≤0
set_option maxRecDepth 10000 in
theorem ak6_ (tv:Value) (t:List Ins) (w:World) (hT:TxtAt w tv t) (hl:t.length≤100000) (hW:aid_ t) :
 Calls Tryz.prog 23 #[tv] w (ad5_ (ach_ t) w):=by
 obtain⟨ta,tcap,rfl,hT⟩:=hT;have HT:Hid (t=[]∨∃ b off,ta=some ⟨b,off,none⟩∧∀ i,i<t.length→
  w.cell? ⟨b,off+i*4,none⟩=some (.int .i64 (nth t i).d)∧w.cell? ⟨b,off+i*4+1,none⟩=some (.int .i64 (nth t i).a)∧
  w.cell? ⟨b,off+i*4+2,none⟩=some (.int .i64 (nth t i).b)∧w.cell? ⟨b,off+i*4+3,none⟩=some (.int .i64 (nth t i).c)):=hT
 have HW:=hd_ hW;clear hT hW;obtain⟨n,hn⟩:∃ n,t.length=n:=⟨_,rfl⟩;have HN:=hd_ hn;rw[hn] at hl;rw[hn];have ew:wrap64 ((n:Int)+1)=(n:Int)+1:=(by unfold wrap64;omega);have hmk:∀ w:World,(Instr.makeSlice 25 (.int .i64 ((n:Int)+1)) (.int .i64 ((n:Int)+1))).run Tryz.prog w=.ok (.slice (some ⟨w.heap.size,0,none⟩) (n+1) (n+1)) (w.alloc (.cells (xi_ (List.replicate (n+1) 0)) 3)):=fun w=>by
  have:=j0_ (n+1) (by omega) w;simpa using this
 clear hn;obtain⟨H,hH⟩:∃ H,w.heap.size=H:=⟨_,rfl⟩;go_enter Tryz.func23,Tryz.ntmps23;go_wp2;clear hmk;go_loopg [4] (n+1) (fun gk s4 wx=>∃(j:Nat) (l:List Int),s4=.int .i64 j∧j≤n+1∧gk=n+1 - j∧wx.heap[H]?=some (.cells (xi_ l) 3)∧aig_ (n+1) j l∧w.grownBy wx none)
 case atStart=>
  exact⟨0,_,rfl,Nat.zero_le _,by omega,xj_ hH.symm _,⟨by simp,fun i hi=>by omega,fun i _ hi=>by simp[List.getD,hi]⟩,gr1 _ _⟩
 case round=>
  obtain⟨j,l,rfl,hj,hgk,har,hmi,hgr⟩:=hrel;have HG:=hd_ hgk;have HA:=hd_ har;have HM:=hd_ hmi;clear hgk har hmi;by_cases hlt:j<n+1
  · have z0:=yz_ HA.out j (by rw[HM.out.1];exact hlt);have f0:=xc_ HA.out j;have i1:(0:Int)≤(j:Int):=(by omega);have i2:(j:Int)<(n:Int)+1:=(by omega);have i3:(j:Int)<((n+1:Nat):Int):=(by omega);go_wp2;have hgl:=HG.out;go_roundg (n+1 - (j+1))
    all_goals first|omega|exact⟨j+1,l.set j (-1),by go_num,by omega,by omega,by rw[xk_ HA.out,yp_],afc_ HM.out hlt,yc_ hgr (by omega) _ _⟩
  · have hj':¬((j:Int)<(n:Int)+1):=(by omega);have hj'':¬((j:Int)<((n+1:Nat):Int)):=(by omega);have hjn:j=n+1:=(by omega);subst hjn;have z0:=yz_ HA.out 0 (by rw[HM.out.1];omega);have f0:=xc_ HA.out 0;have i2:(0:Int)<(n:Int)+1:=(by omega);have HA1:=hd_ (by rw[xk_ HA.out,yp_,afd_ HM.out]:(wr.setCell ⟨H,0,none⟩ (.int .i64 0)).heap[H]?=some (.cells (xi_ (0::List.replicate n (-1))) 3));clear HG;go_wp2;go_loopg [5] n (fun gk s5 wx=>∃(k:Nat) (hs:List Int),s5=.int .i64 k∧k≤n∧gk=n - k∧wx.heap[H]?=some (.cells (xi_ hs) 3)∧hgt t (tkN t) (gvN t) k=some hs∧w.grownBy wx none∧H+1≤wx.heap.size)
    case atStart=>exact⟨0,_,rfl,Nat.zero_le _,by omega,HA1.out,by rw[← HN.out];rfl,yc_ hgr (by omega) _ _,by have:=xg_ HA.out;simp;omega⟩
    case round=>
     obtain⟨k,hs,rfl,hk,hgk,har,hhg,hgr2,hHs⟩:=hrel;have HG:Hid (_=n - k):=hgk;have HA2:=hd_ har;have HH:=hd_ hhg;have HLN:=hd_ (by rw[ac9_ hhg,HN.out]:hs.length=n+1);clear hgk har hhg z0 f0 hgr HA HM HA1;by_cases hlt:k<n
     · have hkl:k<t.length:=(by rw[HN.out];exact hlt);rcases HT.out with h|⟨b',off,rfl,hc⟩
       ·subst h;simp at hkl
       obtain⟨q0,q1,q2,q3⟩:=hc k hkl;have q0:=hgr2.cell q0 (by simp);have q1:=hgr2.cell q1 (by simp);have q2:=hgr2.cell q2 (by simp);have q3:=hgr2.cell q3 (by simp);clear hc;have i1:(0:Int)≤(k:Int):=(by omega);have i2:(k:Int)<(n:Int):=(by omega);have i3:(k:Int)<((n+1:Nat):Int):=(by omega);have i4:(k:Int)<(n:Int)+1:=(by omega);have z0:=yz_ HA2.out k (by rw[HLN.out];omega);have hzl:=apa_ HH.out k;have hzg:=ud_ (fun i=>(vh_ (nth t i)).1) HH.out k;have hstep:hgt t (tkN t) (gvN t) (k+1)=if hs.getD k 0 = -1 then some hs else if hs.getD k 0<tkN t k∨1000<hs.getD k 0 - tkN t k+gvN t k then none else y1_ (hs.getD k 0 - tkN t k+gvN t k) (x9_ t k) hs:=by
        show(hgt t (tkN t) (gvN t) k).bind _=_
        rw[HH.out];rfl
       obtain⟨wn1,wn2⟩:=aie_ t k hkl HW.out;have htk:=aj2_ (nth t k);have hgv:=vh_ (nth t k);have wl:=aif_ t k;rw[show tkN t k=tkS (nth t k) from rfl,show gvN t k=gvS (nth t k) from rfl] at hstep;change(hs.getD k 0)≤1000 at hzl;change -1≤(hs.getD k 0) at hzg;obtain⟨z,hz⟩:∃ z,hs.getD k 0=z:=⟨_,rfl⟩;rw[hz] at z0 hzl hzg hstep;have cT:∀ w,Calls Tryz.prog 40 #[kn_ (nth t k)] w fun e w'=>e=.returned (.int .i64 (tkS (nth t k)))∧w.grownBy w' none:=amj_ (nth t k);have cG:∀ w,Calls Tryz.prog 41 #[kn_ (nth t k)] w fun e w'=>e=.returned (.int .i64 (gvS (nth t k)))∧w.grownBy w' none:=ajx_ (nth t k);unfold kn_ at cT cG;have HWS:=hd_ wn1;clear wn1;generalize tkS (nth t k)=tk at *;generalize gvS (nth t k)=gv at *;obtain⟨x,hx⟩:∃ x,nth t k=x:=⟨_,rfl⟩;rw[hx] at q0 q1 q2 q3 cT cG HWS;obtain⟨d,a,b,c⟩:=x;dsimp only at q0 q1 q2 q3 cT cG;have HNX:=hd_ hx;clear hz hx;have HST:Hid (_=_):=hstep;have HWN:=hd_ wn2;have HBad:Hid (hgt t (tkN t) (gvN t) (k+1)=none→¬ach_ t):=fun hnone ⟨hs',hh,_⟩=>by
        have:=ac0_ (t.length - (k+1)) hnone;rw[show k+1+(t.length - (k+1))=t.length by omega,hh] at this;simp at this
       clear hstep wn2;by_cases hm1:z = -1
       · subst hm1;have HS1:=hd_ (by rw[HST.out,if_pos rfl]:hgt t (tkN t) (gvN t) (k+1)=some hs);clear HST;go_wp2;have hgl:=HG.out;go_roundg (n - (k+1))
         all_goals first|omega|exact⟨k+1,hs,by go_num,by omega,by omega,HA2.out,HS1.out,hgr2,hHs⟩
       · have hz0:0≤z:=(by omega);have hz1:¬(z<0):=(by omega);go_wp2_with fail
         obtain⟨wy,hwy⟩:∃ wy,wr.alloc (.cells #[.int .i64 d,.int .i64 a,.int .i64 b,.int .i64 c] 40)=wy:=⟨_,rfl⟩;obtain⟨xb,hxb⟩:∃ xb,wr.heap.size=xb:=⟨_,rfl⟩;have hgy:wr.grownBy wy none:=(by rw[← hwy];exact gr1 _ _);have HXB:=hd_ (by rw[← hwy,← hxb];exact heap_alloc_new _ _:wy.heap[xb]?=some (.cells #[.int .i64 d,.int .i64 a,.int .i64 b,.int .i64 c] 40));rw[hwy,hxb];clear hwy;have y0:=hgy.cell z0 (by simp);have x0:=xa_ HXB.out 0;have x1:=xa_ HXB.out 1;have x2:=xa_ HXB.out 2;have x3:=xa_ HXB.out 3;simp at x0 x1 x2 x3;have a1:wrap64 (z - tk)=z - tk:=(by unfold wrap64;omega);have a1':IntKind.i64.wrap (z - tk)=z - tk:=(by rw[IntWalk.i64_left];exact a1);have a2:wrap64 (z - tk+gv)=z - tk+gv:=(by unfold wrap64;omega);go_region_held3 (fun w'=>w'.cell? ⟨H,k,none⟩=some (.int .i64 z)∧w'.cell? ⟨xb,0,none⟩=some (.int .i64 d)∧w'.cell? ⟨xb,1,none⟩=some (.int .i64 a)∧w'.cell? ⟨xb,2,none⟩=some (.int .i64 b)∧w'.cell? ⟨xb,3,none⟩=some (.int .i64 c)) (first|(go_keep;done)|(refine⟨?_,?_,?_,?_,?_⟩ <;> (refine hg1.cell ?_ (by simp);first|assumption|(go_keep;done)))) (first|(go_at_call 40;refine(cT _).mono ?_;rintro e w1 ⟨rfl,hg1⟩))
         have hgy1:wy.grownBy w1 none:=(xf_ gz_).trans hg1;have x0:=hgy1.cell x0 (by simp);have x1:=hgy1.cell x1 (by simp);have x2:=hgy1.cell x2 (by simp);have x3:=hgy1.cell x3 (by simp);by_cases hlow:z<tk
         · have HX:Hid (¬ach_ t):=HBad.out (by rw[HST.out,if_neg hm1,if_pos (.inl hlow)]);have l1:z - tk<0:=(by omega);have l2:decide (z - tk<0)=true:=(by simpa using l1);go_wp2_with fail
           go_ret;exact⟨false,rfl,by simpa using HX.out,(hgr2.trans hgy).trans hgy1⟩
         · have l1:¬(z - tk<0):=(by omega);have l2:decide (z - tk<0)=false:=(by simpa using l1);go_wp2_with fail
           refine(cG _).mono ?_;rintro e w2 ⟨rfl,hg2⟩;have x0:=hg2.cell x0 (by simp);have x1:=hg2.cell x1 (by simp);have x2:=hg2.cell x2 (by simp);have x3:=hg2.cell x3 (by simp);by_cases hhigh:1000<z - tk+gv
           · have HX:Hid (¬ach_ t):=HBad.out (by rw[HST.out,if_neg hm1,if_pos (.inr hhigh)]);go_wp2_with fail
             go_ret;exact⟨false,rfl,by simpa using HX.out,((hgr2.trans hgy).trans hgy1).trans hg2⟩
           · obtain⟨hh,hhh⟩:∃ hh,z - tk+gv=hh:=⟨_,rfl⟩;have HME:=hd_ (by rw[HST.out,if_neg hm1,if_neg (by omega),hhh]:hgt t (tkN t) (gvN t) (k+1)=y1_ hh (x9_ t k) hs);have hh0:0≤hh:=(by omega);have hh1:hh≤1000:=(by omega);go_wp2_with fail
             refine(cG _).mono ?_;rintro e w3 ⟨rfl,hg3⟩;have hg33:wr.grownBy w3 none:=((hgy.trans hgy1).trans hg2).trans hg3;have x0:=hg3.cell x0 (by simp);have x1:=hg3.cell x1 (by simp);have x2:=hg3.cell x2 (by simp);have HX3:Hid (w3.heap[xb]?=some (.cells #[.int .i64 d,.int .i64 a,.int .i64 b,.int .i64 c] 40)):=kept ((hgy1.trans hg2).trans hg3) HXB.out;have HA3:Hid (w3.heap[H]?=some (.cells (xi_ hs) 3)):=kept hg33 HA2.out;have HG3:Hid (w.grownBy w3 none):=hgr2.trans hg33;have hs3:H+1≤w3.heap.size:=(by have:=hg33.size;omega);have hxH:H+1≤xb:=(by omega);rw[hhh] at a2;have a3:IntKind.i64.wrap (z - tk+gv)=hh:=(by rw[IntWalk.i64_left,hhh];exact a2.trans rfl);clear hg1 hg2 hg3 hgy hgy1 hg33 q0 q1 q2 q3 cT cG y0 HST;obtain⟨B3,hB3⟩:∃ B3,w3.heap.size=B3:=⟨_,rfl⟩;have hB3a:B3≤w3.heap.size:=(by omega);have hB3b:w3.heap.size≤B3:=(by omega);clear hB3;have k1:wrap64 ((k:Int)+1)=(k:Int)+1:=(by unfold wrap64;omega);have k2:IntKind.i64.wrap ((k:Int)+1)=(k:Int)+1:=(by rw[IntWalk.i64_left];exact k1);by_cases d11:d=11
             · subst d11;obtain⟨v1,w14,hrun1,hown1,hgr1⟩:=((OwnV.nil B3 w3).keptN (gr1 w3 (.cells #[.int .i64 a] 3))).more a w3.heap.size (heap_alloc_new _ _) (by simp) (by simp;omega);have HRUN1:Hid (_=_):=hrun1;have hg14:w3.grownBy w14 none:=(gr1 _ _).trans hgr1;have x0:=hg14.cell x0 (by simp);have x1:=hg14.cell x1 (by simp);have x2:=hg14.cell x2 (by simp);clear hrun1 hgr1;have HOW:=hd_ (by rw[HWS.out];simpa[wayS] using hown1:OwnV B3 w14 v1 (z9_ (x9_ t k)));have HBH:Hid (w14.heap[H]?=some (.cells (xi_ hs) 3)):=kept hg14 HA3.out;have HGL:Hid (w.grownBy w14 none):=HG3.out.trans hg14;obtain⟨va,vcap,hvf,hvc⟩:=HOW.out.rd;have hwl:(z9_ (x9_ t k)).length=(x9_ t k).length:=(by simp[z9_]);obtain⟨m,hm⟩:∃ m,(x9_ t k).length=m:=⟨_,rfl⟩;have HML:=hd_ hm;rw[hm] at wl;rw[hwl,hm] at hvf;rw[hwl] at hvc;subst hvf;have HVC:=hd_ hvc;clear hvc hwl hm;clear hown1;go_wp2_with (first|(at_builtin;refine x0_ rfl _ _ 25 rfl _ _ _ w14 rfl rfl HRUN1.out ?_))
               clear a1 a1' a2 a3 htk hgv hzl hzg k1 k2 l1 l2 hhh hlow hhigh hz0 hz1 hm1 ew z0 hHs;go_loopg [9] m (fun gk s9 wx=>∃(j:Nat) (hs2:List Int),s9=.int .i64 j∧j≤m∧gk=m - j∧y1_ hh ((x9_ t k).drop j) hs2=y1_ hh (x9_ t k) hs∧hs2.length=n+1∧(∀ p:Nat,-1≤hs2.getD p 0)∧wx.heap[H]?=some (.cells (xi_ hs2) 3)∧w14.grownBy wx (some H))
               case atStart=>exact⟨0,hs,rfl,Nat.zero_le _,by omega,rfl,HLN.out,fun p=>ud_ (fun i=>(vh_ (nth t i)).1) HH.out p,HBH.out,gz_⟩
               case round=>
                obtain⟨j,hs2,rfl,hj,hgj,hmt,hl2,hge2,hb2,hg2⟩:=hrel;have HGJ:Hid (_=m - j):=hgj;have HMT:=hd_ hmt;have HB2:=hd_ hb2;have HGE:=hd_ hge2;have HL2:=hd_ hl2;clear hgj hmt hb2 hge2 hl2;by_cases hjm:j<m
                · have hjl:j<(x9_ t k).length:=(by rw[HML.out];exact hjm);have HDR:=hd_ (by rw[List.drop_eq_getElem_cons hjl];simp[List.getD,hjl]:(x9_ t k).drop j=(x9_ t k).getD j 0::(x9_ t k).drop (j+1));have hpw:=HWN.out ((x9_ t k).getD j 0) (by simp[List.getD,hjl]);rcases HVC.out with h|⟨bl,ol,rfl,hcl⟩
                  ·exfalso;have h2:=congrArg List.length h;unfold z9_ at h2;rw[List.length_map,List.length_nil] at h2;rw[h2] at hjl;exact Nat.not_lt_zero _ hjl
                  have y0:=hcl j hjl;have eg:(z9_ (x9_ t k)).getD j 0=(((x9_ t k).getD j 0:Nat):Int):=(by simp[z9_,List.getD,hjl]);rw[eg] at y0;have hblH:bl≠H:=by
                   have:=HOW.out.row bl rfl;omega
                  have y0:=hg2.cell y0 (by simp;exact hblH);clear hcl eg;rw[HN.out] at hpw;generalize hpp:(x9_ t k).getD j 0=pp at *;have z0:=yz_ HB2.out pp (by rw[HL2.out];omega);have f0:=xc_ HB2.out pp;have hgp:=HGE.out pp;have HMC:Hid (y1_ hh ((x9_ t k).drop j) hs2=if hs2.getD pp 0 = -1 then y1_ hh ((x9_ t k).drop (j+1)) (hs2.set pp hh) else if hs2.getD pp 0=hh then y1_ hh ((x9_ t k).drop (j+1)) hs2 else none):=(by rw[HDR.out];rfl:y1_ hh ((x9_ t k).drop j) hs2=_);have HSAME:Hid (hs2.getD pp 0=hh→hs2.set pp hh=hs2):=fun h=>by
                   apply List.ext_getElem
                   ·simp
                   · intro i a1 a2;rw[List.getElem_set];split
                     ·rename_i e;subst e;rw[← h];simp[List.getD,a2]
                     ·rfl
                  have HSG:Hid (∀ p:Nat,-1≤(hs2.set pp hh).getD p 0):=fun p=>by
                   by_cases e:pp=p
                   ·subst e;simp[List.getD,List.getElem?_set,HL2.out];split <;> simp <;> omega
                   ·have:=HGE.out p;simp only[List.getD,List.getElem?_set,if_neg e] at this ⊢;exact this
                  obtain⟨z,hz⟩:∃ z,hs2.getD pp 0=z:=⟨_,rfl⟩;rw[hz] at z0 hgp HMC HSAME;clear hz hpp;have i5:(0:Int)≤(pp:Int):=(by omega);have i6:(pp:Int)<(n:Int)+1:=(by omega);have i7:(pp:Int)<((n+1:Nat):Int):=(by omega);have j1:(0:Int)≤(j:Int):=(by omega);have j2:(j:Int)<(m:Int):=(by omega);by_cases hz1:0≤z
                  · by_cases hzh:z=hh
                    · subst hzh;have HNXT:=hd_ (by rw[← HMT.out,HMC.out,if_neg (by omega),if_pos rfl]:y1_ z ((x9_ t k).drop (j+1)) hs2=y1_ z (x9_ t k) hs);have HSA:Hid (hs2.set pp z=hs2):=HSAME.out rfl;clear HMC HSAME;go_wp2_with fail
                      have hgl:=HGJ.out;go_roundg (m - (j+1))
                      case measure=>exact meas HGJ.out hjm
                      case rel=>exact⟨j+1,hs2,by simp,hjm,rfl,HNXT.out,HL2.out,HGE.out,by rw[xk_ HB2.out,yp_,HSA.out],x3_ hg2 _ _⟩
                    · have ez:(z==hh)=false:=(by simpa using hzh);have HX:Hid (¬ach_ t):=HBad.out (by rw[HME.out,← HMT.out,HMC.out,if_neg (by omega),if_neg hzh]);have HGF:Hid (w.grownBy wr none):=x6_ HGL.out hg2 (.inr fun x hx=>by simp at hx;omega);go_wp2_with fail
                      go_ret;exact⟨false,rfl,by simpa using HX.out,HGF.out⟩
                  · have hz2:z = -1:=(by omega);subst hz2;have HNXT:=hd_ (by rw[← HMT.out,HMC.out,if_pos rfl]:y1_ hh ((x9_ t k).drop (j+1)) (hs2.set pp hh)=y1_ hh (x9_ t k) hs);clear HMC HSAME;go_wp2_with fail
                    have hgl:=HGJ.out;go_roundg (m - (j+1))
                    case measure=>exact meas HGJ.out hjm
                    case rel=>exact⟨j+1,hs2.set pp hh,by simp,hjm,rfl,HNXT.out,by simp[HL2.out],HSG.out,by rw[xk_ HB2.out,yp_],x3_ hg2 _ _⟩
                · have hj':¬((j:Int)<(m:Int)):=(by omega);have hjm':j=m:=(by omega);have HFIN:=hd_ (by
                   rw[HME.out,← HMT.out,hjm',← HML.out,List.drop_length];rfl:hgt t (tkN t) (gvN t) (k+1)=some hs2)
                  have HGF:Hid (w.grownBy wr none∧H+1≤wr.heap.size):=⟨x6_ HGL.out hg2 (.inr fun x hx=>by simp at hx;omega),by have:=xg_ HB2.out;omega⟩;clear hjm';go_wp2_with fail
                  have hgl:=HG.out;go_roundg (n - (k+1))
                  case measure=>exact meas HG.out hlt
                  case rel=>exact⟨k+1,hs2,by simp,hlt,rfl,HB2.out,HFIN.out,HGF.out.1,HGF.out.2⟩
             · have f11:(d==11)=false:=(by simpa using d11);have g11:(d != 11)=true:=(by simpa using d11);by_cases d12:d=12
               · subst d12;obtain⟨v1,w14,hrun1,hown1,hgr1⟩:=((OwnV.nil B3 w3).keptN (gr1 w3 (.cells #[.int .i64 ((k:Int)+1)] 3))).more ((k:Int)+1) w3.heap.size (heap_alloc_new _ _) (by simp) (by simp;omega);have HRUN1:Hid (_=_):=hrun1;have hg14:w3.grownBy w14 none:=(gr1 _ _).trans hgr1;have x0':=hg14.cell x0 (by simp);have x1':=hg14.cell x1 (by simp);have x2':=hg14.cell x2 (by simp);have hs14:=hg14.size;have hrow1:=hown1.row;obtain⟨v2,w24,hrun2,hown2,hgr2'⟩:=(hown1.keptN (gr1 w14 (.cells #[.int .i64 a] 3))).more a w14.heap.size (heap_alloc_new _ _) (by simp) (by simp;omega);have HRUN2:Hid (_=_):=hrun2;have hxs:xb<B3:=(by have:=xg_ HX3.out;omega);have HB24:=hd_ (by rw[hgr2'.block H (by simp;omega) (fun e=>by have:=hrow1 H e.symm;omega),xh_ (by omega)];exact kept hg14 HA3.out:w24.heap[H]?=some (.cells (xi_ hs) 3));have e24:w24.heap[xb]?=some (.cells #[.int .i64 12,.int .i64 a,.int .i64 b,.int .i64 c] 40):=(by rw[hgr2'.block xb (by simp;omega) (fun e=>by have:=hrow1 xb e.symm;omega),xh_ (by omega)];exact kept hg14 HX3.out);have HG24:Hid (w.grownBy w24 none):=x6_ (xb_ (HG3.out.trans hg14) _) hgr2' (.inr fun x hx=>by have:=hrow1 x hx;have:=HG3.out.size;omega);have x0'':=xa_ e24 0;have x1'':=xa_ e24 1;have x2'':=xa_ e24 2;simp at x0'' x1'' x2'';clear hrun1 hgr1 hrun2 hgr2' e24 hrow1;have HOW:=hd_ (by rw[HWS.out];simpa[wayS] using hown2:OwnV B3 w24 v2 (z9_ (x9_ t k)));have HBH:Hid (w24.heap[H]?=some (.cells (xi_ hs) 3)):=HB24.out;have HGL:Hid (w.grownBy w24 none):=HG24.out;obtain⟨va,vcap,hvf,hvc⟩:=HOW.out.rd
                 have hwl:(z9_ (x9_ t k)).length=(x9_ t k).length:=(by simp[z9_]);obtain⟨m,hm⟩:∃ m,(x9_ t k).length=m:=⟨_,rfl⟩;have HML:=hd_ hm;rw[hm] at wl;rw[hwl,hm] at hvf;rw[hwl] at hvc;subst hvf;have HVC:=hd_ hvc;clear hvc hwl hm;clear hown1 hown2;go_wp2_with (first|(at_builtin;refine x0_ rfl _ _ 25 rfl _ _ _ w14 rfl rfl HRUN1.out ?_)|(at_builtin;refine x0_ rfl _ _ 25 rfl _ _ _ w24 rfl rfl HRUN2.out ?_))
                 clear a1 a1' a2 a3 htk hgv hzl hzg k1 k2 l1 l2 hhh hlow hhigh hz0 hz1 hm1 ew z0 hHs;go_loopg [9] m (fun gk s9 wx=>∃(j:Nat) (hs2:List Int),s9=.int .i64 j∧j≤m∧gk=m - j∧y1_ hh ((x9_ t k).drop j) hs2=y1_ hh (x9_ t k) hs∧hs2.length=n+1∧(∀ p:Nat,-1≤hs2.getD p 0)∧wx.heap[H]?=some (.cells (xi_ hs2) 3)∧w24.grownBy wx (some H))
                 case atStart=>exact⟨0,hs,rfl,Nat.zero_le _,by omega,rfl,HLN.out,fun p=>ud_ (fun i=>(vh_ (nth t i)).1) HH.out p,HBH.out,gz_⟩
                 case round=>
                  obtain⟨j,hs2,rfl,hj,hgj,hmt,hl2,hge2,hb2,hg2⟩:=hrel;have HGJ:Hid (_=m - j):=hgj;have HMT:=hd_ hmt;have HB2:=hd_ hb2;have HGE:=hd_ hge2;have HL2:=hd_ hl2;clear hgj hmt hb2 hge2 hl2;by_cases hjm:j<m
                  · have hjl:j<(x9_ t k).length:=(by rw[HML.out];exact hjm);have HDR:=hd_ (by rw[List.drop_eq_getElem_cons hjl];simp[List.getD,hjl]:(x9_ t k).drop j=(x9_ t k).getD j 0::(x9_ t k).drop (j+1));have hpw:=HWN.out ((x9_ t k).getD j 0) (by simp[List.getD,hjl]);rcases HVC.out with h|⟨bl,ol,rfl,hcl⟩
                    ·exfalso;have h2:=congrArg List.length h;unfold z9_ at h2;rw[List.length_map,List.length_nil] at h2;rw[h2] at hjl;exact Nat.not_lt_zero _ hjl
                    have y0:=hcl j hjl;have eg:(z9_ (x9_ t k)).getD j 0=(((x9_ t k).getD j 0:Nat):Int):=(by simp[z9_,List.getD,hjl]);rw[eg] at y0;have hblH:bl≠H:=by
                     have:=HOW.out.row bl rfl;omega
                    have y0:=hg2.cell y0 (by simp;exact hblH);clear hcl eg;rw[HN.out] at hpw;generalize hpp:(x9_ t k).getD j 0=pp at *;have z0:=yz_ HB2.out pp (by rw[HL2.out];omega);have f0:=xc_ HB2.out pp;have hgp:=HGE.out pp;have HMC:Hid (y1_ hh ((x9_ t k).drop j) hs2=if hs2.getD pp 0 = -1 then y1_ hh ((x9_ t k).drop (j+1)) (hs2.set pp hh) else if hs2.getD pp 0=hh then y1_ hh ((x9_ t k).drop (j+1)) hs2 else none):=(by rw[HDR.out];rfl:y1_ hh ((x9_ t k).drop j) hs2=_);have HSAME:Hid (hs2.getD pp 0=hh→hs2.set pp hh=hs2):=fun h=>by
                     apply List.ext_getElem
                     ·simp
                     · intro i a1 a2;rw[List.getElem_set];split
                       ·rename_i e;subst e;rw[← h];simp[List.getD,a2]
                       ·rfl
                    have HSG:Hid (∀ p:Nat,-1≤(hs2.set pp hh).getD p 0):=fun p=>by
                     by_cases e:pp=p
                     ·subst e;simp[List.getD,List.getElem?_set,HL2.out];split <;> simp <;> omega
                     ·have:=HGE.out p;simp only[List.getD,List.getElem?_set,if_neg e] at this ⊢;exact this
                    obtain⟨z,hz⟩:∃ z,hs2.getD pp 0=z:=⟨_,rfl⟩;rw[hz] at z0 hgp HMC HSAME;clear hz hpp;have i5:(0:Int)≤(pp:Int):=(by omega);have i6:(pp:Int)<(n:Int)+1:=(by omega);have i7:(pp:Int)<((n+1:Nat):Int):=(by omega);have j1:(0:Int)≤(j:Int):=(by omega);have j2:(j:Int)<(m:Int):=(by omega);by_cases hz1:0≤z
                    · by_cases hzh:z=hh
                      · subst hzh;have HNXT:=hd_ (by rw[← HMT.out,HMC.out,if_neg (by omega),if_pos rfl]:y1_ z ((x9_ t k).drop (j+1)) hs2=y1_ z (x9_ t k) hs);have HSA:Hid (hs2.set pp z=hs2):=HSAME.out rfl;clear HMC HSAME;go_wp2_with fail
                        have hgl:=HGJ.out;go_roundg (m - (j+1))
                        case measure=>exact meas HGJ.out hjm
                        case rel=>exact⟨j+1,hs2,by simp,hjm,rfl,HNXT.out,HL2.out,HGE.out,by rw[xk_ HB2.out,yp_,HSA.out],x3_ hg2 _ _⟩
                      · have ez:(z==hh)=false:=(by simpa using hzh);have HX:Hid (¬ach_ t):=HBad.out (by rw[HME.out,← HMT.out,HMC.out,if_neg (by omega),if_neg hzh]);have HGF:Hid (w.grownBy wr none):=x6_ HGL.out hg2 (.inr fun x hx=>by simp at hx;omega);go_wp2_with fail
                        go_ret;exact⟨false,rfl,by simpa using HX.out,HGF.out⟩
                    · have hz2:z = -1:=(by omega);subst hz2;have HNXT:=hd_ (by rw[← HMT.out,HMC.out,if_pos rfl]:y1_ hh ((x9_ t k).drop (j+1)) (hs2.set pp hh)=y1_ hh (x9_ t k) hs);clear HMC HSAME;go_wp2_with fail
                      have hgl:=HGJ.out;go_roundg (m - (j+1))
                      case measure=>exact meas HGJ.out hjm
                      case rel=>exact⟨j+1,hs2.set pp hh,by simp,hjm,rfl,HNXT.out,by simp[HL2.out],HSG.out,by rw[xk_ HB2.out,yp_],x3_ hg2 _ _⟩
                  · have hj':¬((j:Int)<(m:Int)):=(by omega);have hjm':j=m:=(by omega);have HFIN:=hd_ (by
                     rw[HME.out,← HMT.out,hjm',← HML.out,List.drop_length];rfl:hgt t (tkN t) (gvN t) (k+1)=some hs2)
                    have HGF:Hid (w.grownBy wr none∧H+1≤wr.heap.size):=⟨x6_ HGL.out hg2 (.inr fun x hx=>by simp at hx;omega),by have:=xg_ HB2.out;omega⟩;clear hjm';go_wp2_with fail
                    have hgl:=HG.out;go_roundg (n - (k+1))
                    case measure=>exact meas HG.out hlt
                    case rel=>exact⟨k+1,hs2,by simp,hlt,rfl,HB2.out,HFIN.out,HGF.out.1,HGF.out.2⟩
               · have f12:(d==12)=false:=(by simpa using d12);by_cases d14:d=14
                 · subst d14;obtain⟨v1,w14,hrun1,hown1,hgr1⟩:=((OwnV.nil B3 w3).keptN (gr1 w3 (.cells #[.int .i64 ((k:Int)+1)] 3))).more ((k:Int)+1) w3.heap.size (heap_alloc_new _ _) (by simp) (by simp;omega);have HRUN1:Hid (_=_):=hrun1;have hg14:w3.grownBy w14 none:=(gr1 _ _).trans hgr1;have x0':=hg14.cell x0 (by simp);have x1':=hg14.cell x1 (by simp);have x2':=hg14.cell x2 (by simp);have hs14:=hg14.size;have hrow1:=hown1.row;obtain⟨v2,w24,hrun2,hown2,hgr2'⟩:=(hown1.keptN (gr1 w14 (.cells #[.int .i64 b] 3))).more b w14.heap.size (heap_alloc_new _ _) (by simp) (by simp;omega);have HRUN2:Hid (_=_):=hrun2;have hxs:xb<B3:=(by have:=xg_ HX3.out;omega);have HB24:=hd_ (by rw[hgr2'.block H (by simp;omega) (fun e=>by have:=hrow1 H e.symm;omega),xh_ (by omega)];exact kept hg14 HA3.out:w24.heap[H]?=some (.cells (xi_ hs) 3));have e24:w24.heap[xb]?=some (.cells #[.int .i64 14,.int .i64 a,.int .i64 b,.int .i64 c] 40):=(by rw[hgr2'.block xb (by simp;omega) (fun e=>by have:=hrow1 xb e.symm;omega),xh_ (by omega)];exact kept hg14 HX3.out);have HG24:Hid (w.grownBy w24 none):=x6_ (xb_ (HG3.out.trans hg14) _) hgr2' (.inr fun x hx=>by have:=hrow1 x hx;have:=HG3.out.size;omega);have x0'':=xa_ e24 0;have x1'':=xa_ e24 1;have x2'':=xa_ e24 2;simp at x0'' x1'' x2'';clear hrun1 hgr1 hrun2 hgr2' e24 hrow1;have HOW:=hd_ (by rw[HWS.out];simpa[wayS] using hown2:OwnV B3 w24 v2 (z9_ (x9_ t k)));have HBH:Hid (w24.heap[H]?=some (.cells (xi_ hs) 3)):=HB24.out;have HGL:Hid (w.grownBy w24 none):=HG24.out;obtain⟨va,vcap,hvf,hvc⟩:=HOW.out.rd
                   have hwl:(z9_ (x9_ t k)).length=(x9_ t k).length:=(by simp[z9_]);obtain⟨m,hm⟩:∃ m,(x9_ t k).length=m:=⟨_,rfl⟩;have HML:=hd_ hm;rw[hm] at wl;rw[hwl,hm] at hvf;rw[hwl] at hvc;subst hvf;have HVC:=hd_ hvc;clear hvc hwl hm;clear hown1 hown2;go_wp2_with (first|(at_builtin;refine x0_ rfl _ _ 25 rfl _ _ _ w14 rfl rfl HRUN1.out ?_)|(at_builtin;refine x0_ rfl _ _ 25 rfl _ _ _ w24 rfl rfl HRUN2.out ?_))
                   clear a1 a1' a2 a3 htk hgv hzl hzg k1 k2 l1 l2 hhh hlow hhigh hz0 hz1 hm1 ew z0 hHs;go_loopg [9] m (fun gk s9 wx=>∃(j:Nat) (hs2:List Int),s9=.int .i64 j∧j≤m∧gk=m - j∧y1_ hh ((x9_ t k).drop j) hs2=y1_ hh (x9_ t k) hs∧hs2.length=n+1∧(∀ p:Nat,-1≤hs2.getD p 0)∧wx.heap[H]?=some (.cells (xi_ hs2) 3)∧w24.grownBy wx (some H))
                   case atStart=>exact⟨0,hs,rfl,Nat.zero_le _,by omega,rfl,HLN.out,fun p=>ud_ (fun i=>(vh_ (nth t i)).1) HH.out p,HBH.out,gz_⟩
                   case round=>
                    obtain⟨j,hs2,rfl,hj,hgj,hmt,hl2,hge2,hb2,hg2⟩:=hrel;have HGJ:Hid (_=m - j):=hgj;have HMT:=hd_ hmt;have HB2:=hd_ hb2;have HGE:=hd_ hge2;have HL2:=hd_ hl2;clear hgj hmt hb2 hge2 hl2;by_cases hjm:j<m
                    · have hjl:j<(x9_ t k).length:=(by rw[HML.out];exact hjm);have HDR:=hd_ (by rw[List.drop_eq_getElem_cons hjl];simp[List.getD,hjl]:(x9_ t k).drop j=(x9_ t k).getD j 0::(x9_ t k).drop (j+1));have hpw:=HWN.out ((x9_ t k).getD j 0) (by simp[List.getD,hjl]);rcases HVC.out with h|⟨bl,ol,rfl,hcl⟩
                      ·exfalso;have h2:=congrArg List.length h;unfold z9_ at h2;rw[List.length_map,List.length_nil] at h2;rw[h2] at hjl;exact Nat.not_lt_zero _ hjl
                      have y0:=hcl j hjl;have eg:(z9_ (x9_ t k)).getD j 0=(((x9_ t k).getD j 0:Nat):Int):=(by simp[z9_,List.getD,hjl]);rw[eg] at y0;have hblH:bl≠H:=by
                       have:=HOW.out.row bl rfl;omega
                      have y0:=hg2.cell y0 (by simp;exact hblH);clear hcl eg;rw[HN.out] at hpw;generalize hpp:(x9_ t k).getD j 0=pp at *;have z0:=yz_ HB2.out pp (by rw[HL2.out];omega);have f0:=xc_ HB2.out pp;have hgp:=HGE.out pp;have HMC:Hid (y1_ hh ((x9_ t k).drop j) hs2=if hs2.getD pp 0 = -1 then y1_ hh ((x9_ t k).drop (j+1)) (hs2.set pp hh) else if hs2.getD pp 0=hh then y1_ hh ((x9_ t k).drop (j+1)) hs2 else none):=(by rw[HDR.out];rfl:y1_ hh ((x9_ t k).drop j) hs2=_);have HSAME:Hid (hs2.getD pp 0=hh→hs2.set pp hh=hs2):=fun h=>by
                       apply List.ext_getElem
                       ·simp
                       · intro i a1 a2;rw[List.getElem_set];split
                         ·rename_i e;subst e;rw[← h];simp[List.getD,a2]
                         ·rfl
                      have HSG:Hid (∀ p:Nat,-1≤(hs2.set pp hh).getD p 0):=fun p=>by
                       by_cases e:pp=p
                       ·subst e;simp[List.getD,List.getElem?_set,HL2.out];split <;> simp <;> omega
                       ·have:=HGE.out p;simp only[List.getD,List.getElem?_set,if_neg e] at this ⊢;exact this
                      obtain⟨z,hz⟩:∃ z,hs2.getD pp 0=z:=⟨_,rfl⟩;rw[hz] at z0 hgp HMC HSAME;clear hz hpp;have i5:(0:Int)≤(pp:Int):=(by omega);have i6:(pp:Int)<(n:Int)+1:=(by omega);have i7:(pp:Int)<((n+1:Nat):Int):=(by omega);have j1:(0:Int)≤(j:Int):=(by omega);have j2:(j:Int)<(m:Int):=(by omega);by_cases hz1:0≤z
                      · by_cases hzh:z=hh
                        · subst hzh;have HNXT:=hd_ (by rw[← HMT.out,HMC.out,if_neg (by omega),if_pos rfl]:y1_ z ((x9_ t k).drop (j+1)) hs2=y1_ z (x9_ t k) hs);have HSA:Hid (hs2.set pp z=hs2):=HSAME.out rfl;clear HMC HSAME;go_wp2_with fail
                          have hgl:=HGJ.out;go_roundg (m - (j+1))
                          case measure=>exact meas HGJ.out hjm
                          case rel=>exact⟨j+1,hs2,by simp,hjm,rfl,HNXT.out,HL2.out,HGE.out,by rw[xk_ HB2.out,yp_,HSA.out],x3_ hg2 _ _⟩
                        · have ez:(z==hh)=false:=(by simpa using hzh);have HX:Hid (¬ach_ t):=HBad.out (by rw[HME.out,← HMT.out,HMC.out,if_neg (by omega),if_neg hzh]);have HGF:Hid (w.grownBy wr none):=x6_ HGL.out hg2 (.inr fun x hx=>by simp at hx;omega);go_wp2_with fail
                          go_ret;exact⟨false,rfl,by simpa using HX.out,HGF.out⟩
                      · have hz2:z = -1:=(by omega);subst hz2;have HNXT:=hd_ (by rw[← HMT.out,HMC.out,if_pos rfl]:y1_ hh ((x9_ t k).drop (j+1)) (hs2.set pp hh)=y1_ hh (x9_ t k) hs);clear HMC HSAME;go_wp2_with fail
                        have hgl:=HGJ.out;go_roundg (m - (j+1))
                        case measure=>exact meas HGJ.out hjm
                        case rel=>exact⟨j+1,hs2.set pp hh,by simp,hjm,rfl,HNXT.out,by simp[HL2.out],HSG.out,by rw[xk_ HB2.out,yp_],x3_ hg2 _ _⟩
                    · have hj':¬((j:Int)<(m:Int)):=(by omega);have hjm':j=m:=(by omega);have HFIN:=hd_ (by
                       rw[HME.out,← HMT.out,hjm',← HML.out,List.drop_length];rfl:hgt t (tkN t) (gvN t) (k+1)=some hs2)
                      have HGF:Hid (w.grownBy wr none∧H+1≤wr.heap.size):=⟨x6_ HGL.out hg2 (.inr fun x hx=>by simp at hx;omega),by have:=xg_ HB2.out;omega⟩;clear hjm';go_wp2_with fail
                      have hgl:=HG.out;go_roundg (n - (k+1))
                      case measure=>exact meas HG.out hlt
                      case rel=>exact⟨k+1,hs2,by simp,hlt,rfl,HB2.out,HFIN.out,HGF.out.1,HGF.out.2⟩
                 · have f14:(d==14)=false:=(by simpa using d14);obtain⟨v1,w14,hrun1,hown1,hgr1⟩:=((OwnV.nil B3 w3).keptN (gr1 w3 (.cells #[.int .i64 ((k:Int)+1)] 3))).more ((k:Int)+1) w3.heap.size (heap_alloc_new _ _) (by simp) (by simp;omega);have HRUN1:Hid (_=_):=hrun1;have hg14:w3.grownBy w14 none:=(gr1 _ _).trans hgr1;have x0:=hg14.cell x0 (by simp);have x1:=hg14.cell x1 (by simp);have x2:=hg14.cell x2 (by simp);clear hrun1 hgr1;have HOW:=hd_ (by rw[HWS.out];simpa[wayS,d11,d12,d14] using hown1:OwnV B3 w14 v1 (z9_ (x9_ t k)));have HBH:Hid (w14.heap[H]?=some (.cells (xi_ hs) 3)):=kept hg14 HA3.out;have HGL:Hid (w.grownBy w14 none):=HG3.out.trans hg14;obtain⟨va,vcap,hvf,hvc⟩:=HOW.out.rd;have hwl:(z9_ (x9_ t k)).length=(x9_ t k).length:=(by simp[z9_]);obtain⟨m,hm⟩:∃ m,(x9_ t k).length=m:=⟨_,rfl⟩;have HML:=hd_ hm;rw[hm] at wl;rw[hwl,hm] at hvf;rw[hwl] at hvc;subst hvf;have HVC:=hd_ hvc;clear hvc hwl hm;clear hown1;go_wp2_with (first|(at_builtin;refine x0_ rfl _ _ 25 rfl _ _ _ w14 rfl rfl HRUN1.out ?_))
                   clear a1 a1' a2 a3 htk hgv hzl hzg k1 k2 l1 l2 hhh hlow hhigh hz0 hz1 hm1 ew z0 hHs;go_loopg [9] m (fun gk s9 wx=>∃(j:Nat) (hs2:List Int),s9=.int .i64 j∧j≤m∧gk=m - j∧y1_ hh ((x9_ t k).drop j) hs2=y1_ hh (x9_ t k) hs∧hs2.length=n+1∧(∀ p:Nat,-1≤hs2.getD p 0)∧wx.heap[H]?=some (.cells (xi_ hs2) 3)∧w14.grownBy wx (some H))
                   case atStart=>exact⟨0,hs,rfl,Nat.zero_le _,by omega,rfl,HLN.out,fun p=>ud_ (fun i=>(vh_ (nth t i)).1) HH.out p,HBH.out,gz_⟩
                   case round=>
                    obtain⟨j,hs2,rfl,hj,hgj,hmt,hl2,hge2,hb2,hg2⟩:=hrel;have HGJ:Hid (_=m - j):=hgj;have HMT:=hd_ hmt;have HB2:=hd_ hb2;have HGE:=hd_ hge2;have HL2:=hd_ hl2;clear hgj hmt hb2 hge2 hl2;by_cases hjm:j<m
                    · have hjl:j<(x9_ t k).length:=(by rw[HML.out];exact hjm);have HDR:=hd_ (by rw[List.drop_eq_getElem_cons hjl];simp[List.getD,hjl]:(x9_ t k).drop j=(x9_ t k).getD j 0::(x9_ t k).drop (j+1));have hpw:=HWN.out ((x9_ t k).getD j 0) (by simp[List.getD,hjl]);rcases HVC.out with h|⟨bl,ol,rfl,hcl⟩
                      ·exfalso;have h2:=congrArg List.length h;unfold z9_ at h2;rw[List.length_map,List.length_nil] at h2;rw[h2] at hjl;exact Nat.not_lt_zero _ hjl
                      have y0:=hcl j hjl;have eg:(z9_ (x9_ t k)).getD j 0=(((x9_ t k).getD j 0:Nat):Int):=(by simp[z9_,List.getD,hjl]);rw[eg] at y0;have hblH:bl≠H:=by
                       have:=HOW.out.row bl rfl;omega
                      have y0:=hg2.cell y0 (by simp;exact hblH);clear hcl eg;rw[HN.out] at hpw;generalize hpp:(x9_ t k).getD j 0=pp at *;have z0:=yz_ HB2.out pp (by rw[HL2.out];omega);have f0:=xc_ HB2.out pp;have hgp:=HGE.out pp;have HMC:Hid (y1_ hh ((x9_ t k).drop j) hs2=if hs2.getD pp 0 = -1 then y1_ hh ((x9_ t k).drop (j+1)) (hs2.set pp hh) else if hs2.getD pp 0=hh then y1_ hh ((x9_ t k).drop (j+1)) hs2 else none):=(by rw[HDR.out];rfl:y1_ hh ((x9_ t k).drop j) hs2=_);have HSAME:Hid (hs2.getD pp 0=hh→hs2.set pp hh=hs2):=fun h=>by
                       apply List.ext_getElem
                       ·simp
                       · intro i a1 a2;rw[List.getElem_set];split
                         ·rename_i e;subst e;rw[← h];simp[List.getD,a2]
                         ·rfl
                      have HSG:Hid (∀ p:Nat,-1≤(hs2.set pp hh).getD p 0):=fun p=>by
                       by_cases e:pp=p
                       ·subst e;simp[List.getD,List.getElem?_set,HL2.out];split <;> simp <;> omega
                       ·have:=HGE.out p;simp only[List.getD,List.getElem?_set,if_neg e] at this ⊢;exact this
                      obtain⟨z,hz⟩:∃ z,hs2.getD pp 0=z:=⟨_,rfl⟩;rw[hz] at z0 hgp HMC HSAME;clear hz hpp;have i5:(0:Int)≤(pp:Int):=(by omega);have i6:(pp:Int)<(n:Int)+1:=(by omega);have i7:(pp:Int)<((n+1:Nat):Int):=(by omega);have j1:(0:Int)≤(j:Int):=(by omega);have j2:(j:Int)<(m:Int):=(by omega);by_cases hz1:0≤z
                      · by_cases hzh:z=hh
                        · subst hzh;have HNXT:=hd_ (by rw[← HMT.out,HMC.out,if_neg (by omega),if_pos rfl]:y1_ z ((x9_ t k).drop (j+1)) hs2=y1_ z (x9_ t k) hs);have HSA:Hid (hs2.set pp z=hs2):=HSAME.out rfl;clear HMC HSAME;go_wp2_with fail
                          have hgl:=HGJ.out;go_roundg (m - (j+1))
                          case measure=>exact meas HGJ.out hjm
                          case rel=>exact⟨j+1,hs2,by simp,hjm,rfl,HNXT.out,HL2.out,HGE.out,by rw[xk_ HB2.out,yp_,HSA.out],x3_ hg2 _ _⟩
                        · have ez:(z==hh)=false:=(by simpa using hzh);have HX:Hid (¬ach_ t):=HBad.out (by rw[HME.out,← HMT.out,HMC.out,if_neg (by omega),if_neg hzh]);have HGF:Hid (w.grownBy wr none):=x6_ HGL.out hg2 (.inr fun x hx=>by simp at hx;omega);go_wp2_with fail
                          go_ret;exact⟨false,rfl,by simpa using HX.out,HGF.out⟩
                      · have hz2:z = -1:=(by omega);subst hz2;have HNXT:=hd_ (by rw[← HMT.out,HMC.out,if_pos rfl]:y1_ hh ((x9_ t k).drop (j+1)) (hs2.set pp hh)=y1_ hh (x9_ t k) hs);clear HMC HSAME;go_wp2_with fail
                        have hgl:=HGJ.out;go_roundg (m - (j+1))
                        case measure=>exact meas HGJ.out hjm
                        case rel=>exact⟨j+1,hs2.set pp hh,by simp,hjm,rfl,HNXT.out,by simp[HL2.out],HSG.out,by rw[xk_ HB2.out,yp_],x3_ hg2 _ _⟩
                    · have hj':¬((j:Int)<(m:Int)):=(by omega);have hjm':j=m:=(by omega);have HFIN:=hd_ (by
                       rw[HME.out,← HMT.out,hjm',← HML.out,List.drop_length];rfl:hgt t (tkN t) (gvN t) (k+1)=some hs2)
                      have HGF:Hid (w.grownBy wr none∧H+1≤wr.heap.size):=⟨x6_ HGL.out hg2 (.inr fun x hx=>by simp at hx;omega),by have:=xg_ HB2.out;omega⟩;clear hjm';go_wp2_with fail
                      have hgl:=HG.out;go_roundg (n - (k+1))
                      case measure=>exact meas HG.out hlt
                      case rel=>exact⟨k+1,hs2,by simp,hlt,rfl,HB2.out,HFIN.out,HGF.out.1,HGF.out.2⟩
     · have hk':¬((k:Int)<(n:Int)):=(by omega);have hkn:k=n:=(by omega);subst hkn;have z0:=yz_ HA2.out k (by rw[HLN.out];omega);have i3:(k:Int)<((k+1:Nat):Int):=(by omega);have i4:(k:Int)<(k:Int)+1:=(by omega);have i1:(0:Int)≤(k:Int):=(by omega);have HX:Hid (ach_ t↔hs.getD k 0≤0):=⟨fun ⟨hs',hh,h0⟩=>by
        rw[HN.out,HH.out] at hh;rw[Option.some.inj hh,← HN.out];exact h0,fun h0=>⟨hs,by rw[HN.out];exact HH.out,by rw[HN.out];exact h0⟩⟩
       generalize hs.getD k 0=z at *;go_wp2;go_ret;exact⟨_,rfl,by rw[HX.out];simp,hgr2⟩
end Go.Proofs.YtcgbfhpmkpglkaaGreatDoor
