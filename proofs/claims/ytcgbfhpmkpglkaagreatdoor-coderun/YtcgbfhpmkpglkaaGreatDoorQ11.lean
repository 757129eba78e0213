/- Texts put together: L7, P1, V9, P2, S0. -/
import Derived.Test.YtcgbfhpmkpglkaaGreatDoorQ09
import Derived.Test.YtcgbfhpmkpglkaaGreatDoorQ10
set_option linter.unusedVariables false
set_option linter.unusedSimpArgs false
set_option maxHeartbeats 8000000
namespace Go.Proofs.YtcgbfhpmkpglkaaGreatDoor
open Go.RowKit
attribute [local go_sem ↓] Go.wp_at_zero Go.wp_at_succ
def k2_ (t:List Ins):Prop:=∃ hs,hgt t (tkN t) (gvN t) t.length=some hs∧hs.getD t.length 0=0
theorem ac0_ {t:List Ins} {tk gv:Nat→Int} {k:Nat} (m:Nat) (h:hgt t tk gv k=none):hgt t tk gv (k+m)=none:=by
 induction m with
 | zero=>exact h
 | succ m ih=>show hgt t tk gv (k+m+1)=none;simp only[hgt,ih];rfl
set_option maxRecDepth 10000 in
theorem af3_ (o:Nat) (t:List Ins) (w:World) (hO:OvT w o t) (hl:t.length≤100000) (hW:aid_ t) :
 Calls Tryz.prog 59 #[.pointer (some ⟨o,0,none⟩)] w (ad5_ (k2_ t) w):=by
 obtain⟨pb,po,tv,h1,h2,ta,tcap,rfl,hT⟩:=hO;have HT:Hid (t=[]∨∃ b off,ta=some ⟨b,off,none⟩∧∀ i,i<t.length→
  w.cell? ⟨b,off+i*4,none⟩=some (.int .i64 (nth t i).d)∧w.cell? ⟨b,off+i*4+1,none⟩=some (.int .i64 (nth t i).a)∧
  w.cell? ⟨b,off+i*4+2,none⟩=some (.int .i64 (nth t i).b)∧w.cell? ⟨b,off+i*4+3,none⟩=some (.int .i64 (nth t i).c)):=hT
 have HW:=hd_ hW;clear hT hW;obtain⟨n,hn⟩:∃ n,t.length=n:=⟨_,rfl⟩;have HN:=hd_ hn;rw[hn] at hl h2;have ew:wrap64 ((n:Int)+1)=(n:Int)+1:=(by unfold wrap64;omega);have hmk:∀ w:World,(Instr.makeSlice 25 (.int .i64 ((n:Int)+1)) (.int .i64 ((n:Int)+1))).run Tryz.prog w=.ok (.slice (some ⟨w.heap.size,0,none⟩) (n+1) (n+1)) (w.alloc (.cells (xi_ (List.replicate (n+1) 0)) 3)):=fun w=>by
  have:=j0_ (n+1) (by omega) w;simpa using this
 clear hn;obtain⟨H,hH⟩:∃ H,w.heap.size=H:=⟨_,rfl⟩;go_enter Tryz.func59,Tryz.ntmps59;go_wp2;clear hmk;go_loopg [25] (n+1) (fun gk s25 wx=>∃(j:Nat) (l:List Int),s25=.int .i64 j∧j≤n+1∧gk=n+1 - j∧wx.heap[H]?=some (.cells (xi_ l) 3)∧aig_ (n+1) j l∧wx.heap[H+1]?=some (.cells #[.slice (some ⟨H,0,none⟩) (n+1) (n+1)] 25)∧w.grownBy wx none)
 case atStart=>
  refine⟨0,_,rfl,Nat.zero_le _,by omega,(xh_ (by simp[hH]) _).trans (xj_ hH.symm _),⟨by simp,fun i hi=>by omega,fun i _ hi=>by simp[List.getD,hi]⟩,xj_ (by simp[hH]) _,xb_ (gr1 _ _) _⟩
 case round=>
  obtain⟨j,l,rfl,hj,hgk,har,hmi,hcc,hgr⟩:=hrel;have HG:=hd_ hgk;have HA:=hd_ har;have HC:=hd_ hcc;have HM:=hd_ hmi;clear hgk har hmi hcc;have c0:wr.cell? ⟨H+1,0,none⟩=some (.slice (some ⟨H,0,none⟩) (n+1) (n+1)):=(by rw[xa_ HC.out];rfl);by_cases hlt:j<n+1
  · have z0:=yz_ HA.out j (by rw[HM.out.1];exact hlt);have f0:=xc_ HA.out j;have i1:(0:Int)≤(j:Int):=(by omega);have i2:(j:Int)<(n:Int)+1:=(by omega);have i3:(j:Int)<((n+1:Nat):Int):=(by omega);go_wp2;have hgl:=HG.out;go_roundg (n+1 - (j+1))
    all_goals first|omega|exact⟨j+1,l.set j (-1),by go_num,by omega,by omega,by rw[xk_ HA.out,yp_],afc_ HM.out hlt,(Below.heap_setCell _ _ _ _ (by simp)).trans HC.out,yc_ hgr (by omega) _ _⟩
  · have hj':¬((j:Int)<(n:Int)+1):=(by omega);have hj'':¬((j:Int)<((n+1:Nat):Int)):=(by omega);have hjn:j=n+1:=(by omega);subst hjn;have z0:=yz_ HA.out 0 (by rw[HM.out.1];omega);have f0:=xc_ HA.out 0;have i2:(0:Int)<(n:Int)+1:=(by omega);have HA1:=hd_ (by rw[xk_ HA.out,yp_,afd_ HM.out]:(wr.setCell ⟨H,0,none⟩ (.int .i64 0)).heap[H]?=some (.cells (xi_ (0::List.replicate n (-1))) 3));clear HG;go_wp2;go_loopg [37] n (fun gk s37 wx=>∃(k:Nat) (hs:List Int),s37=.int .i64 k∧k≤n∧gk=n - k∧wx.heap[H]?=some (.cells (xi_ hs) 3)∧hgt t (tkN t) (gvN t) k=some hs∧wx.heap[H+1]?=some (.cells #[.slice (some ⟨H,0,none⟩) (n+1) (n+1)] 25)∧w.grownBy wx none)
    case atStart=>exact⟨0,_,rfl,Nat.zero_le _,by omega,HA1.out,by rw[← HN.out];rfl,(Below.heap_setCell _ _ _ _ (by simp)).trans HC.out,yc_ hgr (by omega) _ _⟩
    case round=>
     obtain⟨k,hs,rfl,hk,hgk,har,hhg,hcc,hgr2⟩:=hrel;have HG:Hid (_=n - k):=hgk;have HA2:=hd_ har;have HC2:=hd_ hcc;have HH:=hd_ hhg;have HLN:=hd_ (by rw[ac9_ hhg,HN.out]:hs.length=n+1);clear hgk har hcc hhg z0 f0 c0 hgr;have c0:wr.cell? ⟨H+1,0,none⟩=some (.slice (some ⟨H,0,none⟩) (n+1) (n+1)):=(by rw[xa_ HC2.out];rfl);by_cases hlt:k<n
     · have hkl:k<t.length:=(by rw[HN.out];exact hlt);rcases HT.out with h|⟨b',off,rfl,hc⟩
       ·subst h;simp at hkl
       obtain⟨q0,q1,q2,q3⟩:=hc k hkl;have q0:=hgr2.cell q0 (by simp);have q1:=hgr2.cell q1 (by simp);have q2:=hgr2.cell q2 (by simp);have q3:=hgr2.cell q3 (by simp);clear hc;have i1:(0:Int)≤(k:Int):=(by omega);have i2:(k:Int)<(n:Int):=(by omega);have i3:(k:Int)<((n+1:Nat):Int):=(by omega);have i4:(k:Int)<(n:Int)+1:=(by omega);have z0:=yz_ HA2.out k (by rw[HLN.out];omega);have hzl:=apa_ HH.out k;have hzg:=ud_ (fun i=>(vh_ (nth t i)).1) HH.out k;have hstep:hgt t (tkN t) (gvN t) (k+1)=if hs.getD k 0 = -1 then some hs else if hs.getD k 0<tkN t k∨1000<hs.getD k 0 - tkN t k+gvN t k then none else y1_ (hs.getD k 0 - tkN t k+gvN t k) (x9_ t k) hs:=by
        show(hgt t (tkN t) (gvN t) k).bind _=_
        rw[HH.out];rfl
       obtain⟨wn1,wn2⟩:=aie_ t k hkl HW.out;have htk:=aj2_ (nth t k);have hgv:=vh_ (nth t k);have wl:=aif_ t k;rw[show tkN t k=tkS (nth t k) from rfl,show gvN t k=gvS (nth t k) from rfl] at hstep;change(hs.getD k 0)≤1000 at hzl;change -1≤(hs.getD k 0) at hzg;obtain⟨z,hz⟩:∃ z,hs.getD k 0=z:=⟨_,rfl⟩;rw[hz] at z0 hzl hzg hstep;have cE:∀ w,Calls Tryz.prog 79 #[kn_ (nth t k)] w fun e w'=>e=.returned (.tuple #[.int .i64 (tkS (nth t k)),.int .i64 (gvS (nth t k))])∧w.grownBy w' none:=ajw_ (nth t k);have cW:∀ w,Calls Tryz.prog 80 #[.int .i64 k,kn_ (nth t k)] w (afa_ w (wayS k (nth t k))):=fun w=>ao3_ k (nth t k) w (by omega) (by omega);rw[← wn1] at cW;unfold kn_ at cE cW;clear wn1;generalize tkS (nth t k)=tk at *;generalize gvS (nth t k)=gv at *;generalize(nth t k).d=d at *;generalize(nth t k).a=a at *;generalize(nth t k).b=b at *;generalize(nth t k).c=c at *;have Z0:∀ ob,(wr.alloc ob).cell? ⟨H,k,none⟩=some (.int .i64 z):=fun ob=>(gr1 wr ob).cell z0 (by simp);have C0:∀ ob,(wr.alloc ob).cell? ⟨H+1,0,none⟩=some (.slice (some ⟨H,0,none⟩) (n+1) (n+1)):=fun ob=>(gr1 wr ob).cell c0 (by simp);clear z0 c0 hz;have HST:Hid (_=_):=hstep;have HWN:=hd_ wn2;clear hstep wn2;by_cases hm1:z = -1
       · subst hm1;have HS1:=hd_ (by rw[HST.out,if_pos rfl]:hgt t (tkN t) (gvN t) (k+1)=some hs);clear HST;go_wp2;have hgl:=HG.out;go_roundg (n - (k+1))
         all_goals first|omega|exact⟨k+1,hs,by go_num,by omega,by omega,(xh_ (xg_ HA2.out) _).trans HA2.out,HS1.out,(xh_ (xg_ HC2.out) _).trans HC2.out,xb_ hgr2 _⟩
       · have e1:(z==-1)=false:=(by simpa using hm1);go_wp2_with fail
         refine(cE _).mono ?_;rintro e w1 ⟨rfl,hg1⟩;have hX:=kept hg1 (heap_alloc_new wr _);have x0:=xa_ hX 0;have x1:=xa_ hX 1;have x2:=xa_ hX 2;have x3:=xa_ hX 3;simp at x0 x1 x2 x3;have HA3:Hid (w1.heap[H]?=some (.cells (xi_ hs) 3)):=kept hg1 ((xh_ (xg_ HA2.out) _).trans HA2.out);have HC3:Hid (w1.heap[H+1]?=some (.cells #[.slice (some ⟨H,0,none⟩) (n+1) (n+1)] 25)):=kept hg1 ((xh_ (xg_ HC2.out) _).trans HC2.out);have z1:=hg1.cell (Z0 _) (by simp);have c1:=hg1.cell (C0 _) (by simp);have hgw:w.grownBy w1 none:=(xb_ hgr2 _).trans hg1;have a1:wrap64 (z - tk)=z - tk:=(by unfold wrap64;omega);have a2:wrap64 (z - tk+gv)=z - tk+gv:=(by unfold wrap64;omega);have HBad:Hid (hgt t (tkN t) (gvN t) (k+1)=none→¬k2_ t):=fun hnone ⟨hs',hh,_⟩=>by
          have:=ac0_ (t.length - (k+1)) hnone;rw[show k+1+(t.length - (k+1))=t.length by omega,hh] at this;simp at this
         clear hX Z0 C0 cE hg1;by_cases hlow:z<tk
         · have HX:Hid (¬k2_ t):=HBad.out (by rw[HST.out,if_neg hm1,if_pos (.inl hlow)]);go_wp2_with fail
           go_ret;exact⟨false,rfl,by simpa using HX.out,hgw⟩
         · by_cases hhigh:1000<z - tk+gv
           · have HX:Hid (¬k2_ t):=HBad.out (by rw[HST.out,if_neg hm1,if_pos (.inr hhigh)]);go_wp2_with fail
             go_ret;exact⟨false,rfl,by simpa using HX.out,hgw⟩
           · have HME:=hd_ (by rw[HST.out,if_neg hm1,if_neg (by omega)]:hgt t (tkN t) (gvN t) (k+1)=y1_ (z - tk+gv) (x9_ t k) hs);go_wp2_with fail
             refine(cW _).mono ?_;rintro e w2 ⟨pl,rfl,hp1,hp2,hg2⟩;have hnl:(z9_ (x9_ t k)).length=(x9_ t k).length:=(by simp[z9_]);rw[hnl];have hlt1:=xg_ HA3.out;have hlt2:=xg_ HC3.out;have cM:=ao9_ (H+1) H pl (n+1) (z - tk+gv) (x9_ t k) hs w2 (kept hg2 HC3.out) (kept hg2 HA3.out) hp2 HLN.out (fun p hp=>by have:=HWN.out p hp;rw[HN.out] at this;exact this) wl (by omega) (by omega) (by omega) (by omega);clear hnl hp2 cW;go_wp2_with fail
             refine cM.mono ?_;rintro e w3 ⟨hg3,hm3⟩;have HG3:Hid (w.grownBy w3 none):=x6_ (hgw.trans hg2) hg3 (.inr fun x hx=>by simp at hx;omega);have HC4:Hid (w3.heap[H+1]?=some (.cells #[.slice (some ⟨H,0,none⟩) (n+1) (n+1)] 25)):=j7_ hg3 (kept hg2 HC3.out) (by omega);clear cM;cases hmm:y1_ (z - tk+gv) (x9_ t k) hs with
             | none=>
              rw[hmm] at hm3;have hm4:e=.returned (.bool false):=hm3;subst hm4;have HX:Hid (¬k2_ t):=HBad.out (by rw[HME.out,hmm]);go_wp2_with fail
              go_ret;exact⟨false,rfl,by simpa using HX.out,HG3.out⟩
             | some hs'=>
              rw[hmm] at hm3;obtain⟨hm4,hm5⟩:=hm3;subst hm4;have HA5:=hd_ hm5;have HH5:=hd_ (by rw[HME.out,hmm]:hgt t (tkN t) (gvN t) (k+1)=some hs');clear hm5 hmm;go_wp2_with fail
              have hgl:=HG.out;go_roundg (n - (k+1))
              all_goals first|omega|exact⟨k+1,hs',by go_num,by omega,by omega,HA5.out,HH5.out,HC4.out,HG3.out⟩
     · have hk':¬((k:Int)<(n:Int)):=(by omega);have hkn:k=n:=(by omega);subst hkn;have z0:=yz_ HA2.out k (by rw[HLN.out];omega);have i3:(k:Int)<((k+1:Nat):Int):=(by omega);have i4:(k:Int)<(k:Int)+1:=(by omega);have i1:(0:Int)≤(k:Int):=(by omega);have HX:Hid (k2_ t↔hs.getD k 0=0):=⟨fun ⟨hs',hh,h0⟩=>by
        rw[HN.out,HH.out] at hh;rw[Option.some.inj hh,← HN.out];exact h0,fun h0=>⟨hs,by rw[HN.out];exact HH.out,by rw[HN.out];exact h0⟩⟩
       generalize hs.getD k 0=z at *;go_wp2;go_ret;exact⟨_,rfl,by rw[HX.out];simp,hgr2⟩
def vi_ (l:List (Int×Nat)) (fn:Nat) (t:List Ins):Prop:=∀ i,i<t.length→ug_ l fn t.length i (nth t i)=true
theorem v6_ {l:List (Int×Nat)} {fn:Nat} {t:List Ins} (h:vi_ l fn t) (i:Nat) (hi:i<t.length):xv_ l fn t.length i (nth t i)=true:=by
 have:=h i hi;simp only[ug_,Bool.and_eq_true] at this;exact this.2
theorem vo_ {l:List (Int×Nat)} {fn:Nat} {t:List Ins} (h:vi_ l fn t):Fwd t:=by
 intro i hi hd;have:=v6_ h i hi;rcases hd with hd|hd <;> (simp[xv_,hd,isW] at this;omega)
theorem ad9_ {l:List (Int×Nat)} {fn:Nat} {t:List Ins} (h:vi_ l fn t):Bs t:=by
 intro i he;have hd:(nth t i).d=13:=(by simpa[isE] using he);have:=v6_ h i (aam_ he);simp[xv_,hd,isW] at this;omega
theorem af6_ {l:List (Int×Nat)} {fn:Nat} {t:List Ins} (h:vi_ l fn t):∀ i,isE t i=true→0≤(nth t i).a∧(nth t i).a<40:=by
 intro i he;have hd:(nth t i).d=13:=(by simpa[isE] using he);have:=v6_ h i (aam_ he);simp[xv_,hd,isW] at this;omega
theorem aii_ {l:List (Int×Nat)} {fn:Nat} {t:List Ins} (h:vi_ l fn t) (hr:RdOk t):aid_ t:=by
 intro i hi;refine⟨vo_ h i hi,fun hd=>?_⟩;have:=hr.rounds i (by simp[isR,hd]);exact⟨this.1,this.2.1⟩
theorem af7_ {l:List (Int×Nat)} {fn:Nat} {t:List Ins} (h:vi_ l fn t) (i:Nat) (hi:i<t.length) (hd:(nth t i).d=17):0≤(nth t i).a∧(nth t i).a<l.length:=by
 have:=v6_ h i hi;simp[xv_,hd,z3_,isW] at this;omega
theorem aa7_ {l:List (Int×Nat)} {fn:Nat} {t:List Ins} {bds:List Int} (h:vi_ l fn t) (hf:fn≤20000) (hb:∀ b,b∈bds→0≤b∧b≤1000000000) (hl:bds.length=l.length) (i:Nat) (hi:i<t.length):1≤yi_ bds (nth t i)∧yi_ bds (nth t i)≤1000000001:=by
 unfold yi_;split
 ·rename_i hd;have:=v6_ h i hi;simp[xv_,hd,y3_] at this;omega
 · split
   · rename_i hd;have:=af7_ h i hi hd;have hm:bds.getD (nth t i).a.toNat 0∈bds:=by
      have hlt:(nth t i).a.toNat<bds.length:=(by omega);rw[List.getD,List.getElem?_eq_getElem hlt,Option.getD_some];exact List.getElem_mem hlt
     have:=hb _ hm;omega
   ·omega
structure ProgOk (l:List (Int×Nat)) (kd:Int) (fn:Nat) (t:List Ins):Prop where
 kind:1≤kd∧kd≤3
 frame:fn≤20000
 len:t.length≤100000
 may:vi_ l fn t
 rds:RdOk t
 nest:nst t t.length≠none
 jumps:ab9_ t (v3_ t t.length)
 stack:k2_ t
structure UnAt (w0:World) (o:Nat) (l:List (Int×Nat)) (kd:Int) (fn:Nat) (t:List Ins) (av bv:Value) (pb po:Nat) (tv:Value):Prop where
 ahead:AhAt w0 av l
 kind:w0.cell? ⟨pb,po,none⟩=some (.int .i64 kd)
 frame:∃ fa fc,w0.cell? ⟨pb,po+2,none⟩=some (.slice fa fn fc)
 text:w0.cell? ⟨pb,po+4,none⟩=some tv
 lies:TxtAt w0 tv t
 fresh:w0.heap.size≤o
def afe_ (w:World) (o:Nat) (av bv:Value) (pb po:Nat):Prop:=∃ s3 s4,w.heap[o]?=some (.cells #[av,bv,.pointer (some ⟨pb,po,none⟩),s3,s4] 87)
theorem af8_ {w0 w:World} {o:Nat} {l:List (Int×Nat)} {kd:Int} {fn:Nat} {t:List Ins} {av bv:Value} {pb po:Nat} {tv:Value} (h:UnAt w0 o l kd fn t av bv pb po tv) (hg:w0.grownBy w none) (hb:afe_ w o av bv pb po):OvT w o t:=by
 obtain⟨s3,s4,hb⟩:=hb;refine⟨pb,po,tv,?_,hg.cell h.text (by simp),h.lies.grown hg⟩;rw[xa_ hb];rfl
theorem awd_ {w0 w:World} {o:Nat} {l:List (Int×Nat)} {kd:Int} {fn:Nat} {t:List Ins} {av bv:Value} {pb po:Nat} {tv:Value} (h:UnAt w0 o l kd fn t av bv pb po tv) (hg:w0.grownBy w none) (hb:afe_ w o av bv pb po):Ov w o l fn t.length:=by
 obtain⟨s3,s4,hb⟩:=hb;obtain⟨fa,fc,hf⟩:=h.frame;obtain⟨ta,tc,rfl,_⟩:=h.lies;refine⟨⟨av,?_,h.ahead.grown hg⟩,pb,po,fa,fc,ta,tc,?_,hg.cell hf (by simp),hg.cell h.text (by simp)⟩
 ·rw[xa_ hb];rfl
 ·rw[xa_ hb];rfl
def Laid (w':World) (o:Nat) (t:List Ins) (av bv:Value) (pb po:Nat):Prop:=∃ bb tb,w'.heap[o]?=some (.cells #[av,bv,.pointer (some ⟨pb,po,none⟩),.slice (some ⟨bb,0,none⟩) (t.length+1) (t.length+1),.slice (some ⟨tb,0,none⟩) t.length t.length] 87)∧w'.heap[bb]?=some (.cells (xi_ (v3_ t t.length)) 3)∧w'.heap[tb]?=some (.cells (xi_ (yo_ t t.length)) 3)
theorem Laid.grown {w w':World} {o:Nat} {t:List Ins} {av bv:Value} {pb po:Nat} (h:Laid w o t av bv pb po) (hg:w.grownBy w' none):Laid w' o t av bv pb po:=by
 obtain⟨bb,tb,h1,h2,h3⟩:=h;exact⟨bb,tb,kept hg h1,kept hg h2,kept hg h3⟩
theorem Laid.blk {w:World} {o:Nat} {t:List Ins} {av bv:Value} {pb po:Nat} (h:Laid w o t av bv pb po):afe_ w o av bv pb po:=by
 obtain⟨bb,tb,h1,_⟩:=h;exact⟨_,_,h1⟩
def aij_ (w0:World) (p:Prop) (o:Nat) (t:List Ins) (av bv:Value) (pb po:Nat) (e:Ending) (w':World):Prop:=
 ∃ r:Bool,e=.returned (.bool r)∧(r=true↔p)∧w0.grownBy w' none∧(r=true→Laid w' o t av bv pb po)
theorem af9_ (o:Nat) (l:List (Int×Nat)) (kd:Int) (fn:Nat) (t:List Ins) (av bv:Value) (pb po:Nat) (tv:Value) (w0 w:World) (h:UnAt w0 o l kd fn t av bv pb po tv) (hg:w0.grownBy w none) (hb:afe_ w o av bv pb po) (hl:t.length≤100000) (hm:vi_ l fn t) :
 Calls Tryz.prog 57 #[.pointer (some ⟨o,0,none⟩)] w (aij_ w0 (RdOk t∧nst t t.length≠none) o t av bv pb po):=by
 have cR:=ael_ o t w (af8_ h hg hb) hl;have HH:=hd_ h;have HB:=hd_ hb;have HM:=hd_ hm;clear h hb hm;go_enter Tryz.func57,Tryz.ntmps57;go_wp2_with fail
 refine cR.mono ?_;rintro e w1 ⟨r,rfl,hr,hg1⟩;clear cR;have HR:=hd_ hr;clear hr;cases r with
 | false=>
  go_wp2_with fail
  go_ret;exact⟨false,rfl,by simp only[Bool.false_eq_true,false_iff];exact fun hx=>by have:=HR.out.2 hx.1;simp at this,hg.trans hg1,by simp⟩
 | true=>
  have HRd:Hid (RdOk t):=HR.out.1 rfl;clear HR;obtain⟨s3,s4,hbl⟩:=HB.out;have cN:=apd_ o pb po av bv s3 s4 tv t w0 w1 (hg.trans hg1) HH.out.fresh (kept hg1 hbl) HH.out.text HH.out.lies hl HRd.out (ad9_ HM.out) (af6_ HM.out);clear hbl;go_wp2_with fail
  refine cN.mono ?_;rintro e w2 ⟨r,rfl,hr,hg2,hL⟩;have H2:=hd_ hr;have H3:=hd_ hL;clear hr hL cN;go_wp2_with fail
  go_ret;exact⟨r,by simp,by rw[H2.out];exact⟨fun hx=>⟨HRd.out,hx⟩,fun hx=>hx.2⟩,hg2,H3.out⟩
set_option maxRecDepth 10000 in
theorem amq_ (o:Nat) (l:List (Int×Nat)) (kd:Int) (fn:Nat) (t:List Ins) (av bv:Value) (pb po:Nat) (tv:Value) (w0 w:World) (h:UnAt w0 o l kd fn t av bv pb po tv) (hg:w0.grownBy w none) (hb:afe_ w o av bv pb po) (hS:Stds w0) (hll:l.length≤1000000000000) :
 Calls Tryz.prog 33 #[.pointer (some ⟨o,0,none⟩)] w (aij_ w0 (ProgOk l kd fn t) o t av bv pb po):=by
 have HH:=hd_ h;have HB:=hd_ hb;have HS:=hd_ hS;clear h hb hS;have k0:=hg.cell HH.out.kind (by simp);obtain⟨fa,fc,k2⟩:=HH.out.frame;have k2:=hg.cell k2 (by simp);obtain⟨ta,tc,htv,hT⟩:=HH.out.lies;have k4:=hg.cell HH.out.text (by simp);rw[htv] at k4;have c2:w.cell? ⟨o,2,none⟩=some (.pointer (some ⟨pb,po,none⟩)):=(by obtain⟨s3,s4,hbl⟩:=HB.out;rw[xa_ hbl];rfl);have HT:Hid (t=[]∨∃ b off,ta=some ⟨b,off,none⟩∧∀ i,i<t.length→
  w0.cell? ⟨b,off+i*4,none⟩=some (.int .i64 (nth t i).d)∧w0.cell? ⟨b,off+i*4+1,none⟩=some (.int .i64 (nth t i).a)∧
  w0.cell? ⟨b,off+i*4+2,none⟩=some (.int .i64 (nth t i).b)∧w0.cell? ⟨b,off+i*4+3,none⟩=some (.int .i64 (nth t i).c)):=hT
 clear hT htv;obtain⟨n,hn⟩:∃ n,t.length=n:=⟨_,rfl⟩;have HN:=hd_ hn;rw[hn] at k4;clear hn;by_cases q1:kd<1
 · have HX:Hid (¬ProgOk l kd fn t):=fun hx=>by have:=hx.kind.1;omega
   go_enter Tryz.func33,Tryz.ntmps33;go_wp2_with fail
   go_ret;exact⟨false,rfl,by simpa using HX.out,hg,by simp⟩
 by_cases q2:3<kd
 · have HX:Hid (¬ProgOk l kd fn t):=fun hx=>by have:=hx.kind.2;omega
   go_enter Tryz.func33,Tryz.ntmps33;go_wp2_with fail
   go_ret;exact⟨false,rfl,by simpa using HX.out,hg,by simp⟩
 by_cases q3:20000<fn
 · have HX:Hid (¬ProgOk l kd fn t):=fun hx=>by have:=hx.frame;omega
   have q3':(20000:Int)<(fn:Int):=(by omega);go_enter Tryz.func33,Tryz.ntmps33;go_wp2_with fail
   go_ret;exact⟨false,rfl,by simpa using HX.out,hg,by simp⟩
 by_cases q4:100000<n
 · have HX:Hid (¬ProgOk l kd fn t):=fun hx=>by have:=hx.len;rw[HN.out] at this;omega
   have q3':¬((20000:Int)<(fn:Int)):=(by omega);have q4':(100000:Int)<(n:Int):=(by omega);go_enter Tryz.func33,Tryz.ntmps33;go_wp2_with fail
   go_ret;exact⟨false,rfl,by simpa using HX.out,hg,by simp⟩
 have q3':¬((20000:Int)<(fn:Int)):=(by omega);have q4':¬((100000:Int)<(n:Int)):=(by omega);go_enter Tryz.func33,Tryz.ntmps33;go_wp2_with fail
 go_loopg [43] n (fun gk s43 wx=>∃ k:Nat,s43=.int .i64 k∧k≤n∧gk=n - k∧(∀ i,i<k→ug_ l fn t.length i (nth t i)=true)∧w.grownBy wx none)
 case atStart=>exact⟨0,rfl,Nat.zero_le _,by omega,fun i hi=>by omega,gz_⟩
 case round=>
  obtain⟨k,rfl,hk,hgk,hall,hgr⟩:=hrel;have HG:=hd_ hgk;have HA:=hd_ hall;clear hgk hall;by_cases hlt:k<n
  · have hkl:k<t.length:=(by rw[HN.out];exact hlt);rcases HT.out with h|⟨b',off,rfl,hc⟩
    ·subst h;simp at hkl
    obtain⟨q0,q1',q2',q3''⟩:=hc k hkl;have q0:=(hg.trans hgr).cell q0 (by simp);have q1':=(hg.trans hgr).cell q1' (by simp);have q2':=(hg.trans hgr).cell q2' (by simp);have q3'':=(hg.trans hgr).cell q3'' (by simp);clear hc;have cM:∀ w',w.grownBy w' none→Calls Tryz.prog 56 #[.pointer (some ⟨o,0,none⟩),.int .i64 k,kn_ (nth t k)] w' fun e w2=>e=.returned (.bool (ug_ l fn t.length k (nth t k)))∧w'.grownBy w2 none:=fun w' hw'=>by
     refine af1_ (nth t k) l fn t.length k o w' (awd_ HH.out (hg.trans hw') ?_) (HS.out.grown (hg.trans hw')) (by omega) hll (by omega) (by rw[HN.out];omega);obtain⟨s3,s4,hbl⟩:=HB.out;exact⟨s3,s4,kept hw' hbl⟩
    obtain⟨r,hr⟩:∃ r,ug_ l fn t.length k (nth t k)=r:=⟨_,rfl⟩;rw[hr] at cM;have HR:=hd_ hr;unfold kn_ at cM;generalize(nth t k).d=d at *;generalize(nth t k).a=a at *;generalize(nth t k).b=b at *;generalize(nth t k).c=c at *;clear hr;have i1:(0:Int)≤(k:Int):=(by omega);have i2:(k:Int)<(n:Int):=(by omega);go_wp2_with fail
    refine(cM _ (xb_ hgr _)).mono ?_;rintro e w1 ⟨rfl,hg1⟩;clear cM;cases r with
    | false=>
     have HX:Hid (¬ProgOk l kd fn t):=fun hx=>by have:=hx.may k hkl;rw[HR.out] at this;simp at this
     go_wp2_with fail
     go_ret;exact⟨false,rfl,by simpa using HX.out,hg.trans ((xb_ hgr _).trans hg1),by simp⟩
    | true=>
     go_wp2_with fail
     have hgl:=HG.out;go_roundg (n - (k+1))
     all_goals first|omega|exact⟨k+1,by go_num,by omega,by omega,fun i hi=>(by
      by_cases e:i=k
      ·subst e;exact HR.out
      ·exact HA.out i (by omega)),(xb_ hgr _).trans hg1⟩
  · have hk':¬((k:Int)<(n:Int)):=(by omega);have hkn:k=n:=(by omega);subst hkn;have HM:Hid (vi_ l fn t):=fun i hi=>HA.out i (by rw[HN.out] at hi;exact hi);have hbl:afe_ wr o av bv pb po:=(by obtain⟨s3,s4,hbl⟩:=HB.out;exact⟨s3,s4,kept hgr hbl⟩);have cL:=af9_ o l kd fn t av bv pb po tv w0 wr HH.out (hg.trans hgr) hbl (by rw[HN.out];omega) HM.out;clear HG hbl;go_wp2_with fail
    refine cL.mono ?_;rintro e w1 ⟨r,rfl,hr,hg1,hL⟩;clear cL;have HR1:=hd_ hr;have HL1:=hd_ hL;clear hr hL;cases r with
    | false=>
     have HX:Hid (¬ProgOk l kd fn t):=fun hx=>by have:=HR1.out.2 ⟨hx.rds,hx.nest⟩;simp at this
     clear HR1 HL1;go_wp2_with fail
     go_ret;exact⟨false,rfl,by simpa using HX.out,hg1,by simp⟩
    | true=>
     have HRd:Hid (RdOk t∧nst t t.length≠none):=HR1.out.1 rfl;have HLd:Hid (Laid w1 o t av bv pb po):=HL1.out rfl;clear HR1 HL1;obtain⟨bb,tb,z1,z2,z3⟩:=HLd.out;have c3:w1.cell? ⟨o,3,none⟩=some (.slice (some ⟨bb,0,none⟩) (t.length+1) (t.length+1)):=(by rw[xa_ z1];rfl);have cJ:=af5_ o bb t (v3_ t t.length) w1 (af8_ HH.out hg1 HLd.out.blk) (by rw[HN.out];omega) c3 z2 (aap_ _ _) (vo_ HM.out);clear z1 z2 z3 c3;go_wp2_with fail
     refine cJ.mono ?_;rintro e w2 ⟨r,rfl,hr,hg2⟩;clear cJ;have HR2:=hd_ hr;clear hr;cases r with
     | false=>
      have HX:Hid (¬ProgOk l kd fn t):=fun hx=>by have:=HR2.out.2 hx.jumps;simp at this
      clear HR2;go_wp2_with fail
      go_ret;exact⟨false,rfl,by simpa using HX.out,hg1.trans hg2,by simp⟩
     | true=>
      have HJd:Hid (ab9_ t (v3_ t t.length)):=HR2.out.1 rfl;clear HR2;have cK:=af3_ o t w2 (af8_ HH.out (hg1.trans hg2) (HLd.out.grown hg2).blk) (by rw[HN.out];omega) (aii_ HM.out HRd.out.1);go_wp2_with fail
      refine cK.mono ?_;rintro e w3 ⟨r,rfl,hr,hg3⟩;clear cK;have HR3:=hd_ hr;clear hr;go_wp2_with fail
      go_ret;refine⟨r,by simp,?_,(hg1.trans hg2).trans hg3,fun _=>(HLd.out.grown hg2).grown hg3⟩;rw[HR3.out];exact⟨fun hx=>⟨by omega,by omega,by rw[HN.out];omega,HM.out,HRd.out.1,HRd.out.2,HJd.out,hx⟩,fun hx=>hx.stack⟩
end Go.Proofs.YtcgbfhpmkpglkaaGreatDoor
namespace Go.Proofs.YtcgbfhpmkpglkaaGreatDoor
theorem aeh_ {t:List Ins} {tk gv:Nat→Int} {i:Nat} {hs':List Int} (h:hgt t tk gv (i+1)=some hs'):∃ hs,hgt t tk gv i=some hs∧
 (((hs[i]?).getD 0 = -1∧hs'=hs)∨((hs[i]?).getD 0≠-1∧tk i≤(hs[i]?).getD 0∧(hs[i]?).getD 0 - tk i+gv i≤1000∧y1_ ((hs[i]?).getD 0 - tk i+gv i) (x9_ t i) hs=some hs')):=by
 simp only[hgt,Option.bind_eq_some_iff] at h;obtain⟨hs,h1,h2⟩:=h;refine⟨hs,h1,?_⟩;split at h2
 ·rename_i e;simp at h2;exact .inl ⟨e,h2.symm⟩
 · rename_i e;split at h2
   ·simp at h2
   ·exact .inr ⟨e,by omega,by omega,h2⟩
theorem aei_ {t:List Ins} {tk gv:Nat→Int} (hg:∀ i,0≤gv i) {i:Nat} {hs:List Int} (h1:hgt t tk gv i=some hs):∀(m:Nat) (hs':List Int),hgt t tk gv (i+m)=some hs'→∀ p:Nat,(hs[p]?).getD 0≠-1→(hs'[p]?).getD 0=(hs[p]?).getD 0
 | 0,hs',h2,p,hp=>by
  rw[Nat.add_zero,h1] at h2;simp at h2;rw[h2]
 | m+1,hs',h2,p,hp=>by
  obtain⟨hs2,h3,h4⟩:=aeh_ (i:=i+m) h2;have ih:=aei_ hg h1 m hs2 h3 p hp;rcases h4 with⟨_,rfl⟩|⟨e,h5,h6,h7⟩
  ·exact ih
  ·have:=(aa2_ (by have:=hg (i+m);omega) (ud_ hg h3) h7).2.1 p (by rw[ih];exact hp);rw[this,ih]
theorem uz_ {t:List Ins} {tk gv:Nat→Int} {n:Nat} {hs:List Int} (h:hgt t tk gv n=some hs):∀ m i,i+m=n→∃ hs',hgt t tk gv i=some hs'
 | 0,i,e=>⟨hs,by rw[← h,← e];rfl⟩
 | m+1,i,e=>by
  obtain⟨hs2,h2⟩:=uz_ h m (i+1) (by omega);obtain⟨hs3,h3,_⟩:=aeh_ h2;exact⟨hs3,h3⟩
def Hh (t:List Ins) (i:Nat):Int:=(((hgt t (tkN t) (gvN t) i).getD [])[i]?).getD 0
theorem agp_ (t:List Ins):∀ i,0≤gvN t i:=fun i=>(vh_ (nth t i)).1
theorem alp_ (t:List Ins):Hh t 0=0:=by simp[Hh,hgt]
theorem awl_ {t:List Ins} (h:k2_ t) {i:Nat} (hi:i≤t.length) : -1≤Hh t i:=by
 obtain⟨hs,h1,_⟩:=h;obtain⟨hs',h2⟩:=uz_ h1 (t.length - i) i (by omega);unfold Hh;rw[h2];exact ud_ (agp_ t) h2 i
theorem avx_ {t:List Ins} (h:k2_ t):Hh t t.length=0:=by
 obtain⟨hs,h1,h2⟩:=h;unfold Hh;rw[h1];exact h2
theorem abc_ {t:List Ins} (h:k2_ t) {i:Nat} (hi:i<t.length) (hl:Hh t i≠-1):tkN t i≤Hh t i∧Hh t i - tkN t i+gvN t i≤1000∧(∀ p,p∈x9_ t i→i<p→p≤t.length→Hh t p=Hh t i - tkN t i+gvN t i)∧(∀ p,p∈x9_ t i→p≤i→Hh t p≠-1→Hh t p=Hh t i - tkN t i+gvN t i):=by
 obtain⟨hs,h1,h2⟩:=h;have hg:=agp_ t;obtain⟨hs1,a1⟩:=uz_ h1 (t.length - i) i (by omega);obtain⟨hs2,a2⟩:=uz_ h1 (t.length - (i+1)) (i+1) (by omega);have e1:Hh t i=(hs1[i]?).getD 0:=(by unfold Hh;rw[a1];rfl);rw[e1] at hl ⊢;obtain⟨hs3,a3,a4⟩:=aeh_ a2;rw[a1] at a3;simp at a3;subst a3;rcases a4 with⟨a4,_⟩|⟨a4,a5,a6,a7⟩
 ·exact absurd a4 hl
 · have hge:=ud_ hg a1;have hlen:=ac9_ a1;have hpos:0≤(hs1[i]?).getD 0 - tkN t i+gvN t i:=(by have:=hg i;omega);have hm:=aa2_ hpos hge a7;refine⟨a5,a6,fun p hp hip hpn=>?_,fun p hp hip hpl=>?_⟩
   · have h3:(hs2[p]?).getD 0=(hs1[i]?).getD 0 - tkN t i+gvN t i:=by
      rcases hm.2.2 p hp with h|h
      ·exact h
      ·omega
     obtain⟨hs4,a8⟩:=uz_ h1 (t.length - p) p (by omega);have h4:=aei_ hg a2 (p - (i+1)) hs4 (by rw[show i+1+(p - (i+1))=p by omega];exact a8) p (by rw[h3];omega);unfold Hh;rw[a8];show(hs4[p]?).getD 0=_
     rw[h4,h3]
   · obtain⟨hs4,a8⟩:=uz_ h1 (t.length - p) p (by omega);have e2:Hh t p=(hs4[p]?).getD 0:=(by unfold Hh;rw[a8];rfl);rw[e2] at hpl ⊢;have h4:=aei_ hg a8 (i - p) hs1 (by rw[show p+(i - p)=i by omega];exact a1) p hpl;have h5:=hm.2.1 p (by rw[h4];exact hpl);rcases hm.2.2 p hp with h|h
     ·rw[← h,h5,h4]
     ·omega
def Lc (t:List Ins) (i:Nat):Prop:=∀ f,inL t f i=true→Hh t f≠-1
theorem atk_ (t:List Ins):Lc t 0:=fun f h=>by rw[acg_] at h;simp at h
def cF (cs:List Int):Int→Int:=fun a=>if 0≤a then cs.getD a.toNat 0 else 0
theorem aqs_ (cs:List Int) (a:Int) (x:Int) (h0:0≤a) (h1:a.toNat<cs.length):cF (cs.set a.toNat x)=upd (cF cs) a x:=by
 funext b;unfold cF upd;by_cases e:b=a
 ·subst e;simp[h0,h1]
 · rw[if_neg e];by_cases hb:0≤b
   · rw[if_pos hb];show _=(if 0≤b then cs.getD b.toNat 0 else 0)
     rw[if_pos hb];simp[List.getD,List.getElem?_set,show ¬a.toNat=b.toNat by omega]
   · rw[if_neg hb];show _=(if 0≤b then cs.getD b.toNat 0 else 0)
     rw[if_neg hb]
theorem abd_ {l:List (Int×Nat)} {kd:Int} {fn:Nat} {t:List Ins} (h:ProgOk l kd fn t):Lk t:=
 ⟨h.rds,ahc_ h.rds h.nest,ad9_ h.may,vo_ h.may,(abl_ h.rds (vo_ h.may)).2 h.jumps⟩
end Go.Proofs.YtcgbfhpmkpglkaaGreatDoor
namespace Go.Proofs.YtcgbfhpmkpglkaaGreatDoor
open Go.RowKit
attribute [local go_sem ↓] Go.wp_at_zero Go.wp_at_succ
def vj_ (bds:List Int) (t:List Ins):Int:=z4_ t (fun k=>yi_ bds (nth t k)) t.length
def q5_ (D:(∀ p:Prop,Decidable p)×Unit) (l:List (Int×Nat)) (bds:List Int) (kd:Int) (fn:Nat) (t:List Ins):Int×Int:=
 @ite _ (ProgOk l kd fn t) (D.1 _) (if 1000000000<vj_ bds t then(0,13) else(vj_ bds t,0)) (0,12)
theorem aga_ (l:List (Int×Nat)) (bds:List Int) (kd:Int) (fn:Nat) (t:List Ins) (av bv:Value) (pb po:Nat) (tv:Value) (w:World) (h:UnAt w w.heap.size l kd fn t av bv pb po tv) (hS:Stds w) (hll:l.length≤1000) (hbv:rd w bv bds) (hbl:bds.length=l.length) (hbd:∀ b,b∈bds→0≤b∧b≤1000000000) :
 Calls Tryz.prog 19 #[av,bv,.pointer (some ⟨pb,po,none⟩)] w fun e w'=>e=.returned (.tuple #[.int .i64 (q5_ (Classical.propDecidable,()) l bds kd fn t).1,.int .i64 (q5_ (Classical.propDecidable,()) l bds kd fn t).2])∧w.grownBy w' none:=by
 obtain⟨aa,acap,rfl,haa⟩:=h.ahead;obtain⟨ba,bcap,rfl,hba⟩:=hbv;clear haa;have HH:=hd_ h;have HV:Hid (rd w (.slice ba bds.length bcap) bds):=⟨ba,bcap,rfl,hba⟩;have HD:=hd_ hbd;have HL:=hd_ hbl;have cM:=amq_ w.heap.size l kd fn t (.slice aa l.length acap) (.slice ba bds.length bcap) pb po tv w (w.alloc (.cells #[.slice aa l.length acap,.slice ba bds.length bcap,.pointer (some ⟨pb,po,none⟩),.slice none 0 0,.slice none 0 0] 87)) h (gr1 _ _) ⟨_,_,heap_alloc_new _ _⟩ hS (by omega);clear h hbd hS hba hbl;go_enter Tryz.func19,Tryz.ntmps19;go_wp2_with fail
 refine cM.mono ?_;rintro e w1 ⟨r,rfl,hr,hg1,hLd⟩;clear cM;have HR:=hd_ hr;have HLd:=hd_ hLd;clear hr hLd;cases r with
 | false=>
  have HX:=hd_ (by
   unfold q5_;rw[if_neg (fun hx=>by have:=HR.out.2 hx;simp at this)]:q5_ (Classical.propDecidable,()) l bds kd fn t=(0,12))
  clear HR HLd;go_wp2_with fail
  go_ret2;refine⟨?_,hg1⟩;rw[HX.out];simp
 | true=>
  have HP:Hid (ProgOk l kd fn t):=HR.out.1 rfl;have HX:=hd_ (by
   unfold q5_;rw[if_pos HP.out]:q5_ (Classical.propDecidable,()) l bds kd fn t=if 1000000000<vj_ bds t then(0,13) else(vj_ bds t,0))
  have HLd2:Hid (Laid w1 w.heap.size t (.slice aa l.length acap) (.slice ba bds.length bcap) pb po):=HLd.out rfl;clear HR HLd;obtain⟨bb,tb,z1,z2,z3⟩:=HLd2.out;have hB:=ad9_ HP.out.may;have cB:=amp_ w.heap.size tb t bds (yo_ t t.length) (.slice ba bds.length bcap) w1 (af8_ HH.out hg1 HLd2.out.blk) HP.out.len (by rw[xa_ z1];rfl) (xo_ HV.out hg1) (by rw[xa_ z1];rfl) z3 (aaq_ _ _)
   (fun k hk=>by
     rw[aok_ t k hk];have:=adn_ hB (k+1) k;simp only[yx_] at this;exact⟨rfl,this.1,this.2⟩)
   (fun k hk=>aa7_ HP.out.may HP.out.frame HD.out HL.out k hk) (fun k hk hd=>by have:=af7_ HP.out.may k hk hd;rw[HL.out];exact this) (by rw[HL.out];exact hll)
  clear z1 z2 z3 hB;have HSM:Hid (z4_ t (fun k=>yi_ bds (nth t k)) t.length=vj_ bds t):=(rfl:z4_ t (fun k=>yi_ bds (nth t k)) t.length=vj_ bds t);rw[HSM.out] at cB;generalize vj_ bds t=S at *;go_wp2_with fail
  refine cB.mono ?_;rintro e w2 ⟨rfl,hg2⟩;clear cB;by_cases hS:1000000000<S
  · go_wp2_with fail
    go_ret2;refine⟨?_,hg1.trans hg2⟩;rw[HX.out,if_pos hS];simp
  · go_wp2_with fail
    go_ret2;refine⟨?_,hg1.trans hg2⟩;rw[HX.out,if_neg (by omega)];simp
end Go.Proofs.YtcgbfhpmkpglkaaGreatDoor
namespace Go.Proofs.YtcgbfhpmkpglkaaGreatDoor
open Go.RowKit
structure Slt where
 path:ByteArray
 kind:Int
 at':Int
 len:Int
 keep:Bool
 role:Int
structure Pr where
 k:Int
 nm:ByteArray
 fs:List Int
 sl:List Slt
 tx:List Ins
def slt0:Slt:=⟨ByteArray.empty,0,0,0,false,0⟩
def pr0:Pr:=⟨0,ByteArray.empty,[],[],[]⟩
def SlAt (w:World) (v:Value) (l:List Slt):Prop:=
 ∃ a cap,v=.slice a l.length cap∧(l=[]∨∃ b off,a=some ⟨b,off,none⟩∧∀ i,i<l.length→
  w.cell? ⟨b,off+i*6,none⟩=some (.string (l.getD i slt0).path)∧w.cell? ⟨b,off+i*6+1,none⟩=some (.int .i64 (l.getD i slt0).kind)∧
  w.cell? ⟨b,off+i*6+2,none⟩=some (.int .i64 (l.getD i slt0).at')∧w.cell? ⟨b,off+i*6+3,none⟩=some (.int .i64 (l.getD i slt0).len)∧
  w.cell? ⟨b,off+i*6+4,none⟩=some (.bool (l.getD i slt0).keep)∧w.cell? ⟨b,off+i*6+5,none⟩=some (.int .i64 (l.getD i slt0).role))
theorem SlAt.grown {w w':World} {v:Value} {l:List Slt} (h:SlAt w v l) (hg:w.grownBy w' none):SlAt w' v l:=by
 obtain⟨a,cap,rfl,h|⟨b,off,rfl,hc⟩⟩:=h
 ·exact⟨a,cap,rfl,.inl h⟩
 ·refine⟨_,cap,rfl,.inr ⟨b,off,rfl,fun i hi=>?_⟩⟩;obtain⟨h0,h1,h2,h3,h4,h5⟩:=hc i hi;exact⟨hg.cell h0 (by simp),hg.cell h1 (by simp),hg.cell h2 (by simp),hg.cell h3 (by simp),hg.cell h4 (by simp),hg.cell h5 (by simp)⟩
structure PrAt (w:World) (b off:Nat) (p:Pr) (fv sv tv:Value):Prop where
 kind:w.cell? ⟨b,off,none⟩=some (.int .i64 p.k)
 name:w.cell? ⟨b,off+1,none⟩=some (.string p.nm)
 fcell:w.cell? ⟨b,off+2,none⟩=some fv
 scell:w.cell? ⟨b,off+3,none⟩=some sv
 tcell:w.cell? ⟨b,off+4,none⟩=some tv
 first:rd w fv p.fs
 slots:SlAt w sv p.sl
 text:TxtAt w tv p.tx
theorem PrAt.grown {w w':World} {b off:Nat} {p:Pr} {fv sv tv:Value} (h:PrAt w b off p fv sv tv) (hg:w.grownBy w' none):PrAt w' b off p fv sv tv:=
 ⟨hg.cell h.kind (by simp),hg.cell h.name (by simp),hg.cell h.fcell (by simp),hg.cell h.scell (by simp),hg.cell h.tcell (by simp),xo_ h.first hg,h.slots.grown hg,h.text.grown hg⟩
def CdP (w:World) (v:Value) (ps:List Pr):Prop:=
 ∃ a cap,v=.slice a ps.length cap∧ps.length≤cap∧(ps=[]∨∃ b off,a=some ⟨b,off,none⟩∧∀ i,i<ps.length→∃ fv sv tv,PrAt w b (off+i*5) (ps.getD i pr0) fv sv tv)
theorem CdP.grown {w w':World} {v:Value} {ps:List Pr} (h:CdP w v ps) (hg:w.grownBy w' none):CdP w' v ps:=by
 obtain⟨a,cap,rfl,hcap,h|⟨b,off,rfl,hc⟩⟩:=h
 ·exact⟨a,cap,rfl,hcap,.inl h⟩
 ·refine⟨_,cap,rfl,hcap,.inr ⟨b,off,rfl,fun i hi=>?_⟩⟩;obtain⟨fv,sv,tv,h1⟩:=hc i hi;exact⟨fv,sv,tv,h1.grown hg⟩
def ahd (ps:List Pr) (k:Nat):List (Int×Nat):=(ps.take k).map (fun p=>(p.k,p.fs.length))
theorem ji_ (ps:List Pr) (k:Nat) (hk:k≤ps.length):(ahd ps k).length=k:=by simp[ahd];omega
theorem v9_ (ps:List Pr) (k i:Nat) (hi:i<k) (hk:k≤ps.length):(ahd ps k).getD i (0,0)=((ps.getD i pr0).k,(ps.getD i pr0).fs.length):=by
 have h1:i<ps.length:=(by omega);simp[ahd,List.getD,List.getElem?_take,hi,h1]
theorem ape_ {w:World} {b off cap c2:Nat} {ps:List Pr} (hc:∀ i,i<ps.length→∃ fv sv tv,PrAt w b (off+i*5) (ps.getD i pr0) fv sv tv) (k:Nat) (hk:k≤ps.length):AhAt w (.slice (some ⟨b,off,none⟩) k c2) (ahd ps k):=by
 refine⟨_,c2,by rw[ji_ ps k hk],.inr ⟨b,off,rfl,fun i hi=>?_⟩⟩;rw[ji_ ps k hk] at hi;obtain⟨fv,sv,tv,h⟩:=hc i (by omega);rw[v9_ ps k i hi hk];refine⟨h.kind,?_⟩;obtain⟨fa,fc,rfl,_⟩:=h.first
 exact⟨fa,fc,h.fcell⟩
def kh_ (D:(∀ p:Prop,Decidable p)×Unit) (ps:List Pr) (k:Nat) (b:List Int):Int×Int:=q5_ D (ahd ps k) b (ps.getD k pr0).k (ps.getD k pr0).fs.length (ps.getD k pr0).tx
def kx_ (D:(∀ p:Prop,Decidable p)×Unit) (ps:List Pr):Nat→Nat→List Int→List Int×Int×Int
 | 0,_,b=>(b,0,0)
 | m+1,k,b=>if (kh_ D ps k b).2=0 then kx_ D ps m (k+1) (b++[(kh_ D ps k b).1]) else([],(kh_ D ps k b).2,k)
def jx_ (D:(∀ p:Prop,Decidable p)×Unit) (ps:List Pr):List Int×Int×Int:=if 16<ps.length then([],12,0) else kx_ D ps ps.length 0 []
theorem aea_ {l:List (Int×Nat)} {bds:List Int} {kd:Int} {fn:Nat} {t:List Ins} (hb:∀ b,b∈bds→0≤b∧b≤1000000000) (hl:bds.length=l.length) (h0:(q5_ (Classical.propDecidable,()) l bds kd fn t).2=0):0≤(q5_ (Classical.propDecidable,()) l bds kd fn t).1∧(q5_ (Classical.propDecidable,()) l bds kd fn t).1≤1000000000:=by
 unfold q5_ at *;split
 · rename_i hp;rw[if_pos hp] at h0;split
   ·simp
   · refine⟨?_,by simp;omega⟩;have key:∀ k,k≤t.length→0≤z4_ t (fun k=>yi_ bds (nth t k)) k:=by
      intro k;induction k with
      | zero=>intro _;simp[z4_]
      | succ k ih=>
       intro hk;have h1:=ih (by omega);have h2:=(aa7_ hp.may hp.frame hb hl k (by omega)).1;have h3:=(z7_ h2 (adn_ (ad9_ hp.may) (k+1) k).1).1;have h4:(0:Int)≤yx_:=(by simp[yx_]);simp only[z4_];omega
     exact key t.length (Nat.le_refl _)
 ·rename_i hp;rw[if_neg hp] at h0;simp at h0
def OwnV (B:Nat) (w:World) (v:Value) (l:List Int):Prop:=w.ownsRow B 3 1 v l.length (l.map (Value.int .i64))
theorem OwnV.nil (B:Nat) (w:World):OwnV B w (.slice none 0 0) []:=World.ownsRow_nil w B 3 1
theorem OwnV.kept {B:Nat} {w w':World} {v:Value} {l:List Int} (h:OwnV B w v l) {row:Option Nat} (hg:w.grownBy w' row) (hne:v.ownBlock=none∨v.ownBlock≠row):OwnV B w' v l:=World.ownsRow.kept h hg hne
theorem OwnV.keptN {B:Nat} {w w':World} {v:Value} {l:List Int} (h:OwnV B w v l) (hg:w.grownBy w' none):OwnV B w' v l:=by
 refine h.kept hg ?_;cases hv:v.ownBlock with
 | none=>exact .inl rfl
 | some x=>exact .inr (by simp)
theorem OwnV.rd {B:Nat} {w:World} {v:Value} {l:List Int} (h:OwnV B w v l):rd w v l:=by
 have h':=h;obtain⟨_,⟨rfl,hn⟩|⟨g,cap,cur,rfl,_⟩⟩:=h
 ·have:l=[]:=(by simpa using hn);subst this;exact⟨none,0,rfl,.inl rfl⟩
 ·refine⟨_,cap,rfl,.inr ⟨g,0,rfl,fun i hi=>?_⟩⟩;rw[Nat.zero_add,World.ownsRow.cellAt h' i (by omega)];simp[hi]
theorem OwnV.row {B:Nat} {w:World} {v:Value} {l:List Int} (h:OwnV B w v l):∀ x,v.ownBlock=some x→B≤x:=fun x hx=>(World.ownsRow.lt h x hx).1
theorem OwnV.more {B:Nat} {W:World} {v:Value} {l:List Int} (h:OwnV B W v l) (x:Int) (xb:Nat) (hx:W.heap[xb]?=some (.cells #[.int .i64 x] 3)) (hl:l.length≤1000000) (hB:B≤W.heap.size) :
 ∃ v' w',(Builtin.append_ #[25,25] 25 #[v,.slice (some ⟨xb,0,none⟩) 1 1]).run Tryz.prog W=.ok v' w'∧OwnV B w' v' (l++[x])∧W.grownBy w' v.ownBlock:=by
 obtain⟨i0,hi,hz0,hz1,hz2⟩:=yt_ v1_;obtain⟨v',w',r1,r2,r3,_,_⟩:=run_append_own_at (P:=Tryz.prog) W B 25 25 3 i0 (.int .i64 0) 1 8 Tryz.underlying25 hi hz0 hz1 hz2 rfl (by omega) _ _ _ h ⟨xb,0,none⟩ 1 1 [.int .i64 x] rfl
  (fun j u hj=>by
    rw[jc_,xa_ hx (0+j)];simpa using hj)
  (by simp[Value.oneCell']) (by unfold maxLen;omega) (by omega) hB
 refine⟨v',w',r1,?_,r3⟩;unfold OwnV;simpa using r2
end Go.Proofs.YtcgbfhpmkpglkaaGreatDoor
