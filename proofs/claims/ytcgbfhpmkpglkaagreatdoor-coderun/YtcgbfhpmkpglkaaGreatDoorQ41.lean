/- Texts put together: Y7, Y8, Y9, Ya. -/
import Derived.Test.YtcgbfhpmkpglkaaGreatDoorQ33
import Derived.Test.YtcgbfhpmkpglkaaGreatDoorQ34
import Derived.Test.YtcgbfhpmkpglkaaGreatDoorQ35
import Derived.Test.YtcgbfhpmkpglkaaGreatDoorQ28
import Derived.Test.YtcgbfhpmkpglkaaGreatDoorQ40
set_option linter.unusedVariables false
set_option linter.unusedSimpArgs false
set_option maxHeartbeats 8000000
namespace Go.Proofs.YtcgbfhpmkpglkaaGreatDoor
open Go.RowKit
attribute [local go_sem ↓] Go.wp_at_zero Go.wp_at_succ
structure UnC (ps:List Pr) (c:World) (pb po np pcap u n tb to' tn tc:Nat) (now:Int) (t:List Ins):Prop where
 cod:TxtC c pb (po+u*5) tb to' tn tc t
 tx:txt ps u=t
 ok:ac5_ ps
 lt:u<ps.length
 hnp:np=ps.length
 fs:n=(ps.getD u pr0).fs.length
 pr:∀ i,i<ps.length→∃ fv sv tv,PrAt c pb (po+i*5) (ps.getD i pr0) fv sv tv
 run:∀ v,v<u→RefU c pb po np pcap ps now v (ps.getD v pr0).fs.length
set_option maxRecDepth 1000000 in
theorem at5_ (ps:List Pr) (c w wx:World) (B M C:Nat) (fv:Value) (n off al pb po np pcap:Nat) (now:Int) (r0:Option Nat) (sa:Option Addr) (sc:Nat) (st ar:List Int) (sp fl:Int) (cs:List Int) (u tb to' tn tc i k:Nat) (t:List Ins) (x:Ins) (m':Ms) (K0:Act→World→Prop) (Pst:Ending→World→Prop) (c3 c4 c5:Value)
 (hU:UnC ps c pb po np pcap u n tb to' tn tc now t) (hS:St c w B M C fv n off al (.slice (some ⟨pb,po,none⟩) np pcap) now r0 sa sc st ar sp fl cs wx) (hi:i<tn) (h1:nth t i=x) (n11:x.d≠11) (n12:x.d≠12) (n13:x.d≠13) (n14:x.d≠14) (n17:x.d≠17) (hG:Gd x ⟨st,ar,sp,fl⟩) (h8:Ex ps now k u off (i+1) cs (doX now off x (Ms.tick ⟨st,ar,sp,fl⟩)) m')
 (l:List Value) (hl:l.length=397):(zg_ Tryz.f16).wp Tryz.prog (Exit.then (fun a' w'=>∃ n',n'<k+1∧als_ ps u m' c w B M C fv n off al (.slice (some ⟨pb,po,none⟩) np pcap) now r0 tn (.slice (some ⟨tb,to',none⟩) tn tc) (.slice (some ⟨C,0,none⟩) 40 40) c3 c4 c5 n' a' w') (Exit.inBlock 0 (Exit.then K0 (bodyPost Tryz.prog Tryz.f16 Pst)))) (yr_ M u fv (.slice (some ⟨tb,to',none⟩) tn tc) (.slice (some ⟨C,0,none⟩) 40 40) c3 c4 c5 (i:Int) l) wx:=by
 have hT:=hU.cod;have hit:i<t.length:=(by rw[hT.len];exact hi);have hok:=hU.ok u hU.lt;rw[hU.tx,← hU.fs] at hok;have hn:tn≤100000:=(by have:=hok.len;rw[hT.len] at this;exact this);have hn2:n≤20000:=hok.frame;have hm:=hok.may i hit;rw[h1] at hm;have g1:=hG.1;obtain⟨d,a,b,cc⟩:=x;dsimp only at n11 n12 n13 n14 n17 g1;simp only[ug_,Bool.and_eq_true] at hm;obtain⟨hu',hf⟩:=hm;rcases dos d with rfl|rfl|rfl|rfl|rfl|rfl|rfl|rfl|rfl|rfl|rfl|rfl|rfl|rfl|rfl|rfl|rfl|rfl|hdd
 ·exact zh_ 397 (atu_ c w wx B M C fv n off al pb po np pcap now r0 sa sc st ar sp fl cs u (po+u*5) tb to' tn tc i t a b cc _ K0 Pst c3 c4 c5 hS hT h1 hi hn hG  (fun sa' sc' w' l hl hst=>⟨k,Nat.lt_succ_self k,i+1,l,sa',sc',_,_,_,_,_,by rw[Int.natCast_add];rfl,hl,by omega,hst,(by first|exact h8|(simpa[doX,Ms.tick,top] using h8))⟩)) l hl
 ·simp[xv_,y3_,isW] at hf;exact zh_ 397 (att_ c w wx B M C fv n off al pb po np pcap now r0 sa sc st ar sp fl cs u (po+u*5) tb to' tn tc i t a b cc _ K0 Pst c3 c4 c5 hS hT h1 hi hn hG (by omega) (by omega) (fun sa' sc' w' l hl hst=>⟨k,Nat.lt_succ_self k,i+1,l,sa',sc',_,_,_,_,_,by rw[Int.natCast_add];rfl,hl,by omega,hst,(by first|exact h8|(simpa[doX,Ms.tick,top] using h8))⟩)) l hl
 ·simp[xv_,y3_,isW] at hf;simp[tkS] at g1;obtain⟨r,v,rfl⟩:=vb_ (st:=st) (by omega);exact zh_ 397 (aq7_ c w wx B M C fv n off al pb po np pcap now r0 sa sc _ ar sp fl cs u (po+u*5) tb to' tn tc i t a b cc _ K0 Pst c3 c4 c5 hS hT h1 hi hn hG r v rfl (by omega) (by omega) (fun sa' sc' w' l hl hst=>⟨k,Nat.lt_succ_self k,i+1,l,sa',sc',_,_,_,_,_,by rw[Int.natCast_add];rfl,hl,by omega,hst,(by first|exact h8|(simpa[doX,Ms.tick,top] using h8))⟩)) l hl
 · simp[xv_,y3_,isW] at hf;simp[tkS] at g1;obtain⟨r,v,rfl⟩:=vb_ (st:=st) (by omega);by_cases hin:cc≤v∧v≤cc+b - 1
   ·have hw:isW v cc (cc+b - 1)=true:=(by simp[isW];omega);exact zh_ 397 (akq_ c w wx B M C fv n off al pb po np pcap now r0 sa sc _ ar sp fl cs u (po+u*5) tb to' tn tc i t a b cc _ K0 Pst c3 c4 c5 hS hT h1 hi hn hG r v rfl (by omega) (by omega) (by omega) (by omega) (by omega) hn2 hin.1 hin.2 (fun sa' sc' w' l hl hst=>⟨k,Nat.lt_succ_self k,i+1,l,sa',sc',_,_,_,_,_,by rw[Int.natCast_add];rfl,hl,by omega,hst,(by simpa[doX,Ms.tick,top,hw] using h8)⟩)) l hl
   ·have hw:isW v cc (cc+b - 1)=false:=(by simp[isW];omega);exact zh_ 397 (akp_ c w wx B M C fv n off al pb po np pcap now r0 sa sc _ ar sp fl cs u (po+u*5) tb to' tn tc i t a b cc _ K0 Pst c3 c4 c5 hS hT h1 hi hn hG r v rfl (by omega) (by omega) (by omega) (by omega) (by omega) hn2 (by omega) (fun sa' sc' w' l hl hst=>⟨k,Nat.lt_succ_self k,i+1,l,sa',sc',_,_,_,_,_,by rw[Int.natCast_add];rfl,hl,by omega,hst,(by simpa[doX,Ms.tick,top,hw] using h8)⟩)) l hl
 · simp[xv_,y3_,isW] at hf;simp[tkS] at g1;obtain⟨r,v,y,rfl⟩:=aiw_ (st:=st) (by omega);by_cases hin:cc≤v∧v≤cc+b - 1
   ·have hw:isW v cc (cc+b - 1)=true:=(by simp[isW];omega);exact zh_ 397 (ai9_ c w wx B M C fv n off al pb po np pcap now r0 sa sc _ ar sp fl cs u (po+u*5) tb to' tn tc i t a b cc _ K0 Pst c3 c4 c5 hS hT h1 hi hn hG r v y rfl (by omega) (by omega) (by omega) (by omega) (by omega) hn2 hin.1 hin.2 (fun sa' sc' w' l hl hst=>⟨k,Nat.lt_succ_self k,i+1,l,sa',sc',_,_,_,_,_,by rw[Int.natCast_add];rfl,hl,by omega,hst,(by simpa[doX,Ms.tick,top,hw] using h8)⟩)) l hl
   ·have hw:isW v cc (cc+b - 1)=false:=(by simp[isW];omega);exact zh_ 397 (ai1_ c w wx B M C fv n off al pb po np pcap now r0 sa sc _ ar sp fl cs u (po+u*5) tb to' tn tc i t a b cc _ K0 Pst c3 c4 c5 hS hT h1 hi hn hG r v y rfl (by omega) (by omega) (by omega) (by omega) (by omega) hn2 (by omega) (fun sa' sc' w' l hl hst=>⟨k,Nat.lt_succ_self k,i+1,l,sa',sc',_,_,_,_,_,by rw[Int.natCast_add];rfl,hl,by omega,hst,(by simpa[doX,Ms.tick,top,hw] using h8)⟩)) l hl
 · have ho:=ad6_ ⟨6,a,b,cc⟩;simp[tkS] at g1;by_cases h2:zy_ ⟨6,a,b,cc⟩=2
   ·obtain⟨r,v1,v2,rfl⟩:=aiw_ (st:=st) (by omega);exact zh_ 397 (aq9_ c w wx B M C fv n off al pb po np pcap now r0 sa sc _ ar sp fl cs u (po+u*5) tb to' tn tc i t a b cc _ K0 Pst c3 c4 c5 hS hT h1 hi hn hG r v1 v2 rfl h2 (fun sa' sc' w' l hl hst=>⟨k,Nat.lt_succ_self k,i+1,l,sa',sc',_,_,_,_,_,by rw[Int.natCast_add];rfl,hl,by omega,hst,(by simpa[doX,Ms.tick,top,h2] using h8)⟩)) l hl
   ·have h3:zy_ ⟨6,a,b,cc⟩=1:=(by omega);obtain⟨r,v1,rfl⟩:=vb_ (st:=st) (by omega);exact zh_ 397 (aq8_ c w wx B M C fv n off al pb po np pcap now r0 sa sc _ ar sp fl cs u (po+u*5) tb to' tn tc i t a b cc _ K0 Pst c3 c4 c5 hS hT h1 hi hn hG r v1 rfl h3 (fun sa' sc' w' l hl hst=>⟨k,Nat.lt_succ_self k,i+1,l,sa',sc',_,_,_,_,_,by rw[Int.natCast_add];rfl,hl,by omega,hst,(by simpa[doX,Ms.tick,top,h3] using h8)⟩)) l hl
 ·simp[tkS] at g1;obtain⟨r,v,rfl⟩:=vb_ (st:=st) (by omega);exact zh_ 397 (at4_ c w wx B M C fv n off al pb po np pcap now r0 sa sc _ ar sp fl cs u (po+u*5) tb to' tn tc i t a b cc _ K0 Pst c3 c4 c5 hS hT h1 hi hn hG r v rfl (fun sa' sc' w' l hl hst=>⟨k,Nat.lt_succ_self k,i+1,l,sa',sc',_,_,_,_,_,by rw[Int.natCast_add];rfl,hl,by omega,hst,(by first|exact h8|(simpa[doX,Ms.tick,top] using h8))⟩)) l hl
 ·simp[tkS] at g1;obtain⟨r,x,y,z,rfl⟩:=at9_ (st:=st) (by omega);exact zh_ 397 (aty_ c w wx B M C fv n off al pb po np pcap now r0 sa sc _ ar sp fl cs u (po+u*5) tb to' tn tc i t a b cc _ K0 Pst c3 c4 c5 hS hT h1 hi hn hG r x y z rfl (fun sa' sc' w' l hl hst=>⟨k,Nat.lt_succ_self k,i+1,l,sa',sc',_,_,_,_,_,by rw[Int.natCast_add];rfl,hl,by omega,hst,(by first|exact h8|(simpa[doX,Ms.tick,top] using h8))⟩)) l hl
 ·simp[tkS] at g1;obtain⟨r,v,rfl⟩:=vb_ (st:=st) (by omega);exact zh_ 397 (av1_ c w wx B M C fv n off al pb po np pcap now r0 sa sc _ ar sp fl cs u (po+u*5) tb to' tn tc i t a b cc _ K0 Pst c3 c4 c5 hS hT h1 hi hn hG r v rfl (fun sa' sc' w' l hl hst=>⟨k,Nat.lt_succ_self k,i+1,l,sa',sc',_,_,_,_,_,by rw[Int.natCast_add];rfl,hl,by omega,hst,(by first|exact h8|(simpa[doX,Ms.tick,top] using h8))⟩)) l hl
 ·simp[tkS] at g1;obtain⟨r,v,rfl⟩:=vb_ (st:=st) (by omega);exact zh_ 397 (atv_ c w wx B M C fv n off al pb po np pcap now r0 sa sc _ ar sp fl cs u (po+u*5) tb to' tn tc i t a b cc _ K0 Pst c3 c4 c5 hS hT h1 hi hn hG r v rfl (fun sa' sc' w' l hl hst=>⟨k,Nat.lt_succ_self k,i+1,l,sa',sc',_,_,_,_,_,by rw[Int.natCast_add];rfl,hl,by omega,hst,(by first|exact h8|(simpa[doX,Ms.tick,top] using h8))⟩)) l hl
 ·exact absurd rfl n11
 ·exact absurd rfl n12
 ·exact absurd rfl n13
 ·exact absurd rfl n14
 ·exact zh_ 397 (atx_ c w wx B M C fv n off al pb po np pcap now r0 sa sc st ar sp fl cs u (po+u*5) tb to' tn tc i t a b cc _ K0 Pst c3 c4 c5 hS hT h1 hi hn hG  (fun sa' sc' w' l hl hst=>⟨k,Nat.lt_succ_self k,i+1,l,sa',sc',_,_,_,_,_,by rw[Int.natCast_add];rfl,hl,by omega,hst,(by first|exact h8|(simpa[doX,Ms.tick,top] using h8))⟩)) l hl
 ·simp[xv_,y3_,isW] at hf;exact zh_ 397 (atz_ c w wx B M C fv n off al pb po np pcap now r0 sa sc st ar sp fl cs u (po+u*5) tb to' tn tc i t a b cc _ K0 Pst c3 c4 c5 hS hT h1 hi hn hG (by omega) (by omega) (by omega) hn2 (fun sa' sc' w' l hl hst=>⟨k,Nat.lt_succ_self k,i+1,l,sa',sc',_,_,_,_,_,by rw[Int.natCast_add];rfl,hl,by omega,hst,(by first|exact h8|(simpa[doX,Ms.tick,top] using h8))⟩)) l hl
 ·exact absurd rfl n17
 ·simp[xv_,y3_,isW] at hf;exact zh_ 397 (av3_ c w wx B M C fv n off al pb po np pcap now r0 sa sc st ar sp fl cs u (po+u*5) tb to' tn tc i t a b cc _ K0 Pst c3 c4 c5 hS hT h1 hi hn hG (by omega) (by omega) (by omega) (by omega) hn2 (fun sa' sc' w' l hl hst=>⟨k,Nat.lt_succ_self k,i+1,l,sa',sc',_,_,_,_,_,by rw[Int.natCast_add];rfl,hl,by omega,hst,(by first|exact h8|(simpa[doX,Ms.tick,top] using h8))⟩)) l hl
 ·exfalso;simp[yg_,show ¬d=4 by omega,show ¬d=5 by omega,show ¬d=16 by omega,show ¬d=6 by omega,show ¬d=7 by omega,show ¬d=13 by omega,show ¬d=14 by omega,show ¬d=17 by omega,show ¬d=18 by omega,show ¬d=1 by omega,show ¬d=2 by omega,show ¬d=3 by omega,show ¬d=11 by omega,show ¬d=12 by omega,show ¬d=8 by omega,show ¬d=9 by omega,show ¬d=10 by omega,show ¬d=15 by omega] at hu'
end Go.Proofs.YtcgbfhpmkpglkaaGreatDoor
namespace Go.Proofs.YtcgbfhpmkpglkaaGreatDoor
open Go.RowKit
set_option maxRecDepth 1000000 in
theorem at6_ (ps:List Pr) (c w:World) (B M C:Nat) (fv:Value) (n off al pb po np pcap:Nat) (now:Int) (r0:Option Nat) (u tb to' tn tc:Nat) (t:List Ins) (m':Ms) (K0:Act→World→Prop) (Pst:Ending→World→Prop) (c3 c4 c5:Value)
 (hU:UnC ps c pb po np pcap u n tb to' tn tc now t)
 (hK0:∀(l:List Value) sa sc cs wx,l.length=397→St c w B M C fv n off al (.slice (some ⟨pb,po,none⟩) np pcap) now r0 sa sc m'.st m'.ar m'.sp m'.fl cs wx→K0 (yr_ M u fv (.slice (some ⟨tb,to',none⟩) tn tc) (.slice (some ⟨C,0,none⟩) 40 40) c3 c4 c5 (tn:Int) l) wx) :
 ∀ gk a wx,als_ ps u m' c w B M C fv n off al (.slice (some ⟨pb,po,none⟩) np pcap) now r0 tn (.slice (some ⟨tb,to',none⟩) tn tc) (.slice (some ⟨C,0,none⟩) 40 40) c3 c4 c5 gk a wx→(zg_ Tryz.f16).wp Tryz.prog (Exit.then (fun a' w'=>∃ n',n'<gk∧als_ ps u m' c w B M C fv n off al (.slice (some ⟨pb,po,none⟩) np pcap) now r0 tn (.slice (some ⟨tb,to',none⟩) tn tc) (.slice (some ⟨C,0,none⟩) 40 40) c3 c4 c5 n' a' w') (Exit.inBlock 0 (Exit.then K0 (bodyPost Tryz.prog Tryz.f16 Pst)))) a wx:=by
 rintro gk a wx ⟨i,l,sa,sc,st,ar,sp,fl,cs,rfl,hl,hin,hS,hex⟩;have hT:=hU.cod;have htl:=hT.len;have hok:=hU.ok u hU.lt;rw[hU.tx,← hU.fs] at hok;have hn:tn≤100000:=(by have:=hok.len;rw[hT.len] at this;exact this);have hn2:n≤20000:=hok.frame;cases hex with
 | fin h0=>
  rw[hU.tx,htl] at h0;subst h0;exact zh_ 397 (av0_ wx M C fv u tb to' i tc _ K0 Pst c3 c4 c5 (fun l hl=>hK0 l sa sc cs wx hl hS)) l hl
 | plain x h0 h1 h2 h3 h4 h5 h6 hG h8=>
  rename_i k;rw[hU.tx] at h0 h1;exact at5_ ps c w wx B M C fv n off al pb po np pcap now r0 sa sc st ar sp fl cs u tb to' tn tc i k t x m' K0 Pst c3 c4 c5 hU hS (by omega) h1 h2 h3 h4 h5 h6 hG h8 l hl
 | jump x h0 h1 h2 hG h4 h5 h6=>
  rename_i k;rw[hU.tx] at h0 h1 h5;obtain⟨d,a,b,cc⟩:=x;dsimp only at h2 h4 h5 h6;subst h2;obtain⟨j,rfl⟩:=Int.eq_ofNat_of_zero_le h4;have hi:i<tn:=(by omega);exact zh_ 397 (atw_ c w wx B M C fv n off al pb po np pcap now r0 sa sc st ar sp fl cs u (po+u*5) tb to' tn tc i t (j:Int) b cc _ K0 Pst c3 c4 c5 hS hT h1 hi hn hG  (fun sa' sc' w' l hl hst=>⟨k,Nat.lt_succ_self k,j,l,sa',sc',_,_,_,_,_,rfl,hl,by simp at h5;omega,hst,(by simpa[Ms.tick] using h6)⟩)) l hl
 | fall x h0 h1 h2 hG h4 h5 h6=>
  rename_i k;rw[hU.tx] at h0 h1 h5;obtain⟨d,a,b,cc⟩:=x;dsimp only at h2 h4 h5 h6;subst h2;have hi:i<tn:=(by omega);have g1:=hG.1;simp[tkS] at g1;obtain⟨r,v,rfl⟩:=vb_ (st:=st) (by omega);obtain⟨j,rfl⟩:=Int.eq_ofNat_of_zero_le h4;by_cases hv:v=0
  ·subst hv;exact zh_ 397 (arb_ c w wx B M C fv n off al pb po np pcap now r0 sa sc _ ar sp fl cs u (po+u*5) tb to' tn tc i t (j:Int) b cc _ K0 Pst c3 c4 c5 hS hT h1 hi hn hG r rfl (fun sa' sc' w' l hl hst=>⟨k,Nat.lt_succ_self k,j,l,sa',sc',_,_,_,_,_,rfl,hl,by simp at h5;omega,hst,(by simpa[Ms.tick,top] using h6)⟩)) l hl
  ·exact zh_ 397 (arc_ c w wx B M C fv n off al pb po np pcap now r0 sa sc _ ar sp fl cs u (po+u*5) tb to' tn tc i t (j:Int) b cc _ K0 Pst c3 c4 c5 hS hT h1 hi hn hG r v rfl hv (fun sa' sc' w' l hl hst=>⟨k,Nat.lt_succ_self k,i+1,l,sa',sc',_,_,_,_,_,by rw[Int.natCast_add];rfl,hl,by omega,hst,(by simpa[Ms.tick,top,hv] using h6)⟩)) l hl
 | enter x h0 h1 h2 hG h4 h5 h6=>
  rename_i k;rw[hU.tx] at h0 h1;obtain⟨d,a,b,cc⟩:=x;dsimp only at h2 h4 h5 h6;subst h2;have hi:i<tn:=(by omega);exact zh_ 397 (ara_ c w wx B M C fv n off al pb po np pcap now r0 sa sc st ar sp fl cs u (po+u*5) tb to' tn tc i t a b cc _ K0 Pst c3 c4 c5 hS hT h1 hi hn hG h4 h5 (fun sa' sc' w' l hl hst=>⟨k,Nat.lt_succ_self k,i+1,l,sa',sc',_,_,_,_,_,by rw[Int.natCast_add];rfl,hl,by omega,hst,h6⟩)) l hl
 | round x h0 h1 h2 hG h4 h5 h6 h7 h8 h9 h10=>
  rename_i k;rw[hU.tx] at h0 h1 h9;obtain⟨d,a,b,cc⟩:=x;dsimp only at h2 h4 h5 h6 h7 h8 h9 h10;subst h2;have hi:i<tn:=(by omega);obtain⟨j,rfl⟩:=Int.eq_ofNat_of_zero_le h8;obtain⟨v,hv⟩:∃ v,cs.getD a.toNat 0=v:=⟨_,rfl⟩;rw[hv] at h6 h7 h10;by_cases hb:0<v - 1
  ·exact zh_ 397 (afm_ c w wx B M C fv n off al pb po np pcap now r0 sa sc st ar sp fl cs u (po+u*5) tb to' tn tc i t a (j:Int) cc _ K0 Pst c3 c4 c5 hS hT h1 hi hn hG v hv h6 h7 h4 h5 (fun sa' sc' w' l hl hst=>⟨k,Nat.lt_succ_self k,j,l,sa',sc',_,_,_,_,_,by rw[if_pos hb],hl,by simp at h9;omega,hst,(by rw[if_pos hb] at h10;simpa[Ms.tick] using h10)⟩)) l hl
  ·exact zh_ 397 (afm_ c w wx B M C fv n off al pb po np pcap now r0 sa sc st ar sp fl cs u (po+u*5) tb to' tn tc i t a (j:Int) cc _ K0 Pst c3 c4 c5 hS hT h1 hi hn hG v hv h6 h7 h4 h5 (fun sa' sc' w' l hl hst=>⟨k,Nat.lt_succ_self k,i+1,l,sa',sc',_,_,_,_,_,by rw[if_neg hb,Int.natCast_add];rfl,hl,by omega,hst,(by rw[if_neg hb] at h10;simpa[Ms.tick] using h10)⟩)) l hl
 | call x h0 h1 h2 hG h4 h5=>
  rename_i k k1 m1;rw[hU.tx] at h0 h1;obtain⟨d,a,b,cc⟩:=x;dsimp only at h2 h4;subst h2;have hi:i<tn:=(by omega);have hm:=hok.may i (by omega);rw[h1] at hm;have hc:=alw_ (Nat.le_of_lt hU.lt) hm rfl;dsimp only at hc;obtain⟨c1,c2,c6,c7⟩:=hc;have hlt:=hU.lt;obtain⟨fv',sv',tv',hp⟩:=hU.pr a.toNat (by omega);obtain⟨ffa,ffc,rfl,_⟩:=hp.first
  have hal:=hS.hal;have hol:=hS.ol;have ho:=h4.out hU.ok (by omega) (by show off+b.toNat+_≤ar.length;omega);have ho1:m1.ar.length=ar.length:=ho.1;have hnp:=hU.hnp;have hsl:=hS.slen;rcases hS.rc.fr.2 with⟨e,e2⟩|⟨g,fc,cur,e,_,_,hc',_⟩
  ·exact zh_ 397 (at2_ c w wx B M C fv n off al pb po np pcap now r0 sa sc st ar sp fl cs u (po+u*5) tb to' tn tc i t a b cc _ K0 Pst c3 c4 c5 hS hT h1 hi hn hG ps _ k1 m1 ffa ffc c1 (by omega) c6 c7 hn2 hp.fcell (hU.run a.toNat c2) h4 ho1 ho.2 e (by omega) (fun sa' sc' w' l hl hst=>⟨k,Nat.lt_succ_self k,i+1,l,sa',sc',_,_,_,_,_,by rw[Int.natCast_add];rfl,hl,by omega,hst,h5⟩)) l hl
  · rw[hsl] at e hc';by_cases hfc:fc=b.toNat
    ·exact zh_ 397 (at3_ c w wx B M C fv n off al pb po np pcap now r0 sa sc st ar sp fl cs u (po+u*5) tb to' tn tc i t a b cc _ K0 Pst c3 c4 c5 hS hT h1 hi hn hG ps _ k1 m1 ffa ffc c1 (by omega) c6 c7 hn2 hp.fcell (hU.run a.toNat c2) h4 ho1 ho.2 (by omega) ⟨g,fc,e,hc',hfc⟩ (fun sa' sc' w' l hl hst=>⟨k,Nat.lt_succ_self k,i+1,l,sa',sc',_,_,_,_,_,by rw[Int.natCast_add];rfl,hl,by omega,hst,h5⟩)) l hl
    ·exact zh_ 397 (av2_ c w wx B M C fv n off al pb po np pcap now r0 sa sc st ar sp fl cs u (po+u*5) tb to' tn tc i t a b cc _ K0 Pst c3 c4 c5 hS hT h1 hi hn hG ps _ k1 m1 ffa ffc c1 (by omega) c6 c7 hn2 hp.fcell (hU.run a.toNat c2) h4 ho1 ho.2 ⟨g,fc,e,hc',hfc⟩ (fun sa' sc' w' l hl hst=>⟨k,Nat.lt_succ_self k,i+1,l,sa',sc',_,_,_,_,_,by rw[Int.natCast_add];rfl,hl,by omega,hst,h5⟩)) l hl
end Go.Proofs.YtcgbfhpmkpglkaaGreatDoor
namespace Go.Proofs.YtcgbfhpmkpglkaaGreatDoor
open Go.RowKit
attribute [local go_sem ↓] Go.wp_at_zero Go.wp_at_succ
set_option maxRecDepth 1000000 in
theorem aw0_ (ps:List Pr) (c:World) (pb po np pcap u n tb to' tn tc:Nat) (now:Int) (t:List Ins) (hU:UnC ps c pb po np pcap u n tb to' tn tc now t):RefU c pb po np pcap ps now u n:=by
 intro w B M fv sa0 sc0 st0 sp0 fl0 off k0 ar0 m' h0 hoff hex0;have HU:=hd_ hU;have HH0:=hd_ h0;have HEX:=hd_ hex0;obtain⟨C,hC⟩:∃ C,w.heap.size=C:=⟨_,rfl⟩;have m0:=xa_ h0.ma.blk 0;simp at m0;have q4:=h0.cw.cell hU.cod.cell (by simp);have i1:(0:Int)≤(u:Int):=(by omega);have i2:(u:Int)<(np:Int):=(by have:=hU.lt;have:=hU.hnp;omega);have hmk:Sem.run Tryz.prog (Instr.makeSlice 25 (.int .i64 40) (.int .i64 40)) w=.ok (.slice (some ⟨C,0,none⟩) 40 40) (w.alloc (.cells (xi_ (List.replicate 40 0)) 3)):=by
  have h:=j0_ 40 (by omega) w;rw[hC] at h;exact h
 have HS0:Hid (St c w B M C fv n off ar0.length (.slice (some ⟨pb,po,none⟩) np pcap) now (sb sa0) sa0 sc0 st0 ar0 sp0 fl0 j4_ (w.alloc (.cells (xi_ (List.replicate 40 0)) 3))):=by
  have hok:=hU.ok u hU.lt;rw[hU.tx,← hU.fs] at hok;exact⟨h0.kept (gr1 _ _),xj_ hC.symm _,rfl,fun e=>by have:=(h0.ma.row C e.symm).2;omega,fun e=>by have:=xg_ h0.ma.blk;omega,fun e=>by have:=(h0.fr.lt C e.symm).2;omega,by omega,h0.cw.size,rfl,hoff,hok.frame,Chg.of_none (gr1 _ _),Nx.refl _ _⟩
 clear h0 hex0 hU;go_enter Tryz.func16,Tryz.ntmps16;go_wp2_with fail
 rename_i K0 hK0;refine(show Code.wp Tryz.prog (Code.loop (zg_ Tryz.f16)) (Exit.inBlock 0 (Exit.then K0 (bodyPost Tryz.prog Tryz.f16 _))) _ _ from ?_);refine wp_loop_ghost (fun gk a wx=>als_ ps u m' c w B M C fv n off ar0.length (.slice (some ⟨pb,po,none⟩) np pcap) now (sb sa0) tn (.slice (some ⟨tb,to',none⟩) tn tc) (.slice (some ⟨C,0,none⟩) 40 40) _ _ _ gk a wx) k0 ⟨0,_,sa0,sc0,st0,ar0,sp0,fl0,j4_,rfl,rfl,Nat.zero_le _,HS0.out,HEX.out⟩ (at6_ ps c w B M C fv n off ar0.length pb po np pcap now (sb sa0) u tb to' tn tc t m' K0 _ _ _ _ HU.out ?_)
 · intro l sa sc cs wx hl hS;refine hK0 _ _ ?_;clear hK0;revert l;refine zh_ 397 ?_;iterate 397 intro _
   dsimp only[Ap];have HS:Hid (aq6_ c w B M fv n off ar0.length (.slice (some ⟨pb,po,none⟩) np pcap) now (sb sa0) m' wx):=⟨sa,sc,hS.rc,hS.hal,hS.ch,hS.nx⟩;clear hS;unfold yr_;go_wp2;go_ret;exact⟨rfl,HS.out⟩
set_option maxRecDepth 1000000 in
theorem ak7_ (ps:List Pr) (c:World) (pb po np pcap u n tc:Nat) (ta:Option Addr) (now:Int) (hT:c.cell? ⟨pb,po+u*5+4,none⟩=some (.slice ta 0 tc)) (htx:txt ps u=[]) (hu:u<np):RefU c pb po np pcap ps now u n:=by
 intro w B M fv sa0 sc0 st0 sp0 fl0 off k0 ar0 m' h0 hoff hex0;have hm:m'=⟨st0,ar0,sp0,fl0⟩:=by
  cases hex0 <;> first|rfl|(rename_i h _;rw[htx] at h;simp at h)|(rename_i h _ _;rw[htx] at h;simp at h)|(exfalso;simp[htx] at *)
 subst hm;have HP:Hid (aq6_ c w B M fv n off ar0.length (.slice (some ⟨pb,po,none⟩) np pcap) now (sb sa0) ⟨st0,ar0,sp0,fl0⟩ (w.alloc (.cells (xi_ (List.replicate 40 0)) 3))):=⟨sa0,sc0,h0.kept (gr1 _ _),rfl,Chg.of_none (gr1 _ _),Nx.refl _ _⟩;obtain⟨C,hC⟩:∃ C,w.heap.size=C:=⟨_,rfl⟩;have m0:=xa_ h0.ma.blk 0;simp at m0;have q4:=h0.cw.cell hT (by simp);have i1:(0:Int)≤(u:Int):=(by omega);have i2:(u:Int)<(np:Int):=(by omega);have hmk:Sem.run Tryz.prog (Instr.makeSlice 25 (.int .i64 40) (.int .i64 40)) w=.ok (.slice (some ⟨C,0,none⟩) 40 40) (w.alloc (.cells (xi_ (List.replicate 40 0)) 3)):=by
  have h:=j0_ 40 (by omega) w;rw[hC] at h;exact h
 clear h0 hex0;go_enter Tryz.func16,Tryz.ntmps16;go_wp2_with fail
 rename_i K0 hK0;refine(show Code.wp Tryz.prog (Code.loop (zg_ Tryz.f16)) (Exit.inBlock 0 (Exit.then K0 (bodyPost Tryz.prog Tryz.f16 _))) _ _ from ?_);refine wp_loop_ghost (fun gk a wx=>∃ l:List Value,a=yr_ M u fv (.slice ta 0 tc) (.slice (some ⟨C,0,none⟩) 40 40) _ _ _ 0 l∧l.length=397∧wx=w.alloc (.cells (xi_ (List.replicate 40 0)) 3)) 0 ⟨_,rfl,rfl,rfl⟩ ?_;rintro gk a wx ⟨l,rfl,hl,rfl⟩;have HK0:=hd_ hK0;clear hK0;revert l;refine zh_ 397 ?_;iterate 397 intro _
 dsimp only[Ap];unfold yr_;conv=>arg 2;whnf
 have hd:decide ((0:Int)<(0:Int))=false:=(by simp);go_wp2;refine HK0.out _ _ ?_;go_wp2;go_ret;exact⟨rfl,HP.out⟩
theorem arj_ {ps:List Pr} {c:World} {pb po pcap:Nat} {now:Int} (hok:ac5_ ps) (hpr:∀ i,i<ps.length→∃ fv sv tv,PrAt c pb (po+i*5) (ps.getD i pr0) fv sv tv):∀ m u,u<m→u<ps.length→RefU c pb po ps.length pcap ps now u (ps.getD u pr0).fs.length:=by
 intro m;induction m with
 | zero=>intro u h;omega
 | succ m ih=>
  intro u hm hu;obtain⟨fv,sv,tv,hp⟩:=hpr u hu;have htc:=hp.tcell;obtain⟨ta,tc,rfl,htx⟩:=hp.text;by_cases hnil:(ps.getD u pr0).tx=[]
  ·rw[hnil] at htc;exact ak7_ ps c pb po ps.length pcap u _ tc ta now htc hnil hu
  · rcases htx with h|⟨tb,to',rfl,hi⟩
    ·exact absurd h hnil
    ·exact aw0_ ps c pb po ps.length pcap u _ tb to' _ tc now _ ⟨⟨htc,rfl,fun i h=>⟨(hi i h).1,(hi i h).2.1,(hi i h).2.2.1,(hi i h).2.2.2⟩⟩,rfl,hok,hu,rfl,rfl,hpr,fun v hv=>ih v (by omega) (by omega)⟩
end Go.Proofs.YtcgbfhpmkpglkaaGreatDoor
