/- Texts put together: F4, F6. -/
import Derived.Test.YtcgbfhpmkpglkaaGreatDoorQ44
import Derived.Test.YtcgbfhpmkpglkaaGreatDoorQ11
set_option linter.unusedVariables false
set_option linter.unusedSimpArgs false
set_option maxHeartbeats 8000000
namespace Go.Proofs.YtcgbfhpmkpglkaaGreatDoor
open Go.RowKit
attribute [local go_sem ↓] Go.wp_at_zero Go.wp_at_succ
set_option maxRecDepth 10000 in
theorem ak4_ (a b c:Int) (l:List (Int×Nat)) (fn n i u:Nat) (psv:Value) (w:World) (hC:CdAt w psv u l fn n i ⟨17,a,b,c⟩) (hf:fn≤1000000000000) (hn:n≤1000000000000) (hu:u≤1000000000000) (hm:∀ j,(l.getD j (0,0)).2≤1000000000000) :
 Calls Tryz.prog 20 #[psv,.int .i64 u,.int .i64 i] w fun e w'=>e=.returned (.bool (okD l fn n i ⟨17,a,b,c⟩))∧w.grownBy w' none:=by
 obtain⟨⟨b',off,np,cap,fa,fc,tb,toff,tc,rfl,hun,p2,p4,hin,q0,q1,q2,q3,hll,hah⟩⟩:=hC;dsimp only at q0 q1 q2 q3;have i1:(0:Int)≤(u:Int):=(by omega);have i2:(u:Int)<(np:Int):=(by omega);have i3:(0:Int)≤(i:Int):=(by omega);have i4:(i:Int)<(n:Int):=(by omega);have P2:∀ ob,(w.alloc ob).cell? ⟨b',off+u*5+2,none⟩=some (.slice fa fn fc):=fun ob=>(gr1 w ob).cell p2 (by simp);have P4:∀ ob,(w.alloc ob).cell? ⟨b',off+u*5+4,none⟩=some (.slice (some ⟨tb,toff,none⟩) n tc):=fun ob=>(gr1 w ob).cell p4 (by simp);clear p2;by_cases hc:c=0
 case neg=>
  have HV:=hd_ (by simp[okD,hc]:okD l fn n i ⟨17,a,b,c⟩=false);rw[HV.out];have hc2:(c==0)=false:=(by simpa using hc);go_enter Tryz.func20,Tryz.ntmps20;go_wp2;go_ret;refine⟨?_,gr1 _ _⟩;simp
 by_cases g1:0≤a
 case neg=>
  have HV:=hd_ (by simp[okD];omega:okD l fn n i ⟨17,a,b,c⟩=false);rw[HV.out];have hd1:decide (0≤a)=false:=(by simpa using g1);subst hc;go_enter Tryz.func20,Tryz.ntmps20;go_wp2;go_quiet (fail)
  go_wp2;go_ret;refine⟨?_,x4_ (gr1 _ _) _⟩;simp
 obtain⟨k,rfl⟩:=Int.eq_ofNat_of_zero_le g1;have hd1:decide ((0:Int)≤(k:Int))=true:=(by simp);by_cases g2:(k:Int)<(u:Int)
 case neg=>
  have HV:=hd_ (by simp[okD];omega:okD l fn n i ⟨17,(k:Int),b,c⟩=false);rw[HV.out];have hd2:decide ((k:Int)<(u:Int))=false:=(by simpa using g2);have hd2':decide (k<u)=false:=(by simp;omega);subst hc;go_enter Tryz.func20,Tryz.ntmps20;go_wp2;go_quiet (fail)
  go_wp2;go_ret;refine⟨?_,x4_ (gr1 _ _) _⟩;simp
 have hd2:decide ((k:Int)<(u:Int))=true:=(by simpa using g2);have hd2':decide (k<u)=true:=(by simp;omega);obtain⟨c1,fa',fc',c2⟩:=hah k (by omega);have C1:∀ ob,(w.alloc ob).cell? ⟨b',off+k*5,none⟩=some (.int .i64 (l.getD k (0,0)).1):=fun ob=>(gr1 w ob).cell c1 (by simp);have C2:∀ ob,(w.alloc ob).cell? ⟨b',off+k*5+2,none⟩=some (.slice fa' (l.getD k (0,0)).2 fc'):=fun ob=>(gr1 w ob).cell c2 (by simp);clear c1 c2 hah;have j2:(k:Int)<(np:Int):=(by omega);have HW:=hd_ (by
  simp[okD,hll,g2,hc,Bool.and_assoc]:okD l fn n i ⟨17,(k:Int),b,c⟩=((c==0) && ((l.getD k (0,0)).1 != 1 && decide (0≤b) && decide (b≤fn) && decide (b+(l.getD k (0,0)).2≤fn))))
 have hmk:=hm k;rw[HW.out];generalize(l.getD k (0,0)).1=kd at *;generalize(l.getD k (0,0)).2=m at *;clear hll hm HW;subst hc;by_cases g3:kd=1
 case pos=>
  subst g3;go_enter Tryz.func20,Tryz.ntmps20;go_wp2;go_quiet (fail)
  go_wp2;go_ret;refine⟨?_,x4_ (gr1 _ _) _⟩;simp
 have hd3:(kd==1)=false:=(by simpa using g3);have hd3':(kd != 1)=true:=(by simpa using g3);rw[hd3'];by_cases g4:0≤b
 case neg=>
  have hd4:decide (0≤b)=false:=(by simpa using g4);rw[hd4];go_enter Tryz.func20,Tryz.ntmps20;go_wp2;go_quiet (fail)
  go_wp2;go_ret;refine⟨?_,x4_ (gr1 _ _) _⟩;simp
 have hd4:decide (0≤b)=true:=(by simpa using g4);rw[hd4];by_cases g5:b≤(fn:Int)
 case neg=>
  have hd5:decide (b≤(fn:Int))=false:=(by simpa using g5);rw[hd5];go_enter Tryz.func20,Tryz.ntmps20;go_wp2;go_quiet (fail)
  go_wp2;go_ret;refine⟨?_,x4_ (gr1 _ _) _⟩;simp
 have hd5:decide (b≤(fn:Int))=true:=(by simpa using g5);rw[hd5];have e1:wrap64 (b+(m:Int))=b+(m:Int):=(by unfold wrap64;omega);go_enter Tryz.func20,Tryz.ntmps20;go_wp2;go_quiet (fail)
 go_wp2;go_ret;refine⟨?_,x4_ (gr1 _ _) _⟩;simp
set_option maxRecDepth 10000 in
theorem ak5_ (a b c:Int) (l:List (Int×Nat)) (fn n i u:Nat) (psv:Value) (w:World) (hC:CdAt w psv u l fn n i ⟨18,a,b,c⟩) (hf:fn≤1000000000000) (hn:n≤1000000000000) (hu:u≤1000000000000) (hm:∀ j,(l.getD j (0,0)).2≤1000000000000) :
 Calls Tryz.prog 20 #[psv,.int .i64 u,.int .i64 i] w fun e w'=>e=.returned (.bool (okD l fn n i ⟨18,a,b,c⟩))∧w.grownBy w' none:=by
 have HC:=hd_ hC;obtain⟨⟨b',off,np,cap,fa,fc,tb,toff,tc,rfl,hun,p2,p4,hin,q0,q1,q2,q3,hll,hah⟩⟩:=hC;dsimp only at q0 q1 q2 q3;have i1:(0:Int)≤(u:Int):=(by omega);have i2:(u:Int)<(np:Int):=(by omega);have i3:(0:Int)≤(i:Int):=(by omega);have i4:(i:Int)<(n:Int):=(by omega);have P2:∀ ob,(w.alloc ob).cell? ⟨b',off+u*5+2,none⟩=some (.slice fa fn fc):=fun ob=>(gr1 w ob).cell p2 (by simp);have P4:∀ ob,(w.alloc ob).cell? ⟨b',off+u*5+4,none⟩=some (.slice (some ⟨tb,toff,none⟩) n tc):=fun ob=>(gr1 w ob).cell p4 (by simp);clear p2;clear hah hll;by_cases hc:c=0
 case neg=>
  have HV:=hd_ (by simp[okD,hc]:okD l fn n i ⟨18,a,b,c⟩=false);rw[HV.out];have hc2:(c==0)=false:=(by simpa using hc);go_enter Tryz.func20,Tryz.ntmps20;go_wp2;go_ret;refine⟨?_,gr1 _ _⟩;simp
 subst hc;by_cases h12:1≤a∧a≤12
 case pos=>
  have HV:=hd_ (by simp[okD,h12.1,h12.2]:okD l fn n i ⟨18,a,b,0⟩=kw_ b (yk_ a) fn);rw[HV.out];have hp:=aia_ h12.1 h12.2;have cS:∀ w',w.grownBy w' none→w'.cell? ⟨w.heap.size,1,none⟩=some (.int .i64 a)→w'.cell? ⟨w.heap.size,2,none⟩=some (.int .i64 b)→Calls Tryz.prog 39 #[.int .i64 a] w' fun e w2=>e=.returned (.int .i64 (yk_ a))∧w2.cell? ⟨w.heap.size,1,none⟩=some (.int .i64 a)∧w2.cell? ⟨w.heap.size,2,none⟩=some (.int .i64 b)∧w.grownBy w2 none:=fun w' hg k1 k2=>(ah3_ a w' h12.1 h12.2).mono fun e w2 h=>⟨h.1,h.2.cell k1 (by simp),h.2.cell k2 (by simp),hg.trans h.2⟩;clear HV;generalize yk_ a=m at *;have hdm:decide (0<m)=true:=(by simpa using hp);go_enter Tryz.func20,Tryz.ntmps20;go_wp2;go_region_held3 (fun w'=>w'.cell? ⟨w.heap.size,1,none⟩=some (.int .i64 a)∧w'.cell? ⟨w.heap.size,2,none⟩=some (.int .i64 b)∧w.grownBy w' none) (refine⟨?_,?_,?_⟩ <;> first|assumption|exact xf_ (gr1 _ _)|(go_keep;done)) (first|(go_at_call 39;refine(cS _ (by first|assumption|exact xf_ (gr1 _ _)) (by first|assumption|(go_keep;done)) (by first|assumption|(go_keep;done))).mono ?_;rintro e w1 ⟨rfl,k1,k2,hg1⟩)|(go_at_call 35;refine(jz_ _ _ _ _ hf).mono ?_;rintro e w' ⟨rfl,rfl⟩))
  go_wp2;go_ret;refine⟨?_,by assumption⟩;simp
 case neg=>exact aja_ a b 0 h12 l fn n i u _ w HC.out hf hn hu hm
end Go.Proofs.YtcgbfhpmkpglkaaGreatDoor
namespace Go.Proofs.YtcgbfhpmkpglkaaGreatDoor
open Go.RowKit
theorem ajb_ (x:Ins) (l:List (Int×Nat)) (fn n i u:Nat) (psv:Value) (w:World) (hC:CdAt w psv u l fn n i x) (hf:fn≤1000000000000) (hn:n≤1000000000000) (hu:u≤1000000000000) (hm:∀ j,(l.getD j (0,0)).2≤1000000000000) :
 Calls Tryz.prog 20 #[psv,.int .i64 u,.int .i64 i] w fun e w'=>e=.returned (.bool (okD l fn n i x))∧w.grownBy w' none:=by
 obtain⟨d,a,b,c⟩:=x;rcases dos d with rfl|rfl|rfl|rfl|rfl|rfl|rfl|rfl|rfl|rfl|rfl|rfl|rfl|rfl|rfl|rfl|rfl|rfl|hd
 ·exact anq_ a b c l fn n i u psv w hC hf hn hu
 ·exact ant_ a b c l fn n i u psv w hC hf hn hu
 ·exact anu_ a b c l fn n i u psv w hC hf hn hu
 ·exact anw_ a b c l fn n i u psv w hC hf hn hu
 ·exact anx_ a b c l fn n i u psv w hC hf hn hu
 ·exact anv_ a b c l fn n i u psv w hC hf hn hu
 ·exact any_ a b c l fn n i u psv w hC hf hn hu
 ·exact anr_ a b c l fn n i u psv w hC hf hn hu
 ·exact ans_ a b c l fn n i u psv w hC hf hn hu
 ·exact akx_ a b c l fn n i u psv w hC hf hn hu
 ·exact ak2_ a b c l fn n i u psv w hC hf hn hu
 ·exact ak3_ a b c l fn n i u psv w hC hf hn hu
 ·exact akz_ a b c l fn n i u psv w hC hf hn hu
 ·exact ak0_ a b c l fn n i u psv w hC hf hn hu
 ·exact aky_ a b c l fn n i u psv w hC hf hn hu
 ·exact ak1_ a b c l fn n i u psv w hC hf hn hu
 ·exact ak4_ a b c l fn n i u psv w hC hf hn hu hm
 ·exact ak5_ a b c l fn n i u psv w hC hf hn hu hm
 ·exact ag3_ d a b c hd l fn n i u psv w hC hf hn hu
def arh_ (t:List Ins):Prop:=∃ hs,hgt t (tkN t) (gvN t) t.length=some hs∧hs.getD t.length 0≤0
structure DocOk (l:List (Int×Nat)) (kd:Int) (fn:Nat) (t:List Ins):Prop where
 kind:kd=1∨kd=2∨kd=3
 frame:fn≤20000
 len:t.length≤100000
 ok:∀ i,i<t.length→okD l fn t.length i (nth t i)=true
 loops:LpOk t∧qw_ t
 jumps:JDoc t
 stack:arh_ t
theorem ag4_ (l:List (Int×Nat)) (fn:Nat) (t:List Ins):(∀ i,i<t.length→okD l fn t.length i (nth t i)=true)↔(vi_ l fn t∧∀ i,isR t i=true→1≤(nth t i).b∧(nth t i).b≤i):=by
 constructor
 · intro h;refine⟨fun i hi=>?_,fun i hr=>?_⟩
   ·have:=h i hi;rw[af2_] at this;simp only[vn_,Bool.and_eq_true] at this;simp only[ug_,Bool.and_eq_true];exact this.1
   ·have:=h i (aal_ hr);have hd:(nth t i).d=14:=(by simpa[isR] using hr);rw[af2_] at this;simp only[vn_,Bool.and_eq_true,hd,if_true,isW,decide_eq_true_eq] at this;exact this.2
 · rintro⟨h1,h2⟩ i hi;rw[af2_];have:=h1 i hi;simp only[ug_,Bool.and_eq_true] at this;simp only[vn_,Bool.and_eq_true];refine⟨this,?_⟩;split
   ·rename_i hd;have:=h2 i (by simp[isR,hd]);simp[isW,this.1,this.2]
   ·rfl
theorem ari_ (l:List (Int×Nat)) (kd:Int) (fn:Nat) (t:List Ins):DocOk l kd fn t↔ProgOk l kd fn t:=by
 constructor
 ·intro h;obtain⟨hm,hb⟩:=(ag4_ l fn t).1 h.ok;obtain⟨hr,hn⟩:=(abm_ hb).1 h.loops;exact⟨by have:=h.kind;omega,h.frame,h.len,hm,hr,hn,(abl_ hr (vo_ hm)).1 h.jumps,(ado_ (fun i=>(vh_ (nth t i)).1) (vo_ hm)).1 h.stack⟩
 ·intro h;have hb:∀ i,isR t i=true→1≤(nth t i).b∧(nth t i).b≤i:=fun i hi=>⟨(h.rds.rounds i hi).1,(h.rds.rounds i hi).2.1⟩;exact⟨by have:=h.kind;omega,h.frame,h.len,(ag4_ l fn t).2 ⟨h.may,hb⟩,(abm_ hb).2 ⟨h.rds,h.nest⟩,(abl_ h.rds (vo_ h.may)).2 h.jumps,(ado_ (fun i=>(vh_ (nth t i)).1) (vo_ h.may)).2 h.stack⟩
end Go.Proofs.YtcgbfhpmkpglkaaGreatDoor
