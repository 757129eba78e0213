/- Texts put together: F3. -/
import Derived.Test.YtcgbfhpmkpglkaaGreatDoorQ42
set_option linter.unusedVariables false
set_option linter.unusedSimpArgs false
set_option maxHeartbeats 8000000
namespace Go.Proofs.YtcgbfhpmkpglkaaGreatDoor
open Go.RowKit
attribute [local go_sem ↓] Go.wp_at_zero Go.wp_at_succ
set_option maxRecDepth 10000 in
theorem ak2_ (a b c:Int) (l:List (Int×Nat)) (fn n i u:Nat) (psv:Value) (w:World) (hC:CdAt w psv u l fn n i ⟨11,a,b,c⟩) (hf:fn≤1000000000000) (hn:n≤1000000000000) (hu:u≤1000000000000) :
 Calls Tryz.prog 20 #[psv,.int .i64 u,.int .i64 i] w fun e w'=>e=.returned (.bool (okD l fn n i ⟨11,a,b,c⟩))∧w.grownBy w' none:=by
 obtain⟨⟨b',off,np,cap,fa,fc,tb,toff,tc,rfl,hun,p2,p4,hin,q0,q1,q2,q3,hll,hah⟩⟩:=hC;dsimp only at q0 q1 q2 q3;clear hah hll;have i1:(0:Int)≤(u:Int):=(by omega);have i2:(u:Int)<(np:Int):=(by omega);have i3:(0:Int)≤(i:Int):=(by omega);have i4:(i:Int)<(n:Int):=(by omega);have P2:∀ ob,(w.alloc ob).cell? ⟨b',off+u*5+2,none⟩=some (.slice fa fn fc):=fun ob=>(gr1 w ob).cell p2 (by simp);have P4:∀ ob,(w.alloc ob).cell? ⟨b',off+u*5+4,none⟩=some (.slice (some ⟨tb,toff,none⟩) n tc):=fun ob=>(gr1 w ob).cell p4 (by simp);clear p2;by_cases hb:b=0
 · by_cases hc:c=0
   · subst hb hc;by_cases hia:(i:Int)<a
     · have HV:=hd_ (by simp[okD,hia]:okD l fn n i ⟨11,a,0,0⟩=decide (a≤n));rw[HV.out];go_enter Tryz.func20,Tryz.ntmps20;go_wp2;go_quiet (fail)
       go_wp2;go_ret;refine⟨?_,x4_ (gr1 _ _) _⟩;simp
     · have HV:=hd_ (by simp[okD];omega:okD l fn n i ⟨11,a,0,0⟩=false);rw[HV.out];have hd1:decide ((i:Int)<a)=false:=(by simp;omega);go_enter Tryz.func20,Tryz.ntmps20;go_wp2;go_quiet (fail)
       go_wp2;go_ret;refine⟨?_,x4_ (gr1 _ _) _⟩;simp
   ·have HV:=hd_ (by simp[okD,hc]:okD l fn n i ⟨11,a,b,c⟩=false);rw[HV.out];have hc2:(c==0)=false:=(by simpa using hc);subst hb;go_enter Tryz.func20,Tryz.ntmps20;go_wp2;go_ret;refine⟨?_,gr1 _ _⟩;simp
 ·have HV:=hd_ (by simp[okD,hb]:okD l fn n i ⟨11,a,b,c⟩=false);rw[HV.out];have hb2:(b==0)=false:=(by simpa using hb);go_enter Tryz.func20,Tryz.ntmps20;go_wp2;go_ret;refine⟨?_,gr1 _ _⟩;simp
set_option maxRecDepth 10000 in
theorem ak3_ (a b c:Int) (l:List (Int×Nat)) (fn n i u:Nat) (psv:Value) (w:World) (hC:CdAt w psv u l fn n i ⟨12,a,b,c⟩) (hf:fn≤1000000000000) (hn:n≤1000000000000) (hu:u≤1000000000000) :
 Calls Tryz.prog 20 #[psv,.int .i64 u,.int .i64 i] w fun e w'=>e=.returned (.bool (okD l fn n i ⟨12,a,b,c⟩))∧w.grownBy w' none:=by
 obtain⟨⟨b',off,np,cap,fa,fc,tb,toff,tc,rfl,hun,p2,p4,hin,q0,q1,q2,q3,hll,hah⟩⟩:=hC;dsimp only at q0 q1 q2 q3;clear hah hll;have i1:(0:Int)≤(u:Int):=(by omega);have i2:(u:Int)<(np:Int):=(by omega);have i3:(0:Int)≤(i:Int):=(by omega);have i4:(i:Int)<(n:Int):=(by omega);have P2:∀ ob,(w.alloc ob).cell? ⟨b',off+u*5+2,none⟩=some (.slice fa fn fc):=fun ob=>(gr1 w ob).cell p2 (by simp);have P4:∀ ob,(w.alloc ob).cell? ⟨b',off+u*5+4,none⟩=some (.slice (some ⟨tb,toff,none⟩) n tc):=fun ob=>(gr1 w ob).cell p4 (by simp);clear p2;by_cases hb:b=0
 · by_cases hc:c=0
   · subst hb hc;by_cases hia:(i:Int)<a
     · have HV:=hd_ (by simp[okD,hia]:okD l fn n i ⟨12,a,0,0⟩=decide (a≤n));rw[HV.out];go_enter Tryz.func20,Tryz.ntmps20;go_wp2;go_quiet (fail)
       go_wp2;go_ret;refine⟨?_,x4_ (gr1 _ _) _⟩;simp
     · have HV:=hd_ (by simp[okD];omega:okD l fn n i ⟨12,a,0,0⟩=false);rw[HV.out];have hd1:decide ((i:Int)<a)=false:=(by simp;omega);go_enter Tryz.func20,Tryz.ntmps20;go_wp2;go_quiet (fail)
       go_wp2;go_ret;refine⟨?_,x4_ (gr1 _ _) _⟩;simp
   ·have HV:=hd_ (by simp[okD,hc]:okD l fn n i ⟨12,a,b,c⟩=false);rw[HV.out];have hc2:(c==0)=false:=(by simpa using hc);subst hb;go_enter Tryz.func20,Tryz.ntmps20;go_wp2;go_ret;refine⟨?_,gr1 _ _⟩;simp
 ·have HV:=hd_ (by simp[okD,hb]:okD l fn n i ⟨12,a,b,c⟩=false);rw[HV.out];have hb2:(b==0)=false:=(by simpa using hb);go_enter Tryz.func20,Tryz.ntmps20;go_wp2;go_ret;refine⟨?_,gr1 _ _⟩;simp
set_option maxRecDepth 10000 in
theorem ag3_ (d a b c:Int) (hd:d<1∨18<d) (l:List (Int×Nat)) (fn n i u:Nat) (psv:Value) (w:World) (hC:CdAt w psv u l fn n i ⟨d,a,b,c⟩) (hf:fn≤1000000000000) (hn:n≤1000000000000) (hu:u≤1000000000000) :
 Calls Tryz.prog 20 #[psv,.int .i64 u,.int .i64 i] w fun e w'=>e=.returned (.bool (okD l fn n i ⟨d,a,b,c⟩))∧w.grownBy w' none:=by
 obtain⟨⟨b',off,np,cap,fa,fc,tb,toff,tc,rfl,hun,p2,p4,hin,q0,q1,q2,q3,hll,hah⟩⟩:=hC;dsimp only at q0 q1 q2 q3;clear hah hll;have i1:(0:Int)≤(u:Int):=(by omega);have i2:(u:Int)<(np:Int):=(by omega);have i3:(0:Int)≤(i:Int):=(by omega);have i4:(i:Int)<(n:Int):=(by omega);have P2:∀ ob,(w.alloc ob).cell? ⟨b',off+u*5+2,none⟩=some (.slice fa fn fc):=fun ob=>(gr1 w ob).cell p2 (by simp);have P4:∀ ob,(w.alloc ob).cell? ⟨b',off+u*5+4,none⟩=some (.slice (some ⟨tb,toff,none⟩) n tc):=fun ob=>(gr1 w ob).cell p4 (by simp);clear p2;have HV:=hd_ (by
  rw[af2_];have h1:yg_ ⟨d,a,b,c⟩=false:=by
   unfold yg_;dsimp only;rw[if_neg (by omega),if_neg (by omega),if_neg (by omega),if_neg (by omega)]
  simp[vn_,h1]:okD l fn n i ⟨d,a,b,c⟩=false)
 rw[HV.out];have e1:(d==1)=false:=(by simp;omega);have e2:(d==2)=false:=(by simp;omega);have e3:(d==3)=false:=(by simp;omega);have e4:(d==4)=false:=(by simp;omega);have e5:(d==5)=false:=(by simp;omega);have e6:(d==6)=false:=(by simp;omega);have e7:(d==7)=false:=(by simp;omega);have e8:(d==8)=false:=(by simp;omega);have e9:(d==9)=false:=(by simp;omega);have e10:(d==10)=false:=(by simp;omega);have e11:(d==11)=false:=(by simp;omega);have e12:(d==12)=false:=(by simp;omega);have e13:(d==13)=false:=(by simp;omega);have e14:(d==14)=false:=(by simp;omega);have e15:(d==15)=false:=(by simp;omega);have e16:(d==16)=false:=(by simp;omega);have e17:(d==17)=false:=(by simp;omega);have e18:(d==18)=false:=(by simp;omega);by_cases hc:c=0
 · subst hc;clear hd;go_enter Tryz.func20,Tryz.ntmps20;go_wp2;all_goals go_ret
   all_goals refine⟨?_,gr1 _ _⟩
   all_goals first|(simp;done)|(exfalso;simp_all;done)|(exfalso;omega)
 · have hc2:(c==0)=false:=(by simpa using hc);clear hd;go_enter Tryz.func20,Tryz.ntmps20;go_wp2;all_goals go_ret
   all_goals refine⟨?_,gr1 _ _⟩
   all_goals first|(simp;done)|(exfalso;simp_all;done)|(exfalso;omega)
end Go.Proofs.YtcgbfhpmkpglkaaGreatDoor
