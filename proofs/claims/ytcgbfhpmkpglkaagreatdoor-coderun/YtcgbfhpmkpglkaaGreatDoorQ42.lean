/- Texts put together: F2. -/
import Derived.Test.YtcgbfhpmkpglkaaGreatDoorQ08
set_option linter.unusedVariables false
set_option linter.unusedSimpArgs false
set_option maxHeartbeats 8000000
namespace Go.Proofs.YtcgbfhpmkpglkaaGreatDoor
open Go.RowKit
attribute [local go_sem ↓] Go.wp_at_zero Go.wp_at_succ
structure CdAt (w:World) (psv:Value) (u:Nat) (l:List (Int×Nat)) (fn n i:Nat) (x:Ins):Prop where
 lies:∃ b off np cap fa fc tb toff tc,psv=.slice (some ⟨b,off,none⟩) np cap∧u<np∧w.cell? ⟨b,off+u*5+2,none⟩=some (.slice fa fn fc)∧w.cell? ⟨b,off+u*5+4,none⟩=some (.slice (some ⟨tb,toff,none⟩) n tc)∧i<n∧
  w.cell? ⟨tb,toff+i*4,none⟩=some (.int .i64 x.d)∧w.cell? ⟨tb,toff+i*4+1,none⟩=some (.int .i64 x.a)∧w.cell? ⟨tb,toff+i*4+2,none⟩=some (.int .i64 x.b)∧w.cell? ⟨tb,toff+i*4+3,none⟩=some (.int .i64 x.c)∧
  l.length=u∧∀ j,j<u→w.cell? ⟨b,off+j*5,none⟩=some (.int .i64 (l.getD j (0,0)).1)∧∃ fa' fc',w.cell? ⟨b,off+j*5+2,none⟩=some (.slice fa' (l.getD j (0,0)).2 fc')
set_option maxRecDepth 10000 in
theorem anq_ (a b c:Int) (l:List (Int×Nat)) (fn n i u:Nat) (psv:Value) (w:World) (hC:CdAt w psv u l fn n i ⟨1,a,b,c⟩) (hf:fn≤1000000000000) (hn:n≤1000000000000) (hu:u≤1000000000000) :
 Calls Tryz.prog 20 #[psv,.int .i64 u,.int .i64 i] w fun e w'=>e=.returned (.bool (okD l fn n i ⟨1,a,b,c⟩))∧w.grownBy w' none:=by
 obtain⟨⟨b',off,np,cap,fa,fc,tb,toff,tc,rfl,hun,p2,p4,hin,q0,q1,q2,q3,hll,hah⟩⟩:=hC;dsimp only at q0 q1 q2 q3;clear hah hll;have i1:(0:Int)≤(u:Int):=(by omega);have i2:(u:Int)<(np:Int):=(by omega);have i3:(0:Int)≤(i:Int):=(by omega);have i4:(i:Int)<(n:Int):=(by omega);have P2:∀ ob,(w.alloc ob).cell? ⟨b',off+u*5+2,none⟩=some (.slice fa fn fc):=fun ob=>(gr1 w ob).cell p2 (by simp);have P4:∀ ob,(w.alloc ob).cell? ⟨b',off+u*5+4,none⟩=some (.slice (some ⟨tb,toff,none⟩) n tc):=fun ob=>(gr1 w ob).cell p4 (by simp);clear p2;go_enter Tryz.func20,Tryz.ntmps20;go_wp2;all_goals go_ret
 all_goals refine⟨?_,gr1 _ _⟩
 all_goals(simp_all[okD];try omega)
set_option maxRecDepth 10000 in
theorem anr_ (a b c:Int) (l:List (Int×Nat)) (fn n i u:Nat) (psv:Value) (w:World) (hC:CdAt w psv u l fn n i ⟨8,a,b,c⟩) (hf:fn≤1000000000000) (hn:n≤1000000000000) (hu:u≤1000000000000) :
 Calls Tryz.prog 20 #[psv,.int .i64 u,.int .i64 i] w fun e w'=>e=.returned (.bool (okD l fn n i ⟨8,a,b,c⟩))∧w.grownBy w' none:=by
 obtain⟨⟨b',off,np,cap,fa,fc,tb,toff,tc,rfl,hun,p2,p4,hin,q0,q1,q2,q3,hll,hah⟩⟩:=hC;dsimp only at q0 q1 q2 q3;clear hah hll;have i1:(0:Int)≤(u:Int):=(by omega);have i2:(u:Int)<(np:Int):=(by omega);have i3:(0:Int)≤(i:Int):=(by omega);have i4:(i:Int)<(n:Int):=(by omega);have P2:∀ ob,(w.alloc ob).cell? ⟨b',off+u*5+2,none⟩=some (.slice fa fn fc):=fun ob=>(gr1 w ob).cell p2 (by simp);have P4:∀ ob,(w.alloc ob).cell? ⟨b',off+u*5+4,none⟩=some (.slice (some ⟨tb,toff,none⟩) n tc):=fun ob=>(gr1 w ob).cell p4 (by simp);clear p2;go_enter Tryz.func20,Tryz.ntmps20;go_wp2;all_goals go_ret
 all_goals refine⟨?_,gr1 _ _⟩
 all_goals(simp_all[okD];try omega)
set_option maxRecDepth 10000 in
theorem ans_ (a b c:Int) (l:List (Int×Nat)) (fn n i u:Nat) (psv:Value) (w:World) (hC:CdAt w psv u l fn n i ⟨9,a,b,c⟩) (hf:fn≤1000000000000) (hn:n≤1000000000000) (hu:u≤1000000000000) :
 Calls Tryz.prog 20 #[psv,.int .i64 u,.int .i64 i] w fun e w'=>e=.returned (.bool (okD l fn n i ⟨9,a,b,c⟩))∧w.grownBy w' none:=by
 obtain⟨⟨b',off,np,cap,fa,fc,tb,toff,tc,rfl,hun,p2,p4,hin,q0,q1,q2,q3,hll,hah⟩⟩:=hC;dsimp only at q0 q1 q2 q3;clear hah hll;have i1:(0:Int)≤(u:Int):=(by omega);have i2:(u:Int)<(np:Int):=(by omega);have i3:(0:Int)≤(i:Int):=(by omega);have i4:(i:Int)<(n:Int):=(by omega);have P2:∀ ob,(w.alloc ob).cell? ⟨b',off+u*5+2,none⟩=some (.slice fa fn fc):=fun ob=>(gr1 w ob).cell p2 (by simp);have P4:∀ ob,(w.alloc ob).cell? ⟨b',off+u*5+4,none⟩=some (.slice (some ⟨tb,toff,none⟩) n tc):=fun ob=>(gr1 w ob).cell p4 (by simp);clear p2;go_enter Tryz.func20,Tryz.ntmps20;go_wp2;all_goals go_ret
 all_goals refine⟨?_,gr1 _ _⟩
 all_goals(simp_all[okD];try omega)
set_option maxRecDepth 10000 in
theorem akx_ (a b c:Int) (l:List (Int×Nat)) (fn n i u:Nat) (psv:Value) (w:World) (hC:CdAt w psv u l fn n i ⟨10,a,b,c⟩) (hf:fn≤1000000000000) (hn:n≤1000000000000) (hu:u≤1000000000000) :
 Calls Tryz.prog 20 #[psv,.int .i64 u,.int .i64 i] w fun e w'=>e=.returned (.bool (okD l fn n i ⟨10,a,b,c⟩))∧w.grownBy w' none:=by
 obtain⟨⟨b',off,np,cap,fa,fc,tb,toff,tc,rfl,hun,p2,p4,hin,q0,q1,q2,q3,hll,hah⟩⟩:=hC;dsimp only at q0 q1 q2 q3;clear hah hll;have i1:(0:Int)≤(u:Int):=(by omega);have i2:(u:Int)<(np:Int):=(by omega);have i3:(0:Int)≤(i:Int):=(by omega);have i4:(i:Int)<(n:Int):=(by omega);have P2:∀ ob,(w.alloc ob).cell? ⟨b',off+u*5+2,none⟩=some (.slice fa fn fc):=fun ob=>(gr1 w ob).cell p2 (by simp);have P4:∀ ob,(w.alloc ob).cell? ⟨b',off+u*5+4,none⟩=some (.slice (some ⟨tb,toff,none⟩) n tc):=fun ob=>(gr1 w ob).cell p4 (by simp);clear p2;go_enter Tryz.func20,Tryz.ntmps20;go_wp2;all_goals go_ret
 all_goals refine⟨?_,gr1 _ _⟩
 all_goals(simp_all[okD];try omega)
set_option maxRecDepth 10000 in
theorem aky_ (a b c:Int) (l:List (Int×Nat)) (fn n i u:Nat) (psv:Value) (w:World) (hC:CdAt w psv u l fn n i ⟨15,a,b,c⟩) (hf:fn≤1000000000000) (hn:n≤1000000000000) (hu:u≤1000000000000) :
 Calls Tryz.prog 20 #[psv,.int .i64 u,.int .i64 i] w fun e w'=>e=.returned (.bool (okD l fn n i ⟨15,a,b,c⟩))∧w.grownBy w' none:=by
 obtain⟨⟨b',off,np,cap,fa,fc,tb,toff,tc,rfl,hun,p2,p4,hin,q0,q1,q2,q3,hll,hah⟩⟩:=hC;dsimp only at q0 q1 q2 q3;clear hah hll;have i1:(0:Int)≤(u:Int):=(by omega);have i2:(u:Int)<(np:Int):=(by omega);have i3:(0:Int)≤(i:Int):=(by omega);have i4:(i:Int)<(n:Int):=(by omega);have P2:∀ ob,(w.alloc ob).cell? ⟨b',off+u*5+2,none⟩=some (.slice fa fn fc):=fun ob=>(gr1 w ob).cell p2 (by simp);have P4:∀ ob,(w.alloc ob).cell? ⟨b',off+u*5+4,none⟩=some (.slice (some ⟨tb,toff,none⟩) n tc):=fun ob=>(gr1 w ob).cell p4 (by simp);clear p2;go_enter Tryz.func20,Tryz.ntmps20;go_wp2;all_goals go_ret
 all_goals refine⟨?_,gr1 _ _⟩
 all_goals(simp_all[okD];try omega)
set_option maxRecDepth 10000 in
theorem ant_ (a b c:Int) (l:List (Int×Nat)) (fn n i u:Nat) (psv:Value) (w:World) (hC:CdAt w psv u l fn n i ⟨2,a,b,c⟩) (hf:fn≤1000000000000) (hn:n≤1000000000000) (hu:u≤1000000000000) :
 Calls Tryz.prog 20 #[psv,.int .i64 u,.int .i64 i] w fun e w'=>e=.returned (.bool (okD l fn n i ⟨2,a,b,c⟩))∧w.grownBy w' none:=by
 obtain⟨⟨b',off,np,cap,fa,fc,tb,toff,tc,rfl,hun,p2,p4,hin,q0,q1,q2,q3,hll,hah⟩⟩:=hC;dsimp only at q0 q1 q2 q3;clear hah hll;have i1:(0:Int)≤(u:Int):=(by omega);have i2:(u:Int)<(np:Int):=(by omega);have i3:(0:Int)≤(i:Int):=(by omega);have i4:(i:Int)<(n:Int):=(by omega);have P2:∀ ob,(w.alloc ob).cell? ⟨b',off+u*5+2,none⟩=some (.slice fa fn fc):=fun ob=>(gr1 w ob).cell p2 (by simp);have P4:∀ ob,(w.alloc ob).cell? ⟨b',off+u*5+4,none⟩=some (.slice (some ⟨tb,toff,none⟩) n tc):=fun ob=>(gr1 w ob).cell p4 (by simp);clear p2;go_enter Tryz.func20,Tryz.ntmps20;go_wp2_with (go_at_call 35;refine(jz_ _ _ _ _ hf).mono ?_;rintro e w' ⟨rfl,rfl⟩)
 all_goals go_ret
 all_goals refine⟨?_,gr1 _ _⟩
 all_goals(simp_all[okD];try omega)
set_option maxRecDepth 10000 in
theorem anu_ (a b c:Int) (l:List (Int×Nat)) (fn n i u:Nat) (psv:Value) (w:World) (hC:CdAt w psv u l fn n i ⟨3,a,b,c⟩) (hf:fn≤1000000000000) (hn:n≤1000000000000) (hu:u≤1000000000000) :
 Calls Tryz.prog 20 #[psv,.int .i64 u,.int .i64 i] w fun e w'=>e=.returned (.bool (okD l fn n i ⟨3,a,b,c⟩))∧w.grownBy w' none:=by
 obtain⟨⟨b',off,np,cap,fa,fc,tb,toff,tc,rfl,hun,p2,p4,hin,q0,q1,q2,q3,hll,hah⟩⟩:=hC;dsimp only at q0 q1 q2 q3;clear hah hll;have i1:(0:Int)≤(u:Int):=(by omega);have i2:(u:Int)<(np:Int):=(by omega);have i3:(0:Int)≤(i:Int):=(by omega);have i4:(i:Int)<(n:Int):=(by omega);have P2:∀ ob,(w.alloc ob).cell? ⟨b',off+u*5+2,none⟩=some (.slice fa fn fc):=fun ob=>(gr1 w ob).cell p2 (by simp);have P4:∀ ob,(w.alloc ob).cell? ⟨b',off+u*5+4,none⟩=some (.slice (some ⟨tb,toff,none⟩) n tc):=fun ob=>(gr1 w ob).cell p4 (by simp);clear p2;go_enter Tryz.func20,Tryz.ntmps20;go_wp2_with (go_at_call 35;refine(jz_ _ _ _ _ hf).mono ?_;rintro e w' ⟨rfl,rfl⟩)
 all_goals go_ret
 all_goals refine⟨?_,gr1 _ _⟩
 all_goals(simp_all[okD];try omega)
set_option maxRecDepth 10000 in
theorem anv_ (a b c:Int) (l:List (Int×Nat)) (fn n i u:Nat) (psv:Value) (w:World) (hC:CdAt w psv u l fn n i ⟨6,a,b,c⟩) (hf:fn≤1000000000000) (hn:n≤1000000000000) (hu:u≤1000000000000) :
 Calls Tryz.prog 20 #[psv,.int .i64 u,.int .i64 i] w fun e w'=>e=.returned (.bool (okD l fn n i ⟨6,a,b,c⟩))∧w.grownBy w' none:=by
 obtain⟨⟨b',off,np,cap,fa,fc,tb,toff,tc,rfl,hun,p2,p4,hin,q0,q1,q2,q3,hll,hah⟩⟩:=hC;dsimp only at q0 q1 q2 q3;clear hah hll;have i1:(0:Int)≤(u:Int):=(by omega);have i2:(u:Int)<(np:Int):=(by omega);have i3:(0:Int)≤(i:Int):=(by omega);have i4:(i:Int)<(n:Int):=(by omega);have P2:∀ ob,(w.alloc ob).cell? ⟨b',off+u*5+2,none⟩=some (.slice fa fn fc):=fun ob=>(gr1 w ob).cell p2 (by simp);have P4:∀ ob,(w.alloc ob).cell? ⟨b',off+u*5+4,none⟩=some (.slice (some ⟨tb,toff,none⟩) n tc):=fun ob=>(gr1 w ob).cell p4 (by simp);clear p2;go_enter Tryz.func20,Tryz.ntmps20;go_wp2_with (go_at_call 37;refine(xw_ _ _ _).mono ?_;rintro e w' ⟨rfl,rfl⟩)
 all_goals go_ret
 all_goals refine⟨?_,gr1 _ _⟩
 all_goals(simp_all[okD];try omega)
set_option maxRecDepth 10000 in
theorem akz_ (a b c:Int) (l:List (Int×Nat)) (fn n i u:Nat) (psv:Value) (w:World) (hC:CdAt w psv u l fn n i ⟨13,a,b,c⟩) (hf:fn≤1000000000000) (hn:n≤1000000000000) (hu:u≤1000000000000) :
 Calls Tryz.prog 20 #[psv,.int .i64 u,.int .i64 i] w fun e w'=>e=.returned (.bool (okD l fn n i ⟨13,a,b,c⟩))∧w.grownBy w' none:=by
 obtain⟨⟨b',off,np,cap,fa,fc,tb,toff,tc,rfl,hun,p2,p4,hin,q0,q1,q2,q3,hll,hah⟩⟩:=hC;dsimp only at q0 q1 q2 q3;clear hah hll;have i1:(0:Int)≤(u:Int):=(by omega);have i2:(u:Int)<(np:Int):=(by omega);have i3:(0:Int)≤(i:Int):=(by omega);have i4:(i:Int)<(n:Int):=(by omega);have P2:∀ ob,(w.alloc ob).cell? ⟨b',off+u*5+2,none⟩=some (.slice fa fn fc):=fun ob=>(gr1 w ob).cell p2 (by simp);have P4:∀ ob,(w.alloc ob).cell? ⟨b',off+u*5+4,none⟩=some (.slice (some ⟨tb,toff,none⟩) n tc):=fun ob=>(gr1 w ob).cell p4 (by simp);clear p2;go_enter Tryz.func20,Tryz.ntmps20;go_wp2;all_goals go_ret
 all_goals refine⟨?_,gr1 _ _⟩
 all_goals(simp_all[okD];try omega)
set_option maxRecDepth 10000 in
theorem ak0_ (a b c:Int) (l:List (Int×Nat)) (fn n i u:Nat) (psv:Value) (w:World) (hC:CdAt w psv u l fn n i ⟨14,a,b,c⟩) (hf:fn≤1000000000000) (hn:n≤1000000000000) (hu:u≤1000000000000) :
 Calls Tryz.prog 20 #[psv,.int .i64 u,.int .i64 i] w fun e w'=>e=.returned (.bool (okD l fn n i ⟨14,a,b,c⟩))∧w.grownBy w' none:=by
 obtain⟨⟨b',off,np,cap,fa,fc,tb,toff,tc,rfl,hun,p2,p4,hin,q0,q1,q2,q3,hll,hah⟩⟩:=hC;dsimp only at q0 q1 q2 q3;clear hah hll;have i1:(0:Int)≤(u:Int):=(by omega);have i2:(u:Int)<(np:Int):=(by omega);have i3:(0:Int)≤(i:Int):=(by omega);have i4:(i:Int)<(n:Int):=(by omega);have P2:∀ ob,(w.alloc ob).cell? ⟨b',off+u*5+2,none⟩=some (.slice fa fn fc):=fun ob=>(gr1 w ob).cell p2 (by simp);have P4:∀ ob,(w.alloc ob).cell? ⟨b',off+u*5+4,none⟩=some (.slice (some ⟨tb,toff,none⟩) n tc):=fun ob=>(gr1 w ob).cell p4 (by simp);clear p2;go_enter Tryz.func20,Tryz.ntmps20;go_wp2;all_goals go_ret
 all_goals refine⟨?_,gr1 _ _⟩
 all_goals(simp_all[okD];try omega)
set_option maxRecDepth 10000 in
theorem ak1_ (a b c:Int) (l:List (Int×Nat)) (fn n i u:Nat) (psv:Value) (w:World) (hC:CdAt w psv u l fn n i ⟨16,a,b,c⟩) (hf:fn≤1000000000000) (hn:n≤1000000000000) (hu:u≤1000000000000) :
 Calls Tryz.prog 20 #[psv,.int .i64 u,.int .i64 i] w fun e w'=>e=.returned (.bool (okD l fn n i ⟨16,a,b,c⟩))∧w.grownBy w' none:=by
 obtain⟨⟨b',off,np,cap,fa,fc,tb,toff,tc,rfl,hun,p2,p4,hin,q0,q1,q2,q3,hll,hah⟩⟩:=hC;dsimp only at q0 q1 q2 q3;clear hah hll;have i1:(0:Int)≤(u:Int):=(by omega);have i2:(u:Int)<(np:Int):=(by omega);have i3:(0:Int)≤(i:Int):=(by omega);have i4:(i:Int)<(n:Int):=(by omega);have P2:∀ ob,(w.alloc ob).cell? ⟨b',off+u*5+2,none⟩=some (.slice fa fn fc):=fun ob=>(gr1 w ob).cell p2 (by simp);have P4:∀ ob,(w.alloc ob).cell? ⟨b',off+u*5+4,none⟩=some (.slice (some ⟨tb,toff,none⟩) n tc):=fun ob=>(gr1 w ob).cell p4 (by simp);clear p2;go_enter Tryz.func20,Tryz.ntmps20;go_wp2_with (go_at_call 35;refine(jz_ _ _ _ _ hf).mono ?_;rintro e w' ⟨rfl,rfl⟩)
 all_goals go_ret
 all_goals refine⟨?_,gr1 _ _⟩
 all_goals(simp_all[okD];try omega)
set_option maxRecDepth 10000 in
theorem anw_ (a b c:Int) (l:List (Int×Nat)) (fn n i u:Nat) (psv:Value) (w:World) (hC:CdAt w psv u l fn n i ⟨4,a,b,c⟩) (hf:fn≤1000000000000) (hn:n≤1000000000000) (hu:u≤1000000000000) :
 Calls Tryz.prog 20 #[psv,.int .i64 u,.int .i64 i] w fun e w'=>e=.returned (.bool (okD l fn n i ⟨4,a,b,c⟩))∧w.grownBy w' none:=by
 obtain⟨⟨b',off,np,cap,fa,fc,tb,toff,tc,rfl,hun,p2,p4,hin,q0,q1,q2,q3,hll,hah⟩⟩:=hC;dsimp only at q0 q1 q2 q3;clear hah hll;have i1:(0:Int)≤(u:Int):=(by omega);have i2:(u:Int)<(np:Int):=(by omega);have i3:(0:Int)≤(i:Int):=(by omega);have i4:(i:Int)<(n:Int):=(by omega);have P2:∀ ob,(w.alloc ob).cell? ⟨b',off+u*5+2,none⟩=some (.slice fa fn fc):=fun ob=>(gr1 w ob).cell p2 (by simp);have P4:∀ ob,(w.alloc ob).cell? ⟨b',off+u*5+4,none⟩=some (.slice (some ⟨tb,toff,none⟩) n tc):=fun ob=>(gr1 w ob).cell p4 (by simp);clear p2;go_enter Tryz.func20,Tryz.ntmps20;go_wp2_with (first|(go_at_call 35;refine(jz_ _ _ _ _ hf).mono ?_;rintro e w' ⟨rfl,rfl⟩)|(go_at_call 36;refine(ab6_ _ _).mono ?_;rintro e w' ⟨rfl,rfl⟩))
 all_goals go_ret
 all_goals refine⟨?_,gr1 _ _⟩
 all_goals(simp_all[okD];try omega)
set_option maxRecDepth 10000 in
theorem anx_ (a b c:Int) (l:List (Int×Nat)) (fn n i u:Nat) (psv:Value) (w:World) (hC:CdAt w psv u l fn n i ⟨5,a,b,c⟩) (hf:fn≤1000000000000) (hn:n≤1000000000000) (hu:u≤1000000000000) :
 Calls Tryz.prog 20 #[psv,.int .i64 u,.int .i64 i] w fun e w'=>e=.returned (.bool (okD l fn n i ⟨5,a,b,c⟩))∧w.grownBy w' none:=by
 obtain⟨⟨b',off,np,cap,fa,fc,tb,toff,tc,rfl,hun,p2,p4,hin,q0,q1,q2,q3,hll,hah⟩⟩:=hC;dsimp only at q0 q1 q2 q3;clear hah hll;have i1:(0:Int)≤(u:Int):=(by omega);have i2:(u:Int)<(np:Int):=(by omega);have i3:(0:Int)≤(i:Int):=(by omega);have i4:(i:Int)<(n:Int):=(by omega);have P2:∀ ob,(w.alloc ob).cell? ⟨b',off+u*5+2,none⟩=some (.slice fa fn fc):=fun ob=>(gr1 w ob).cell p2 (by simp);have P4:∀ ob,(w.alloc ob).cell? ⟨b',off+u*5+4,none⟩=some (.slice (some ⟨tb,toff,none⟩) n tc):=fun ob=>(gr1 w ob).cell p4 (by simp);clear p2;go_enter Tryz.func20,Tryz.ntmps20;go_wp2_with (first|(go_at_call 35;refine(jz_ _ _ _ _ hf).mono ?_;rintro e w' ⟨rfl,rfl⟩)|(go_at_call 36;refine(ab6_ _ _).mono ?_;rintro e w' ⟨rfl,rfl⟩))
 all_goals go_ret
 all_goals refine⟨?_,gr1 _ _⟩
 all_goals(simp_all[okD];try omega)
set_option maxRecDepth 10000 in
theorem any_ (a b c:Int) (l:List (Int×Nat)) (fn n i u:Nat) (psv:Value) (w:World) (hC:CdAt w psv u l fn n i ⟨7,a,b,c⟩) (hf:fn≤1000000000000) (hn:n≤1000000000000) (hu:u≤1000000000000) :
 Calls Tryz.prog 20 #[psv,.int .i64 u,.int .i64 i] w fun e w'=>e=.returned (.bool (okD l fn n i ⟨7,a,b,c⟩))∧w.grownBy w' none:=by
 obtain⟨⟨b',off,np,cap,fa,fc,tb,toff,tc,rfl,hun,p2,p4,hin,q0,q1,q2,q3,hll,hah⟩⟩:=hC;dsimp only at q0 q1 q2 q3;clear hah hll;have i1:(0:Int)≤(u:Int):=(by omega);have i2:(u:Int)<(np:Int):=(by omega);have i3:(0:Int)≤(i:Int):=(by omega);have i4:(i:Int)<(n:Int):=(by omega);have P2:∀ ob,(w.alloc ob).cell? ⟨b',off+u*5+2,none⟩=some (.slice fa fn fc):=fun ob=>(gr1 w ob).cell p2 (by simp);have P4:∀ ob,(w.alloc ob).cell? ⟨b',off+u*5+4,none⟩=some (.slice (some ⟨tb,toff,none⟩) n tc):=fun ob=>(gr1 w ob).cell p4 (by simp);clear p2;go_enter Tryz.func20,Tryz.ntmps20;go_wp2_with (go_at_call 38;refine(ajy_ _ _).mono ?_;rintro e w' ⟨rfl,rfl⟩)
 all_goals go_ret
 all_goals refine⟨?_,gr1 _ _⟩
 all_goals(simp_all[okD];try omega)
end Go.Proofs.YtcgbfhpmkpglkaaGreatDoor
