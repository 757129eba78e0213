/- Texts put together: A2, A3, A3r, A3s, A4, L1, F1, V3. -/
import Derived.Test.YtcgbfhpmkpglkaaGreatDoorQ07
import Derived.Deep.RegionWith
set_option linter.unusedVariables false
set_option linter.unusedSimpArgs false
set_option maxHeartbeats 8000000
namespace Go.Proofs.YtcgbfhpmkpglkaaGreatDoor
open Go.RowKit
attribute [local go_sem ↓] Go.wp_at_zero Go.wp_at_succ
def xv_ (l:List (Int×Nat)) (fn n i:Nat) (x:Ins):Bool:=
 if x.d=2∨x.d=3 then y3_ fn x.a 1
 else if x.d=4∨x.d=5 then decide (0<x.b) && y3_ fn x.a x.b && isW x.c (-4294967295) 4294967295
 else if x.d=16 then decide (0<x.b) && y3_ fn x.a x.b
 else if x.d=6 then yd_ x.a x.b != 0
 else if x.d=7 then isK x.a && isK x.b && x.a != x.b
 else if x.d=11∨x.d=12 then isW x.a ((i:Int)+1) n
 else if x.d=13 then isW x.a 0 39 && isW x.b 1 10000
 else if x.d=17 then z3_ l x.a && y3_ fn x.b (l.getD x.a.toNat (0,0)).2
 else if x.d=18 then isW x.a 1 12 && y3_ fn x.b (yk_ x.a)
 else true
structure Ov (w:World) (o:Nat) (l:List (Int×Nat)) (fn n:Nat):Prop where
 ahead:∃ av,w.cell? ⟨o,0,none⟩=some av∧AhAt w av l
 proc:∃ pb po fa fc ta tc,w.cell? ⟨o,2,none⟩=some (.pointer (some ⟨pb,po,none⟩))∧w.cell? ⟨pb,po+2,none⟩=some (.slice fa fn fc)∧w.cell? ⟨pb,po+4,none⟩=some (.slice ta n tc)
theorem Ov.grown {w w':World} {o:Nat} {l:List (Int×Nat)} {fn n:Nat} (h:Ov w o l fn n) (hg:w.grownBy w' none):Ov w' o l fn n:=by
 obtain⟨⟨av,a1,a2⟩,pb,po,fa,fc,ta,tc,p1,p2,p3⟩:=h;exact⟨⟨av,hg.cell a1 (by simp),a2.grown hg⟩,pb,po,fa,fc,ta,tc,hg.cell p1 (by simp),hg.cell p2 (by simp),hg.cell p3 (by simp)⟩
theorem zk_ {w:World} {o:Nat} {l:List (Int×Nat)} {fn n:Nat} (h:Ov w o l fn n) (at' k:Int) (hk:0≤k) (hf:fn≤1000000000000) :
 Calls Tryz.prog 88 #[.pointer (some ⟨o,0,none⟩),.int .i64 at',.int .i64 k] w fun e w'=>e=.returned (.bool (y3_ fn at' k))∧w=w':=by
 obtain⟨pb,po,fa,fc,ta,tc,p1,p2,p3⟩:=h.proc;exact afw_ o pb po fn fc fa at' k w p1 p2 hk hf
theorem ad4_ {w:World} {o:Nat} {l:List (Int×Nat)} {fn n:Nat} (h:Ov w o l fn n) (k:Int) (hl:l.length≤1000000000000) :
 Calls Tryz.prog 90 #[.pointer (some ⟨o,0,none⟩),.int .i64 k] w fun e w'=>e=.returned (.bool (z3_ l k))∧w=w':=by
 obtain⟨av,a1,a2⟩:=h.ahead;exact ahx_ o av l k w a1 a2 hl
theorem ah4_ (d a b c:Int) (hd:d=2∨d=3) (l:List (Int×Nat)) (fn n i o:Nat) (w:World) (hO:Ov w o l fn n) (hf:fn≤1000000000000) (hl:l.length≤1000000000000) (hi:i≤1000000000000) (hn:n≤1000000000000) :
 Calls Tryz.prog 75 #[.pointer (some ⟨o,0,none⟩),.int .i64 i,.agg #[.int .i64 d,.int .i64 a,.int .i64 b,.int .i64 c]] w fun e w'=>e=.returned (.bool (xv_ l fn n i ⟨d,a,b,c⟩))∧w.grownBy w' none:=by
 have HO:∀ ob,Ov (w.alloc ob) o l fn n:=fun ob=>hO.grown (gr1 _ _);have HH:Hid (∀ ob,Ov (w.alloc ob) o l fn n):=HO;clear hO HO;rcases hd with rfl|rfl
 · go_enter Tryz.func75,Tryz.ntmps75;go_wp2_with (go_at_call 88;refine(zk_ (HH.out _) _ _ (by omega) hf).mono ?_;rintro e w' ⟨rfl,rfl⟩)
   go_ret;exact⟨rfl,gr1 _ _⟩
 · go_enter Tryz.func75,Tryz.ntmps75;go_wp2_with (go_at_call 88;refine(zk_ (HH.out _) _ _ (by omega) hf).mono ?_;rintro e w' ⟨rfl,rfl⟩)
   go_ret;exact⟨rfl,gr1 _ _⟩
theorem aek_ (d a b c:Int) (hd:d=4∨d=5) (l:List (Int×Nat)) (fn n i o:Nat) (w:World) (hO:Ov w o l fn n) (hf:fn≤1000000000000) (hl:l.length≤1000000000000) (hi:i≤1000000000000) (hn:n≤1000000000000) :
 Calls Tryz.prog 75 #[.pointer (some ⟨o,0,none⟩),.int .i64 i,.agg #[.int .i64 d,.int .i64 a,.int .i64 b,.int .i64 c]] w fun e w'=>e=.returned (.bool (xv_ l fn n i ⟨d,a,b,c⟩))∧w.grownBy w' none:=by
 have HO:∀ ob,Ov (w.alloc ob) o l fn n:=fun ob=>hO.grown (gr1 _ _);have HH:Hid (∀ ob,Ov (w.alloc ob) o l fn n):=HO;clear hO HO;rcases hd with rfl|rfl
 · by_cases hb:0<b
   · by_cases hh:y3_ fn a b=true
     · go_enter Tryz.func75,Tryz.ntmps75;go_wp2_with (first|(go_at_call 88;refine(zk_ (HH.out _) _ _ (by omega) hf).mono ?_;rintro e w' ⟨rfl,rfl⟩)|(go_at_call 70;refine(yf_ _ _ _ _).mono ?_;rintro e w' ⟨rfl,rfl⟩))
       go_ret;exact⟨xr_ (by show _=(decide (0<b) && y3_ fn a b && isW c (-4294967295) 4294967295);simp[hb,hh]),gr1 _ _⟩
     · have hh':y3_ fn a b=false:=(by simpa using hh);go_enter Tryz.func75,Tryz.ntmps75;go_wp2_with (first|(go_at_call 88;refine(zk_ (HH.out _) _ _ (by omega) hf).mono ?_;rintro e w' ⟨rfl,rfl⟩)|(go_at_call 70;refine(yf_ _ _ _ _).mono ?_;rintro e w' ⟨rfl,rfl⟩))
       go_ret;exact⟨xr_ (by show _=(decide (0<b) && y3_ fn a b && isW c (-4294967295) 4294967295);simp[hb,hh']),gr1 _ _⟩
   · go_enter Tryz.func75,Tryz.ntmps75;go_wp2_with (first|(go_at_call 88;refine(zk_ (HH.out _) _ _ (by omega) hf).mono ?_;rintro e w' ⟨rfl,rfl⟩)|(go_at_call 70;refine(yf_ _ _ _ _).mono ?_;rintro e w' ⟨rfl,rfl⟩))
     go_ret;exact⟨xr_ (by show false=(decide (0<b) && y3_ fn a b && isW c (-4294967295) 4294967295);rw[decide_eq_false (by omega:¬0<b)];rfl),gr1 _ _⟩
 · by_cases hb:0<b
   · by_cases hh:y3_ fn a b=true
     · go_enter Tryz.func75,Tryz.ntmps75;go_wp2_with (first|(go_at_call 88;refine(zk_ (HH.out _) _ _ (by omega) hf).mono ?_;rintro e w' ⟨rfl,rfl⟩)|(go_at_call 70;refine(yf_ _ _ _ _).mono ?_;rintro e w' ⟨rfl,rfl⟩))
       go_ret;exact⟨xr_ (by show _=(decide (0<b) && y3_ fn a b && isW c (-4294967295) 4294967295);simp[hb,hh]),gr1 _ _⟩
     · have hh':y3_ fn a b=false:=(by simpa using hh);go_enter Tryz.func75,Tryz.ntmps75;go_wp2_with (first|(go_at_call 88;refine(zk_ (HH.out _) _ _ (by omega) hf).mono ?_;rintro e w' ⟨rfl,rfl⟩)|(go_at_call 70;refine(yf_ _ _ _ _).mono ?_;rintro e w' ⟨rfl,rfl⟩))
       go_ret;exact⟨xr_ (by show _=(decide (0<b) && y3_ fn a b && isW c (-4294967295) 4294967295);simp[hb,hh']),gr1 _ _⟩
   · go_enter Tryz.func75,Tryz.ntmps75;go_wp2_with (first|(go_at_call 88;refine(zk_ (HH.out _) _ _ (by omega) hf).mono ?_;rintro e w' ⟨rfl,rfl⟩)|(go_at_call 70;refine(yf_ _ _ _ _).mono ?_;rintro e w' ⟨rfl,rfl⟩))
     go_ret;exact⟨xr_ (by show false=(decide (0<b) && y3_ fn a b && isW c (-4294967295) 4294967295);rw[decide_eq_false (by omega:¬0<b)];rfl),gr1 _ _⟩
theorem ah5_ (d a b c:Int) (hd:d=16) (l:List (Int×Nat)) (fn n i o:Nat) (w:World) (hO:Ov w o l fn n) (hf:fn≤1000000000000) (hl:l.length≤1000000000000) (hi:i≤1000000000000) (hn:n≤1000000000000) :
 Calls Tryz.prog 75 #[.pointer (some ⟨o,0,none⟩),.int .i64 i,.agg #[.int .i64 d,.int .i64 a,.int .i64 b,.int .i64 c]] w fun e w'=>e=.returned (.bool (xv_ l fn n i ⟨d,a,b,c⟩))∧w.grownBy w' none:=by
 have HO:∀ ob,Ov (w.alloc ob) o l fn n:=fun ob=>hO.grown (gr1 _ _);have HH:Hid (∀ ob,Ov (w.alloc ob) o l fn n):=HO;clear hO HO;subst hd;by_cases hb:0<b
 · go_enter Tryz.func75,Tryz.ntmps75;go_wp2_with (go_at_call 88;refine(zk_ (HH.out _) _ _ (by omega) hf).mono ?_;rintro e w' ⟨rfl,rfl⟩)
   go_ret;exact⟨xr_ (by show _=(decide (0<b) && y3_ fn a b);simp[hb]),gr1 _ _⟩
 · go_enter Tryz.func75,Tryz.ntmps75;go_wp2_with (go_at_call 88;refine(zk_ (HH.out _) _ _ (by omega) hf).mono ?_;rintro e w' ⟨rfl,rfl⟩)
   go_ret;exact⟨xr_ (by show false=(decide (0<b) && y3_ fn a b);rw[decide_eq_false (by omega:¬0<b)];rfl),gr1 _ _⟩
theorem ah6_ (d a b c:Int) (hd:d=6) (l:List (Int×Nat)) (fn n i o:Nat) (w:World) (hO:Ov w o l fn n) (hf:fn≤1000000000000) (hl:l.length≤1000000000000) (hi:i≤1000000000000) (hn:n≤1000000000000) :
 Calls Tryz.prog 75 #[.pointer (some ⟨o,0,none⟩),.int .i64 i,.agg #[.int .i64 d,.int .i64 a,.int .i64 b,.int .i64 c]] w fun e w'=>e=.returned (.bool (xv_ l fn n i ⟨d,a,b,c⟩))∧w.grownBy w' none:=by
 have HO:∀ ob,Ov (w.alloc ob) o l fn n:=fun ob=>hO.grown (gr1 _ _);have HH:Hid (∀ ob,Ov (w.alloc ob) o l fn n):=HO;clear hO HO;subst hd;go_enter Tryz.func75,Tryz.ntmps75;go_wp2_with (go_at_call 83;refine(u1_ _ _ _).mono ?_;rintro e w' ⟨rfl,rfl⟩)
 go_ret;exact⟨rfl,gr1 _ _⟩
theorem ah7_ (d a b c:Int) (hd:d=7) (l:List (Int×Nat)) (fn n i o:Nat) (w:World) (hO:Ov w o l fn n) (hf:fn≤1000000000000) (hl:l.length≤1000000000000) (hi:i≤1000000000000) (hn:n≤1000000000000) :
 Calls Tryz.prog 75 #[.pointer (some ⟨o,0,none⟩),.int .i64 i,.agg #[.int .i64 d,.int .i64 a,.int .i64 b,.int .i64 c]] w fun e w'=>e=.returned (.bool (xv_ l fn n i ⟨d,a,b,c⟩))∧w.grownBy w' none:=by
 have HO:∀ ob,Ov (w.alloc ob) o l fn n:=fun ob=>hO.grown (gr1 _ _);have HH:Hid (∀ ob,Ov (w.alloc ob) o l fn n):=HO;clear hO HO;subst hd;by_cases ha:isK a=true
 · by_cases hb:isK b=true
   · go_enter Tryz.func75,Tryz.ntmps75;go_wp2_with (go_at_call 89;refine(abo_ _ _).mono ?_;rintro e w' ⟨rfl,rfl⟩)
     go_ret;exact⟨xr_ (by show _=(isK a && isK b && a != b);simp[ha,hb]),gr1 _ _⟩
   · have hb':isK b=false:=(by simpa using hb);go_enter Tryz.func75,Tryz.ntmps75;go_wp2_with (go_at_call 89;refine(abo_ _ _).mono ?_;rintro e w' ⟨rfl,rfl⟩)
     go_ret;exact⟨xr_ (by show _=(isK a && isK b && a != b);simp[ha,hb']),gr1 _ _⟩
 · have ha':isK a=false:=(by simpa using ha);go_enter Tryz.func75,Tryz.ntmps75;go_wp2_with (go_at_call 89;refine(abo_ _ _).mono ?_;rintro e w' ⟨rfl,rfl⟩)
   go_ret;exact⟨xr_ (by show _=(isK a && isK b && a != b);simp[ha']),gr1 _ _⟩
theorem af0_ (d a b c:Int) (hd:d=13) (l:List (Int×Nat)) (fn n i o:Nat) (w:World) (hO:Ov w o l fn n) (hf:fn≤1000000000000) (hl:l.length≤1000000000000) (hi:i≤1000000000000) (hn:n≤1000000000000) :
 Calls Tryz.prog 75 #[.pointer (some ⟨o,0,none⟩),.int .i64 i,.agg #[.int .i64 d,.int .i64 a,.int .i64 b,.int .i64 c]] w fun e w'=>e=.returned (.bool (xv_ l fn n i ⟨d,a,b,c⟩))∧w.grownBy w' none:=by
 have HO:∀ ob,Ov (w.alloc ob) o l fn n:=fun ob=>hO.grown (gr1 _ _);have HH:Hid (∀ ob,Ov (w.alloc ob) o l fn n):=HO;clear hO HO;subst hd;by_cases ha:isW a 0 39=true
 · go_enter Tryz.func75,Tryz.ntmps75;go_wp2_with (go_at_call 70;refine(yf_ _ _ _ _).mono ?_;rintro e w' ⟨rfl,rfl⟩)
   go_ret;exact⟨xr_ (by show _=(isW a 0 39 && isW b 1 10000);simp[ha]),gr1 _ _⟩
 · have ha':isW a 0 39=false:=(by simpa using ha);go_enter Tryz.func75,Tryz.ntmps75;go_wp2_with (go_at_call 70;refine(yf_ _ _ _ _).mono ?_;rintro e w' ⟨rfl,rfl⟩)
   go_ret;exact⟨xr_ (by show _=(isW a 0 39 && isW b 1 10000);simp[ha']),gr1 _ _⟩
theorem ah8_ (d a b c:Int) (h1:(d==2)=false) (h2:(d==3)=false) (h3:(d==4)=false) (h4:(d==5)=false) (h5:(d==6)=false) (h6:(d==7)=false) (h7:(d==11)=false) (h8:(d==12)=false) (h9:(d==13)=false) (h10:(d==16)=false) (h11:(d==17)=false) (h12:(d==18)=false) (l:List (Int×Nat)) (fn n i o:Nat) (w:World) (hO:Ov w o l fn n) (hf:fn≤1000000000000) (hl:l.length≤1000000000000) (hi:i≤1000000000000) (hn:n≤1000000000000) :
 Calls Tryz.prog 75 #[.pointer (some ⟨o,0,none⟩),.int .i64 i,.agg #[.int .i64 d,.int .i64 a,.int .i64 b,.int .i64 c]] w fun e w'=>e=.returned (.bool (xv_ l fn n i ⟨d,a,b,c⟩))∧w.grownBy w' none:=by
 have HO:∀ ob,Ov (w.alloc ob) o l fn n:=fun ob=>hO.grown (gr1 _ _);have HH:Hid (∀ ob,Ov (w.alloc ob) o l fn n):=HO;clear hO HO;have HU:=hd_ (by unfold xv_;simp_all:xv_ l fn n i ⟨d,a,b,c⟩=true);go_enter Tryz.func75,Tryz.ntmps75;go_wp2;go_ret;exact⟨xr_ (by rw[HU.out]),gr1 _ _⟩
theorem ah9_ (d a b c:Int) (hd:d=11∨d=12) (l:List (Int×Nat)) (fn n i o:Nat) (w:World) (hO:Ov w o l fn n) (hf:fn≤1000000000000) (hl:l.length≤1000000000000) (hi:i≤1000000000000) (hn:n≤1000000000000) :
 Calls Tryz.prog 75 #[.pointer (some ⟨o,0,none⟩),.int .i64 i,.agg #[.int .i64 d,.int .i64 a,.int .i64 b,.int .i64 c]] w fun e w'=>e=.returned (.bool (xv_ l fn n i ⟨d,a,b,c⟩))∧w.grownBy w' none:=by
 have HO:∀ ob,Ov (w.alloc ob) o l fn n:=fun ob=>hO.grown (gr1 _ _);have HH:Hid (∀ ob,Ov (w.alloc ob) o l fn n):=HO;clear hO HO;rcases hd with rfl|rfl
 · obtain⟨pb,po,fa,fc,ta,tc,p1,p2,p3⟩:=(HH.out (.cells #[.int .i64 11,.int .i64 a,.int .i64 b,.int .i64 c] 40)).proc;have ew:wrap64 ((i:Int)+1)=(i:Int)+1:=(by unfold wrap64;omega);go_enter Tryz.func75,Tryz.ntmps75;go_wp2;go_quiet (first|(go_at_call 70;exact Calls.quiet_of_same ((yf_ _ _ _ _).mono fun _ _ h=>⟨h.1,h.2.symm⟩)))
   go_wp2;go_ret;refine⟨?_,x4_ (gr1 _ _) _⟩;simp[xv_,ew,IntWalk.i64_left]
 · obtain⟨pb,po,fa,fc,ta,tc,p1,p2,p3⟩:=(HH.out (.cells #[.int .i64 12,.int .i64 a,.int .i64 b,.int .i64 c] 40)).proc;have ew:wrap64 ((i:Int)+1)=(i:Int)+1:=(by unfold wrap64;omega);go_enter Tryz.func75,Tryz.ntmps75;go_wp2;go_quiet (first|(go_at_call 70;exact Calls.quiet_of_same ((yf_ _ _ _ _).mono fun _ _ h=>⟨h.1,h.2.symm⟩)))
   go_wp2;go_ret;refine⟨?_,x4_ (gr1 _ _) _⟩;simp[xv_,ew,IntWalk.i64_left]
theorem ajz_ (d a b c:Int) (hd:d=17) (l:List (Int×Nat)) (fn n i o:Nat) (w:World) (hO:Ov w o l fn n) (hf:fn≤1000000000000) (hl:l.length≤1000000000000) (hi:i≤1000000000000) (hn:n≤1000000000000) :
 Calls Tryz.prog 75 #[.pointer (some ⟨o,0,none⟩),.int .i64 i,.agg #[.int .i64 d,.int .i64 a,.int .i64 b,.int .i64 c]] w fun e w'=>e=.returned (.bool (xv_ l fn n i ⟨d,a,b,c⟩))∧w.grownBy w' none:=by
 have HO:∀ ob,Ov (w.alloc ob) o l fn n:=fun ob=>hO.grown (gr1 _ _);have HH:Hid (∀ ob,Ov (w.alloc ob) o l fn n):=HO;clear hO HO;subst hd;by_cases hc:z3_ l a=true
 · have hw:0≤a∧a≤(l.length:Int) - 1:=(by simp[z3_,isW] at hc;exact hc.1);obtain⟨k,rfl⟩:=Int.eq_ofNat_of_zero_le hw.1;obtain⟨av,a1,q,cap,rfl,a2⟩:=(HH.out (.cells #[.int .i64 17,.int .i64 k,.int .i64 b,.int .i64 c] 40)).ahead;rcases a2 with h3|⟨b',off,rfl,hcc⟩
   ·subst h3;simp at hw;omega
   obtain⟨c1,fa,fc,c2⟩:=hcc k (by omega);have i1:(0:Int)≤(k:Int):=(by omega);have i2:(k:Int)<(l.length:Int):=(by omega);have HV:=hd_ (by simp[xv_,hc]:xv_ l fn n i ⟨17,k,b,c⟩=y3_ fn b (l.getD k (0,0)).2);rw[HV.out];generalize(l.getD k (0,0)).2=m at *;clear hcc c1;go_enter Tryz.func75,Tryz.ntmps75;go_wp2;go_quiet (first|(go_at_call 90;exact Calls.quiet_of_same ((ad4_ ((HH.out _).grown (x4_ gz_ _)) _ hl).mono fun _ _ h=>⟨h.1.trans (xr_ hc),h.2.symm⟩))|(go_at_call 88;exact Calls.quiet_of_same ((zk_ ((HH.out _).grown (x4_ gz_ _)) _ _ (by omega) hf).mono fun _ _ h=>⟨h.1,h.2.symm⟩)))
   go_wp2;go_ret;refine⟨?_,x4_ (gr1 _ _) _⟩;simp
 · have hc':z3_ l a=false:=(by simpa using hc);have HV:=hd_ (by simp[xv_,hc']:xv_ l fn n i ⟨17,a,b,c⟩=false);rw[HV.out];go_enter Tryz.func75,Tryz.ntmps75;go_wp2;go_quiet (first|(go_at_call 90;exact Calls.quiet_of_same ((ad4_ ((HH.out _).grown (x4_ gz_ _)) _ hl).mono fun _ _ h=>⟨h.1.trans (xr_ hc'),h.2.symm⟩)))
   go_wp2;go_ret;refine⟨?_,x4_ (gr1 _ _) _⟩;simp
set_option maxRecDepth 10000 in
theorem aj0_ (d a b c:Int) (hd:d=18) (l:List (Int×Nat)) (fn n i o:Nat) (w:World) (hO:Ov w o l fn n) (hf:fn≤1000000000000) (hl:l.length≤1000000000000) (hi:i≤1000000000000) (hn:n≤1000000000000) (hS:Stds w) :
 Calls Tryz.prog 75 #[.pointer (some ⟨o,0,none⟩),.int .i64 i,.agg #[.int .i64 d,.int .i64 a,.int .i64 b,.int .i64 c]] w fun e w'=>e=.returned (.bool (xv_ l fn n i ⟨d,a,b,c⟩))∧w.grownBy w' none:=by
 have HO:∀ ob,Ov (w.alloc ob) o l fn n:=fun ob=>hO.grown (gr1 _ _);have HH:Hid (∀ ob,Ov (w.alloc ob) o l fn n):=HO;clear hO HO;subst hd;by_cases hc:isW a 1 12=true
 · have hw:1≤a∧a≤12:=(by simpa[isW] using hc);have HS:Hid (∀ ob,Stds (w.alloc ob)):=fun ob=>hS.grown (gr1 _ _);have hfld:∀(nm:ByteArray) (ki ko m:Int) (w:World),Sem.run Tryz.prog (Instr.field 119 (.agg #[.string nm,.int .i64 ki,.int .i64 ko,.int .i64 m]) 3) w=.ok (.int .i64 m) w:=fun _ _ _ _ _=>by kernel_rfl
   have HV:=hd_ (by simp[xv_,hc]:xv_ l fn n i ⟨18,a,b,c⟩=y3_ fn b (yk_ a));have hp:0≤yk_ a:=(by unfold yk_;repeat' split;all_goals omega);rw[HV.out];clear hS;generalize hm:yk_ a=m at *;go_enter Tryz.func75,Tryz.ntmps75;go_wp2;go_region_held3 (fun w'=>w'.cell? ⟨w.heap.size,1,none⟩=some (.int .i64 a)∧w'.cell? ⟨w.heap.size,2,none⟩=some (.int .i64 b)∧w.grownBy w' none∧Ov w' o l fn n∧Stds w') (refine⟨?_,?_,?_,?_,?_⟩ <;> first|assumption|(refine hg1.cell ?_ (by simp);go_keep;done)|exact((HH.out _).grown (xf_ gz_)).grown hg1|exact((HS.out _).grown (xf_ gz_)).grown hg1|exact(xf_ (gr1 _ _)).trans hg1|exact xf_ (gr1 _ _)|exact(HH.out _).grown (xf_ gz_)|exact(HS.out _).grown (xf_ gz_)|(go_keep;done)) (first|(go_at_call 70;refine(yf_ _ _ _ _).mono ?_;rintro e w' ⟨rfl,rfl⟩;rw[hc])|(go_at_call 72;refine(arz_ _ _ ((HS.out _).grown (xf_ gz_)) hw.1 hw.2).mono ?_;rintro e w1 ⟨⟨nm,ki,ko,rfl⟩,hg1⟩;rw[hm])|(go_at_call 88;refine(zk_ (((HH.out _).grown (xf_ gz_)).grown hg1) _ _ (by omega) hf).mono ?_;rintro e w' ⟨rfl,rfl⟩))
   go_wp2;go_ret;refine⟨?_,(xf_ (gr1 _ _)).trans hg1⟩;simp
 · have hc':isW a 1 12=false:=(by simpa using hc);have HV:=hd_ (by simp[xv_,hc']:xv_ l fn n i ⟨18,a,b,c⟩=false);rw[HV.out];go_enter Tryz.func75,Tryz.ntmps75;go_wp2;go_quiet (first|(go_at_call 70;exact Calls.quiet_of_same ((yf_ _ _ _ _).mono fun _ _ h=>⟨h.1.trans (xr_ hc'),h.2.symm⟩)))
   go_wp2;go_ret;refine⟨?_,x4_ (gr1 _ _) _⟩;simp
theorem aj1_ (x:Ins) (l:List (Int×Nat)) (fn n i o:Nat) (w:World) (hO:Ov w o l fn n) (hS:Stds w) (hf:fn≤1000000000000) (hl:l.length≤1000000000000) (hi:i≤1000000000000) (hn:n≤1000000000000) :
 Calls Tryz.prog 75 #[.pointer (some ⟨o,0,none⟩),.int .i64 i,kn_ x] w fun e w'=>e=.returned (.bool (xv_ l fn n i x))∧w.grownBy w' none:=by
 obtain⟨d,a,b,c⟩:=x;unfold kn_;dsimp only;by_cases h1:d=2∨d=3
 ·exact ah4_ d a b c h1 l fn n i o w hO hf hl hi hn
 by_cases h2:d=4∨d=5
 ·exact aek_ d a b c h2 l fn n i o w hO hf hl hi hn
 by_cases h3:d=16
 ·exact ah5_ d a b c h3 l fn n i o w hO hf hl hi hn
 by_cases h4:d=6
 ·exact ah6_ d a b c h4 l fn n i o w hO hf hl hi hn
 by_cases h5:d=7
 ·exact ah7_ d a b c h5 l fn n i o w hO hf hl hi hn
 by_cases h6:d=11∨d=12
 ·exact ah9_ d a b c h6 l fn n i o w hO hf hl hi hn
 by_cases h7:d=13
 ·exact af0_ d a b c h7 l fn n i o w hO hf hl hi hn
 by_cases h8:d=17
 ·exact ajz_ d a b c h8 l fn n i o w hO hf hl hi hn
 by_cases h9:d=18
 ·exact aj0_ d a b c h9 l fn n i o w hO hf hl hi hn hS
 ·exact ah8_ d a b c (by simp;omega) (by simp;omega) (by simp;omega) (by simp;omega) (by simp;omega) (by simp;omega) (by simp;omega) (by simp;omega) (by simp;omega) (by simp;omega) (by simp;omega) (by simp;omega) l fn n i o w hO hf hl hi hn
def ug_ (l:List (Int×Nat)) (fn n i:Nat) (x:Ins):Bool:=yg_ x && xv_ l fn n i x
theorem af1_ (x:Ins) (l:List (Int×Nat)) (fn n i o:Nat) (w:World) (hO:Ov w o l fn n) (hS:Stds w) (hf:fn≤1000000000000) (hl:l.length≤1000000000000) (hi:i≤1000000000000) (hn:n≤1000000000000) :
 Calls Tryz.prog 56 #[.pointer (some ⟨o,0,none⟩),.int .i64 i,kn_ x] w fun e w'=>e=.returned (.bool (ug_ l fn n i x))∧w.grownBy w' none:=by
 have HO:=hd_ hO;have HS:=hd_ hS;clear hO hS;by_cases hu:yg_ x=true
 · have HF:=hd_ (by simp[ug_,hu]:ug_ l fn n i x=xv_ l fn n i x);rw[HF.out];have cU:∀ w,Calls Tryz.prog 74 #[kn_ x] w fun e w'=>e=.returned (.bool true)∧w.grownBy w' none:=fun w=>(ah2_ x w).mono fun e w' h=>⟨by rw[h.1,hu],h.2⟩;have cF:∀ w',w.grownBy w' none→Calls Tryz.prog 75 #[.pointer (some ⟨o,0,none⟩),.int .i64 i,kn_ x] w' fun e w2=>e=.returned (.bool (xv_ l fn n i x))∧w'.grownBy w2 none:=fun w' hg=>aj1_ x l fn n i o w' (HO.out.grown hg) (HS.out.grown hg) hf hl hi hn;generalize xv_ l fn n i x=r at *;obtain⟨d,a,b,c⟩:=x;unfold kn_ at *;dsimp only at *;clear hu;go_enter Tryz.func56,Tryz.ntmps56;go_wp2_with fail
   refine(cU _).mono ?_;rintro e w1 ⟨rfl,hg1⟩;have hX:=kept hg1 (heap_alloc_new w _);have x0:=xa_ hX 0;have x1:=xa_ hX 1;have x2:=xa_ hX 2;have x3:=xa_ hX 3;simp at x0 x1 x2 x3;have hgw:w.grownBy w1 none:=(gr1 _ _).trans hg1;clear hX;go_wp2_with fail
   refine(cF _ hgw).mono ?_;rintro e w2 ⟨rfl,hg2⟩;go_wp2_with fail
   go_ret;exact⟨rfl,hgw.trans hg2⟩
 · have hu':yg_ x=false:=(by simpa using hu);have HF:=hd_ (by simp[ug_,hu']:ug_ l fn n i x=false);rw[HF.out];have cU:∀ w,Calls Tryz.prog 74 #[kn_ x] w fun e w'=>e=.returned (.bool false)∧w.grownBy w' none:=fun w=>(ah2_ x w).mono fun e w' h=>⟨by rw[h.1,hu'],h.2⟩;obtain⟨d,a,b,c⟩:=x;unfold kn_ at *;dsimp only at *;clear hu hu';go_enter Tryz.func56,Tryz.ntmps56;go_wp2_with fail
   refine(cU _).mono ?_;rintro e w1 ⟨rfl,hg1⟩;go_wp2_with fail
   go_ret;exact⟨rfl,(gr1 _ _).trans hg1⟩
def cntL (t:List Ins) (k:Nat):List Int:=(List.range t.length).map (fun f=>(cnt t k (f+1):Int))
theorem aib_ (t:List Ins) (k:Nat):(cntL t k).length=t.length:=by simp[cntL]
theorem aic_ (t:List Ins) (k f:Nat) (hf:f<t.length):(cntL t k).getD f 0=(cnt t k (f+1):Int):=by simp[cntL,hf]
theorem amk_ (t:List Ins):cntL t 0=List.replicate t.length 0:=by
 apply List.ext_getElem
 ·simp[cntL]
 ·intro i h1 h2;simp[cntL,cnt]
theorem aml_ (t:List Ins) (k:Nat) (hk:k<t.length) (h:isR t k=false):cntL t (k+1)=cntL t k:=by
 unfold cntL;apply List.map_congr_left;intro f _;rw[ul_ t k (f+1) hk,if_neg]
 ·simp
 ·intro hg;rw[(j8_.1 hg).1] at h;simp at h
theorem ao7_ (t:List Ins) (k f:Nat) (hk:k<t.length) (h:isR t k=true) (hb:(nth t k).b=((f+1:Nat):Int)):cntL t (k+1)=(cntL t k).set f ((cnt t k (f+1):Int)+1):=by
 apply List.ext_getElem
 ·simp[cntL]
 · intro i h1 h2;have hi:i<t.length:=(by simpa[cntL] using h1);rw[List.getElem_set];simp only[cntL,List.getElem_map,List.getElem_range];rw[ul_ t k (i+1) hk];by_cases e:f=i
   ·subst e;rw[if_pos rfl,if_pos (j8_.2 ⟨h,hb⟩)];simp
   · rw[if_neg e,if_neg]
     ·simp
     ·intro hg;have:=(j8_.1 hg).2;rw[hb] at this;omega
theorem auq_ (t:List Ins) (k f:Nat):cnt t k f≤t.length:=by
 unfold cnt;have:=List.countP_le_length (p:=goes f) (l:=t.take k);simp at this;omega
def OvT (w:World) (o:Nat) (t:List Ins):Prop:=
 ∃ pb po tv,w.cell? ⟨o,2,none⟩=some (.pointer (some ⟨pb,po,none⟩))∧w.cell? ⟨pb,po+4,none⟩=some tv∧TxtAt w tv t
theorem OvT.grown {w w':World} {o:Nat} {t:List Ins} (h:OvT w o t) (hg:w.grownBy w' none):OvT w' o t:=by
 obtain⟨pb,po,tv,h1,h2,h3⟩:=h;exact⟨pb,po,tv,hg.cell h1 (by simp),hg.cell h2 (by simp),h3.grown hg⟩
theorem afb_ (n:Nat):madeCells (Value.int .i64 0).cells n=xi_ (List.replicate n 0):=by
 have e:(Value.int .i64 0).cells=#[Value.int .i64 0]:=rfl;rw[e];unfold madeCells xi_;apply Array.ext
 ·simp
 ·intro i h1 h2;simp[Nat.mod_one]
theorem j0_ (n:Nat) (hn:n≤1000000000000) (w:World):(Instr.makeSlice 25 (.int .i64 (n:Int)) (.int .i64 (n:Int))).run Tryz.prog w=.ok (.slice (some ⟨w.heap.size,0,none⟩) n n) (w.alloc (.cells (xi_ (List.replicate n 0)) 3)):=by
 obtain⟨i0,hi,hz0,hz1,hz2⟩:=yt_ v1_;have h:=run_make (P:=Tryz.prog) w 25 3 i0 (.int .i64 0) Tryz.underlying25 hi hz0 .i64 .i64 (n:Int) (n:Int) (by omega) (by omega) (by rw[hz2];simp;omega) (by omega);rw[hz1,afb_] at h;simpa using h
theorem yz_ {w:World} {c:Nat} {l:List Int} (h:w.heap[c]?=some (.cells (xi_ l) 3)) (i:Nat) (hi:i<l.length):w.cell? ⟨c,i,none⟩=some (.int .i64 (l.getD i 0)):=by
 rw[xa_ h];simp[xi_,hi]
def awb_ (t:List Ins) (i:Nat):Prop:=isR t i=true→1≤(nth t i).b∧(nth t i).b≤i∧isE t ((nth t i).b - 1).toNat=true∧(nth t ((nth t i).b - 1).toNat).a=(nth t i).a
def ad5_ (p:Prop) (w:World) (e:Ending) (w':World):Prop:=∃ r:Bool,e=.returned (.bool r)∧(r=true↔p)∧w.grownBy w' none
set_option maxRecDepth 10000 in
theorem ael_ (o:Nat) (t:List Ins) (w:World) (hO:OvT w o t) (hl:t.length≤100000) :
 Calls Tryz.prog 76 #[.pointer (some ⟨o,0,none⟩)] w (ad5_ (RdOk t) w):=by
 obtain⟨pb,po,tv,h1,h2,ta,tcap,rfl,hT⟩:=hO;have HT:Hid (t=[]∨∃ b off,ta=some ⟨b,off,none⟩∧∀ i,i<t.length→
  w.cell? ⟨b,off+i*4,none⟩=some (.int .i64 (nth t i).d)∧w.cell? ⟨b,off+i*4+1,none⟩=some (.int .i64 (nth t i).a)∧
  w.cell? ⟨b,off+i*4+2,none⟩=some (.int .i64 (nth t i).b)∧w.cell? ⟨b,off+i*4+3,none⟩=some (.int .i64 (nth t i).c)):=hT
 clear hT;obtain⟨n,hn⟩:∃ n,t.length=n:=⟨_,rfl⟩;have HN:=hd_ hn;rw[hn] at hl h2;have hmk:=j0_ n (by omega);clear hn;go_enter Tryz.func76,Tryz.ntmps76;go_wp2;clear hmk;go_loopg [21] n (fun gk s21 wx=>∃ k:Nat,s21=.int .i64 k∧k≤n∧gk=n - k∧wx.heap[w.heap.size]?=some (.cells (xi_ (cntL t k)) 3)∧(∀ i,i<k→awb_ t i)∧w.grownBy wx none)
 case atStart=>exact⟨0,rfl,Nat.zero_le _,by omega,by rw[amk_,HN.out];exact heap_alloc_new _ _,fun i hi=>by omega,gr1 _ _⟩
 case round=>
  obtain⟨k,rfl,hk,hgk,har,hgood,hgr⟩:=hrel;have HG:=hd_ hgk;have HA:=hd_ har;have HQ:=hd_ hgood;clear hgk har hgood;by_cases hlt:k<n
  · have hkl:k<t.length:=(by rw[HN.out];exact hlt);rcases HT.out with h|⟨b',off,rfl,hc⟩
    ·subst h;simp at hkl
    obtain⟨q0,q1,q2,q3⟩:=hc k hkl;have q0:=hgr.cell q0 (by simp);have q1:=hgr.cell q1 (by simp);have q2:=hgr.cell q2 (by simp);have q3:=hgr.cell q3 (by simp);have HC:Hid (∀ i,i<t.length→wr.cell? ⟨b',off+i*4,none⟩=some (.int .i64 (nth t i).d)∧wr.cell? ⟨b',off+i*4+1,none⟩=some (.int .i64 (nth t i).a)):=fun i hi=>⟨hgr.cell (hc i hi).1 (by simp),hgr.cell (hc i hi).2.1 (by simp)⟩;clear hc;obtain⟨d,hd⟩:∃ d,(nth t k).d=d:=⟨_,rfl⟩;obtain⟨a,ha⟩:∃ d,(nth t k).a=d:=⟨_,rfl⟩;obtain⟨b,hb⟩:∃ d,(nth t k).b=d:=⟨_,rfl⟩;obtain⟨c,hc⟩:∃ d,(nth t k).c=d:=⟨_,rfl⟩;rw[hd] at q0;rw[ha] at q1;rw[hb] at q2;rw[hc] at q3;have HD:Hid ((nth t k).d=d∧(nth t k).a=a∧(nth t k).b=b):=⟨hd,ha,hb⟩;clear hd ha hb hc;have i1:(0:Int)≤(k:Int):=(by omega);have i2:(k:Int)<(n:Int):=(by omega);by_cases h14:d=14
    · subst h14;have hR:isR t k=true:=(by simp[isR,HD.out.1]);by_cases hw:isW b 1 (k:Int)=true
      · have hw2:1≤b∧b≤(k:Int):=(by simpa[isW] using hw);obtain⟨f,hf⟩:∃ f:Nat,b=(f:Int)+1:=⟨(b - 1).toNat,by omega⟩;subst hf;obtain⟨u0,u1⟩:=HC.out f (by omega);obtain⟨df,hdf⟩:∃ d,(nth t f).d=d:=⟨_,rfl⟩;obtain⟨af,haf⟩:∃ d,(nth t f).a=d:=⟨_,rfl⟩;rw[hdf] at u0;rw[haf] at u1;have U0:∀ ob,(wr.alloc ob).cell? ⟨b',off+f*4,none⟩=some (.int .i64 df):=fun ob=>(gr1 wr ob).cell u0 (by simp);have U1:∀ ob,(wr.alloc ob).cell? ⟨b',off+f*4+1,none⟩=some (.int .i64 af):=fun ob=>(gr1 wr ob).cell u1 (by simp);clear u0 u1;have HF:Hid ((nth t f).d=df∧(nth t f).a=af):=⟨hdf,haf⟩;have HFN:=hd_ (by rw[HD.out.2.2];omega:((nth t k).b - 1).toNat=f);clear hdf haf;have j1:(0:Int)≤(f:Int):=(by omega);have j2:(f:Int)<(n:Int):=(by omega);have j3:wrap64 ((f:Int)+1 - 1)=(f:Int):=(by unfold wrap64;omega);have j4:IntKind.i64.wrap ((f:Int)+1 - 1)=(f:Int):=(by rw[IntWalk.i64_left];exact j3);by_cases h13:df=13
        · subst h13;by_cases haa:af=a
          · subst haa;have r0:=yz_ HA.out f (by rw[aib_];omega);rw[aic_ t k f (by omega)] at r0;have rf:∀ ob,(wr.alloc ob).frozen? ⟨w.heap.size,f,none⟩=false:=fun ob=>xc_ ((xh_ (xg_ HA.out) ob).trans HA.out) f;have hcl:=auq_ t k (f+1);generalize hcn:cnt t k (f+1)=m at *;have R0:∀ ob,(wr.alloc ob).cell? ⟨w.heap.size,f,none⟩=some (.int .i64 m):=fun ob=>(gr1 wr ob).cell r0 (by simp);clear r0;have j5:wrap64 ((m:Int)+1)=(m:Int)+1:=(by unfold wrap64;rw[HN.out] at hcl;omega);have hlw:=xg_ HA.out;go_wp2;go_quiet (first|(go_at_call 70;exact Calls.quiet_of_same ((yf_ _ _ _ _).mono fun _ _ h=>⟨h.1.trans (xr_ hw),h.2.symm⟩)))
            go_wp2;have hgl:=HG.out;go_roundg (n - (k+1))
            all_goals first|omega|(refine⟨k+1,by go_num,by omega,by omega,?_,?_,?_⟩)
            ·rw[ao7_ t k f hkl hR (by rw[HD.out.2.2];simp),hcn,← yp_];exact xk_ ((xh_ (xg_ HA.out) _).trans HA.out) _ _
            · intro i hi;by_cases e:i=k
              ·subst e;intro _;rw[HFN.out,HD.out.2.2,HD.out.2.1,HF.out.2];exact⟨by omega,by omega,by simp[isE,HF.out.1],rfl⟩
              ·exact HQ.out i (by omega)
            ·exact yc_ (x4_ (xb_ hgr _) _) (Nat.le_refl _) _ _
          · have eaa:(af==a)=false:=(by simpa using haa);have HX:Hid (¬RdOk t):=fun hr=>by
             have:=(hr.rounds k hR).2.2.2;rw[HFN.out,HF.out.2,HD.out.2.1] at this;exact haa this
            go_wp2;go_quiet (first|(go_at_call 70;exact Calls.quiet_of_same ((yf_ _ _ _ _).mono fun _ _ h=>⟨h.1.trans (xr_ hw),h.2.symm⟩)))
            go_wp2;go_ret;exact⟨false,rfl,by simpa using HX.out,x4_ (xb_ hgr _) _⟩
        · have e13:(df==13)=false:=(by simpa using h13);have e13b:(df != 13)=true:=(by simpa using h13);have e13c:(!(df==13))=true:=(by rw[e13];rfl);have e13d:decide (df=13)=false:=(by simpa using h13);have HX:Hid (¬RdOk t):=fun hr=>by
           have:=(hr.rounds k hR).2.2.1;rw[HFN.out] at this;simp[isE,HF.out.1] at this;exact h13 this
          go_wp2;go_quiet (first|(go_at_call 70;exact Calls.quiet_of_same ((yf_ _ _ _ _).mono fun _ _ h=>⟨h.1.trans (xr_ hw),h.2.symm⟩)))
          go_wp2;go_ret;exact⟨false,rfl,by simpa using HX.out,x4_ (xb_ hgr _) _⟩
      · have hw':isW b 1 (k:Int)=false:=(by simpa using hw);have HX:Hid (¬RdOk t):=fun hr=>by
         have:=hr.rounds k hR;rw[HD.out.2.2] at this;simp[isW] at hw;omega
        clear hw;go_wp2;go_quiet (first|(go_at_call 70;exact Calls.quiet_of_same ((yf_ _ _ _ _).mono fun _ _ h=>⟨h.1.trans (xr_ hw'),h.2.symm⟩)))
        go_wp2;go_ret;exact⟨false,rfl,by simpa using HX.out,x4_ (xb_ hgr _) _⟩
    · have e14:(d==14)=false:=(by simpa using h14);have hR:isR t k=false:=(by simp[isR,HD.out.1];exact h14);go_wp2;have hgl:=HG.out;go_roundg (n - (k+1))
      all_goals first|omega|(refine⟨k+1,by go_num,by omega,by omega,?_,?_,xb_ hgr _⟩)
      ·rw[aml_ t k hkl hR];exact(xh_ (xg_ HA.out) _).trans HA.out
      · intro i hi;by_cases e:i=k
        ·subst e;intro hr;rw[hR] at hr;simp at hr
        ·exact HQ.out i (by omega)
  · have hk':¬((k:Int)<(n:Int)):=(by omega);have hkn:k=n:=(by omega);subst hkn;clear HG;have HGR:=hd_ hgr;go_wp2;go_loopg [67] k (fun gk s67 wx=>∃ j:Nat,s67=.int .i64 j∧j≤k∧gk=k - j∧wr.grownBy wx none∧∀ i,i<j→isE t i=true→cnt t t.length (i+1)=1)
    case atStart=>exact⟨0,rfl,Nat.zero_le _,by omega,gz_,fun i hi=>by omega⟩
    case round=>
     obtain⟨j,rfl,hj,hgj,hgx,hen⟩:=hrel;have HG:Hid (_=k - j):=hgj;have HE:=hd_ hen;clear hgj hen;by_cases hlt2:j<k
     · have hjl:j<t.length:=(by rw[HN.out];exact hlt2);rcases HT.out with h|⟨b',off,rfl,hc⟩
       ·subst h;simp at hjl
       obtain⟨q0,q1,q2,q3⟩:=hc j hjl;have q0:=hgx.cell (hgr.cell q0 (by simp)) (by simp);have q1:=hgx.cell (hgr.cell q1 (by simp)) (by simp);have q2:=hgx.cell (hgr.cell q2 (by simp)) (by simp);have q3:=hgx.cell (hgr.cell q3 (by simp)) (by simp);have r0:=yz_ (kept hgx HA.out) j (by rw[aib_];omega);rw[aic_ t k j hjl] at r0;clear hc;obtain⟨d,hd⟩:∃ d,(nth t j).d=d:=⟨_,rfl⟩;rw[hd] at q0;generalize(nth t j).a=a at *;generalize(nth t j).b=b at *;generalize(nth t j).c=c at *;have HD:=hd_ hd;clear hd;have i1:(0:Int)≤(j:Int):=(by omega);have i2:(j:Int)<(k:Int):=(by omega);obtain⟨m,hm⟩:∃ m,cnt t k (j+1)=m:=⟨_,rfl⟩;rw[hm] at r0;have HM:=hd_ (by rw[HN.out];exact hm:cnt t t.length (j+1)=m);clear hm;have R0:∀ ob,(wr.alloc ob).cell? ⟨w.heap.size,j,none⟩=some (.int .i64 m):=fun ob=>(gr1 wr ob).cell r0 (by simp);by_cases h13:d=13
       · subst h13;by_cases hm1:m=1
         · subst hm1;go_wp2;have hgl:=HG.out;go_roundg (k - (j+1))
           all_goals first|omega|(refine⟨j+1,by go_num,by omega,by omega,xb_ hgx _,?_⟩)
           intro i hi he;by_cases e:i=j
           ·subst e;exact HM.out
           ·exact HE.out i (by omega) he
         · have em:((m:Int)==1)=false:=(by simp;omega);have em2:((m:Int) != 1)=true:=(by simp;omega);have HX:Hid (¬RdOk t):=fun hr=>by
            have:=hr.enters j (by simp[isE,HD.out]);rw[HM.out] at this;exact hm1 this
           go_wp2;go_ret;exact⟨false,rfl,by simpa using HX.out,HGR.out.trans (xb_ hgx _)⟩
       · have e13:(d==13)=false:=(by simpa using h13);go_wp2;have hgl:=HG.out;go_roundg (k - (j+1))
         all_goals first|omega|(refine⟨j+1,by go_num,by omega,by omega,xb_ hgx _,?_⟩)
         intro i hi he;by_cases e:i=j
         ·subst e;simp[isE,HD.out] at he;exact absurd he h13
         ·exact HE.out i (by omega) he
     ·have hj':¬((j:Int)<(k:Int)):=(by omega);have HX:Hid (RdOk t):=⟨fun i hi=>HQ.out i (by have:=aal_ hi;rw[HN.out] at this;exact this) hi,fun i hi=>HE.out i (by have:=aam_ hi;rw[HN.out] at this;omega) hi⟩;go_wp2;go_ret;exact⟨true,rfl,by simpa using HX.out,HGR.out.trans hgx⟩
theorem amj_ (x:Ins) (w:World):Calls Tryz.prog 40 #[kn_ x] w fun e w'=>e=.returned (.int .i64 (tkS x))∧w.grownBy w' none:=by
 obtain⟨d,a,b,c⟩:=x;unfold kn_;dsimp only;rcases dos d with rfl|rfl|rfl|rfl|rfl|rfl|rfl|rfl|rfl|rfl|rfl|rfl|rfl|rfl|rfl|rfl|rfl|rfl|hd
 ·go_enter Tryz.func40,Tryz.ntmps40;go_wp2;go_ret;exact⟨rfl,gr1 _ _⟩
 ·go_enter Tryz.func40,Tryz.ntmps40;go_wp2;go_ret;exact⟨rfl,gr1 _ _⟩
 ·go_enter Tryz.func40,Tryz.ntmps40;go_wp2;go_ret;exact⟨rfl,gr1 _ _⟩
 ·go_enter Tryz.func40,Tryz.ntmps40;go_wp2;go_ret;exact⟨rfl,gr1 _ _⟩
 ·go_enter Tryz.func40,Tryz.ntmps40;go_wp2;go_ret;exact⟨rfl,gr1 _ _⟩
 · obtain⟨s,hs⟩:∃ s,xt_ a b=s:=⟨_,rfl⟩;by_cases h:s=0
   · subst h;have HU:=hd_ (by simp[tkS,zy_,hs]:tkS ⟨6,a,b,c⟩=1);rw[HU.out];go_enter Tryz.func40,Tryz.ntmps40;go_wp2_with (go_at_call 26;refine(x2_ _ _ _).mono ?_;rintro e w' ⟨rfl,rfl⟩;rw[hs])
     go_ret;exact⟨rfl,gr1 _ _⟩
   · have HU:=hd_ (by simp[tkS,zy_,hs,h]:tkS ⟨6,a,b,c⟩=2);rw[HU.out];have e0:(s==0)=false:=(by simpa using h);go_enter Tryz.func40,Tryz.ntmps40;go_wp2_with (go_at_call 26;refine(x2_ _ _ _).mono ?_;rintro e w' ⟨rfl,rfl⟩;rw[hs])
     go_ret;exact⟨rfl,gr1 _ _⟩
 ·go_enter Tryz.func40,Tryz.ntmps40;go_wp2;go_ret;exact⟨rfl,gr1 _ _⟩
 ·go_enter Tryz.func40,Tryz.ntmps40;go_wp2;go_ret;exact⟨rfl,gr1 _ _⟩
 ·go_enter Tryz.func40,Tryz.ntmps40;go_wp2;go_ret;exact⟨rfl,gr1 _ _⟩
 ·go_enter Tryz.func40,Tryz.ntmps40;go_wp2;go_ret;exact⟨rfl,gr1 _ _⟩
 ·go_enter Tryz.func40,Tryz.ntmps40;go_wp2;go_ret;exact⟨rfl,gr1 _ _⟩
 ·go_enter Tryz.func40,Tryz.ntmps40;go_wp2;go_ret;exact⟨rfl,gr1 _ _⟩
 ·go_enter Tryz.func40,Tryz.ntmps40;go_wp2;go_ret;exact⟨rfl,gr1 _ _⟩
 ·go_enter Tryz.func40,Tryz.ntmps40;go_wp2;go_ret;exact⟨rfl,gr1 _ _⟩
 ·go_enter Tryz.func40,Tryz.ntmps40;go_wp2;go_ret;exact⟨rfl,gr1 _ _⟩
 ·go_enter Tryz.func40,Tryz.ntmps40;go_wp2;go_ret;exact⟨rfl,gr1 _ _⟩
 ·go_enter Tryz.func40,Tryz.ntmps40;go_wp2;go_ret;exact⟨rfl,gr1 _ _⟩
 ·go_enter Tryz.func40,Tryz.ntmps40;go_wp2;go_ret;exact⟨rfl,gr1 _ _⟩
 ·have e1:(d==1)=false:=(by simp;omega);have e2:(d==2)=false:=(by simp;omega);have e3:(d==3)=false:=(by simp;omega);have e4:(d==4)=false:=(by simp;omega);have e5:(d==5)=false:=(by simp;omega);have e6:(d==6)=false:=(by simp;omega);have e7:(d==7)=false:=(by simp;omega);have e8:(d==8)=false:=(by simp;omega);have e9:(d==9)=false:=(by simp;omega);have e10:(d==10)=false:=(by simp;omega);have e11:(d==11)=false:=(by simp;omega);have e12:(d==12)=false:=(by simp;omega);have e13:(d==13)=false:=(by simp;omega);have e14:(d==14)=false:=(by simp;omega);have e15:(d==15)=false:=(by simp;omega);have e16:(d==16)=false:=(by simp;omega);have e17:(d==17)=false:=(by simp;omega);have e18:(d==18)=false:=(by simp;omega);have HU:=hd_ (by unfold tkS;dsimp only;rw[if_neg (by omega),if_neg (by omega),if_neg (by omega),if_neg (by omega)]:tkS ⟨d,a,b,c⟩=0);clear hd;rw[HU.out];go_enter Tryz.func40,Tryz.ntmps40;go_wp2;go_ret;exact⟨rfl,gr1 _ _⟩
theorem ajx_ (x:Ins) (w:World):Calls Tryz.prog 41 #[kn_ x] w fun e w'=>e=.returned (.int .i64 (gvS x))∧w.grownBy w' none:=by
 obtain⟨d,a,b,c⟩:=x;unfold kn_;dsimp only;rcases dos d with rfl|rfl|rfl|rfl|rfl|rfl|rfl|rfl|rfl|rfl|rfl|rfl|rfl|rfl|rfl|rfl|rfl|rfl|hd
 ·go_enter Tryz.func41,Tryz.ntmps41;go_wp2;go_ret;exact⟨rfl,gr1 _ _⟩
 ·go_enter Tryz.func41,Tryz.ntmps41;go_wp2;go_ret;exact⟨rfl,gr1 _ _⟩
 ·go_enter Tryz.func41,Tryz.ntmps41;go_wp2;go_ret;exact⟨rfl,gr1 _ _⟩
 ·go_enter Tryz.func41,Tryz.ntmps41;go_wp2;go_ret;exact⟨rfl,gr1 _ _⟩
 ·go_enter Tryz.func41,Tryz.ntmps41;go_wp2;go_ret;exact⟨rfl,gr1 _ _⟩
 ·go_enter Tryz.func41,Tryz.ntmps41;go_wp2;go_ret;exact⟨rfl,gr1 _ _⟩
 ·go_enter Tryz.func41,Tryz.ntmps41;go_wp2;go_ret;exact⟨rfl,gr1 _ _⟩
 ·go_enter Tryz.func41,Tryz.ntmps41;go_wp2;go_ret;exact⟨rfl,gr1 _ _⟩
 ·go_enter Tryz.func41,Tryz.ntmps41;go_wp2;go_ret;exact⟨rfl,gr1 _ _⟩
 ·go_enter Tryz.func41,Tryz.ntmps41;go_wp2;go_ret;exact⟨rfl,gr1 _ _⟩
 ·go_enter Tryz.func41,Tryz.ntmps41;go_wp2;go_ret;exact⟨rfl,gr1 _ _⟩
 ·go_enter Tryz.func41,Tryz.ntmps41;go_wp2;go_ret;exact⟨rfl,gr1 _ _⟩
 ·go_enter Tryz.func41,Tryz.ntmps41;go_wp2;go_ret;exact⟨rfl,gr1 _ _⟩
 ·go_enter Tryz.func41,Tryz.ntmps41;go_wp2;go_ret;exact⟨rfl,gr1 _ _⟩
 ·go_enter Tryz.func41,Tryz.ntmps41;go_wp2;go_ret;exact⟨rfl,gr1 _ _⟩
 ·go_enter Tryz.func41,Tryz.ntmps41;go_wp2;go_ret;exact⟨rfl,gr1 _ _⟩
 ·go_enter Tryz.func41,Tryz.ntmps41;go_wp2;go_ret;exact⟨rfl,gr1 _ _⟩
 ·go_enter Tryz.func41,Tryz.ntmps41;go_wp2;go_ret;exact⟨rfl,gr1 _ _⟩
 ·have e1:(d==1)=false:=(by simp;omega);have e2:(d==2)=false:=(by simp;omega);have e3:(d==3)=false:=(by simp;omega);have e4:(d==4)=false:=(by simp;omega);have e5:(d==5)=false:=(by simp;omega);have e6:(d==6)=false:=(by simp;omega);have e7:(d==7)=false:=(by simp;omega);have e8:(d==8)=false:=(by simp;omega);have e9:(d==9)=false:=(by simp;omega);have e10:(d==10)=false:=(by simp;omega);have e11:(d==11)=false:=(by simp;omega);have e12:(d==12)=false:=(by simp;omega);have e13:(d==13)=false:=(by simp;omega);have e14:(d==14)=false:=(by simp;omega);have e15:(d==15)=false:=(by simp;omega);have e16:(d==16)=false:=(by simp;omega);have e17:(d==17)=false:=(by simp;omega);have e18:(d==18)=false:=(by simp;omega);have HU:=hd_ (by unfold gvS;dsimp only;rw[if_neg (by omega),if_neg (by omega)]:gvS ⟨d,a,b,c⟩=0);clear hd;rw[HU.out];go_enter Tryz.func41,Tryz.ntmps41;go_wp2;go_ret;exact⟨rfl,gr1 _ _⟩
def kw_ (at' n size:Int):Bool:=decide (1≤n) && decide (n≤size) && decide (0≤at') && decide (at'<size) && decide (at'+n≤size)
theorem jz_ (at' n:Int) (size:Nat) (w:World) (hs:size≤1000000000000):Calls Tryz.prog 35 #[.int .i64 at',.int .i64 n,.int .i64 size] w fun e w'=>e=.returned (.bool (kw_ at' n size))∧w=w':=by
 by_cases h1:1≤n
 · by_cases h2:n≤(size:Int)
   · by_cases h3:0≤at'
     · by_cases h4:at'<(size:Int)
       ·have e1:wrap64 (at'+n)=at'+n:=(by unfold wrap64;omega);go_enter Tryz.func35,Tryz.ntmps35;go_wp2;go_ret;exact⟨xr_ (by simp[kw_,h1,h2,h3,h4]),rfl⟩
       ·go_enter Tryz.func35,Tryz.ntmps35;go_wp2;go_ret;exact⟨xr_ (by simp only[kw_,decide_eq_false (show ¬at'<(size:Int) by omega)];simp),rfl⟩
     ·go_enter Tryz.func35,Tryz.ntmps35;go_wp2;go_ret;exact⟨xr_ (by simp only[kw_,decide_eq_false (show ¬0≤at' by omega)];simp),rfl⟩
   ·go_enter Tryz.func35,Tryz.ntmps35;go_wp2;go_ret;exact⟨xr_ (by simp only[kw_,decide_eq_false (show ¬n≤(size:Int) by omega)];simp),rfl⟩
 ·go_enter Tryz.func35,Tryz.ntmps35;go_wp2;go_ret;exact⟨xr_ (by simp only[kw_,decide_eq_false (show ¬1≤n by omega)];simp),rfl⟩
theorem ab6_ (n:Int) (w:World):Calls Tryz.prog 36 #[.int .i64 n] w fun e w'=>e=.returned (.bool (isW n (-4294967295) 4294967295))∧w=w':=by
 go_enter Tryz.func36,Tryz.ntmps36;go_wp2;all_goals go_ret
 all_goals refine⟨xr_ ?_,rfl⟩
 all_goals(simp[isW];try omega)
theorem ajy_ (n:Int) (w:World):Calls Tryz.prog 38 #[.int .i64 n] w fun e w'=>e=.returned (.bool (isK n))∧w=w':=by
 go_enter Tryz.func38,Tryz.ntmps38;go_wp2;all_goals go_ret
 all_goals refine⟨xr_ ?_,rfl⟩
 all_goals(simp[isK];try omega)
theorem jw_ (f r c m:Int) (i:Int) (w:World):Calls Tryz.prog 22 #[.agg #[.int .i64 f,.int .i64 r,.int .i64 c,.int .i64 m],.int .i64 i] w fun e w'=>e=.returned (.bool (decide (f≤i) && decide (i≤r)))∧w.grownBy w' none:=by
 go_enter Tryz.func22,Tryz.ntmps22;go_wp2;all_goals go_ret
 all_goals refine⟨xr_ ?_,gr1 _ _⟩
 all_goals(simp;try omega)
theorem aa4_ (w:World):Calls Tryz.prog 45 #[] w fun e w'=>e=.returned (.slice (some ⟨w.heap.size,0,none⟩) 12 12)∧w'=w.alloc (.cells (stdN.map Value.string).toArray 9):=by
 go_enter Tryz.func45,Tryz.ntmps45;go_wp2;go_ret;exact⟨rfl,rfl⟩
theorem zj_ (k:Nat) (nm:ByteArray) (I O S:List (ByteArray×Int)) (hC:zq_ nm I O S) (hI:I.length≤5) (hO:O.length≤5) (hL:S.length≤5) (w:World) (hk:k<12) (h0:stdN.getD k ByteArray.empty=nm) :
 Calls Tryz.prog 39 #[.int .i64 ((k:Int)+1)] w fun e w'=>e=.returned (.int .i64 ((I.length:Int)+O.length+S.length))∧w.grownBy w' none:=by
 have h2:((w.alloc (.cells (stdN.map Value.string).toArray 9))).cell? ⟨w.heap.size,k,none⟩=some (.string nm):=by
  rw[xa_ (heap_alloc_new w _),← h0];have:k<stdN.length:=hk;simp[List.getD,this]
 obtain⟨i,hi⟩:∃ i,I.length=i:=⟨_,rfl⟩;obtain⟨o,ho⟩:∃ i,O.length=i:=⟨_,rfl⟩;obtain⟨s,hs⟩:∃ i,S.length=i:=⟨_,rfl⟩;clear h0;have k0:(0:Int)≤(k:Int):=(by omega);have k1:(k:Int)<12:=(by omega);have k2:wrap64 ((k:Int)+1 - 1)=(k:Int):=(by unfold wrap64;omega);have k3:¬((k:Int)+1<1):=(by omega);have k4:¬((12:Int)<(k:Int)+1):=(by omega);have e1:wrap64 ((i:Int)+(o:Int))=(i:Int)+o:=(by unfold wrap64;omega);have e2:wrap64 ((i:Int)+(o:Int)+(s:Int))=(i:Int)+o+s:=(by unfold wrap64;omega);rw[hi,ho,hs];go_enter Tryz.func39,Tryz.ntmps39;go_wp2_with fail
 refine(aa4_ _).mono ?_;rintro e w0 ⟨rfl,rfl⟩;go_wp2_with fail
 refine(hC _).mono ?_;rintro e w1 ⟨v,rfl,⟨b1,b2,b3,rfl,hb1,hb2,hb3,n12,n13,n23,hB1,hB2,hB3⟩,hg1⟩;rw[hi,ho,hs];have hgw:w.grownBy w1 none:=(gr1 _ _).trans hg1;clear h2 hB1 hB2 hB3;go_wp2_with fail
 go_ret;exact⟨rfl,xb_ hgw _⟩
theorem ah3_ (n:Int) (w:World) (h1:1≤n) (h2:n≤12):Calls Tryz.prog 39 #[.int .i64 n] w fun e w'=>e=.returned (.int .i64 (yk_ n))∧w.grownBy w' none:=by
 rcases(show n=1∨n=2∨n=3∨n=4∨n=5∨n=6∨n=7∨n=8∨n=9∨n=10∨n=11∨n=12 by omega) with rfl|rfl|rfl|rfl|rfl|rfl|rfl|rfl|rfl|rfl|rfl|rfl
 ·exact zj_ 0 zu_ _ _ _ u8_ (by decide) (by decide) (by decide) w (by omega) rfl
 ·exact zj_ 1 zv_ _ _ _ u9_ (by decide) (by decide) (by decide) w (by omega) rfl
 ·exact zj_ 2 qu_ _ _ _ aat_ (by decide) (by decide) (by decide) w (by omega) rfl
 ·exact zj_ 3 zw_ _ _ _ aaa_ (by decide) (by decide) (by decide) w (by omega) rfl
 ·exact zj_ 4 zx_ _ _ _ aab_ (by decide) (by decide) (by decide) w (by omega) rfl
 ·exact zj_ 5 ze_ _ _ _ uf_ (by decide) (by decide) (by decide) w (by omega) rfl
 ·exact zj_ 6 zb_ _ _ _ q9_ (by decide) (by decide) (by decide) w (by omega) rfl
 ·exact zj_ 7 zc_ _ _ _ ja_ (by decide) (by decide) (by decide) w (by omega) rfl
 ·exact zj_ 8 q7_ _ _ _ z0_ (by decide) (by decide) (by decide) w (by omega) rfl
 ·exact zj_ 9 q8_ _ _ _ z1_ (by decide) (by decide) (by decide) w (by omega) rfl
 ·exact zj_ 10 zo_ _ _ _ z2_ (by decide) (by decide) (by decide) w (by omega) rfl
 ·exact zj_ 11 zp_ _ _ _ jn_ (by decide) (by decide) (by decide) w (by omega) rfl
theorem afz_ (n:Int) (w:World) (h:n<1∨12<n):Calls Tryz.prog 39 #[.int .i64 n] w fun e w'=>e=.returned (.int .i64 0)∧w.grownBy w' none:=by
 by_cases h1:n<1
 · go_enter Tryz.func39,Tryz.ntmps39;go_wp2_with fail
   refine(aa4_ _).mono ?_;rintro e w0 ⟨rfl,rfl⟩;go_wp2_with fail
   go_ret;exact⟨rfl,gr1 _ _⟩
 · have h2:(12:Int)<n:=(by omega);go_enter Tryz.func39,Tryz.ntmps39;go_wp2_with fail
   refine(aa4_ _).mono ?_;rintro e w0 ⟨rfl,rfl⟩;go_wp2_with fail
   go_ret;exact⟨rfl,gr1 _ _⟩
end Go.Proofs.YtcgbfhpmkpglkaaGreatDoor
namespace Go.Proofs.YtcgbfhpmkpglkaaGreatDoor
open Go.RowKit
def okD (l:List (Int×Nat)) (fn n i:Nat) (x:Ins):Bool:=
 (if x.d=8∨x.d=9∨x.d=10∨x.d=15 then(x.a==0) && (x.b==0) else if x.d=1∨x.d=2∨x.d=3∨x.d=11∨x.d=12 then(x.b==0) else true)
 && (if x.d≠4∧x.d≠5∧x.d≠16 then(x.c==0) else true)
 && (if x.d=1∨x.d=8∨x.d=9∨x.d=10∨x.d=15 then true
  else if x.d=2∨x.d=3 then kw_ x.a 1 fn
  else if x.d=4∨x.d=5 then kw_ x.a x.b fn && isW x.c (-4294967295) 4294967295
  else if x.d=6 then yd_ x.a x.b != 0
  else if x.d=7 then isK x.a && isK x.b && x.a != x.b
  else if x.d=11∨x.d=12 then decide ((i:Int)<x.a) && decide (x.a≤n)
  else if x.d=13 then decide (0≤x.a) && decide (x.a<40) && decide (1≤x.b) && decide (x.b≤10000)
  else if x.d=14 then decide (x.b≤i) && decide (1≤x.b)
  else if x.d=16 then kw_ x.a x.b fn
  else if x.d=17 then decide (0≤x.a) && decide (x.a<l.length) && (l.getD x.a.toNat (0,0)).1 != 1 && decide (0≤x.b) && decide (x.b≤fn) && decide (x.b+(l.getD x.a.toNat (0,0)).2≤fn)
  else if x.d=18 then decide (1≤x.a) && decide (x.a≤12) && kw_ x.b (yk_ x.a) fn
  else false)
theorem y6_ (at' n:Int) (fn:Nat):kw_ at' n fn=(decide (0<n) && y3_ fn at' n):=by
 rw[Bool.eq_iff_iff];simp[kw_,y3_,isW];omega
theorem aia_ {n:Int} (h:1≤n) (h2:n≤12):0<yk_ n:=by
 unfold yk_;repeat' split
 all_goals omega
def vn_ (l:List (Int×Nat)) (fn n i:Nat) (x:Ins):Bool:=(yg_ x && xv_ l fn n i x) && (if x.d=14 then isW x.b 1 i else true)
theorem af2_ (l:List (Int×Nat)) (fn n i:Nat) (x:Ins):okD l fn n i x=vn_ l fn n i x:=by
 obtain⟨d,a,b,c⟩:=x;rcases dos d with rfl|rfl|rfl|rfl|rfl|rfl|rfl|rfl|rfl|rfl|rfl|rfl|rfl|rfl|rfl|rfl|rfl|rfl|hd
 ·rw[Bool.eq_iff_iff];simp[okD,vn_,yg_,xv_,y6_,isW,z3_,y3_]
 ·rw[Bool.eq_iff_iff];simp[okD,vn_,yg_,xv_,y6_,isW,z3_,y3_];(try omega)
 ·rw[Bool.eq_iff_iff];simp[okD,vn_,yg_,xv_,y6_,isW,z3_,y3_];(try omega)
 ·rw[Bool.eq_iff_iff];simp[okD,vn_,yg_,xv_,y6_,isW,z3_,y3_];(try omega)
 ·rw[Bool.eq_iff_iff];simp[okD,vn_,yg_,xv_,y6_,isW,z3_,y3_];(try omega)
 ·rw[Bool.eq_iff_iff];simp[okD,vn_,yg_,xv_,y6_,isW,z3_,y3_]
 ·rw[Bool.eq_iff_iff];simp[okD,vn_,yg_,xv_,y6_,isW,z3_,y3_]
 ·rw[Bool.eq_iff_iff];simp[okD,vn_,yg_,xv_,y6_,isW,z3_,y3_]
 ·rw[Bool.eq_iff_iff];simp[okD,vn_,yg_,xv_,y6_,isW,z3_,y3_]
 ·rw[Bool.eq_iff_iff];simp[okD,vn_,yg_,xv_,y6_,isW,z3_,y3_]
 ·rw[Bool.eq_iff_iff];simp[okD,vn_,yg_,xv_,y6_,isW,z3_,y3_];(try omega)
 ·rw[Bool.eq_iff_iff];simp[okD,vn_,yg_,xv_,y6_,isW,z3_,y3_];(try omega)
 ·rw[Bool.eq_iff_iff];simp[okD,vn_,yg_,xv_,y6_,isW,z3_,y3_];(try omega)
 ·rw[Bool.eq_iff_iff];simp[okD,vn_,yg_,xv_,y6_,isW,z3_,y3_];(try omega)
 ·rw[Bool.eq_iff_iff];simp[okD,vn_,yg_,xv_,y6_,isW,z3_,y3_]
 ·rw[Bool.eq_iff_iff];simp[okD,vn_,yg_,xv_,y6_,isW,z3_,y3_];(try omega)
 ·rw[Bool.eq_iff_iff];simp[okD,vn_,yg_,xv_,y6_,isW,z3_,y3_];(try omega)
 ·rw[Bool.eq_iff_iff];simp[okD,vn_,yg_,xv_,y6_,isW,z3_,y3_];exact fun _ h1 h2 _ _ _=>aia_ h1 h2
 · have h1:yg_ ⟨d,a,b,c⟩=false:=by
    unfold yg_;dsimp only;rw[if_neg (by omega),if_neg (by omega),if_neg (by omega),if_neg (by omega)]
   have h2:okD l fn n i ⟨d,a,b,c⟩=false:=by
    unfold okD;dsimp only;rw[if_neg (by omega:¬(d=1∨d=8∨d=9∨d=10∨d=15)),if_neg (by omega:¬(d=2∨d=3)),if_neg (by omega:¬(d=4∨d=5)),if_neg (by omega:¬d=6),if_neg (by omega:¬d=7),if_neg (by omega:¬(d=11∨d=12)),if_neg (by omega:¬d=13),if_neg (by omega:¬d=14),if_neg (by omega:¬d=16),if_neg (by omega:¬d=17),if_neg (by omega:¬d=18)];simp
   rw[h2];simp[vn_,h1]
end Go.Proofs.YtcgbfhpmkpglkaaGreatDoor
