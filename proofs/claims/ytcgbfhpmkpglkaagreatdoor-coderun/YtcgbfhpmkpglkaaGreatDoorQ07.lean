/- Texts put together: A0, A1. -/
import Derived.Test.YtcgbfhpmkpglkaaGreatDoorQ05
import Derived.Test.YtcgbfhpmkpglkaaGreatDoorQ06
import Derived.Test.YtcgbfhpmkpglkaaGreatDoorQ02
set_option linter.unusedVariables false
set_option linter.unusedSimpArgs false
set_option maxHeartbeats 8000000
namespace Go.Proofs.YtcgbfhpmkpglkaaGreatDoor
open Go.RowKit
attribute [local go_sem ↓] Go.wp_at_zero Go.wp_at_succ
def kn_ (x:Ins):Value:=.agg #[.int .i64 x.d,.int .i64 x.a,.int .i64 x.b,.int .i64 x.c]
def TxtAt (w:World) (v:Value) (t:List Ins):Prop:=
 ∃ a cap,v=.slice a t.length cap∧(t=[]∨∃ b off,a=some ⟨b,off,none⟩∧∀ i,i<t.length→
  w.cell? ⟨b,off+i*4,none⟩=some (.int .i64 (nth t i).d)∧w.cell? ⟨b,off+i*4+1,none⟩=some (.int .i64 (nth t i).a)∧
  w.cell? ⟨b,off+i*4+2,none⟩=some (.int .i64 (nth t i).b)∧w.cell? ⟨b,off+i*4+3,none⟩=some (.int .i64 (nth t i).c))
theorem TxtAt.grown {w w':World} {v:Value} {t:List Ins} (h:TxtAt w v t) (hg:w.grownBy w' none):TxtAt w' v t:=by
 obtain⟨a,cap,rfl,h|⟨b,off,rfl,hc⟩⟩:=h
 ·exact⟨a,cap,rfl,.inl h⟩
 ·exact⟨_,cap,rfl,.inr ⟨b,off,rfl,fun i hi=>⟨hg.cell (hc i hi).1 (by simp),hg.cell (hc i hi).2.1 (by simp),hg.cell (hc i hi).2.2.1 (by simp),hg.cell (hc i hi).2.2.2 (by simp)⟩⟩⟩
def AhAt (w:World) (v:Value) (l:List (Int×Nat)):Prop:=
 ∃ a cap,v=.slice a l.length cap∧(l=[]∨∃ b off,a=some ⟨b,off,none⟩∧∀ i,i<l.length→
  w.cell? ⟨b,off+i*5,none⟩=some (.int .i64 (l.getD i (0,0)).1)∧∃ fa fc,w.cell? ⟨b,off+i*5+2,none⟩=some (.slice fa (l.getD i (0,0)).2 fc))
theorem AhAt.grown {w w':World} {v:Value} {l:List (Int×Nat)} (h:AhAt w v l) (hg:w.grownBy w' none):AhAt w' v l:=by
 obtain⟨a,cap,rfl,h|⟨b,off,rfl,hc⟩⟩:=h
 ·exact⟨a,cap,rfl,.inl h⟩
 ·refine⟨_,cap,rfl,.inr ⟨b,off,rfl,fun i hi=>?_⟩⟩;obtain⟨h1,fa,fc,h2⟩:=hc i hi;exact⟨hg.cell h1 (by simp),fa,fc,hg.cell h2 (by simp)⟩
def isW (n lo hi:Int):Bool:=decide (lo≤n) && decide (n≤hi)
theorem yf_ (n lo hi:Int) (w:World):Calls Tryz.prog 70 #[.int .i64 n,.int .i64 lo,.int .i64 hi] w fun e w'=>e=.returned (.bool (isW n lo hi))∧w=w':=by
 by_cases h:lo≤n
 ·go_enter Tryz.func70,Tryz.ntmps70;go_wp2;go_ret;exact⟨xr_ (by simp[isW,h]),rfl⟩
 ·go_enter Tryz.func70,Tryz.ntmps70;go_wp2;go_ret;exact⟨xr_ (by simp[isW];omega),rfl⟩
theorem abo_ (n:Int) (w:World):Calls Tryz.prog 89 #[.int .i64 n] w fun e w'=>e=.returned (.bool (isK n))∧w=w':=by
 go_enter Tryz.func89,Tryz.ntmps89;go_wp2_with (go_at_call 70;refine(yf_ _ _ _ _).mono ?_;rintro e w' ⟨rfl,rfl⟩)
 go_ret;exact⟨rfl,rfl⟩
theorem v5_ (n:Int) (w:World):Calls Tryz.prog 60 #[.int .i64 n] w fun e w'=>e=.returned (.int .i64 (min n yx_))∧w=w':=by
 go_enter Tryz.func60,Tryz.ntmps60;go_wp2;all_goals go_ret
 all_goals refine⟨xs_ ?_,rfl⟩
 all_goals(simp only[yx_];omega)
def y3_ (size:Nat) (at' n:Int):Bool:=decide (n≤size) && isW at' 0 (size - n)
theorem afw_ (o pb po fn fc:Nat) (fa:Option Addr) (at' n:Int) (w:World) (h1:w.cell? ⟨o,2,none⟩=some (.pointer (some ⟨pb,po,none⟩))) (h2:w.cell? ⟨pb,po+2,none⟩=some (.slice fa fn fc)) (hn:0≤n) (hf:fn≤1000000000000) :
 Calls Tryz.prog 88 #[.pointer (some ⟨o,0,none⟩),.int .i64 at',.int .i64 n] w fun e w'=>e=.returned (.bool (y3_ fn at' n))∧w=w':=by
 by_cases h:n≤(fn:Int)
 · have e1:wrap64 ((fn:Int) - n)=(fn:Int) - n:=(by unfold wrap64;omega);go_enter Tryz.func88,Tryz.ntmps88;go_wp2_with (go_at_call 70;refine(yf_ _ _ _ _).mono ?_;rintro e w' ⟨rfl,rfl⟩)
   go_ret;exact⟨xr_ (by simp[y3_,h]),rfl⟩
 ·go_enter Tryz.func88,Tryz.ntmps88;go_wp2;go_ret;exact⟨xr_ (by simp[y3_];omega),rfl⟩
def z3_ (l:List (Int×Nat)) (n:Int):Bool:=isW n 0 ((l.length:Int) - 1) && (l.getD n.toNat (0,0)).1 != 1
theorem ahx_ (o:Nat) (av:Value) (l:List (Int×Nat)) (n:Int) (w:World) (h1:w.cell? ⟨o,0,none⟩=some av) (h2:AhAt w av l) (hl:l.length≤1000000000000) :
 Calls Tryz.prog 90 #[.pointer (some ⟨o,0,none⟩),.int .i64 n] w fun e w'=>e=.returned (.bool (z3_ l n))∧w=w':=by
 obtain⟨a,cap,rfl,h2⟩:=h2;by_cases h:isW n 0 ((l.length:Int) - 1)=true
 · have hn:0≤n∧n≤(l.length:Int) - 1:=(by simpa[isW] using h);obtain⟨k,rfl⟩:=Int.eq_ofNat_of_zero_le hn.1;rcases h2 with h3|⟨b,off,rfl,hc⟩
   ·subst h3;simp at hn;omega
   obtain⟨c1,fa,fc,c2⟩:=hc k (by omega);have e1:wrap64 ((l.length:Int) - 1)=(l.length:Int) - 1:=(by unfold wrap64;omega);have i1:(0:Int)≤(k:Int):=(by omega);have i2:(k:Int)<(l.length:Int):=(by omega);have HD:=hd_ (by unfold z3_;rw[h];simp:z3_ l k=((l.getD k (0,0)).1 != 1));generalize(l.getD k (0,0)).1=kd at *;clear hc c2;go_enter Tryz.func90,Tryz.ntmps90;go_wp2_with (go_at_call 70;refine(yf_ _ _ _ _).mono ?_;rintro e w' ⟨rfl,rfl⟩)
   go_ret;exact⟨xr_ (by rw[HD.out]),rfl⟩
 · have h':isW n 0 ((l.length:Int) - 1)=false:=(by simpa using h);have e1:wrap64 ((l.length:Int) - 1)=(l.length:Int) - 1:=(by unfold wrap64;omega);have HD:=hd_ (by unfold z3_;rw[h'];rfl:z3_ l n=false);clear h h2;go_enter Tryz.func90,Tryz.ntmps90;go_wp2_with (go_at_call 70;refine(yf_ _ _ _ _).mono ?_;rintro e w' ⟨rfl,rfl⟩)
   go_ret;exact⟨xr_ (by rw[HD.out]),rfl⟩
def yg_ (x:Ins):Bool:=
 if x.d=4∨x.d=5∨x.d=16 then true
 else if x.d=6∨x.d=7∨x.d=13∨x.d=14∨x.d=17∨x.d=18 then(x.c==0)
 else if x.d=1∨x.d=2∨x.d=3∨x.d=11∨x.d=12 then(x.b==0) && (x.c==0)
 else if x.d=8∨x.d=9∨x.d=10∨x.d=15 then(x.a==0) && (x.b==0) && (x.c==0)
 else false
theorem dos (d:Int):d=1∨d=2∨d=3∨d=4∨d=5∨d=6∨d=7∨d=8∨d=9∨d=10∨d=11∨d=12∨d=13∨d=14∨d=15∨d=16∨d=17∨d=18∨(d<1∨18<d):=by omega
theorem gr1 (w:World) (o:Obj):w.grownBy (w.alloc o) none:=xb_ gz_ _
theorem ah2_ (x:Ins) (w:World):Calls Tryz.prog 74 #[kn_ x] w fun e w'=>e=.returned (.bool (yg_ x))∧w.grownBy w' none:=by
 obtain⟨d,a,b,c⟩:=x;unfold kn_;dsimp only;rcases dos d with rfl|rfl|rfl|rfl|rfl|rfl|rfl|rfl|rfl|rfl|rfl|rfl|rfl|rfl|rfl|rfl|rfl|rfl|hd
 · go_enter Tryz.func74,Tryz.ntmps74;go_wp2;all_goals go_ret
   all_goals exact⟨xr_ (by simp_all[yg_]),gr1 _ _⟩
 · go_enter Tryz.func74,Tryz.ntmps74;go_wp2;all_goals go_ret
   all_goals exact⟨xr_ (by simp_all[yg_]),gr1 _ _⟩
 · go_enter Tryz.func74,Tryz.ntmps74;go_wp2;all_goals go_ret
   all_goals exact⟨xr_ (by simp_all[yg_]),gr1 _ _⟩
 · go_enter Tryz.func74,Tryz.ntmps74;go_wp2;all_goals go_ret
   all_goals exact⟨xr_ (by simp_all[yg_]),gr1 _ _⟩
 · go_enter Tryz.func74,Tryz.ntmps74;go_wp2;all_goals go_ret
   all_goals exact⟨xr_ (by simp_all[yg_]),gr1 _ _⟩
 · go_enter Tryz.func74,Tryz.ntmps74;go_wp2;all_goals go_ret
   all_goals exact⟨xr_ (by simp_all[yg_]),gr1 _ _⟩
 · go_enter Tryz.func74,Tryz.ntmps74;go_wp2;all_goals go_ret
   all_goals exact⟨xr_ (by simp_all[yg_]),gr1 _ _⟩
 · go_enter Tryz.func74,Tryz.ntmps74;go_wp2;all_goals go_ret
   all_goals exact⟨xr_ (by simp_all[yg_]),gr1 _ _⟩
 · go_enter Tryz.func74,Tryz.ntmps74;go_wp2;all_goals go_ret
   all_goals exact⟨xr_ (by simp_all[yg_]),gr1 _ _⟩
 · go_enter Tryz.func74,Tryz.ntmps74;go_wp2;all_goals go_ret
   all_goals exact⟨xr_ (by simp_all[yg_]),gr1 _ _⟩
 · go_enter Tryz.func74,Tryz.ntmps74;go_wp2;all_goals go_ret
   all_goals exact⟨xr_ (by simp_all[yg_]),gr1 _ _⟩
 · go_enter Tryz.func74,Tryz.ntmps74;go_wp2;all_goals go_ret
   all_goals exact⟨xr_ (by simp_all[yg_]),gr1 _ _⟩
 · go_enter Tryz.func74,Tryz.ntmps74;go_wp2;all_goals go_ret
   all_goals exact⟨xr_ (by simp_all[yg_]),gr1 _ _⟩
 · go_enter Tryz.func74,Tryz.ntmps74;go_wp2;all_goals go_ret
   all_goals exact⟨xr_ (by simp_all[yg_]),gr1 _ _⟩
 · go_enter Tryz.func74,Tryz.ntmps74;go_wp2;all_goals go_ret
   all_goals exact⟨xr_ (by simp_all[yg_]),gr1 _ _⟩
 · go_enter Tryz.func74,Tryz.ntmps74;go_wp2;all_goals go_ret
   all_goals exact⟨xr_ (by simp_all[yg_]),gr1 _ _⟩
 · go_enter Tryz.func74,Tryz.ntmps74;go_wp2;all_goals go_ret
   all_goals exact⟨xr_ (by simp_all[yg_]),gr1 _ _⟩
 · go_enter Tryz.func74,Tryz.ntmps74;go_wp2;all_goals go_ret
   all_goals exact⟨xr_ (by simp_all[yg_]),gr1 _ _⟩
 ·have e1:(d==1)=false:=(by simp;omega);have e2:(d==2)=false:=(by simp;omega);have e3:(d==3)=false:=(by simp;omega);have e4:(d==4)=false:=(by simp;omega);have e5:(d==5)=false:=(by simp;omega);have e6:(d==6)=false:=(by simp;omega);have e7:(d==7)=false:=(by simp;omega);have e8:(d==8)=false:=(by simp;omega);have e9:(d==9)=false:=(by simp;omega);have e10:(d==10)=false:=(by simp;omega);have e11:(d==11)=false:=(by simp;omega);have e12:(d==12)=false:=(by simp;omega);have e13:(d==13)=false:=(by simp;omega);have e14:(d==14)=false:=(by simp;omega);have e15:(d==15)=false:=(by simp;omega);have e16:(d==16)=false:=(by simp;omega);have e17:(d==17)=false:=(by simp;omega);have e18:(d==18)=false:=(by simp;omega);have HU:=hd_ (by unfold yg_;dsimp only;rw[if_neg (by omega),if_neg (by omega),if_neg (by omega),if_neg (by omega)]:yg_ ⟨d,a,b,c⟩=false);clear hd;go_enter Tryz.func74,Tryz.ntmps74;go_wp2;go_ret;exact⟨xr_ (by rw[HU.out]),gr1 _ _⟩
def zy_ (x:Ins):Int:=if xt_ x.a x.b=0 then 1 else 2
theorem aac_ (x:Ins) (w:World):Calls Tryz.prog 68 #[kn_ x] w fun e w'=>e=.returned (.int .i64 (zy_ x))∧w.grownBy w' none:=by
 obtain⟨d,a,b,c⟩:=x;unfold kn_;dsimp only;obtain⟨s,hs⟩:∃ s,xt_ a b=s:=⟨_,rfl⟩;by_cases h:s=0
 · subst h;go_enter Tryz.func68,Tryz.ntmps68;go_wp2_with (go_at_call 81;refine(jv_ _ _ _).mono ?_;rintro e w' ⟨rfl,rfl⟩;rw[hs])
   go_ret;exact⟨xs_ (by simp[zy_,hs]),gr1 _ _⟩
 · go_enter Tryz.func68,Tryz.ntmps68;go_wp2_with (go_at_call 81;refine(jv_ _ _ _).mono ?_;rintro e w' ⟨rfl,rfl⟩;rw[hs])
   go_ret;exact⟨xs_ (by simp[zy_,hs,h]),gr1 _ _⟩
def tkS (x:Ins):Int:=if x.d=3∨x.d=10∨x.d=12∨x.d=4∨x.d=7∨x.d=9 then 1 else if x.d=5 then 2 else if x.d=6 then zy_ x else if x.d=8 then 3 else 0
def gvS (x:Ins):Int:=if x.d=1∨x.d=2∨x.d=4∨x.d=7∨x.d=6∨x.d=8 then 1 else if x.d=9 then 2 else 0
theorem ajw_ (x:Ins) (w:World):Calls Tryz.prog 79 #[kn_ x] w fun e w'=>e=.returned (.tuple #[.int .i64 (tkS x),.int .i64 (gvS x)])∧w.grownBy w' none:=by
 obtain⟨d,a,b,c⟩:=x;unfold kn_;dsimp only;rcases dos d with rfl|rfl|rfl|rfl|rfl|rfl|rfl|rfl|rfl|rfl|rfl|rfl|rfl|rfl|rfl|rfl|rfl|rfl|hd
 ·go_enter Tryz.func79,Tryz.ntmps79;go_wp2;go_ret2;exact⟨rfl,gr1 _ _⟩
 ·go_enter Tryz.func79,Tryz.ntmps79;go_wp2;go_ret2;exact⟨rfl,gr1 _ _⟩
 ·go_enter Tryz.func79,Tryz.ntmps79;go_wp2;go_ret2;exact⟨rfl,gr1 _ _⟩
 ·go_enter Tryz.func79,Tryz.ntmps79;go_wp2;go_ret2;exact⟨rfl,gr1 _ _⟩
 ·go_enter Tryz.func79,Tryz.ntmps79;go_wp2;go_ret2;exact⟨rfl,gr1 _ _⟩
 · go_enter Tryz.func79,Tryz.ntmps79;go_wp2_with (go_at_call 68;refine(aac_ ⟨6,a,b,c⟩ _).mono ?_;rintro e w1 ⟨rfl,hg1⟩)
   go_ret2;exact⟨rfl,(gr1 _ _).trans hg1⟩
 ·go_enter Tryz.func79,Tryz.ntmps79;go_wp2;go_ret2;exact⟨rfl,gr1 _ _⟩
 ·go_enter Tryz.func79,Tryz.ntmps79;go_wp2;go_ret2;exact⟨rfl,gr1 _ _⟩
 ·go_enter Tryz.func79,Tryz.ntmps79;go_wp2;go_ret2;exact⟨rfl,gr1 _ _⟩
 ·go_enter Tryz.func79,Tryz.ntmps79;go_wp2;go_ret2;exact⟨rfl,gr1 _ _⟩
 ·go_enter Tryz.func79,Tryz.ntmps79;go_wp2;go_ret2;exact⟨rfl,gr1 _ _⟩
 ·go_enter Tryz.func79,Tryz.ntmps79;go_wp2;go_ret2;exact⟨rfl,gr1 _ _⟩
 ·go_enter Tryz.func79,Tryz.ntmps79;go_wp2;go_ret2;exact⟨rfl,gr1 _ _⟩
 ·go_enter Tryz.func79,Tryz.ntmps79;go_wp2;go_ret2;exact⟨rfl,gr1 _ _⟩
 ·go_enter Tryz.func79,Tryz.ntmps79;go_wp2;go_ret2;exact⟨rfl,gr1 _ _⟩
 ·go_enter Tryz.func79,Tryz.ntmps79;go_wp2;go_ret2;exact⟨rfl,gr1 _ _⟩
 ·go_enter Tryz.func79,Tryz.ntmps79;go_wp2;go_ret2;exact⟨rfl,gr1 _ _⟩
 ·go_enter Tryz.func79,Tryz.ntmps79;go_wp2;go_ret2;exact⟨rfl,gr1 _ _⟩
 ·have e1:(d==1)=false:=(by simp;omega);have e2:(d==2)=false:=(by simp;omega);have e3:(d==3)=false:=(by simp;omega);have e4:(d==4)=false:=(by simp;omega);have e5:(d==5)=false:=(by simp;omega);have e6:(d==6)=false:=(by simp;omega);have e7:(d==7)=false:=(by simp;omega);have e8:(d==8)=false:=(by simp;omega);have e9:(d==9)=false:=(by simp;omega);have e10:(d==10)=false:=(by simp;omega);have e11:(d==11)=false:=(by simp;omega);have e12:(d==12)=false:=(by simp;omega);have e13:(d==13)=false:=(by simp;omega);have e14:(d==14)=false:=(by simp;omega);have e15:(d==15)=false:=(by simp;omega);have e16:(d==16)=false:=(by simp;omega);have e17:(d==17)=false:=(by simp;omega);have e18:(d==18)=false:=(by simp;omega);have HU:=hd_ (by unfold tkS gvS;dsimp only;rw[if_neg (by omega),if_neg (by omega),if_neg (by omega),if_neg (by omega),if_neg (by omega),if_neg (by omega)];exact⟨rfl,rfl⟩:tkS ⟨d,a,b,c⟩=0∧gvS ⟨d,a,b,c⟩=0);clear hd;go_enter Tryz.func79,Tryz.ntmps79;go_wp2;go_ret2;exact⟨by rw[HU.out.1,HU.out.2];rfl,gr1 _ _⟩
def wayS (i:Int) (x:Ins):List Int:=if x.d=11 then [x.a] else if x.d=12 then [i+1,x.a] else if x.d=14 then [i+1,x.b] else [i+1]
def afa_ (w:World) (l:List Int) (e:Ending) (w':World):Prop:=∃ b,e=.returned (.slice (some ⟨b,0,none⟩) l.length l.length)∧w.heap.size≤b∧w'.heap[b]?=some (.cells (xi_ l) 3)∧w.grownBy w' none
theorem ao3_ (i:Int) (x:Ins) (w:World) (h0:0≤i) (h1:i≤1000000000000):Calls Tryz.prog 80 #[.int .i64 i,kn_ x] w (afa_ w (wayS i x)):=by
 obtain⟨d,a,b,c⟩:=x;unfold kn_;dsimp only;have ew:wrap64 (i+1)=i+1:=(by unfold wrap64;omega);by_cases h11:d=11
 ·have q1:(d==11)=true:=(by simpa using h11);have HL:=hd_ (by unfold wayS;simp_all:wayS i ⟨d,a,b,c⟩=[a]);rw[HL.out];go_enter Tryz.func80,Tryz.ntmps80;go_wp2;go_ret;exact⟨w.heap.size+1,rfl,by omega,xj_ (by simp) _,xb_ (gr1 _ _) _⟩
 by_cases h12:d=12
 ·have q1:(d==11)=false:=(by simpa using h11);have q2:(d==12)=true:=(by simpa using h12);have HL:=hd_ (by unfold wayS;simp_all:wayS i ⟨d,a,b,c⟩=[i+1,a]);rw[HL.out];go_enter Tryz.func80,Tryz.ntmps80;go_wp2;go_ret;exact⟨w.heap.size+1,rfl,by omega,xj_ (by simp) _,xb_ (gr1 _ _) _⟩
 by_cases h14:d=14
 ·have q1:(d==11)=false:=(by simpa using h11);have q2:(d==12)=false:=(by simpa using h12);have q3:(d==14)=true:=(by simpa using h14);have HL:=hd_ (by unfold wayS;simp_all:wayS i ⟨d,a,b,c⟩=[i+1,b]);rw[HL.out];go_enter Tryz.func80,Tryz.ntmps80;go_wp2;go_ret;exact⟨w.heap.size+1,rfl,by omega,xj_ (by simp) _,xb_ (gr1 _ _) _⟩
 ·have q1:(d==11)=false:=(by simpa using h11);have q2:(d==12)=false:=(by simpa using h12);have q3:(d==14)=false:=(by simpa using h14);have HL:=hd_ (by unfold wayS;simp_all:wayS i ⟨d,a,b,c⟩=[i+1]);rw[HL.out];go_enter Tryz.func80,Tryz.ntmps80;go_wp2;go_ret;exact⟨w.heap.size+1,rfl,by omega,xj_ (by simp) _,xb_ (gr1 _ _) _⟩
end Go.Proofs.YtcgbfhpmkpglkaaGreatDoor
