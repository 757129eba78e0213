/- Texts put together: Wc, Wd, Dh, Di. -/
import Derived.Test.YtcoglmaiahpooaaGreatDoorQ11
import Derived.Test.YtcoglmaiahpooaaGreatDoorQ07
import Derived.Lib.Repeat
import Derived.Lib.AppendIntMem
import Derived.Deep.RegionWith
set_option linter.unusedVariables false
set_option linter.unusedSimpArgs false
set_option maxHeartbeats 8000000
namespace Go.Proofs.YtcoglmaiahpooaaGreatDoor
open Go.RowKit
attribute [local go_sem ↓] Go.wp_at_zero Go.wp_at_succ
abbrev xv_ (W:World) (t:ByteArray):Ending→World→Prop:=fun e w'=>e=.returned (.string t)∧W.grownBy w' none
abbrev bs (l:List UInt8):ByteArray:=⟨l.toArray⟩
structure TabP (V:World):Prop where
 p10:V.heap[10]?=some (.cells (Lib.pow10Tab.map fun z=>Value.int .u64 z).toArray 330)
theorem ab1_ {w:World} (h:w.heap[10]?=some (.cells (Lib.pow10Tab.map fun z=>Value.int .u64 z).toArray 330)):Lib.TabIs Tryz.prog w "internal/strconv.uint64pow10" .u64 Lib.pow10Tab:=by
 have e:Tryz.prog.globalNamed "internal/strconv.uint64pow10"=some 10:=by kernel_rfl
 simp[Lib.TabIs,World.var?,e,h]
theorem zd_ {V W:World} (hP:TabP V) (hV:Vs V W) (n:Int) (h0 : -9223372036854775808≤n) (h1:n≤9223372036854775807):Calls Tryz.prog 137 #[.int .i64 n] W (xv_ W (bs (Lib.itoa n))):=
 (Tryz.strconv_Itoa n h0 h1 W (ab1_ ((hV.2 10 (by decide)).trans hP.p10))).mono fun _ _ ⟨he,k,os,hw⟩=>⟨he,hw▸zh_ (Lib.below_grow _ W (Nat.le_refl _) k os)⟩
theorem x2_ (s:ByteArray) (W:World) (hs:s.size≤1000) (ha:∀ b∈s.data.toList,b.toNat<128):Calls Tryz.prog 56 #[.string s] W (xv_ W (bs (Lib.toUpperA s.data.toList))):=
 (Tryz.strings_ToUpper_ascii s W (by omega) (fun j b hb=>ha b (List.mem_of_getElem? hb))).mono fun _ _ h=>⟨h.1,zh_ h.2⟩
theorem afb_:∀ n:Nat,Lib.repeatL [32] n=sp n
 | 0=>rfl
 | n+1=>by rw[Lib.repeatL,afb_ n];rfl
theorem ail_ (n:Nat) (hn:n≤1000000) (W:World):Calls Tryz.prog 145 #[.string ⟨#[32]⟩,.int .i64 (n:Int)] W (xv_ W (bs (sp n))):=by
 match n,hn with
 | 0,_=>exact(Tryz.strings_Repeat_zero _ W).mono fun _ _ h=>⟨h.1,h.2▸gz_⟩
 | 1,_=>exact(Tryz.strings_Repeat_one _ W).mono fun _ _ h=>⟨h.1,h.2▸gz_⟩
 | n+2,hn=>
  refine(Tryz.strings_Repeat_main ⟨#[32]⟩ (n+2) W (by omega) (by omega) (by show 1*_≤_;omega) (by decide)).mono ?_;intro e w' h;refine⟨h.1.trans ?_,zh_ h.2⟩;have:(⟨#[32]⟩:ByteArray).data.toList=[32]:=rfl
  rw[this,afb_]
theorem q5_ {V W:World} (hT:Tabs V) (hV:Vs V W) (k:Int) (h0:1≤k) (h1:k≤5):Calls Tryz.prog 58 #[.int .i64 k] W (xv_ W (bs (yc_ k))):=by
 have X:=(hV.2 2 (by decide)).trans hT.kw;have x:=xn_ X;clear hT hV X;have hc:k=1∨k=2∨k=3∨k=4∨k=5:=(by omega);rcases hc with rfl|rfl|rfl|rfl|rfl
 · have c:=xa_ (x2_ ⟨#[98,111,111,108]⟩ W (by decide) (by decide));go_enter Tryz.func58,Tryz.ntmps58;go_wp2_with fail
   refine c.out.mono ?_;rintro e w2 ⟨rfl,g2⟩;go_wp2_with fail
   go_ret;exact⟨rfl,g2⟩
 · have c:=xa_ (x2_ ⟨#[105,110,116]⟩ W (by decide) (by decide));go_enter Tryz.func58,Tryz.ntmps58;go_wp2_with fail
   refine c.out.mono ?_;rintro e w2 ⟨rfl,g2⟩;go_wp2_with fail
   go_ret;exact⟨rfl,g2⟩
 · have c:=xa_ (x2_ ⟨#[100,105,110,116]⟩ W (by decide) (by decide));go_enter Tryz.func58,Tryz.ntmps58;go_wp2_with fail
   refine c.out.mono ?_;rintro e w2 ⟨rfl,g2⟩;go_wp2_with fail
   go_ret;exact⟨rfl,g2⟩
 · have c:=xa_ (x2_ ⟨#[119,111,114,100]⟩ W (by decide) (by decide));go_enter Tryz.func58,Tryz.ntmps58;go_wp2_with fail
   refine c.out.mono ?_;rintro e w2 ⟨rfl,g2⟩;go_wp2_with fail
   go_ret;exact⟨rfl,g2⟩
 · have c:=xa_ (x2_ ⟨#[116,105,109,101]⟩ W (by decide) (by decide));go_enter Tryz.func58,Tryz.ntmps58;go_wp2_with fail
   refine c.out.mono ?_;rintro e w2 ⟨rfl,g2⟩;go_wp2_with fail
   go_ret;exact⟨rfl,g2⟩
theorem xo_ {B b:Nat} {l:List UInt8} {W:World} (h:WB B b l W) (hBW:B≤W.heap.size) (ss:List ByteArray) (n:Nat) (hn:n=ss.length) (cap:Nat) (cs:Array Value) (hcs:cs=(ss.map Value.string).toArray) (q:Nat) (hq:q=W.heap.size) (hl:l.length+(cat ss).length≤140737488355328) (hs:ss.length≤1000) :
 Calls Tryz.prog 57 #[.pointer (some ⟨b,0,none⟩),.slice (some ⟨q,0,none⟩) n cap] (W.alloc (.cells cs 9)) (wrt B b (l++cat ss) W):=by
 subst hn hcs hq;refine(u9_ (h.gn (gr1 W _)) ss _ cap (xe_ rfl _) hl hs (by simp;omega)).mono ?_;rintro e w' ⟨rfl,h1,h2⟩;exact⟨rfl,h1,((Wr.refl B b W).al hBW _).trans h2⟩
theorem qb_ {B b:Nat} {l:List UInt8} {W:World} (h:WB B b l W) (hBW:B≤W.heap.size) (s:ByteArray) (hl:l.length+(s.size+1)≤140737488355328):Calls Tryz.prog 59 #[.pointer (some ⟨b,0,none⟩),.string s] W (wrt B b (l++(s.data.toList++[10])) W):=by
 have e1:s.data.size=s.size:=rfl;have c:=xa_ (xo_ h hBW [s,⟨#[10]⟩] 2 rfl 2 #[.string s,.string ⟨#[10]⟩] rfl _ rfl (by simp[cat];omega) (by simp));clear h hBW hl;go_enter Tryz.func59,Tryz.ntmps59;go_wp2_with fail
 refine c.out.mono ?_;rintro e w2 ⟨rfl,h2,r2⟩;go_wp2_with fail
 go_end0;exact⟨rfl,h2,r2⟩
theorem ya_ {B b:Nat} {l:List UInt8} {W:World} (h:WB B b l W) (hBW:B≤W.heap.size) (n:Nat) (hn:n≤1000000) (hl:l.length+n≤140737488355328):Calls Tryz.prog 101 #[.pointer (some ⟨b,0,none⟩),.int .i64 (n:Int)] W (wrt B b (l++sp n) W):=by
 have cR:=xa_ (ail_ n hn W);have H:=xa_ h;have HB:=xa_ hBW;clear h hBW;go_enter Tryz.func101,Tryz.ntmps101;go_wp2_with fail
 refine cR.out.mono ?_;rintro e w1 ⟨rfl,g1⟩;have c:=xa_ (xo_ (H.out.gn g1) (by have:=HB.out;have:=g1.size;omega) [bs (sp n)] 1 rfl 1 #[.string (bs (sp n))] rfl _ rfl (by simp[cat,sp];omega) (by simp));have G1:=xa_ ((Wr.refl B b W).gn g1 HB.out);clear g1 cR;go_wp2_with fail
 refine c.out.mono ?_;rintro e w2 ⟨rfl,h2,r2⟩;go_wp2_with fail
 go_end0;refine⟨rfl,?_,G1.out.trans r2⟩;simpa[cat] using h2
theorem ab2_ {B b:Nat} {l:List UInt8} {W:World} (h:WB B b l W) (hBW:B≤W.heap.size) (n:Nat) (hn:n≤1000000) (ss:List ByteArray) (q cap:Nat) (hq:W.heap[q]?=some (.cells (ss.map Value.string).toArray 9)) (hs:ss.length≤1000) (hl:l.length+(n+(cat ss).length+1)≤140737488355328) :
 Calls Tryz.prog 62 #[.pointer (some ⟨b,0,none⟩),.int .i64 (n:Int),.slice (some ⟨q,0,none⟩) ss.length cap] W (wrt B b (l++(sp n++(cat ss++[10]))) W):=by
 have hqb:q≠b:=by
  obtain⟨_,p,v,hb,_⟩:=h;intro e;subst e;rw[hq] at hb;injection hb with hb;injection hb with _ hb _;exact absurd hb (by decide)
 have cB:=xa_ (ya_ h hBW n hn (by omega));have hsp:(sp n).length=n:=(by simp[sp]);have HB:=xa_ hBW;have Hq:=xa_ hq;clear h hBW hq;go_enter Tryz.func62,Tryz.ntmps62;go_wp2_with fail
 refine cB.out.mono ?_;rintro e w1 ⟨rfl,h1,r1⟩;have cP:=xa_ (u9_ h1 ss q cap (r1.box Hq.out (by decide) hqb) (by rw[List.length_append];omega) hs (by have:=HB.out;have:=r1.size;omega));have R1:=xa_ r1;clear h1 r1 cB;go_wp2_with fail
 refine cP.out.mono ?_;rintro e w2 ⟨rfl,h2,r2⟩;have cE:=xa_ (qb_ h2 (by have:=HB.out;have:=R1.out.size;have:=r2.size;omega) ⟨#[]⟩ (by rw[List.length_append,List.length_append];show _+(0+1)≤_;omega));have R2:=xa_ (R1.out.trans r2);clear h2 r2 cP;go_wp2_with fail
 refine cE.out.mono ?_;rintro e w3 ⟨rfl,h3,r3⟩;have R3:=xa_ (R2.out.trans r3);have H3:=xa_ h3;clear h3 r3 cE;go_wp2_with fail
 go_end0;refine⟨rfl,?_,R3.out⟩;have:=H3.out;simpa[List.append_assoc] using this
theorem xx_ {B b:Nat} {l:List UInt8} {W:World} (h:WB B b l W) (hBW:B≤W.heap.size) (n:Nat) (hn:n≤1000000) (ss:List ByteArray) (m:Nat) (hm:m=ss.length) (cap:Nat) (cs:Array Value) (hcs:cs=(ss.map Value.string).toArray) (q:Nat) (hq:q=W.heap.size) (nI:Int) (hnI:nI=n) (hs:ss.length≤1000) (hl:l.length+(n+(cat ss).length+1)≤140737488355328) :
 Calls Tryz.prog 62 #[.pointer (some ⟨b,0,none⟩),.int .i64 nI,.slice (some ⟨q,0,none⟩) m cap] (W.alloc (.cells cs 9)) (wrt B b (l++(sp n++(cat ss++[10]))) W):=by
 subst hm hcs hq hnI;refine(ab2_ (h.gn (gr1 W _)) (by simp;omega) n hn ss _ cap (xe_ rfl _) hs hl).mono ?_;rintro e w' ⟨rfl,h1,h2⟩;exact⟨rfl,h1,((Wr.refl B b W).al hBW _).trans h2⟩
def qy_ (v:Value) (t:Nat):Obj:=.cells #[v] t (0,0)
theorem q6_ {b t:Nat} {v:Value} {w:World} (hb:w.heap[b]?=some (qy_ v t)):w.cell? ⟨b,0,none⟩=some v∧w.frozen? ⟨b,0,none⟩=false:=by
 constructor
 ·simp[World.cell?,hb,qy_]
 ·simp[World.frozen?,hb,qy_]
theorem vb_ {b t:Nat} {v u:Value} {w:World} (hb:w.heap[b]?=some (qy_ v t)):(w.setCell ⟨b,0,none⟩ u).heap[b]?=some (qy_ u t):=by
 unfold World.setCell;simp[Array.getElem?_modify,hb,qy_]
theorem jk_ {b k o:Nat} {u:Value} {x:Option Obj} {w:World} (h:k≠b) (hk:w.heap[k]?=x):(w.setCell ⟨b,o,none⟩ u).heap[k]?=x:=
 (Below.heap_setCell w ⟨b,o,none⟩ u k h).trans hk
def TW (w:World):Prop:=10<w.heap.size∧w.heap[10]?=some (.cells (Lib.pow10Tab.map fun z=>Value.int .u64 z).toArray 330)
theorem TW.below {w w':World} (h:TW w) (hb:Below w.heap.size w w'):TW w':=⟨by have:=hb.size;have:=h.1;omega,(hb.block 10 h.1).trans h.2⟩
theorem TW.of {V W:World} (hP:TabP V) (hV:Vs V W):TW W:=⟨by have:=hV.1;omega,(hV.2 10 (by decide)).trans hP.p10⟩
theorem ab3_ (n:Int) (h0 : -9223372036854775808≤n) (h1:n≤9223372036854775807) (w:World) (hT:TW w) :
 Calls Tryz.prog 137 #[.int .i64 n] w fun e w'=>e=.returned (.string ⟨(Lib.itoa n).toArray⟩)∧Below w.heap.size w w':=
 (Tryz.strconv_Itoa n h0 h1 w (ab1_ hT.2)).mono fun _ _ ⟨he,k,os,hw⟩=>⟨he,hw▸Lib.below_grow _ w (Nat.le_refl _) k os⟩
def ptB (m L:Int) (u:ByteArray):ByteArray:=if L≤m then⟨(Lib.itoa (m / L)).toArray⟩++u else⟨#[]⟩
structure ShowAt (B:Nat) (n:Int) (t:ByteArray) (w:World):Prop where
 n:w.heap[B]?=some (qy_ (.int .i64 n) 3)
 t:w.heap[B+1]?=some (qy_ (.string t) 9)
theorem jx_:∀(k u:Nat),u≤k→(Lib.decDigits u).length≤u+1
 | 0,u,h=>by
  obtain rfl:u=0:=(by omega);rw[Lib.decDigits];simp
 | k+1,u,h=>by
  rw[Lib.decDigits];split
  ·simp
  ·rw[List.length_append];have:=jx_ k (u / 10) (by omega);simp only[List.length_cons,List.length_nil];omega
theorem zw_ (n:Int) (h0:0≤n) (h1:n≤4294967295):(⟨(Lib.itoa n).toArray⟩:ByteArray).size≤4294967296:=by
 show(Lib.itoa n).toArray.size≤_
 rw[List.size_toArray,Lib.itoa,if_neg (by omega)];have:=jx_ n.toNat n.toNat (Nat.le_refl _);omega
theorem aaz_ (B:Nat) (n L:Int) (u t:ByteArray) (w:World) (hT:TW w) (h:ShowAt B n t w) (hn:L≤n) (hL:0<L) (hn1:n≤4294967295) (hu:u.size≤2) (ht:t.size≤1000000000000) :
 Calls Tryz.prog 242 #[.int .i64 L,.string u,.pointer (some ⟨B,0,none⟩),.pointer (some ⟨B+1,0,none⟩)] w fun e w'=>
  e=.returned (.tuple #[])∧Below B w w'∧ShowAt B (n % L) (t++(⟨(Lib.itoa (n / L)).toArray⟩++u)) w':=by
 have hsh:=h;obtain⟨n0,nf⟩:=q6_ h.n;obtain⟨t0,tf⟩:=q6_ h.t;have hdiv:n.tdiv L=n / L:=Int.tdiv_eq_ediv_of_nonneg (by omega);have hmod:n.tmod L=n % L:=Int.tmod_eq_emod_of_nonneg (by omega);have hq0:0≤n / L:=Int.ediv_nonneg (by omega) (by omega);have hq1:n / L≤n:=Int.ediv_le_self _ (by omega);have cI:=fun W hT=>ab3_ (n / L) (by omega) (by omega) W hT;have hS:=zw_ (n / L) hq0 (by omega);obtain⟨S,hSd⟩:∃ S,(⟨(Lib.itoa (n / L)).toArray⟩:ByteArray)=S:=⟨_,rfl⟩;rw[hSd] at cI hS ⊢;have hSu:(S++u).size=S.size+u.size:=ByteArray.size_append;have hB:B+1<w.heap.size:=(Array.getElem?_eq_some_iff.1 h.t).1;clear h hSd;go_enter Tryz.func242,Tryz.ntmps242;go_wp2;go_region_with (go_at_call 137;go_must (refine(cI _ (hT.below (Below.refl _ w).drew)).mono ?_;rintro e w1 ⟨rfl,hb1⟩;have t1:=(hb1.cell (p:=⟨B+1,0,none⟩) hB).trans t0;have tf1:=(hb1.frozen (p:=⟨B+1,0,none⟩) hB).trans tf;have n1:=(hb1.cell (p:=⟨B,0,none⟩) (Nat.lt_of_succ_lt hB)).trans n0;have nf1:=(hb1.frozen (p:=⟨B,0,none⟩) (Nat.lt_of_succ_lt hB)).trans nf))
 all_goals have g1:=(hb1.block B (Nat.lt_of_succ_lt hB)).trans hsh.n
 all_goals have g2:=(hb1.block (B+1) hB).trans hsh.t
 all_goals go_wp2
 all_goals go_end0
 all_goals refine⟨rfl,?_,⟨?_,?_⟩⟩
 all_goals first
  | exact(((Below.refl B w).drew.trans (hb1.mono (by show B≤w.heap.size;omega))).setCell (by show B≤B+1;omega) _).setCell (Nat.le_refl _) _
  | exact vb_ (jk_ (by omega) g1)
  | exact jk_ (by omega) (vb_ g2)
theorem jy_ (t:ByteArray):t++(⟨#[]⟩:ByteArray)=t:=by
 apply ByteArray.ext;rw[ByteArray.data_append];simp
theorem ab4_ (B:Nat) (n L:Int) (u t:ByteArray) (w:World) (h:ShowAt B n t w) (hn:n<L) (hn0:0≤n) :
 Calls Tryz.prog 242 #[.int .i64 L,.string u,.pointer (some ⟨B,0,none⟩),.pointer (some ⟨B+1,0,none⟩)] w fun e w'=>
  e=.returned (.tuple #[])∧Below B w w'∧ShowAt B (n % L) t w':=by
 have hsh:=h;obtain⟨n0,nf⟩:=q6_ h.n;have hmod:n.tmod L=n % L:=Int.tmod_eq_emod_of_nonneg (by omega);clear h;go_enter Tryz.func242,Tryz.ntmps242;go_wp2;go_end0;exact⟨rfl,(Below.refl B w).setCell (Nat.le_refl _) _,vb_ hsh.n,jk_ (by omega) hsh.t⟩
theorem z4_ (B:Nat) (n L:Int) (u t:ByteArray) (w:World) (hT:TW w) (h:ShowAt B n t w) (hL:0<L) (hn0:0≤n) (hn1:n≤4294967295) (hu:u.size≤2) (ht:t.size≤1000000000000) :
 Calls Tryz.prog 242 #[.int .i64 L,.string u,.pointer (some ⟨B,0,none⟩),.pointer (some ⟨B+1,0,none⟩)] w fun e w'=>
  e=.returned (.tuple #[])∧Below B w w'∧ShowAt B (n % L) (t++ptB n L u) w':=by
 by_cases hn:L≤n
 ·have e:ptB n L u=⟨(Lib.itoa (n / L)).toArray⟩++u:=(by rw[ptB,if_pos hn]);rw[e];exact aaz_ B n L u t w hT h hn hL hn1 hu ht
 ·have e:ptB n L u=⟨#[]⟩:=(by rw[ptB,if_neg hn]);rw[e,jy_];exact ab4_ B n L u t w h (by omega) hn0
theorem q7_ (n L:Int) (u:ByteArray) (hL:0<L) (hn0:0≤n) (hn1:n≤4294967295) (hu:u.size≤2):(ptB n L u).size≤4294967298:=by
 unfold ptB;split
 ·rw[ByteArray.size_append];have hq1:n / L≤n:=Int.ediv_le_self _ (by omega);have:=zw_ (n / L) (Int.ediv_nonneg hn0 (by omega)) (by omega);omega
 ·show 0≤_;omega
def jp_ (n:Int):ByteArray:=
 if n=0 then⟨#[84,35,48,109,115]⟩ else
 (((((⟨#[84,35]⟩:ByteArray)++ptB n 86400000 ⟨#[100]⟩)++ptB (n % 86400000) 3600000 ⟨#[104]⟩)++ptB (n % 86400000 % 3600000) 60000 ⟨#[109]⟩)++ptB (n % 86400000 % 3600000 % 60000) 1000 ⟨#[115]⟩)++ptB (n % 86400000 % 3600000 % 60000 % 1000) 1 ⟨#[109,115]⟩
theorem ut_ (w:World) (n:Int):ShowAt w.heap.size n ⟨#[84,35]⟩ ((w.alloc (qy_ (.int .i64 n) 3)).alloc (qy_ (.string ⟨#[84,35]⟩) 9))∧
 Below w.heap.size w ((w.alloc (qy_ (.int .i64 n) 3)).alloc (qy_ (.string ⟨#[84,35]⟩) 9)):=by
 have e1:(w.alloc (qy_ (.int .i64 n) 3)).heap.size=w.heap.size+1:=(by simp);have n1:=heap_alloc_new w (qy_ (.int .i64 n) 3);have n2:=heap_alloc_new (w.alloc (qy_ (.int .i64 n) 3)) (qy_ (.string ⟨#[84,35]⟩) 9);rw[e1] at n2;exact⟨⟨(Below.heap_alloc _ _ _ (by omega)).trans n1,n2⟩,((Below.refl _ w).alloc (Nat.le_refl _) _).alloc (by omega) _⟩
theorem vc_ (n:Int) (w:World) (hT:TW w) (h0:0≤n) (h1:n≤4294967295) :
 Calls Tryz.prog 211 #[.int .i64 n] w fun e w'=>e=.returned (.string (jp_ n))∧Below w.heap.size w w':=by
 by_cases hz:n=0
 ·subst hz;go_enter Tryz.func211,Tryz.ntmps211;go_wp2;go_ret;exact⟨rfl,(Below.refl _ w).alloc (Nat.le_refl _) _⟩
 · have e:Hid (jp_ n=(((((⟨#[84,35]⟩:ByteArray)++ptB n 86400000 ⟨#[100]⟩)++ptB (n % 86400000) 3600000 ⟨#[104]⟩)++ptB (n % 86400000 % 3600000) 60000 ⟨#[109]⟩)++ptB (n % 86400000 % 3600000 % 60000) 1000 ⟨#[115]⟩)++ptB (n % 86400000 % 3600000 % 60000 % 1000) 1 ⟨#[109,115]⟩):=by
    show _=_
    rw[jp_,if_neg hz]
   obtain⟨hs,hb⟩:=ut_ w n;have z1:=q7_ n 86400000 ⟨#[100]⟩ (by omega) h0 h1 (by decide);have c1:=fun W hT h=>z4_ w.heap.size n 86400000 ⟨#[100]⟩ ⟨#[84,35]⟩ W hT h (by omega) h0 h1 (by decide) (by decide);obtain⟨t1,ht1⟩:∃ t1,(⟨#[84,35]⟩:ByteArray)++ptB n 86400000 ⟨#[100]⟩=t1:=⟨_,rfl⟩;have y1:t1.size≤5000000000:=(by rw[← ht1,ByteArray.size_append];show 2+_≤_;omega);rw[ht1] at e c1;obtain⟨m1,hm1⟩:∃ m1,n % 86400000=m1:=⟨_,rfl⟩;have x1:0≤m1∧m1≤4294967295:=(by omega);rw[hm1] at e c1;have z2:=q7_ m1 3600000 ⟨#[104]⟩ (by omega) x1.1 x1.2 (by decide);have c2:=fun W hT h=>z4_ w.heap.size m1 3600000 ⟨#[104]⟩ t1 W hT h (by omega) x1.1 x1.2 (by decide) (by omega);obtain⟨t2,ht2⟩:∃ t2,t1++ptB m1 3600000 ⟨#[104]⟩=t2:=⟨_,rfl⟩;have y2:t2.size≤10000000000:=(by rw[← ht2,ByteArray.size_append];omega);rw[ht2] at e c2;obtain⟨m2,hm2⟩:∃ m2,m1 % 3600000=m2:=⟨_,rfl⟩;have x2:0≤m2∧m2≤4294967295:=(by omega);rw[hm2] at e c2;have z3:=q7_ m2 60000 ⟨#[109]⟩ (by omega) x2.1 x2.2 (by decide);have c3:=fun W hT h=>z4_ w.heap.size m2 60000 ⟨#[109]⟩ t2 W hT h (by omega) x2.1 x2.2 (by decide) (by omega);obtain⟨t3,ht3⟩:∃ t3,t2++ptB m2 60000 ⟨#[109]⟩=t3:=⟨_,rfl⟩;have y3:t3.size≤15000000000:=(by rw[← ht3,ByteArray.size_append];omega);rw[ht3] at e c3;obtain⟨m3,hm3⟩:∃ m3,m2 % 60000=m3:=⟨_,rfl⟩;have x3:0≤m3∧m3≤4294967295:=(by omega);rw[hm3] at e c3;have z4:=q7_ m3 1000 ⟨#[115]⟩ (by omega) x3.1 x3.2 (by decide);have c4:=fun W hT h=>z4_ w.heap.size m3 1000 ⟨#[115]⟩ t3 W hT h (by omega) x3.1 x3.2 (by decide) (by omega)
   obtain⟨t4,ht4⟩:∃ t4,t3++ptB m3 1000 ⟨#[115]⟩=t4:=⟨_,rfl⟩;have y4:t4.size≤20000000000:=(by rw[← ht4,ByteArray.size_append];omega);rw[ht4] at e c4;obtain⟨m4,hm4⟩:∃ m4,m3 % 1000=m4:=⟨_,rfl⟩;have x4:0≤m4∧m4≤4294967295:=(by omega);rw[hm4] at e c4;have c5:=fun W hT h=>z4_ w.heap.size m4 1 ⟨#[109,115]⟩ t4 W hT h (by omega) x4.1 x4.2 (by decide) (by omega);obtain⟨t5,ht5⟩:∃ t5,t4++ptB m4 1 ⟨#[109,115]⟩=t5:=⟨_,rfl⟩;rw[ht5] at e c5;clear ht1 ht2 ht3 ht4 ht5 hm1 hm2 hm3 hm4 z1 z2 z3 z4 y1 y2 y3 y4 x1 x2 x3 x4;have HS:=hd_ hs;have HB:=hd_ hb;clear hs hb;go_enter Tryz.func211,Tryz.ntmps211;go_wp2_with fail
   refine(c1 _ (hT.below HB.out) HS.out).mono ?_;rintro e1 w1 ⟨rfl,k1,s1⟩;have b1:=HB.out.trans k1;clear HS HB k1;go_wp2_with fail
   refine(c2 _ (hT.below b1) s1).mono ?_;rintro e1 w2 ⟨rfl,k2,s2⟩;have b2:=b1.trans k2;clear b1 s1 k2;go_wp2_with fail
   refine(c3 _ (hT.below b2) s2).mono ?_;rintro e1 w3 ⟨rfl,k3,s3⟩;have b3:=b2.trans k3;clear b2 s2 k3;go_wp2_with fail
   refine(c4 _ (hT.below b3) s3).mono ?_;rintro e1 w4 ⟨rfl,k4,s4⟩;have b4:=b3.trans k4;clear b3 s3 k4;go_wp2_with fail
   refine(c5 _ (hT.below b4) s4).mono ?_;rintro e1 w5 ⟨rfl,k5,s5⟩;have b5:=b4.trans k5;clear b4 s4 k5;obtain⟨q0,qf⟩:=q6_ s5.t;go_wp2;go_ret;exact⟨by rw[e.out];rfl,b5⟩
theorem ab5_ (W:World) (b:Nat) (x:Int) (h:W.cell? ⟨b,0,none⟩=some (.int .u8 x)) :
 (convert 63 9 (.slice (some ⟨b,0,none⟩) 1 1)).run Tryz.prog W=.ok (.string ⟨#[UInt8.ofNat x.toNat]⟩) W:=by
 have:=run_convert_bytes_arg W 63 5 Tryz.underlying63 Tryz.underlying5 b 0 1 1 [x] rfl (fun i hi=>by
  obtain rfl:i=0:=(by omega);exact h) 9 Tryz.underlying9
 exact this
theorem zr_ {w0 w1:World} {x:Int} (hb:Below (w0.alloc (.cells #[.int .u8 x] 5)).heap.size (w0.alloc (.cells #[.int .u8 x] 5)) w1) :
 (convert 63 9 (.slice (some ⟨w0.heap.size,0,none⟩) 1 1)).run Tryz.prog w1=.ok (.string ⟨#[UInt8.ofNat x.toNat]⟩) w1:=by
 apply ab5_;have h1:=heap_alloc_new w0 (.cells #[.int .u8 x] 5);have hs:w0.heap.size<(w0.alloc (.cells #[.int .u8 x] 5)).heap.size:=(by simp);have h2:=(hb.block w0.heap.size hs).trans h1;unfold World.cell?;show(match w1.heap[w0.heap.size]? with|some (.cells c _ _)=>c[0]?|_=>none)=_
 rw[h2];rfl
theorem vy_ {w0 w1:World} {x:Int} (hb:Below (w0.alloc (.cells #[.int .u8 x] 5)).drew.heap.size (w0.alloc (.cells #[.int .u8 x] 5)).drew w1) :
 (convert 63 9 (.slice (some ⟨w0.heap.size,0,none⟩) 1 1)).run Tryz.prog w1=.ok (.string ⟨#[UInt8.ofNat x.toNat]⟩) w1:=
 zr_ (w0:=w0) ⟨hb.os,hb.tape,hb.output,hb.size,hb.block⟩
theorem yy_ (n:Int) (h0 : -9223372036854775808≤n) (h1:n≤9223372036854775807):IntKind.i64.wrap n=n:=by
 have h:IntKind.i64.wrap n=wrap64 n:=by
  unfold IntKind.wrap;simp only[IntKind.bits,IntKind.signed];unfold wrap64;simp;split <;> omega
 rw[h,qu_ h0 h1]
theorem q8_ (n:Int) (h0:0≤n) (h1:n≤255):IntKind.u8.wrap n=n:=by
 rw[IntKind.wrap_u8];omega
set_option maxRecDepth 100000 in
theorem ady_ (m:Nat) (ih:∀ W,Calls Tryz.prog 30 #[.int .i64 ((m / 10:Nat):Int)] W fun e w'=>e=.returned (.string ⟨(Lib.decDigits (m / 10)).toArray⟩)∧Below W.heap.size W w') (w:World) (h9:9<m) (hm:m≤4294967295) :
 Calls Tryz.prog 30 #[.int .i64 (m:Int)] w fun e w'=>e=.returned (.string ⟨(Lib.decDigits m).toArray⟩)∧Below w.heap.size w w':=by
 have hdiv:(m:Int).tdiv 10=((m / 10:Nat):Int):=(by rw[Int.tdiv_eq_ediv_of_nonneg (by omega)];omega);have hmod:(m:Int).tmod 10=((m % 10:Nat):Int):=(by rw[Int.tmod_eq_emod_of_nonneg (by omega)];omega);have hlt:m % 10<10:=(by omega);have hsz:(⟨(Lib.decDigits (m / 10)).toArray⟩:ByteArray).size≤4294967296:=by
  show(Lib.decDigits (m / 10)).toArray.size≤_
  rw[List.size_toArray];have:=jx_ (m / 10) (m / 10) (Nat.le_refl _);omega
 have HD:Hid ((⟨(Lib.decDigits (m / 10)).toArray⟩:ByteArray)++⟨#[UInt8.ofNat (48+m % 10)]⟩=⟨(Lib.decDigits m).toArray⟩):=by
  show _=_
  apply ByteArray.ext;rw[ByteArray.data_append];show(Lib.decDigits (m / 10)).toArray++#[UInt8.ofNat (48+m % 10)]=(Lib.decDigits m).toArray
  conv=>rhs;rw[Lib.decDigits,dif_neg (by omega)]
  simp
 obtain⟨S,hS⟩:∃ S,(⟨(Lib.decDigits (m / 10)).toArray⟩:ByteArray)=S:=⟨_,rfl⟩;rw[hS] at ih hsz HD;obtain⟨d,hd⟩:∃ d,m % 10=d:=⟨_,rfl⟩;rw[hd] at hmod hlt HD;obtain⟨X,hX⟩:∃ X,UInt8.ofNat (48+d)=X:=⟨_,rfl⟩;rw[hX] at HD;have HX:=hd_ hX;obtain⟨q,hq⟩:∃ q,m / 10=q:=⟨_,rfl⟩;rw[hq] at hdiv ih;have cv:∀ W:World,(convert 63 9 (.slice (some ⟨W.heap.size,0,none⟩) 1 1)).run Tryz.prog (W.alloc (.cells #[.int .u8 (48+(d:Int))] 5))=.ok (.string ⟨#[X]⟩) (W.alloc (.cells #[.int .u8 (48+(d:Int))] 5)):=fun W=>by
  have:=zr_ (w0:=W) (Below.refl _ (W.alloc (.cells #[.int .u8 (48+(d:Int))] 5)));rw[this,show(48+(d:Int)).toNat=48+d by omega,hX]
 have cvD:∀ W:World,(convert 63 9 (.slice (some ⟨W.heap.size,0,none⟩) 1 1)).run Tryz.prog (W.alloc (.cells #[.int .u8 (48+(d:Int))] 5)).drew=.ok (.string ⟨#[X]⟩) (W.alloc (.cells #[.int .u8 (48+(d:Int))] 5)).drew:=fun W=>by
  have:=zr_ (w0:=W) (Below.refl _ (W.alloc (.cells #[.int .u8 (48+(d:Int))] 5))).drew;rw[this,show(48+(d:Int)).toNat=48+d by omega,hX]
 have hdiv2:(m:Int) / 10=(q:Int):=(by omega);have hmod2:(m:Int) % 10=(d:Int):=(by omega);have hw1:=yy_ (q:Int) (by omega) (by omega);have hw2:=yy_ (48+(d:Int)) (by omega) (by omega);have hw3:=q8_ (48+(d:Int)) (by omega) (by omega);clear hS hd hq hX;go_enter Tryz.func30,Tryz.ntmps30;go_wp2;go_region_with (go_at_call 30;go_must (refine(ih _).mono ?_;rintro e w1 ⟨rfl,hb1⟩;first|(have cvB:=vy_ hb1;rw[show(48+(d:Int)).toNat=48+d by omega,HX.out] at cvB)|(have cvB:=zr_ hb1;rw[show(48+(d:Int)).toNat=48+d by omega,HX.out] at cvB)|skip))
 all_goals go_wp2
 all_goals go_ret
 all_goals refine⟨by rw[← HD.out];rfl,?_⟩
 all_goals first
  | exact((Below.refl w.heap.size w).drew.trans hb1).alloc hb1.size _
  | exact(((Below.refl w.heap.size w).alloc (Nat.le_refl _) _).drew).trans (hb1.mono (by show w.heap.size≤(w.alloc _).heap.size;simp))
set_option maxRecDepth 100000 in
theorem adz_ (m:Nat) (ih:∀ W,Calls Tryz.prog 30 #[.int .i64 (-((m / 10:Nat):Int))] W fun e w'=>e=.returned (.string ⟨(45::Lib.decDigits (m / 10)).toArray⟩)∧Below W.heap.size W w') (w:World) (h9:9<m) (hm:m≤4294967295) :
 Calls Tryz.prog 30 #[.int .i64 (-(m:Int))] w fun e w'=>e=.returned (.string ⟨(45::Lib.decDigits m).toArray⟩)∧Below w.heap.size w w':=by
 have hdiv:(-(m:Int)).tdiv 10 = -((m / 10:Nat):Int):=(by rw[Int.neg_tdiv,Int.tdiv_eq_ediv_of_nonneg (by omega)];omega);have hmod:(-(m:Int)).tmod 10 = -((m % 10:Nat):Int):=(by rw[Int.neg_tmod,Int.tmod_eq_emod_of_nonneg (by omega)];omega);have hlt:m % 10<10:=(by omega);have hsz:(⟨(45::Lib.decDigits (m / 10)).toArray⟩:ByteArray).size≤4294967296:=by
  show(45::Lib.decDigits (m / 10)).toArray.size≤_
  rw[List.size_toArray,List.length_cons];have:=jx_ (m / 10) (m / 10) (Nat.le_refl _);omega
 have HD:Hid ((⟨(45::Lib.decDigits (m / 10)).toArray⟩:ByteArray)++⟨#[UInt8.ofNat (48+m % 10)]⟩=⟨(45::Lib.decDigits m).toArray⟩):=by
  show _=_
  apply ByteArray.ext;rw[ByteArray.data_append];show(45::Lib.decDigits (m / 10)).toArray++#[UInt8.ofNat (48+m % 10)]=(45::Lib.decDigits m).toArray
  conv=>rhs;rw[Lib.decDigits,dif_neg (by omega)]
  simp
 obtain⟨S,hS⟩:∃ S,(⟨(45::Lib.decDigits (m / 10)).toArray⟩:ByteArray)=S:=⟨_,rfl⟩;rw[hS] at ih hsz HD;obtain⟨d,hd⟩:∃ d,m % 10=d:=⟨_,rfl⟩;rw[hd] at hmod hlt HD;obtain⟨X,hX⟩:∃ X,UInt8.ofNat (48+d)=X:=⟨_,rfl⟩;rw[hX] at HD;have HX:=hd_ hX;obtain⟨q,hq⟩:∃ q,m / 10=q:=⟨_,rfl⟩;rw[hq] at hdiv ih;have cv:∀ W:World,(convert 63 9 (.slice (some ⟨W.heap.size,0,none⟩) 1 1)).run Tryz.prog (W.alloc (.cells #[.int .u8 (48+(d:Int))] 5))=.ok (.string ⟨#[X]⟩) (W.alloc (.cells #[.int .u8 (48+(d:Int))] 5)):=fun W=>by
  have:=zr_ (w0:=W) (Below.refl _ (W.alloc (.cells #[.int .u8 (48+(d:Int))] 5)));rw[this,show(48+(d:Int)).toNat=48+d by omega,hX]
 have cvD:∀ W:World,(convert 63 9 (.slice (some ⟨W.heap.size,0,none⟩) 1 1)).run Tryz.prog (W.alloc (.cells #[.int .u8 (48+(d:Int))] 5)).drew=.ok (.string ⟨#[X]⟩) (W.alloc (.cells #[.int .u8 (48+(d:Int))] 5)).drew:=fun W=>by
  have:=zr_ (w0:=W) (Below.refl _ (W.alloc (.cells #[.int .u8 (48+(d:Int))] 5))).drew;rw[this,show(48+(d:Int)).toNat=48+d by omega,hX]
 have hw1:=yy_ (-(q:Int)) (by omega) (by omega);have hw0:(48:Int) - -(d:Int)=48+(d:Int):=(by omega);have hw2:=yy_ (48+(d:Int)) (by omega) (by omega);have hw3:=q8_ (48+(d:Int)) (by omega) (by omega);clear hS hd hq hX;go_enter Tryz.func30,Tryz.ntmps30;go_wp2;go_region_with (go_at_call 30;go_must (refine(ih _).mono ?_;rintro e w1 ⟨rfl,hb1⟩;first|(have cvB:=vy_ hb1;rw[show(48+(d:Int)).toNat=48+d by omega,HX.out] at cvB)|(have cvB:=zr_ hb1;rw[show(48+(d:Int)).toNat=48+d by omega,HX.out] at cvB)|skip))
 all_goals go_wp2
 all_goals go_ret
 all_goals refine⟨by rw[← HD.out];rfl,?_⟩
 all_goals first
  | exact((Below.refl w.heap.size w).drew.trans hb1).alloc hb1.size _
  | exact(((Below.refl w.heap.size w).alloc (Nat.le_refl _) _).drew).trans (hb1.mono (by show w.heap.size≤(w.alloc _).heap.size;simp))
theorem kv_ (m:Nat) (w:World) (h9:m≤9) :
 Calls Tryz.prog 30 #[.int .i64 (m:Int)] w fun e w'=>e=.returned (.string ⟨(Lib.decDigits m).toArray⟩)∧Below w.heap.size w w':=by
 have e:Lib.decDigits m=[UInt8.ofNat (48+m)]:=(by rw[Lib.decDigits,dif_pos (by omega)]);obtain⟨X,hX⟩:∃ X,UInt8.ofNat (48+m)=X:=⟨_,rfl⟩;rw[hX] at e;have hw2:=yy_ (48+(m:Int)) (by omega) (by omega);have hw3:=q8_ (48+(m:Int)) (by omega) (by omega);have cv:∀ W:World,(convert 63 9 (.slice (some ⟨W.heap.size,0,none⟩) 1 1)).run Tryz.prog (W.alloc (.cells #[.int .u8 (48+(m:Int))] 5))=.ok (.string ⟨#[X]⟩) (W.alloc (.cells #[.int .u8 (48+(m:Int))] 5)):=fun W=>by
  have:=zr_ (w0:=W) (Below.refl _ (W.alloc (.cells #[.int .u8 (48+(m:Int))] 5)));rw[this,show(48+(m:Int)).toNat=48+m by omega,hX]
 rw[e];clear e hX;go_enter Tryz.func30,Tryz.ntmps30;go_wp2;go_ret;exact⟨rfl,(Below.refl _ w).alloc (Nat.le_refl _) _⟩
theorem j9_ (m:Nat) (w:World) (h9:m≤9) (h0:0<m) :
 Calls Tryz.prog 30 #[.int .i64 (-(m:Int))] w fun e w'=>e=.returned (.string ⟨(45::Lib.decDigits m).toArray⟩)∧Below w.heap.size w w':=by
 have e:Lib.decDigits m=[UInt8.ofNat (48+m)]:=(by rw[Lib.decDigits,dif_pos (by omega)]);obtain⟨X,hX⟩:∃ X,UInt8.ofNat (48+m)=X:=⟨_,rfl⟩;rw[hX] at e;have hmod:(-(m:Int)).tmod 10 = -(m:Int):=(by rw[Int.neg_tmod,Int.tmod_eq_emod_of_nonneg (by omega)];omega);have hw0:(48:Int) - -(m:Int)=48+(m:Int):=(by omega);have hw2:=yy_ (48+(m:Int)) (by omega) (by omega);have hw3:=q8_ (48+(m:Int)) (by omega) (by omega);have cv:∀ W:World,(convert 63 9 (.slice (some ⟨W.heap.size,0,none⟩) 1 1)).run Tryz.prog (W.alloc (.cells #[.int .u8 (48+(m:Int))] 5))=.ok (.string ⟨#[X]⟩) (W.alloc (.cells #[.int .u8 (48+(m:Int))] 5)):=fun W=>by
  have:=zr_ (w0:=W) (Below.refl _ (W.alloc (.cells #[.int .u8 (48+(m:Int))] 5)));rw[this,show(48+(m:Int)).toNat=48+m by omega,hX]
 rw[e];clear e hX;go_enter Tryz.func30,Tryz.ntmps30;go_wp2;go_ret;exact⟨rfl,(Below.refl _ w).alloc (Nat.le_refl _) _⟩
theorem aab_:∀(k m:Nat),m≤k→m≤4294967295→∀ w,Calls Tryz.prog 30 #[.int .i64 (m:Int)] w fun e w'=>e=.returned (.string ⟨(Lib.decDigits m).toArray⟩)∧Below w.heap.size w w'
 | 0,m,h,_,w=>kv_ m w (by omega)
 | k+1,m,h,hm,w=>by
  by_cases h9:m≤9
  ·exact kv_ m w h9
  ·exact ady_ m (fun W=>aab_ k (m / 10) (by omega) (by omega) W) w (by omega) hm
theorem vz_:∀(k m:Nat),m≤k→0<m→m≤4294967295→∀ w,Calls Tryz.prog 30 #[.int .i64 (-(m:Int))] w fun e w'=>e=.returned (.string ⟨(45::Lib.decDigits m).toArray⟩)∧Below w.heap.size w w'
 | 0,m,h,h0,_,w=>j9_ m w (by omega) h0
 | k+1,m,h,h0,hm,w=>by
  by_cases h9:m≤9
  ·exact j9_ m w h9 h0
  ·exact adz_ m (fun W=>vz_ k (m / 10) (by omega) (by omega) (by omega) W) w (by omega) hm
theorem jq_ (n:Int) (w:World) (h0 : -4294967295≤n) (h1:n≤4294967295) :
 Calls Tryz.prog 30 #[.int .i64 n] w fun e w'=>e=.returned (.string ⟨(Lib.itoa n).toArray⟩)∧Below w.heap.size w w':=by
 by_cases hn:n<0
 ·have:=vz_ n.natAbs n.natAbs (Nat.le_refl _) (by omega) (by omega) w;rw[show -((n.natAbs:Nat):Int)=n by omega] at this;rw[Lib.itoa,if_pos hn];exact this
 ·have:=aab_ n.toNat n.toNat (Nat.le_refl _) (by omega) w;rw[show((n.toNat:Nat):Int)=n by omega] at this;rw[Lib.itoa,if_neg hn];exact this
theorem aim_ (n:Int) (W:World) (h0 : -4294967295≤n) (h1:n≤4294967295):Calls Tryz.prog 30 #[.int .i64 n] W fun e w'=>e=.returned (.string ⟨(Lib.itoa n).toArray⟩)∧W.grownBy w' none:=(jq_ n W h0 h1).mono fun _ _ h=>⟨h.1,zh_ h.2⟩
theorem zx_ (k s l:Int) (h:k=1∧s=2∧l=0∨k=5∧s=4294967296∧l=0) (W:World):Calls Tryz.prog 91 #[.int .i64 k] W fun e w'=>e=.returned (.tuple #[.int .i64 s,.int .i64 l])∧W=w':=by
 rcases h with⟨rfl,rfl,rfl⟩|⟨rfl,rfl,rfl⟩
 all_goals(go_enter Tryz.func91,Tryz.ntmps91;go_wp2;go_ret2;exact⟨rfl,rfl⟩)
theorem aa0_ (n:Int) (h0:0≤n) (h1:n≤4294967295) (W:World):Calls Tryz.prog 52 #[.int .i64 5,.int .i64 n] W fun e w'=>e=.returned (.bool true)∧w'=W:=by
 go_enter Tryz.func52,Tryz.ntmps52;go_wp2_with (go_at_call 91;go_must (refine(zx_ 5 4294967296 0 (.inr ⟨rfl,rfl,rfl⟩) _).mono ?_;rintro e w' ⟨rfl,rfl⟩))
 go_ret;exact⟨rfl,rfl⟩
def kw_ (i:Nat):ByteArray:=if i=0 then⟨#[100]⟩ else if i=1 then⟨#[104]⟩ else if i=2 then⟨#[109]⟩ else if i=3 then⟨#[115]⟩ else⟨#[109,115]⟩
def yu_ (p0 p1 p2 p3 p4:Int) (i:Nat):Int:=if i=0 then p0 else if i=1 then p1 else if i=2 then p2 else if i=3 then p3 else p4
def y7_ (f:Nat→Int):Nat→ByteArray
 | 0=>⟨#[84,35]⟩
 | i+1=>if 0<f i then y7_ f i++(⟨(Lib.itoa (f i)).toArray⟩++kw_ i) else y7_ f i
theorem ka_ (i:Nat):(kw_ i).size≤2:=by
 unfold kw_;repeat' split
 all_goals decide
theorem kx_ (f:Nat→Int) (h:∀ i,0≤f i∧f i≤4294967295) (c:Nat) (hc:c=4294967298):∀ i,(y7_ f i).size≤2+i*c
 | 0=>by show 2≤_;omega
 | i+1=>by
  have ih:=kx_ f h c hc i;rw[y7_,Nat.succ_mul];split
  ·rw[ByteArray.size_append,ByteArray.size_append];have h1:=zw_ (f i) (h i).1 (h i).2;have h2:=ka_ i;omega
  ·omega
def jt_ (p0 p1 p2 p3 p4:Int):Obj:=.cells #[.int .i64 p0,.int .i64 p1,.int .i64 p2,.int .i64 p3,.int .i64 p4] 3 (0,0)
def vd_:Obj:=.cells #[.string ⟨#[100]⟩,.string ⟨#[104]⟩,.string ⟨#[109]⟩,.string ⟨#[115]⟩,.string ⟨#[109,115]⟩] 9 (0,0)
theorem ain_ {w:World} {b:Nat} {p0 p1 p2 p3 p4:Int} (h:w.heap[b]?=some (jt_ p0 p1 p2 p3 p4)) (i:Nat) (hi:i<5):w.cell? ⟨b,i,none⟩=some (.int .i64 (yu_ p0 p1 p2 p3 p4 i)):=by
 unfold World.cell?;show(match w.heap[b]? with|some (.cells c _ _)=>c[i]?|_=>none)=_
 rw[h];have hc:i=0∨i=1∨i=2∨i=3∨i=4:=(by omega);rcases hc with rfl|rfl|rfl|rfl|rfl <;> rfl
theorem aio_ {w:World} {b:Nat} (h:w.heap[b]?=some vd_) (i:Nat) (hi:i<5):w.cell? ⟨b,i,none⟩=some (.string (kw_ i)):=by
 unfold World.cell?;show(match w.heap[b]? with|some (.cells c _ _)=>c[i]?|_=>none)=_
 rw[h];have hc:i=0∨i=1∨i=2∨i=3∨i=4:=(by omega);rcases hc with rfl|rfl|rfl|rfl|rfl <;> rfl
set_option maxRecDepth 100000 in
theorem aa1_ (n p0 p1 p2 p3 p4:Int) (w:World) (h0:0≤n) (h1:n≤4294967295)
 (e0:n / 86400000=p0) (e1:n / 3600000 % 24=p1) (e2:n / 60000 % 60=p2) (e3:n / 1000 % 60=p3) (e4:n % 1000=p4) :
 Calls Tryz.prog 63 #[.int .i64 5,.int .i64 n] w fun e w'=>e=.returned (.string (y7_ (yu_ p0 p1 p2 p3 p4) 5++(if n=0 then⟨#[48,109,115]⟩ else⟨#[]⟩)))∧Below w.heap.size w w':=by
 have hb:∀ i,0≤yu_ p0 p1 p2 p3 p4 i∧yu_ p0 p1 p2 p3 p4 i≤4294967295:=by
  intro i;unfold yu_;repeat' split
  all_goals omega
 obtain⟨q1,g1⟩:∃ q,n / 3600000=q:=⟨_,rfl⟩;obtain⟨q2,g2⟩:∃ q,n / 60000=q:=⟨_,rfl⟩;obtain⟨q3,g3⟩:∃ q,n / 1000=q:=⟨_,rfl⟩;have b1:0≤q1:=(by omega);have b2:0≤q2:=(by omega);have b3:0≤q3:=(by omega);rw[g1] at e1;rw[g2] at e2;rw[g3] at e3;have f0:n.tdiv 86400000=p0:=(by rw[Int.tdiv_eq_ediv_of_nonneg h0];exact e0);have f1:n.tdiv 3600000=q1:=(by rw[Int.tdiv_eq_ediv_of_nonneg h0];exact g1);have f2:n.tdiv 60000=q2:=(by rw[Int.tdiv_eq_ediv_of_nonneg h0];exact g2);have f3:n.tdiv 1000=q3:=(by rw[Int.tdiv_eq_ediv_of_nonneg h0];exact g3);have k1:q1.tmod 24=p1:=(by rw[Int.tmod_eq_emod_of_nonneg b1];exact e1);have k2:q2.tmod 60=p2:=(by rw[Int.tmod_eq_emod_of_nonneg b2];exact e2);have k3:q3.tmod 60=p3:=(by rw[Int.tmod_eq_emod_of_nonneg b3];exact e3);have k4:n.tmod 1000=p4:=(by rw[Int.tmod_eq_emod_of_nonneg h0];exact e4);have hAs:∀ i,i≤5→(y7_ (yu_ p0 p1 p2 p3 p4) i).size≤25000000000:=fun i hi=>by
  have h:=kx_ (yu_ p0 p1 p2 p3 p4) hb 4294967298 rfl i;have:i=0∨i=1∨i=2∨i=3∨i=4∨i=5:=(by omega)
  rcases this with rfl|rfl|rfl|rfl|rfl|rfl <;> omega
 have w0:=yy_ p0 (by omega) (by omega);have w1:=yy_ q1 (by omega) (by omega);have w2:=yy_ q2 (by omega) (by omega);have w3:=yy_ q3 (by omega) (by omega);have HA:=hd_ hAs;have HB:=hd_ hb;clear hb hAs;go_enter Tryz.func63,Tryz.ntmps63;go_wp2_with (go_at_call 52;go_must (refine(aa0_ n h0 h1 _).mono ?_;rintro e w' ⟨rfl,rfl⟩))
 have n1:=heap_alloc_new w' (jt_ p0 p1 p2 p3 p4);have s1:(w'.alloc (jt_ p0 p1 p2 p3 p4)).heap.size=w'.heap.size+1:=(by simp);have n2:=heap_alloc_new (w'.alloc (jt_ p0 p1 p2 p3 p4)) vd_;have bl:Below w'.heap.size w' ((w'.alloc (jt_ p0 p1 p2 p3 p4)).alloc vd_):=((Below.refl _ w').alloc (Nat.le_refl _) _).alloc (by omega) _;have n3:((w'.alloc (jt_ p0 p1 p2 p3 p4)).alloc vd_).heap[w'.heap.size]?=some (jt_ p0 p1 p2 p3 p4):=(Below.heap_alloc _ _ _ (by omega)).trans n1;rw[s1] at n2;have HN:Hid (((w'.alloc (jt_ p0 p1 p2 p3 p4)).alloc vd_).heap[w'.heap.size]?=some (jt_ p0 p1 p2 p3 p4)∧((w'.alloc (jt_ p0 p1 p2 p3 p4)).alloc vd_).heap[w'.heap.size+1]?=some vd_∧Below w'.heap.size w' ((w'.alloc (jt_ p0 p1 p2 p3 p4)).alloc vd_)):=⟨n3,n2,bl⟩;clear n1 s1 n2 bl n3 e0 e1 e2 e3 e4 g1 g2 g3 f0 f1 f2 f3 k1 k2 k3 k4 w0 w1 w2 w3 b1 b2 b3;go_loopg [6,9] 5 (fun gk s6 s9 wx=>∃ i:Nat,s9=.int .i64 i∧s6=.string (y7_ (yu_ p0 p1 p2 p3 p4) i)∧i≤5∧wx.heap[w'.heap.size]?=some (jt_ p0 p1 p2 p3 p4)∧wx.heap[w'.heap.size+1]?=some vd_∧Below w'.heap.size w' wx∧5≤i+gk)
 case atStart=>exact⟨0,rfl,rfl,by omega,HN.out.1,HN.out.2.1,HN.out.2.2,by omega⟩
 case round=>
  obtain⟨i,rfl,rfl,hi,hP,hQ,hbl,hgk⟩:=hrel;clear HN;by_cases hlt:i<5
  · obtain⟨g',rfl⟩:∃ g',gk=g'+1:=⟨gk - 1,by omega⟩;have cp:=ain_ hP i hlt;have cq:=aio_ hQ i hlt;have hsz:=HA.out i hi;have hpb:=HB.out i;have hws:=ka_ i;have hacc:Hid (y7_ (yu_ p0 p1 p2 p3 p4) (i+1)=if 0<yu_ p0 p1 p2 p3 p4 i then y7_ (yu_ p0 p1 p2 p3 p4) i++(⟨(Lib.itoa (yu_ p0 p1 p2 p3 p4 i)).toArray⟩++kw_ i) else y7_ (yu_ p0 p1 p2 p3 p4) i):=by
     show _=_
     rw[y7_]
    have cD:=fun W=>jq_ (yu_ p0 p1 p2 p3 p4 i) W (by omega) hpb.2;have hds:=zw_ (yu_ p0 p1 p2 p3 p4 i) hpb.1 hpb.2;obtain⟨D,hD⟩:∃ D,(⟨(Lib.itoa (yu_ p0 p1 p2 p3 p4 i)).toArray⟩:ByteArray)=D:=⟨_,rfl⟩;rw[hD] at cD hds hacc;obtain⟨V,hV⟩:∃ V,yu_ p0 p1 p2 p3 p4 i=V:=⟨_,rfl⟩;rw[hV] at cp hpb cD hacc;obtain⟨A,hA⟩:∃ A,y7_ (yu_ p0 p1 p2 p3 p4) i=A:=⟨_,rfl⟩;rw[hA] at hsz hacc ⊢;obtain⟨U,hU⟩:∃ U,kw_ i=U:=⟨_,rfl⟩;rw[hU] at cq hws hacc;have hPs:w'.heap.size+1<wr.heap.size:=(Array.getElem?_eq_some_iff.1 hQ).1;have HP:=hd_ hP;have HQ:=hd_ hQ;have HBl:=hd_ hbl;have hDU:(D++U).size=D.size+U.size:=ByteArray.size_append;clear hD hV hA hU hP hQ hbl;by_cases hv:0<V
    · rw[if_pos hv] at hacc;go_wp2;go_region_with (go_at_call 30;go_must (refine(cD _).mono ?_;rintro e w1 ⟨rfl,hb1⟩;have cq1:=(hb1.cell (p:=⟨w'.heap.size+1,i,none⟩) hPs).trans cq))
      all_goals go_wp2
      all_goals go_roundg g'
      all_goals first
       | omega
       | exact⟨i+1,rfl,by rw[hacc.out],by omega,(hb1.block _ (Nat.lt_of_succ_lt hPs)).trans HP.out,(hb1.block _ hPs).trans HQ.out,HBl.out.drew.trans (hb1.mono HBl.out.size),by omega⟩
    · rw[if_neg hv] at hacc;go_wp2;go_roundg g'
      case measure=>omega
      case rel=>exact⟨i+1,rfl,by rw[hacc.out],by omega,HP.out,HQ.out,HBl.out,by omega⟩
  · obtain rfl:i=5:=(by omega);obtain⟨A,hA⟩:∃ A,y7_ (yu_ p0 p1 p2 p3 p4) 5=A:=⟨_,rfl⟩;have hsz:=HA.out 5 (Nat.le_refl _);rw[hA] at hsz ⊢;have HE:=hd_ hA;clear hA;by_cases hz:n=0
    ·go_wp2;go_ret;exact⟨by rw[HE.out];rfl,hbl⟩
    ·go_wp2;go_ret;exact⟨by rw[HE.out,jy_];rfl,hbl⟩
theorem afx_ (n:Int) (h0:0≤n) (h1:n≤4294967295) :
 y7_ (yu_ (n / 86400000) (n / 3600000 % 24) (n / 60000 % 60) (n / 1000 % 60) (n % 1000)) 5++(if n=0 then⟨#[48,109,115]⟩ else⟨#[]⟩:ByteArray)=jp_ n:=by
 by_cases hz:n=0
 ·subst hz;decide
 · rw[if_neg hz,jy_,jp_,if_neg hz];have pt:∀(m L v:Int) (u A:ByteArray),0≤m→0<L→m / L=v→(if 0<v then A++(⟨(Lib.itoa v).toArray⟩++u) else A)=A++ptB m L u:=by
    intro m L v u A hm hL hv;subst hv;by_cases h:L≤m
    · have:0<m / L:=by
       have:=Int.ediv_le_ediv hL h;rw[Int.ediv_self (by omega)] at this;omega
      rw[if_pos this,ptB,if_pos h]
    · have:m / L=0:=Int.ediv_eq_zero_of_lt hm (by omega)
      rw[if_neg (by omega),ptB,if_neg h,jy_]
   obtain⟨f,hf⟩:∃ f,yu_ (n / 86400000) (n / 3600000 % 24) (n / 60000 % 60) (n / 1000 % 60) (n % 1000)=f:=⟨_,rfl⟩;have v0:f 0=n / 86400000:=(by rw[← hf];rfl);have v1:f 1=n / 3600000 % 24:=(by rw[← hf];rfl);have v2:f 2=n / 60000 % 60:=(by rw[← hf];rfl);have v3:f 3=n / 1000 % 60:=(by rw[← hf];rfl);have v4:f 4=n % 1000:=(by rw[← hf];rfl);rw[hf];have a1:y7_ f 1=(⟨#[84,35]⟩:ByteArray)++ptB n 86400000 ⟨#[100]⟩:=by
    rw[y7_];exact pt n 86400000 (f 0) _ _ h0 (by omega) v0.symm
   have a2:y7_ f 2=y7_ f 1++ptB (n % 86400000) 3600000 ⟨#[104]⟩:=by
    rw[y7_];exact pt (n % 86400000) 3600000 (f 1) _ _ (by omega) (by omega) (by rw[v1];omega)
   have a3:y7_ f 3=y7_ f 2++ptB (n % 86400000 % 3600000) 60000 ⟨#[109]⟩:=by
    rw[y7_];exact pt (n % 86400000 % 3600000) 60000 (f 2) _ _ (by omega) (by omega) (by rw[v2];omega)
   have a4:y7_ f 4=y7_ f 3++ptB (n % 86400000 % 3600000 % 60000) 1000 ⟨#[115]⟩:=by
    rw[y7_];exact pt (n % 86400000 % 3600000 % 60000) 1000 (f 3) _ _ (by omega) (by omega) (by rw[v3];omega)
   have a5:y7_ f 5=y7_ f 4++ptB (n % 86400000 % 3600000 % 60000 % 1000) 1 ⟨#[109,115]⟩:=by
    rw[y7_];exact pt (n % 86400000 % 3600000 % 60000 % 1000) 1 (f 4) _ _ (by omega) (by omega) (by rw[v4];omega)
   rw[a5,a4,a3,a2,a1]
end Go.Proofs.YtcoglmaiahpooaaGreatDoor
