/- Texts put together: N0, CeCellC, CeCellD, CeCellE, CeCellF, CeRefA, N1, N3, N2, CeRefB, CePlainB, CeRefC, CePlainC. -/
import Derived.Laws.BitsLemmas
import Derived.Test.YtcgbfhpmkpglkaaGreatDoorQ07
import Derived.Laws.DeepNot64
set_option linter.unusedVariables false
set_option linter.unusedSimpArgs false
set_option maxHeartbeats 8000000
namespace Go.Proofs.YtcgbfhpmkpglkaaGreatDoor
open Go.RowKit
attribute [local go_sem ↓] Go.wp_at_zero Go.wp_at_succ
def StkV (B:Nat) (w:World) (v:Value) (l:List Int):Prop:=w.ownsRow B 3 1 v l.length (l.map (Value.int .i64))
def sb (sa:Option Addr):Option Nat:=sa.map (fun a=>a.block)
theorem jl_ (sa:Option Addr) (n c:Nat):(Value.slice sa n c).ownBlock=sb sa:=by cases sa <;> rfl
structure Chg (M:Nat) (F r:Option Nat) (w w':World):Prop where
 os:w'.os=w.os
 tape:w'.tape=w.tape
 output:w'.output=w.output
 size:w.heap.size≤w'.heap.size
 block:∀ k,k<w.heap.size→k≠M→some k≠F→some k≠r→w'.heap[k]?=w.heap[k]?
theorem Chg.refl (M:Nat) (F r:Option Nat) (w:World):Chg M F r w w:=⟨rfl,rfl,rfl,Nat.le_refl _,fun _ _ _ _ _=>rfl⟩
theorem Chg.of_none {M:Nat} {F r:Option Nat} {w w':World} (h:w.grownBy w' none):Chg M F r w w':=⟨h.os,h.tape,h.output,h.size,fun k hk _ _ hr=>h.block k hk (by simp)⟩
def Nx (w:World) (r r':Option Nat):Prop:=r'=r∨∀ y,r'=some y→w.heap.size≤y
theorem Chg.trans {M:Nat} {F r r':Option Nat} {a b c:World} (h:Chg M F r a b) (n:Nx a r r') (k:Chg M F r' b c):Chg M F r a c:=
 ⟨k.os.trans h.os,k.tape.trans h.tape,k.output.trans h.output,Nat.le_trans h.size k.size,fun x hx h1 h2 h3=>by
  refine(k.block x (Nat.lt_of_lt_of_le hx h.size) h1 h2 ?_).trans (h.block x hx h1 h2 h3);rcases n with n|n
  ·rw[n];exact h3
  ·intro e;have:=n x e.symm;omega⟩
theorem Nx.trans {a b:World} {r r' r'':Option Nat} (hs:a.heap.size≤b.heap.size) (h:Nx a r r') (k:Nx b r' r''):Nx a r r'':=by
 rcases k with k|k
 ·rw[k];exact h
 ·exact .inr fun y hy=>by have:=k y hy;omega
theorem Nx.refl (w:World) (r:Option Nat):Nx w r r:=.inl rfl
theorem Chg.wide {M:Nat} {F r:Option Nat} {a b:World} (h:Chg M none r a b):Chg M F r a b:=⟨h.os,h.tape,h.output,h.size,fun k h1 h2 h3 h4=>h.block k h1 h2 (by simp) h4⟩
theorem y4_ {c w w':World} {M:Nat} {F r:Option Nat} (h:c.grownBy w none) (k:Chg M F r w w') (hM:c.heap.size≤M) (hF:∀ y,F=some y→c.heap.size≤y) (hr:∀ y,r=some y→c.heap.size≤y):c.grownBy w' none:=
 ⟨k.os.trans h.os,k.tape.trans h.tape,k.output.trans h.output,Nat.le_trans h.size k.size,fun x hx _=>by
  refine(k.block x (Nat.lt_of_lt_of_le hx h.size) (by omega) (fun e=>?_) (fun e=>?_)).trans (h.block x hx (by simp))
  ·have:=hF x e.symm;omega
  ·have:=hr x e.symm;omega⟩
structure MaC (w:World) (B M:Nat) (pv:Value) (now:Int) (sa:Option Addr) (sc:Nat) (st:List Int) (sp fl:Int):Prop where
 blk:w.heap[M]?=some (.cells #[pv,.int .i64 now,.slice sa st.length sc,.int .i64 sp,.int .i64 fl] 56)
 own:StkV B w (.slice sa st.length sc) st
 lo:M<B
theorem MaC.row {w:World} {B M:Nat} {pv:Value} {now:Int} {sa:Option Addr} {sc:Nat} {st:List Int} {sp fl:Int} (h:MaC w B M pv now sa sc st sp fl):∀ y,(sb sa)=some y→B≤y∧y<w.heap.size:=fun y hy=>World.ownsRow.lt h.own y (by rw[jl_];exact hy)
theorem MaC.kept {w w':World} {B M:Nat} {pv:Value} {now:Int} {sa:Option Addr} {sc:Nat} {st:List Int} {sp fl:Int} (h:MaC w B M pv now sa sc st sp fl) (hg:w.grownBy w' none):MaC w' B M pv now sa sc st sp fl:=by
 refine⟨YtcgbfhpmkpglkaaGreatDoor.kept hg h.blk,World.ownsRow.kept h.own hg ?_,h.lo⟩;rw[jl_];cases hv:(sb sa) with
 | none=>exact .inl rfl
 | some x=>exact .inr (by simp)
theorem ao2_ (B M:Nat) (pv:Value) (now:Int) (sa:Option Addr) (sc:Nat) (st:List Int) (sp fl x:Int) (w:World) (h:MaC w B M pv now sa sc st sp fl) (hl:st.length≤900000) (hB:B≤w.heap.size) :
 Calls Tryz.prog 48 #[.pointer (some ⟨M,0,none⟩),.int .i64 x] w fun e w'=>e=.returned (.tuple #[])∧∃ sa' sc',MaC w' B M pv now sa' sc' (st++[x]) sp fl∧Chg M none (sb sa) w w'∧Nx w (sb sa) (sb sa'):=by
 obtain⟨i0,hi,hz0,hz1,hz2⟩:=yt_ v1_;have hMlt:=xg_ h.blk;obtain⟨v',w1,r1,r2,r3,_,r5⟩:=run_append_own_at (P:=Tryz.prog) (w.alloc (.cells #[.int .i64 x] 3)) B 25 25 3 i0 (.int .i64 0) 1 8 Tryz.underlying25 hi hz0 hz1 hz2 rfl (by omega) _ _ _ (World.ownsRow.alloc h.own _) ⟨w.heap.size,0,none⟩ 1 1 [.int .i64 x] rfl
  (fun j u hj=>by
    rw[jc_,xa_ (heap_alloc_new w _) (0+j)];simpa using hj)
  (by simp[Value.oneCell']) (by unfold maxLen;omega) (by omega) (by simp;omega)
 rw[jl_] at r3 r5;obtain⟨ga,gc,rfl⟩:∃ ga gc,v'=.slice ga (st.length+1) gc:=by
  obtain⟨_,⟨e,e2⟩|⟨g,c,cur,e,_⟩⟩:=r2
  ·omega
  ·exact⟨_,_,e⟩
 have hMne:some M≠(sb sa):=fun e=>by have:=(h.row M e.symm).1;have:=h.lo;omega
 have hb1:w1.heap[M]?=some (.cells #[pv,.int .i64 now,.slice sa st.length sc,.int .i64 sp,.int .i64 fl] 56):=by
  rw[r3.block M (by simp;omega) hMne,xh_ hMlt];exact h.blk
 have HRUN:Hid (_=_):=r1;have HB1:=hd_ hb1;have HO:=hd_ r2;have HG:Hid (w.grownBy w1 (sb sa)):=x6_ (World.grownBy_alloc w _ _) r3 (.inl rfl);have HN:Hid (Nx w (sb sa) (sb ga)):=by
  rw[jl_] at r5;rcases r5 with e|e
  ·exact .inl e
  ·exact .inr fun y hy=>by rw[e] at hy;simp at hy;omega
 have d2:=xa_ h.blk 2;simp at d2;have k2:=xa_ hb1 2;simp at k2;have f2:=xc_ hb1 2;have HLO:Hid (M<B):=h.lo;clear h r1 r2 r3 r5 hi hz0 hz1 hz2 hb1;go_enter Tryz.func48,Tryz.ntmps48;go_wp2_with (first|(at_builtin;refine x0_ rfl _ _ 25 rfl _ _ _ w1 rfl rfl HRUN.out ?_))
 go_end0;refine⟨rfl,ga,gc,⟨?_,?_,HLO.out⟩,?_,by simpa using HN.out⟩
 ·have:=xk_ HB1.out 2 (.slice ga (st.length+1) gc);simpa using this
 ·have hg:w1.grownBy (w1.setCell ⟨M,2,none⟩ (.slice ga (st.length+1) gc)) (some M):=x3_ gz_ _ _;have:=World.ownsRow.kept HO.out hg (.inr fun e=>by have:=(World.ownsRow.lt HO.out M e).1;have:=HLO.out;omega);unfold StkV;simpa using this
 ·have h1:=HG.out;exact⟨h1.os,h1.tape,h1.output,by simpa using h1.size,fun k hk hkM _ hr=>by rw[Below.heap_setCell _ _ _ _ (by simpa using hkM)];exact h1.block k hk hr⟩
theorem all_ (B M:Nat) (pv:Value) (now:Int) (sa:Option Addr) (sc:Nat) (st:List Int) (sp fl x:Int) (w:World) (h:MaC w B M pv now sa sc (st++[x]) sp fl) (hl:st.length≤900000) :
 Calls Tryz.prog 31 #[.pointer (some ⟨M,0,none⟩)] w fun e w'=>e=.returned (.int .i64 x)∧MaC w' B M pv now sa sc st sp fl∧Chg M none (sb sa) w w'∧Nx w (sb sa) (sb sa):=by
 obtain⟨hb,hown,hlo⟩:=h;have hown':=hown;obtain⟨g,rfl,hsc⟩:∃ g,sa=some ⟨g,0,none⟩∧st.length+1≤sc:=by
  obtain⟨_,⟨e,e2⟩|⟨g,c,cur,e,_,_,hc,_⟩⟩:=hown'
  ·simp at e2
  ·simp at e;obtain⟨rfl,rfl⟩:=e;exact⟨g,rfl,by simpa using hc⟩
 have q:w.cell? ⟨g,st.length,none⟩=some (.int .i64 x):=by
  have:=World.ownsRow.cells hown rfl st.length (.int .i64 x) (by simp);rw[jc_,Nat.zero_add] at this;exact this
 have hpop:StkV B w (.slice (some ⟨g,0,none⟩) st.length sc) st:=by
  unfold StkV at hown ⊢;rw[List.length_append] at hown;simp only[List.length_cons,List.length_nil,List.map_append,List.map_cons,List.map_nil] at hown;exact ownsRow_pop (by simp) hown
 have hlen:(st++[x]).length=st.length+1:=(by simp);rw[hlen] at hb;have HB:=hd_ hb;have HP:=hd_ hpop;have HGM:Hid (g≠M):=fun e=>by have:=(World.ownsRow.lt hpop g rfl).1;omega
 have d2:=xa_ hb 2;simp at d2;have f2:=xc_ hb 2;obtain⟨n,hn⟩:∃ n,st.length=n:=⟨_,rfl⟩;have HN:=hd_ hn;rw[hn] at hl d2 q hsc;have i1:(0:Int)≤(n:Int):=(by omega);have i2:(n:Int)<(n:Int)+1:=(by omega);have i3:(n:Int)≤(sc:Int):=(by omega);have i4:n≤sc:=(by omega);have i5:n<n+1:=(by omega);clear hb hown hown' hpop hn hlen;go_enter Tryz.func31,Tryz.ntmps31;go_wp2;go_ret;refine⟨rfl,⟨?_,?_,hlo⟩,?_,.inl rfl⟩
 ·have:=xk_ HB.out 2 (.slice (some ⟨g,0,none⟩) n sc);rw[HN.out] at this;rw[HN.out];simpa using this
 ·have hg:w.grownBy (w.setCell ⟨M,2,none⟩ (.slice (some ⟨g,0,none⟩) n sc)) (some M):=x3_ gz_ _ _;exact World.ownsRow.kept HP.out hg (.inr (by simp[Value.ownBlock];exact HGM.out))
 ·exact⟨rfl,rfl,rfl,by simp,fun k hk hkM _ hr=>by rw[Below.heap_setCell _ _ _ _ (by simpa using hkM)]⟩
end Go.Proofs.YtcgbfhpmkpglkaaGreatDoor
namespace Go.Proofs.YtcgbfhpmkpglkaaGreatDoor.Ce
open Go.RowKit
def qt_ (op:Int):Bool:=decide (9≤op) && decide (op≤14)
theorem zt_ (op:Int) (w:World) :
 Calls Tryz.prog 92 #[.int .i64 op] w fun e w'=>e=.returned (.bool (qt_ op))∧w'=w:=by
 by_cases h1:9≤op
 · go_enter Tryz.func92,Tryz.ntmps92;go_wp2;all_goals go_ret
   all_goals exact⟨xr_ (by simp[qt_];omega),rfl⟩
 · go_enter Tryz.func92,Tryz.ntmps92;go_wp2;all_goals go_ret
   all_goals exact⟨xr_ (by simp[qt_];omega),rfl⟩
def yd_ (op k:Int):Int:=if yu_ op k=true then(if qt_ op=true then 1 else k) else 0
theorem u1_ (op k:Int) (w:World) :
 Calls Tryz.prog 83 #[.int .i64 op,.int .i64 k] w fun e w'=>e=.returned (.int .i64 (yd_ op k))∧w'=w:=by
 by_cases h1:yu_ op k=true
 · by_cases h2:qt_ op=true
   · go_enter Tryz.func83,Tryz.ntmps83;go_wp2_with (first|(go_at_call 82;refine(qm_ _ _ _).mono ?_;rintro e w' ⟨rfl,rfl⟩)|(go_at_call 92;refine(zt_ _ _).mono ?_;rintro e w' ⟨rfl,rfl⟩))
     go_ret;exact⟨xs_ (by simp[yd_,h1,h2]),rfl⟩
   · have h2:qt_ op=false:=(by simpa using h2);go_enter Tryz.func83,Tryz.ntmps83;go_wp2_with (first|(go_at_call 82;refine(qm_ _ _ _).mono ?_;rintro e w' ⟨rfl,rfl⟩)|(go_at_call 92;refine(zt_ _ _).mono ?_;rintro e w' ⟨rfl,rfl⟩))
     go_ret;exact⟨xs_ (by simp[yd_,h1,h2]),rfl⟩
 · have h1:yu_ op k=false:=(by simpa using h1);go_enter Tryz.func83,Tryz.ntmps83;go_wp2_with (first|(go_at_call 82;refine(qm_ _ _ _).mono ?_;rintro e w' ⟨rfl,rfl⟩)|(go_at_call 92;refine(zt_ _ _).mono ?_;rintro e w' ⟨rfl,rfl⟩))
   go_ret;exact⟨xs_ (by simp[yd_,h1]),rfl⟩
def xt_ (op k:Int):Int:=
 if yu_ op k=true then(if op==21 ||op==22 ||op==23 then 0 else if op==15 ||op==16 ||op==17 ||op==18 then 2 else k) else 0
theorem jv_ (op k:Int) (w:World) :
 Calls Tryz.prog 81 #[.int .i64 op,.int .i64 k] w fun e w'=>e=.returned (.int .i64 (xt_ op k))∧w'=w:=by
 by_cases h1:yu_ op k=true
 · go_enter Tryz.func81,Tryz.ntmps81;go_wp2_with (go_at_call 82;refine(qm_ _ _ _).mono ?_;rintro e w' ⟨rfl,rfl⟩)
   all_goals go_ret
   all_goals exact⟨xs_ (by simp[xt_, *]),rfl⟩
 · have h1:yu_ op k=false:=(by simpa using h1);go_enter Tryz.func81,Tryz.ntmps81;go_wp2_with (go_at_call 82;refine(qm_ _ _ _).mono ?_;rintro e w' ⟨rfl,rfl⟩)
   go_ret;exact⟨xs_ (by simp[xt_,h1]),rfl⟩
def tru (b:Bool):Int:=if b=true then 1 else 0
theorem xn_ (b:Bool) (w:World) :
 Calls Tryz.prog 95 #[.bool b] w fun e w'=>e=.returned (.int .i64 (tru b))∧w'=w:=by
 cases b
 ·go_enter Tryz.func95,Tryz.ntmps95;go_wp2;go_ret;exact⟨rfl,rfl⟩
 ·go_enter Tryz.func95,Tryz.ntmps95;go_wp2;go_ret;exact⟨rfl,rfl⟩
def u2_ (op a b:Int):Bool:=
 if op==9 then a==b else if op==10 then a != b else if op==11 then decide (a<b) else if op==12 then decide (a≤b) else if op==13 then decide (b<a) else decide (b≤a)
theorem al1_ (op a b:Int) (w:World) :
 Calls Tryz.prog 96 #[.int .i64 op,.int .i64 a,.int .i64 b] w fun e w'=>e=.returned (.bool (u2_ op a b))∧w'=w:=by
 go_enter Tryz.func96,Tryz.ntmps96;go_wp2;all_goals go_ret
 all_goals exact⟨xr_ (by simp[u2_, *]),rfl⟩
def uk_ (op a b:Int):Int:=
 if op==1 then wrap64 (a+b) else if op==2 then wrap64 (a - b) else if op==3 then wrap64 (a*b)
 else if op==4 then wrap64 (a.tdiv b) else if op==5 then a.tmod b
 else if op==19 then(if b<a then b else a) else if op==20 then(if a<b then b else a)
 else if op==22 then wrap64 (-a) else(if a<wrap64 (-a) then wrap64 (-a) else a)
theorem ajf_ (op a b:Int) (w:World) (hb:b=0→(op==4)=false∧(op==5)=false) :
 Calls Tryz.prog 97 #[.int .i64 op,.int .i64 a,.int .i64 b] w fun e w'=>e=.returned (.int .i64 (uk_ op a b))∧w'=w:=by
 by_cases h0:b=0
 · obtain⟨h4,h5⟩:=hb h0;clear hb;have H0:=hd_ h0;clear h0;go_enter Tryz.func97,Tryz.ntmps97;go_wp2;all_goals go_ret
   all_goals refine⟨xs_ ?_,rfl⟩
   all_goals simp[uk_, *] <;> omega
 · clear hb;go_enter Tryz.func97,Tryz.ntmps97;go_wp2;all_goals go_ret
   all_goals refine⟨xs_ ?_,rfl⟩
   all_goals simp[uk_, *] <;> omega
def acs_ (op a b:Int):Int:=
 if op==6 then bits BinOp.and IntKind.i64 a b else if op==7 then bits BinOp.or IntKind.i64 a b
 else if op==8 then bits BinOp.xor IntKind.i64 a b else bits BinOp.xor IntKind.i64 (-1) a
theorem an4_ (op a b:Int) (w:World) :
 Calls Tryz.prog 94 #[.int .i64 op,.int .i64 a,.int .i64 b] w fun e w'=>e=.returned (.int .i64 (acs_ op a b))∧w'=w:=by
 go_enter Tryz.func94,Tryz.ntmps94;go_wp2;all_goals go_ret
 all_goals refine⟨xs_ ?_,rfl⟩
 all_goals simp[acs_, *]
theorem av4_ (c:Int):bits BinOp.and IntKind.u64 (IntKind.u64.wrap c) 15=c % 16:=by
 have h:=bits_mask .u64 64 (by decide) (fun n h0 h1=>by rw[IntKind.wrap_u64];omega) 4 (by decide) (IntKind.u64.wrap c) (by rw[IntKind.wrap_u64];omega) (by rw[IntKind.wrap_u64];omega);have e:((2:Int) ^ 4 - 1)=15:=(by decide);rw[e] at h;rw[h,IntKind.wrap_u64];omega
def rotM (a:Int) (m:Nat):Int:=(a*2 ^ m) % 65536+a / 2 ^ (16 - m)
theorem arn_ (a:Int) (m:Nat) (hm:m<16) (h0:0≤a) (h1:a≤65535):0≤rotM a m∧rotM a m≤65535:=by
 have hc:m=0∨m=1∨m=2∨m=3∨m=4∨m=5∨m=6∨m=7∨m=8∨m=9∨m=10∨m=11∨m=12∨m=13∨m=14∨m=15:=om_;unfold rotM;rcases hc with rfl|rfl|rfl|rfl|rfl|rfl|rfl|rfl|rfl|rfl|rfl|rfl|rfl|rfl|rfl|rfl
 all_goals simp only[Nat.sub_zero,Nat.reduceSub,Int.reducePow]
 all_goals omega
theorem auc_ (a:Int) (m:Nat) (hm:m<16) (h0:0≤a) (h1:a≤65535) :
 bits BinOp.or IntKind.u16 (IntKind.u16.wrap (a*2 ^ m)) (a / 2 ^ (16 - m))=rotM a m:=by
 have hw:∀ n:Int,0≤n→n<2 ^ 16→IntKind.u16.wrap n=n:=fun n h0 h1=>by rw[adg_];omega
 have hc:m=0∨m=1∨m=2∨m=3∨m=4∨m=5∨m=6∨m=7∨m=8∨m=9∨m=10∨m=11∨m=12∨m=13∨m=14∨m=15:=om_;rw[adg_];unfold rotM;rcases hc with rfl|rfl|rfl|rfl|rfl|rfl|rfl|rfl|rfl|rfl|rfl|rfl|rfl|rfl|rfl|rfl
 ·exact bits_join .u16 16 (by decide) hw 0 _ _ om_ om_ om_ om_ om_ om_
 ·exact bits_join .u16 16 (by decide) hw 1 _ _ om_ om_ om_ om_ om_ om_
 ·exact bits_join .u16 16 (by decide) hw 2 _ _ om_ om_ om_ om_ om_ om_
 ·exact bits_join .u16 16 (by decide) hw 3 _ _ om_ om_ om_ om_ om_ om_
 ·exact bits_join .u16 16 (by decide) hw 4 _ _ om_ om_ om_ om_ om_ om_
 ·exact bits_join .u16 16 (by decide) hw 5 _ _ om_ om_ om_ om_ om_ om_
 ·exact bits_join .u16 16 (by decide) hw 6 _ _ om_ om_ om_ om_ om_ om_
 ·exact bits_join .u16 16 (by decide) hw 7 _ _ om_ om_ om_ om_ om_ om_
 ·exact bits_join .u16 16 (by decide) hw 8 _ _ om_ om_ om_ om_ om_ om_
 ·exact bits_join .u16 16 (by decide) hw 9 _ _ om_ om_ om_ om_ om_ om_
 ·exact bits_join .u16 16 (by decide) hw 10 _ _ om_ om_ om_ om_ om_ om_
 ·exact bits_join .u16 16 (by decide) hw 11 _ _ om_ om_ om_ om_ om_ om_
 ·exact bits_join .u16 16 (by decide) hw 12 _ _ om_ om_ om_ om_ om_ om_
 ·exact bits_join .u16 16 (by decide) hw 13 _ _ om_ om_ om_ om_ om_ om_
 ·exact bits_join .u16 16 (by decide) hw 14 _ _ om_ om_ om_ om_ om_ om_
 ·exact bits_join .u16 16 (by decide) hw 15 _ _ om_ om_ om_ om_ om_ om_
def rotL (a c:Int):Int:=rotM a (c % 16).toNat
theorem ala_ (a c:Int) (h0:0≤a) (h1:a≤65535):0≤rotL a c∧rotL a c≤65535:=arn_ a _ om_ h0 h1
theorem aro_ (a c:Int) (w:World) (ha:0≤a) (ha':a≤65535) :
 Calls Tryz.prog 98 #[.int .u16 a,.int .i64 c] w fun e w'=>e=.returned (.int .u16 (rotL a c))∧w'=w:=by
 have e:=av4_ c;go_enter Tryz.func98,Tryz.ntmps98;go_wp2;go_ret;refine⟨xs_ ?_,rfl⟩;have h:=auc_ a (c % 16).toNat om_ ha ha';have e16:(16 - c % 16).toNat=16 - (c % 16).toNat:=om_;show bits BinOp.or IntKind.u16 (IntKind.u16.wrap (a*2 ^ (c % 16).toNat)) (a / 2 ^ (16 - c % 16).toNat)=_
 rw[e16,h];rfl
def shK (op a c:Int):Int:=
 if op==15 then wrap64 (a*2 ^ min c.toNat 64) else if op==16 then a / 2 ^ min c.toNat 64 else if op==17 then rotL a c else rotL a (-c)
theorem aep_ (op a c:Int) (w:World) (ha:0≤a) (ha':a≤65535) (hc:0≤c) (hc':c≤32767) :
 Calls Tryz.prog 93 #[.int .i64 op,.int .i64 a,.int .i64 c] w fun e w'=>e=.returned (.int .i64 (shK op a c))∧w'=w:=by
 have b1:=ala_ a c ha ha';have b2:=ala_ a (-c) ha ha';go_enter Tryz.func93,Tryz.ntmps93;go_wp2_with (go_at_call 98;refine(aro_ _ _ _ ha ha').mono ?_;rintro e w' ⟨rfl,rfl⟩)
 all_goals go_ret
 all_goals refine⟨xs_ ?_,rfl⟩
 all_goals simp[shK, *]
def shB (op:Int):Bool:=op==15 ||op==16 ||op==17 ||op==18
def mkB (op:Int):Bool:=op==6 ||op==7 ||op==8 ||op==21
def yq_ (op a b:Int):Int:=
 if shB op=true then shK op a (if b<0 then 0 else b) else if mkB op=true then acs_ op a b else if qt_ op=true then tru (u2_ op a b) else uk_ op a b
theorem ag7_ (op a b:Int) (w:World) (hs:shB op=true→0≤a∧a≤65535∧b≤32767) (hb:b=0→(op==4)=false∧(op==5)=false) :
 Calls Tryz.prog 84 #[.int .i64 op,.int .i64 a,.int .i64 b] w fun e w'=>e=.returned (.int .i64 (yq_ op a b))∧w'=w:=by
 by_cases h1:shB op=true
 · obtain⟨ha,ha',hb'⟩:=hs h1;have ho:op=15∨op=16∨op=17∨op=18:=(by simp[shB] at h1;omega);clear hs hb;have H1:=hd_ h1;clear h1;by_cases hn:b<0
   · rcases ho with rfl|rfl|rfl|rfl
     all_goals
      go_enter Tryz.func84,Tryz.ntmps84;go_wp2_with (go_at_call 93;refine(aep_ _ _ _ _ ha ha' (by omega) (by omega)).mono ?_;rintro e w' ⟨rfl,rfl⟩)
      go_ret;exact⟨xs_ (by simp[yq_,H1.out,hn]),rfl⟩
   · rcases ho with rfl|rfl|rfl|rfl
     all_goals
      go_enter Tryz.func84,Tryz.ntmps84;go_wp2_with (go_at_call 93;refine(aep_ _ _ _ _ ha ha' (by omega) (by omega)).mono ?_;rintro e w' ⟨rfl,rfl⟩)
      go_ret;exact⟨xs_ (by simp[yq_,H1.out];rw[if_neg (show ¬b<0 by omega)]),rfl⟩
 · have h1:shB op=false:=(by simpa using h1);have hx:=h1;simp only[shB,Bool.or_eq_false_iff] at hx;obtain⟨⟨⟨o15,o16⟩,o17⟩,o18⟩:=hx;clear hs;by_cases h2:mkB op=true
   · have ho:op=6∨op=7∨op=8∨op=21:=(by simp[mkB] at h2;omega);have H1:=hd_ h1;have H2:=hd_ h2;clear h1 h2 hb o15 o16 o17 o18;rcases ho with rfl|rfl|rfl|rfl
     all_goals
      go_enter Tryz.func84,Tryz.ntmps84;go_wp2_with (go_at_call 94;refine(an4_ _ _ _ _).mono ?_;rintro e w' ⟨rfl,rfl⟩)
      go_ret;exact⟨xs_ (by simp[yq_,H1.out,H2.out]),rfl⟩
   · have h2:mkB op=false:=(by simpa using h2);have hx:=h2;simp only[mkB,Bool.or_eq_false_iff] at hx;obtain⟨⟨⟨o6,o7⟩,o8⟩,o21⟩:=hx;by_cases h3:qt_ op=true
     · clear hb;go_enter Tryz.func84,Tryz.ntmps84;go_wp2_with (first|(go_at_call 92;refine(zt_ _ _).mono ?_;rintro e w' ⟨rfl,rfl⟩)|(go_at_call 96;refine(al1_ _ _ _ _).mono ?_;rintro e w' ⟨rfl,rfl⟩)|(go_at_call 95;refine(xn_ _ _).mono ?_;rintro e w' ⟨rfl,rfl⟩))
       go_ret;exact⟨xs_ (by simp[yq_,h1,h2,h3]),rfl⟩
     · have h3:qt_ op=false:=(by simpa using h3);have HB:=hd_ hb;clear hb;go_enter Tryz.func84,Tryz.ntmps84;go_wp2_with (first|(go_at_call 92;refine(zt_ _ _).mono ?_;rintro e w' ⟨rfl,rfl⟩)|(go_at_call 97;refine(ajf_ _ _ _ _ HB.out).mono ?_;rintro e w' ⟨rfl,rfl⟩))
       go_ret;exact⟨xs_ (by simp[yq_,h1,h2,h3]),rfl⟩
def zi_ (op k b:Int):Bool:=(xd_ (xt_ op k) b==0) && (op==4 ||op==5)
def doN (op k a b:Int):Int:=
 if yu_ op k=true then(if zi_ op k b=true then 0 else xd_ (yd_ op k) (yq_ op (xd_ k a) (xd_ (xt_ op k) b))) else 0
def doZ (op k b:Int):Bool:=yu_ op k && zi_ op k b
theorem aak_ {op k:Int} (h:yu_ op k=true) (hs:shB op=true):k=4:=by
 simp[shB] at hs;rcases hs with((rfl|rfl)|rfl)|rfl
 all_goals simpa[yu_] using h
theorem u3_ {op k:Int} (h:yu_ op k=true) (hs:shB op=true):xt_ op k=2:=by
 simp[shB] at hs;rcases hs with((rfl|rfl)|rfl)|rfl
 all_goals simp[xt_,h]
theorem do_any (op k a b:Int) (w:World) :
 Calls Tryz.prog 69 #[.int .i64 op,.int .i64 k,.int .i64 a,.int .i64 b] w fun e w'=>e=.returned (.tuple #[.int .i64 (doN op k a b),.bool (doZ op k b)])∧w'=w:=by
 by_cases h1:yu_ op k=true
 · by_cases h2:(xd_ (xt_ op k) b==0)=true
   · by_cases h4:(op==4)=true
     · go_enter Tryz.func69,Tryz.ntmps69;go_wp2_with (first|(go_at_call 82;refine(qm_ _ _ _).mono ?_;rintro e w' ⟨rfl,rfl⟩)|(go_at_call 71;refine(ys_ _ _ _).mono ?_;rintro e w' ⟨rfl,rfl⟩)|(go_at_call 81;refine(jv_ _ _ _).mono ?_;rintro e w' ⟨rfl,rfl⟩))
       go_ret2;exact⟨by simp[doN,doZ,zi_, *],rfl⟩
     · have h4:(op==4)=false:=(by simpa using h4);by_cases h5:(op==5)=true
       · go_enter Tryz.func69,Tryz.ntmps69;go_wp2_with (first|(go_at_call 82;refine(qm_ _ _ _).mono ?_;rintro e w' ⟨rfl,rfl⟩)|(go_at_call 71;refine(ys_ _ _ _).mono ?_;rintro e w' ⟨rfl,rfl⟩)|(go_at_call 81;refine(jv_ _ _ _).mono ?_;rintro e w' ⟨rfl,rfl⟩))
         go_ret2;exact⟨by simp[doN,doZ,zi_, *],rfl⟩
       · have h5:(op==5)=false:=(by simpa using h5);have HS:Hid (shB op=true→0≤xd_ k a∧xd_ k a≤65535∧xd_ (xt_ op k) b≤32767):=fun hs=>by
          rw[aak_ h1 hs,vf_];have e:=u3_ h1 hs;rw[aak_ h1 hs] at e;rw[e,ve_];omega
         go_enter Tryz.func69,Tryz.ntmps69;go_wp2_with (first|(go_at_call 82;refine(qm_ _ _ _).mono ?_;rintro e w' ⟨rfl,rfl⟩)|(go_at_call 71;refine(ys_ _ _ _).mono ?_;rintro e w' ⟨rfl,rfl⟩)|(go_at_call 81;refine(jv_ _ _ _).mono ?_;rintro e w' ⟨rfl,rfl⟩)|(go_at_call 83;refine(u1_ _ _ _).mono ?_;rintro e w' ⟨rfl,rfl⟩)|(go_at_call 84;refine(ag7_ _ _ _ _ HS.out (fun _=>⟨h4,h5⟩)).mono ?_;rintro e w' ⟨rfl,rfl⟩))
         go_ret2;exact⟨by simp[doN,doZ,zi_, *],rfl⟩
   · have h2:(xd_ (xt_ op k) b==0)=false:=(by simpa using h2);have HS:Hid (shB op=true→0≤xd_ k a∧xd_ k a≤65535∧xd_ (xt_ op k) b≤32767):=fun hs=>by
      rw[aak_ h1 hs,vf_];have e:=u3_ h1 hs;rw[aak_ h1 hs] at e;rw[e,ve_];omega
     have HZ:Hid (xd_ (xt_ op k) b=0→(op==4)=false∧(op==5)=false):=fun h=>by simp[h] at h2
     go_enter Tryz.func69,Tryz.ntmps69;go_wp2_with (first|(go_at_call 82;refine(qm_ _ _ _).mono ?_;rintro e w' ⟨rfl,rfl⟩)|(go_at_call 71;refine(ys_ _ _ _).mono ?_;rintro e w' ⟨rfl,rfl⟩)|(go_at_call 81;refine(jv_ _ _ _).mono ?_;rintro e w' ⟨rfl,rfl⟩)|(go_at_call 83;refine(u1_ _ _ _).mono ?_;rintro e w' ⟨rfl,rfl⟩)|(go_at_call 84;refine(ag7_ _ _ _ _ HS.out HZ.out).mono ?_;rintro e w' ⟨rfl,rfl⟩))
     go_ret2;exact⟨by simp[doN,doZ,zi_, *],rfl⟩
 · have h1:yu_ op k=false:=(by simpa using h1);go_enter Tryz.func69,Tryz.ntmps69;go_wp2_with (go_at_call 82;refine(qm_ _ _ _).mono ?_;rintro e w' ⟨rfl,rfl⟩)
   go_ret2;exact⟨by simp[doN,doZ, *],rfl⟩
def ke_ (k:Int):Int:=if k==1 then 2 else if k==2 then 65536 else if k==3 then 4294967296 else if k==4 then 65536 else if k==5 then 4294967296 else 0
def v4_ (k:Int):Int:=if k==1 then 0 else if k==2 then -32768 else if k==3 then -2147483648 else 0
theorem z5_ (k:Int) (w:World) :
 Calls Tryz.prog 61 #[.int .i64 k] w fun e w'=>e=.returned (.tuple #[.int .i64 (ke_ k),.int .i64 (v4_ k)])∧w'=w:=by
 go_enter Tryz.func61,Tryz.ntmps61;go_wp2;all_goals go_ret2
 all_goals refine⟨?_,rfl⟩
 all_goals simp[ke_,v4_, *]
theorem ae1_ (k:Int):k=1∨k=2∨k=3∨k=4∨k=5∨(k≠1∧k≠2∧k≠3∧k≠4∧k≠5):=by omega
theorem zs_ (n s:Int):(0≤n∧n.tmod s=n % s)∨(n<0∧n.tmod s = -((-n) % s)):=by
 rcases Int.lt_or_le n 0 with h1|h1
 ·right;refine⟨h1,?_⟩;have:n.tmod s = -((-n).tmod s):=(by rw[Int.neg_tmod,Int.neg_neg]);rw[this,Int.tmod_eq_emod_of_nonneg (by omega)]
 ·left;exact⟨h1,Int.tmod_eq_emod_of_nonneg h1⟩
theorem ya_ (k n:Int) (w:World) :
 Calls Tryz.prog 42 #[.int .i64 k,.int .i64 n] w fun e w'=>e=.returned (.int .i64 (xd_ k n))∧w'=w:=by
 rcases ae1_ k with rfl|rfl|rfl|rfl|rfl|⟨h1,h2,h3,h4,h5⟩
 · have e1:ke_ 1=2:=rfl;have e2:v4_ 1=0:=rfl;have ht:=zs_ n 2;have HT:=hd_ ht;have hb : -2<n.tmod 2∧n.tmod 2<2:=(by omega);clear ht;go_enter Tryz.func42,Tryz.ntmps42;go_wp2_with (go_at_call 61;refine(z5_ _ _).mono ?_;rintro e w' ⟨rfl,rfl⟩)
   all_goals go_ret
   all_goals refine⟨xs_ ?_,rfl⟩
   all_goals
    have:=HT.out;rw[uc_];clear HT e1 e2;omega
 · have e1:ke_ 2=65536:=rfl;have e2:v4_ 2 = -32768:=rfl;have ht:=zs_ n 65536;have HT:=hd_ ht;have hb : -65536<n.tmod 65536∧n.tmod 65536<65536:=(by omega);clear ht;go_enter Tryz.func42,Tryz.ntmps42;go_wp2_with (go_at_call 61;refine(z5_ _ _).mono ?_;rintro e w' ⟨rfl,rfl⟩)
   all_goals go_ret
   all_goals refine⟨xs_ ?_,rfl⟩
   all_goals
    have:=HT.out;rw[ve_];clear HT e1 e2;omega
 · have e1:ke_ 3=4294967296:=rfl;have e2:v4_ 3 = -2147483648:=rfl;have ht:=zs_ n 4294967296;have HT:=hd_ ht;have hb : -4294967296<n.tmod 4294967296∧n.tmod 4294967296<4294967296:=(by omega);clear ht;go_enter Tryz.func42,Tryz.ntmps42;go_wp2_with (go_at_call 61;refine(z5_ _ _).mono ?_;rintro e w' ⟨rfl,rfl⟩)
   all_goals go_ret
   all_goals refine⟨xs_ ?_,rfl⟩
   all_goals
    have:=HT.out;rw[adf_];clear HT e1 e2;omega
 · have e1:ke_ 4=65536:=rfl;have e2:v4_ 4=0:=rfl;have ht:=zs_ n 65536;have HT:=hd_ ht;have hb : -65536<n.tmod 65536∧n.tmod 65536<65536:=(by omega);clear ht;go_enter Tryz.func42,Tryz.ntmps42;go_wp2_with (go_at_call 61;refine(z5_ _ _).mono ?_;rintro e w' ⟨rfl,rfl⟩)
   all_goals go_ret
   all_goals refine⟨xs_ ?_,rfl⟩
   all_goals
    have:=HT.out;rw[vf_];clear HT e1 e2;omega
 · have e1:ke_ 5=4294967296:=rfl;have e2:v4_ 5=0:=rfl;have ht:=zs_ n 4294967296;have HT:=hd_ ht;have hb : -4294967296<n.tmod 4294967296∧n.tmod 4294967296<4294967296:=(by omega);clear ht;go_enter Tryz.func42,Tryz.ntmps42;go_wp2_with (go_at_call 61;refine(z5_ _ _).mono ?_;rintro e w' ⟨rfl,rfl⟩)
   all_goals go_ret
   all_goals refine⟨xs_ ?_,rfl⟩
   all_goals
    have:=HT.out;rw[aci_];clear HT e1 e2;omega
 · have e1:ke_ k=0:=(by simp[ke_,h1,h2,h3,h4,h5]);have HW:Hid (xd_ k n=0):=kq_ n h1 h2 h3 h4 h5;clear h1 h2 h3 h4 h5;go_enter Tryz.func42,Tryz.ntmps42;go_wp2_with (go_at_call 61;refine(z5_ _ _).mono ?_;rintro e w' ⟨rfl,rfl⟩)
   go_ret;exact⟨xs_ (by rw[HW.out]),rfl⟩
theorem yes_any (b:Bool) (w:World) :
 Calls Tryz.prog 28 #[.bool b] w fun e w'=>e=.returned (.int .i64 (tru b))∧w'=w:=by
 cases b
 ·go_enter Tryz.func28,Tryz.ntmps28;go_wp2;go_ret;exact⟨rfl,rfl⟩
 ·go_enter Tryz.func28,Tryz.ntmps28;go_wp2;go_ret;exact⟨rfl,rfl⟩
def convK (k to n:Int):Int:=if to==1 then tru (xd_ k n != 0) else xd_ to (xd_ k n)
theorem conv_any (k to n:Int) (w:World) :
 Calls Tryz.prog 52 #[.int .i64 k,.int .i64 to,.int .i64 n] w fun e w'=>e=.returned (.int .i64 (convK k to n))∧w'=w:=by
 by_cases h1:(to==1)=true
 · by_cases h2:(xd_ k n != 0)=true
   · go_enter Tryz.func52,Tryz.ntmps52;go_wp2_with (go_at_call 71;refine(ys_ _ _ _).mono ?_;rintro e w' ⟨rfl,rfl⟩)
     go_ret;exact⟨xs_ (by simp[convK,tru,h1,h2]),rfl⟩
   · have h2:(xd_ k n != 0)=false:=(by simpa using h2);have h3:xd_ k n=0:=(by simpa using h2);go_enter Tryz.func52,Tryz.ntmps52;go_wp2_with (go_at_call 71;refine(ys_ _ _ _).mono ?_;rintro e w' ⟨rfl,rfl⟩)
     go_ret;exact⟨xs_ (by simp at h1;simp[convK,tru,h1,h3,uc_]),rfl⟩
 · have h1:(to==1)=false:=(by simpa using h1);go_enter Tryz.func52,Tryz.ntmps52;go_wp2_with (go_at_call 71;refine(ys_ _ _ _).mono ?_;rintro e w' ⟨rfl,rfl⟩)
   go_ret;exact⟨xs_ (by simp[convK,h1]),rfl⟩
theorem rconv_any (k to n:Int) (w:World) :
 Calls Tryz.prog 29 #[.int .i64 k,.int .i64 to,.int .i64 n] w fun e w'=>e=.returned (.int .i64 (convK k to n))∧w'=w:=by
 by_cases h1:(to==1)=true
 · go_enter Tryz.func29,Tryz.ntmps29;go_wp2_with (first|(go_at_call 42;refine(ya_ _ _ _).mono ?_;rintro e w' ⟨rfl,rfl⟩)|(go_at_call 28;refine(yes_any _ _).mono ?_;rintro e w' ⟨rfl,rfl⟩))
   go_ret;exact⟨xs_ (by simp[convK,h1]),rfl⟩
 · have h1:(to==1)=false:=(by simpa using h1);go_enter Tryz.func29,Tryz.ntmps29;go_wp2_with (first|(go_at_call 42;refine(ya_ _ _ _).mono ?_;rintro e w' ⟨rfl,rfl⟩)|(go_at_call 28;refine(yes_any _ _).mono ?_;rintro e w' ⟨rfl,rfl⟩))
   go_ret;exact⟨xs_ (by simp[convK,h1]),rfl⟩
end Go.Proofs.YtcgbfhpmkpglkaaGreatDoor.Ce
namespace Go.Proofs.YtcgbfhpmkpglkaaGreatDoor
open Go.RowKit
attribute [local go_sem ↓] Go.wp_at_zero Go.wp_at_succ
structure InsAt (w:World) (tb o:Nat) (x:Ins):Prop where
 d:w.cell? ⟨tb,o,none⟩=some (.int .i64 x.d)
 a:w.cell? ⟨tb,o+1,none⟩=some (.int .i64 x.a)
 b:w.cell? ⟨tb,o+2,none⟩=some (.int .i64 x.b)
 c:w.cell? ⟨tb,o+3,none⟩=some (.int .i64 x.c)
theorem InsAt.grown {w w':World} {tb o:Nat} {x:Ins} (h:InsAt w tb o x) (hg:w.grownBy w' none):InsAt w' tb o x:=⟨hg.cell h.d (by simp),hg.cell h.a (by simp),hg.cell h.b (by simp),hg.cell h.c (by simp)⟩
section
variable {w:World} {B M:Nat} {pv:Value} {now:Int} {sa:Option Addr} {sc:Nat} {st:List Int} {sp fl:Int}
theorem MaC.setF (h:MaC w B M pv now sa sc st sp fl) (y:Int):MaC (w.setCell ⟨M,4,none⟩ (.int .i64 y)) B M pv now sa sc st sp y:=by
 refine⟨by simpa using xk_ h.blk 4 (.int .i64 y),?_,h.lo⟩;exact World.ownsRow.kept h.own (x3_ (World.grownBy.refl w (some M)) _ _) (.inr fun e=>by rw[jl_] at e;have:=(h.row M e).1;have:=h.lo;omega)
theorem MaC.setS (h:MaC w B M pv now sa sc st sp fl) (y:Int):MaC (w.setCell ⟨M,3,none⟩ (.int .i64 y)) B M pv now sa sc st y fl:=by
 refine⟨by simpa using xk_ h.blk 3 (.int .i64 y),?_,h.lo⟩;exact World.ownsRow.kept h.own (x3_ (World.grownBy.refl w (some M)) _ _) (.inr fun e=>by rw[jl_] at e;have:=(h.row M e).1;have:=h.lo;omega)
theorem q4_ (M i:Nat) (F r:Option Nat) (w:World) (v:Value):Chg M F r w (w.setCell ⟨M,i,none⟩ v):=⟨rfl,rfl,rfl,by simp,fun k hk hkM _ _=>Below.heap_setCell _ _ _ _ (by simpa using hkM)⟩
theorem MaC.size (h:MaC w B M pv now sa sc st sp fl):M<w.heap.size:=xg_ h.blk
theorem vg_ {x:Int} (h:MaC w B M pv now sa sc (st++[x]) sp fl) (hl:st.length≤900000) (W:World) (hW:w.grownBy W none) :
 Calls Tryz.prog 31 #[.pointer (some ⟨M,0,none⟩)] W fun e w'=>e=.returned (.int .i64 x)∧MaC w' B M pv now sa sc st sp fl∧Chg M none (sb sa) w w'∧Nx w (sb sa) (sb sa):=
 (all_ B M pv now sa sc st sp fl x W (h.kept hW) hl).mono fun e w' ⟨h1,h2,h3,h4⟩=>⟨h1,h2,(Chg.of_none hW).trans (Nx.refl _ _) h3,Nx.trans hW.size (Nx.refl _ _) h4⟩
theorem js_ (x:Int) (h:MaC w B M pv now sa sc st sp fl) (hl:st.length≤900000) (hB:B≤w.heap.size) (W:World) (hW:w.grownBy W none) :
 Calls Tryz.prog 48 #[.pointer (some ⟨M,0,none⟩),.int .i64 x] W fun e w'=>e=.returned (.tuple #[])∧∃ sa' sc',MaC w' B M pv now sa' sc' (st++[x]) sp fl∧Chg M none (sb sa) w w'∧Nx w (sb sa) (sb sa'):=
 (ao2_ B M pv now sa sc st sp fl x W (h.kept hW) hl (by have:=hW.size;omega)).mono fun e w' ⟨h1,sa',sc',h2,h3,h4⟩=>⟨h1,sa',sc',h2,(Chg.of_none hW).trans (Nx.refl _ _) h3,Nx.trans hW.size (Nx.refl _ _) h4⟩
end
def StP (w:World) (B M:Nat) (F:Option Nat) (pv:Value) (now:Int) (r0:Option Nat) (st':List Int) (sp' fl':Int) (w':World):Prop:=
 ∃ sa' sc',MaC w' B M pv now sa' sc' st' sp' fl'∧Chg M F r0 w w'∧Nx w r0 (sb sa')
theorem doW (op k a b:Int) (w:World):Calls Tryz.prog 69 #[.int .i64 op,.int .i64 k,.int .i64 a,.int .i64 b] w fun e w'=>e=.returned (.tuple #[.int .i64 (Ce.doN op k a b),.bool (Ce.doZ op k b)])∧w=w':=(Ce.do_any op k a b w).mono fun e w' h=>⟨h.1,h.2.symm⟩
theorem awa_ (k to n:Int) (w:World):Calls Tryz.prog 52 #[.int .i64 k,.int .i64 to,.int .i64 n] w fun e w'=>e=.returned (.int .i64 (Ce.convK k to n))∧w=w':=(Ce.conv_any k to n w).mono fun e w' h=>⟨h.1,h.2.symm⟩
theorem kv_ (fl:Int) (h0:0≤fl) (h1:fl≤1000000000000):IntKind.i64.wrap (fl+1)=fl+1:=IntWalk.i64_in _ (by omega)
theorem ao4_ (c w:World) (B M:Nat) (pv:Value) (now:Int) (sa:Option Addr) (sc:Nat) (r:List Int) (a b sp fl:Int) (tb o:Nat) (x:Ins) (h:MaC w B M pv now sa sc (r++[a]++[b]) sp fl) (hc:c.grownBy w none) (hcM:c.heap.size≤M) (hcB:c.heap.size≤B) (hx:InsAt c tb o x) (hop:zy_ x=2) (hl:r.length≤800000) (hB:B≤w.heap.size) (hf0:0≤fl) (hf1:fl≤1000000000000) :
 Calls Tryz.prog 49 #[.pointer (some ⟨M,0,none⟩),.pointer (some ⟨tb,o,none⟩)] w fun e w'=>e=.returned (.tuple #[])∧StP w B M none pv now (sb sa) (r++[Ce.doN x.a x.b a b]) sp (if Ce.doZ x.a x.b b=true then fl+1 else fl) w':=by
 have hrow:∀ y,(sb sa)=some y→c.heap.size≤y:=fun y hy=>by have:=(h.row y hy).1;omega
 have HM:=hd_ h;have HX:=hd_ hx;have hxw:=hx.grown hc;obtain⟨q0,q1,q2,q3⟩:=hxw;have cO:Calls Tryz.prog 68 #[.agg #[.int .i64 x.d,.int .i64 x.a,.int .i64 x.b,.int .i64 x.c]] w fun e w'=>e=.returned (.int .i64 2)∧w.grownBy w' none:=(aac_ x w).mono fun e w' h=>⟨by rw[h.1,hop],h.2⟩;clear h hx hop;go_enter Tryz.func49,Tryz.ntmps49;go_wp2_with fail
 refine cO.mono ?_;rintro e w1 ⟨rfl,hg1⟩;clear cO q0 q1 q2 q3;go_wp2_with fail
 refine(vg_ HM.out (by simp;omega) w1 hg1).mono ?_;rintro e w2 ⟨rfl,hm2,hc2,hn2⟩;have hcw2:c.grownBy w2 none:=y4_ hc hc2 hcM (fun y hy=>by simp at hy) hrow;have HM2:=hd_ hm2;have HC2:=hd_ hc2;have HN2:=hd_ hn2;have hrow2:∀ y,(sb sa)=some y→c.heap.size≤y:=fun y hy=>by have:=(hm2.row y hy).1;omega
 obtain⟨q0,q1,q2,q3⟩:=HX.out.grown hcw2;clear hm2 hc2 hn2 q0 q3;go_wp2_with fail
 go_region_held3 (fun w'=>w'.cell? ⟨tb,o+1,none⟩=some (.int .i64 x.a)∧w'.cell? ⟨tb,o+2,none⟩=some (.int .i64 x.b)) (first|(go_keep;done)|exact HK3.out) (first
  | (go_at_call 31
     refine(vg_ HM2.out (by omega) _ (xf_ gz_)).mono ?_;rintro e w3 ⟨rfl,hm3,hc3,hn3⟩;have HM3:=hd_ hm3;have HC3:=hd_ hc3;have HN3:=hd_ hn3;have hcw3:c.grownBy w3 none:=y4_ hcw2 hc3 hcM (fun y hy=>by simp at hy) hrow2;have HK3:Hid (w3.cell? ⟨tb,o+1,none⟩=some (.int .i64 x.a)∧w3.cell? ⟨tb,o+2,none⟩=some (.int .i64 x.b)):=⟨(HX.out.grown hcw3).a,(HX.out.grown hcw3).b⟩;clear hm3 hc3 hn3)
  | (go_at_call 69
     refine(doW _ _ _ _ _).mono ?_;rintro e w' ⟨rfl,rfl⟩))
 have b3:=HM3.out.blk;have d4:=xa_ b3 4;simp at d4;have f4:=xc_ b3 4;have hw4:=kv_ fl hf0 hf1;have HCN:Hid (Chg M none (sb sa) w w3∧Nx w (sb sa) (sb sa)):=⟨HC2.out.trans HN2.out HC3.out,Nx.trans HC2.out.size HN2.out HN3.out⟩;have hs3:B≤w3.heap.size:=(by have:=HCN.out.1.size;omega);clear b3;cases hz:Ce.doZ x.a x.b b with
 | false=>
  go_wp2_with fail
  refine(js_ _ HM3.out (by omega) hs3 _ gz_).mono ?_;rintro e w5 ⟨rfl,sa',sc',hm5,hc5,hn5⟩;go_wp2;all_goals go_end0
  all_goals exact⟨rfl,sa',sc',by simpa using hm5,HCN.out.1.trans HCN.out.2 hc5,Nx.trans HCN.out.1.size HCN.out.2 hn5⟩
 | true=>
  go_wp2_with fail
  refine(js_ _ (HM3.out.setF (fl+1)) (by omega) (by simpa using hs3) _ gz_).mono ?_;rintro e w5 ⟨rfl,sa',sc',hm5,hc5,hn5⟩;go_wp2;go_end0;exact⟨rfl,sa',sc',by simpa using hm5,(HCN.out.1.trans HCN.out.2 (q4_ M 4 _ _ w3 _)).trans HCN.out.2 hc5,Nx.trans HCN.out.1.size HCN.out.2 (Nx.trans (by simp) (Nx.refl _ _) hn5)⟩
def FrAt (w:World) (F:Nat) (ar:List Int):Prop:=w.heap[F]?=some (.cells (xi_ ar) 3)
theorem FrAt.chg {w w':World} {M F:Nat} {G r:Option Nat} {ar:List Int} (h:FrAt w F ar) (k:Chg M G r w w') (hM:F≠M) (hG:G=none) (hr:∀ y,r=some y→F<y):FrAt w' F ar:=by
 subst hG;exact(k.block F (xg_ h) hM (by simp) (fun e=>by have:=hr F e.symm;omega)).trans h
theorem FrAt.get {w:World} {F:Nat} {ar:List Int} (h:FrAt w F ar) (i:Nat) (hi:i<ar.length):w.cell? ⟨F,i,none⟩=some (.int .i64 (ar.getD i 0)):=by
 rw[xa_ h];simp[xi_,hi]
theorem FrAt.grown {w w':World} {F:Nat} {ar:List Int} (h:FrAt w F ar) (hg:w.grownBy w' none):FrAt w' F ar:=kept hg h
theorem akj_ (c w:World) (B M F off n fc:Nat) (ar:List Int) (pv:Value) (now:Int) (sa:Option Addr) (sc:Nat) (r:List Int) (i sp fl:Int) (tb o:Nat) (x:Ins) (h:MaC w B M pv now sa sc (r++[i]) sp fl) (hF:FrAt w F ar) (hFM:F≠M) (hFB:F<B) (hc:c.grownBy w none) (hcM:c.heap.size≤M) (hcB:c.heap.size≤B) (hx:InsAt c tb o x) (hl:r.length≤800000) (hB:B≤w.heap.size) (hf0:0≤fl) (hf1:fl≤1000000000000)
 (ha:0≤x.a) (hab:x.a+x.b≤n) (hb:0≤x.b) (hn:off+n≤ar.length) (hn2:n≤20000) (hc1 : -4294967295≤x.c) (hc2:x.c≤4294967295) :
 Calls Tryz.prog 50 #[.pointer (some ⟨M,0,none⟩),.pointer (some ⟨tb,o,none⟩),.slice (some ⟨F,off,none⟩) n fc] w fun e w'=>e=.returned (.tuple #[])∧StP w B M none pv now (sb sa) (r++[if isW i x.c (x.c+x.b - 1)=true then ar.getD (off+(x.a+i - x.c).toNat) 0 else 0]) sp (if isW i x.c (x.c+x.b - 1)=true then fl else fl+1) w':=by
 have hrow:∀ y,(sb sa)=some y→c.heap.size≤y∧F<y:=fun y hy=>by have:=(h.row y hy).1;omega
 have HM:=hd_ h;have HX:=hd_ hx;have HF:=hd_ hF;clear h hx hF;go_enter Tryz.func50,Tryz.ntmps50;go_wp2_with fail
 refine(vg_ HM.out (by omega) _ gz_).mono ?_;rintro e w1 ⟨rfl,hm1,hk1,hn1⟩;have hcw1:c.grownBy w1 none:=y4_ hc hk1 hcM (fun y hy=>by simp at hy) (fun y hy=>(hrow y hy).1);have HM1:=hd_ hm1;have HC1:=hd_ hk1;have HF1:Hid (FrAt w1 F ar):=HF.out.chg hk1 hFM rfl (fun y hy=>(hrow y hy).2);have hs1:B≤w1.heap.size:=(by have:=hk1.size;omega);obtain⟨q0,q1,q2,q3⟩:=HX.out.grown hcw1;have e1:IntKind.i64.wrap (x.c+x.b)=x.c+x.b:=IntWalk.i64_in _ (by omega);have e2:IntKind.i64.wrap (x.c+x.b - 1)=x.c+x.b - 1:=IntWalk.i64_in _ (by omega);have b1:=hm1.blk;have d4:=xa_ b1 4;simp at d4;have f4:=xc_ b1 4;have hw4:=kv_ fl hf0 hf1;clear hm1 hk1 hn1 b1 q0;go_wp2_with fail
 go_region_held3 (fun w'=>w'.cell? ⟨tb,o+1,none⟩=some (.int .i64 x.a)∧w'.cell? ⟨tb,o+2,none⟩=some (.int .i64 x.b)∧w'.cell? ⟨tb,o+3,none⟩=some (.int .i64 x.c)) (go_keep) (first
  | (go_at_call 70
     refine(yf_ _ _ _ _).mono ?_;rintro e w' ⟨rfl,rfl⟩))
 have hgd:w1.grownBy w1.drew none:=xf_ gz_;cases hW:isW i x.c (x.c+x.b - 1) with
 | false=>
  go_wp2_with fail
  refine(js_ (0:Int) ((HM1.out.kept hgd).setF (fl+1)) (by omega) (by simpa using hs1) _ gz_).mono ?_;rintro e w5 ⟨rfl,sa',sc',hm5,hc5,hn5⟩;go_wp2;all_goals first|go_end0|((try simp only[Exit.inBlock,Exit.then]);refine bodyPost_ret (results_none rfl _ _ _) rfl ?_)
  all_goals exact⟨rfl,sa',sc',by simpa using hm5,((HC1.out.trans (Nx.refl _ _) (Chg.of_none hgd)).trans (Nx.refl _ _) (q4_ M 4 _ _ w1.drew _)).trans (Nx.refl _ _) hc5,Nx.trans HC1.out.size (Nx.refl _ _) (Nx.trans (by simp) (Nx.refl _ _) hn5)⟩
 | true=>
  have hW':x.c≤i∧i≤x.c+x.b - 1:=(by simpa[isW] using hW);obtain⟨j,hj⟩:∃ j:Nat,(j:Int)=x.a+i - x.c:=⟨(x.a+i - x.c).toNat,by omega⟩;have hjn:j<n:=(by omega);have g1:IntKind.i64.wrap (x.a+i)=x.a+i:=IntWalk.i64_in _ (by omega);have g2:IntKind.i64.wrap (x.a+i - x.c)=(j:Int):=(by rw[← hj];exact IntWalk.i64_in _ (by omega));have i1:(0:Int)≤(j:Int):=(by omega);have i2:(j:Int)<(n:Int):=(by omega);have q5:=HF1.out.get (off+j) (by omega);have ej:(x.a+i - x.c).toNat=j:=(by omega);have HEJ:=hd_ ej;obtain⟨y,hy⟩:∃ y,ar.getD (off+j) 0=y:=⟨_,rfl⟩;have HY:=hd_ hy;rw[hy] at q5;clear hj ej hW' hy;go_wp2_with fail
  go_region_held3 (fun w'=>w'.cell? ⟨tb,o+1,none⟩=some (.int .i64 x.a)∧w'.cell? ⟨tb,o+3,none⟩=some (.int .i64 x.c)∧w'.cell? ⟨F,off+j,none⟩=some (.int .i64 y)) (first|(go_keep;done)|exact HK5.out) (first
   | (go_at_call 48
      refine(js_ y HM1.out (by omega) hs1 _ (by first|exact xf_ gz_|exact xf_ (xf_ gz_))).mono ?_;rintro e w5 ⟨rfl,sa',sc',hm5,hc5,hn5⟩;have hcw5:c.grownBy w5 none:=y4_ hcw1 hc5 hcM (fun y hy=>by simp at hy) (fun y hy=>(hrow y hy).1);have HK5:Hid (w5.cell? ⟨tb,o+1,none⟩=some (.int .i64 x.a)∧w5.cell? ⟨tb,o+3,none⟩=some (.int .i64 x.c)∧w5.cell? ⟨F,off+j,none⟩=some (.int .i64 y)):=⟨(HX.out.grown hcw5).a,(HX.out.grown hcw5).c,by
       have hb:=HF1.out.chg hc5 hFM rfl (fun y hy=>(hrow y hy).2);rw[xa_ hb,← xa_ HF1.out];exact q5⟩))
  go_wp2;all_goals first|go_end0|((try simp only[Exit.inBlock,Exit.then]);refine bodyPost_ret (results_none rfl _ _ _) rfl ?_)
  all_goals exact⟨rfl,sa',sc',by rw[HEJ.out];have h:=hm5;rw[← HY.out] at h;exact h,HC1.out.trans (Nx.refl _ _) hc5,Nx.trans HC1.out.size (Nx.refl _ _) hn5⟩
theorem ao5_ (c w:World) (B M:Nat) (pv:Value) (now:Int) (sa:Option Addr) (sc:Nat) (r:List Int) (a sp fl:Int) (tb o:Nat) (x:Ins) (h:MaC w B M pv now sa sc (r++[a]) sp fl) (hc:c.grownBy w none) (hcM:c.heap.size≤M) (hcB:c.heap.size≤B) (hx:InsAt c tb o x) (hop:zy_ x=1) (hl:r.length≤800000) (hB:B≤w.heap.size) (hf0:0≤fl) (hf1:fl≤1000000000000) :
 Calls Tryz.prog 49 #[.pointer (some ⟨M,0,none⟩),.pointer (some ⟨tb,o,none⟩)] w fun e w'=>e=.returned (.tuple #[])∧StP w B M none pv now (sb sa) (r++[Ce.doN x.a x.b a 0]) sp (if Ce.doZ x.a x.b 0=true then fl+1 else fl) w':=by
 have hrow:∀ y,(sb sa)=some y→c.heap.size≤y:=fun y hy=>by have:=(h.row y hy).1;omega
 have HM:=hd_ h;have HX:=hd_ hx;have hxw:=hx.grown hc;obtain⟨q0,q1,q2,q3⟩:=hxw;have cO:Calls Tryz.prog 68 #[.agg #[.int .i64 x.d,.int .i64 x.a,.int .i64 x.b,.int .i64 x.c]] w fun e w'=>e=.returned (.int .i64 1)∧w.grownBy w' none:=(aac_ x w).mono fun e w' h=>⟨by rw[h.1,hop],h.2⟩;clear h hx hop;go_enter Tryz.func49,Tryz.ntmps49;go_wp2_with fail
 refine cO.mono ?_;rintro e w1 ⟨rfl,hg1⟩;clear cO q0 q1 q2 q3;have hm2:=HM.out.kept hg1;have hcw2:c.grownBy w1 none:=hc.trans hg1;have HM2:=hd_ hm2;have HC2:Hid (Chg M none (sb sa) w w1):=Chg.of_none hg1;have HN2:Hid (Nx w (sb sa) (sb sa)):=Nx.refl _ _;have hrow2:∀ y,(sb sa)=some y→c.heap.size≤y:=fun y hy=>by have:=(hm2.row y hy).1;omega
 obtain⟨q0,q1,q2,q3⟩:=HX.out.grown hcw2;clear hm2 q0 q3;go_wp2_with fail
 go_region_held3 (fun w'=>w'.cell? ⟨tb,o+1,none⟩=some (.int .i64 x.a)∧w'.cell? ⟨tb,o+2,none⟩=some (.int .i64 x.b)) (first|(go_keep;done)|exact HK3.out) (first
  | (go_at_call 31
     refine(vg_ HM2.out (by omega) _ (xf_ gz_)).mono ?_;rintro e w3 ⟨rfl,hm3,hc3,hn3⟩;have HM3:=hd_ hm3;have HC3:=hd_ hc3;have HN3:=hd_ hn3;have hcw3:c.grownBy w3 none:=y4_ hcw2 hc3 hcM (fun y hy=>by simp at hy) hrow2;have HK3:Hid (w3.cell? ⟨tb,o+1,none⟩=some (.int .i64 x.a)∧w3.cell? ⟨tb,o+2,none⟩=some (.int .i64 x.b)):=⟨(HX.out.grown hcw3).a,(HX.out.grown hcw3).b⟩;clear hm3 hc3 hn3)
  | (go_at_call 69
     refine(doW _ _ _ _ _).mono ?_;rintro e w' ⟨rfl,rfl⟩))
 have b3:=HM3.out.blk;have d4:=xa_ b3 4;simp at d4;have f4:=xc_ b3 4;have hw4:=kv_ fl hf0 hf1;have HCN:Hid (Chg M none (sb sa) w w3∧Nx w (sb sa) (sb sa)):=⟨HC2.out.trans HN2.out HC3.out,Nx.trans HC2.out.size HN2.out HN3.out⟩;have hs3:B≤w3.heap.size:=(by have:=HCN.out.1.size;omega);clear b3;cases hz:Ce.doZ x.a x.b 0 with
 | false=>
  go_wp2_with fail
  refine(js_ _ HM3.out (by omega) hs3 _ gz_).mono ?_;rintro e w5 ⟨rfl,sa',sc',hm5,hc5,hn5⟩;go_wp2;all_goals go_end0
  all_goals exact⟨rfl,sa',sc',by simpa using hm5,HCN.out.1.trans HCN.out.2 hc5,Nx.trans HCN.out.1.size HCN.out.2 hn5⟩
 | true=>
  go_wp2_with fail
  refine(js_ _ (HM3.out.setF (fl+1)) (by omega) (by simpa using hs3) _ gz_).mono ?_;rintro e w5 ⟨rfl,sa',sc',hm5,hc5,hn5⟩;go_wp2;go_end0;exact⟨rfl,sa',sc',by simpa using hm5,(HCN.out.1.trans HCN.out.2 (q4_ M 4 _ _ w3 _)).trans HCN.out.2 hc5,Nx.trans HCN.out.1.size HCN.out.2 (Nx.trans (by simp) (Nx.refl _ _) hn5)⟩
theorem ao6_ (w:World) (B M:Nat) (pv:Value) (now:Int) (sa:Option Addr) (sc:Nat) (r:List Int) (g a b sp fl:Int) (h:MaC w B M pv now sa sc (r++[g]++[a]++[b]) sp fl) (hl:r.length≤800000) (hB:B≤w.heap.size) :
 Calls Tryz.prog 53 #[.pointer (some ⟨M,0,none⟩)] w fun e w'=>e=.returned (.tuple #[])∧StP w B M none pv now (sb sa) (r++[if g=0 then a else b]) sp fl w':=by
 have HM:=hd_ h;clear h;go_enter Tryz.func53,Tryz.ntmps53;go_wp2_with fail
 refine(vg_ HM.out (by simp;omega) _ gz_).mono ?_;rintro e w1 ⟨rfl,hm1,hc1,hn1⟩;have HM1:=hd_ hm1;have HC1:=hd_ hc1;clear hm1 hc1 hn1;go_wp2_with fail
 refine(vg_ HM1.out (by simp;omega) _ gz_).mono ?_;rintro e w2 ⟨rfl,hm2,hc2,hn2⟩;have HM2:=hd_ hm2;have HC2:Hid (Chg M none (sb sa) w w2):=HC1.out.trans (Nx.refl _ _) hc2;clear hm2 hc2 hn2;go_wp2_with fail
 refine(vg_ HM2.out (by omega) _ gz_).mono ?_;rintro e w3 ⟨rfl,hm3,hc3,hn3⟩;have HM3:=hd_ hm3;have HC3:Hid (Chg M none (sb sa) w w3):=HC2.out.trans (Nx.refl _ _) hc3;have hs3:B≤w3.heap.size:=(by have:=HC3.out.size;omega);clear hm3 hc3 hn3;by_cases hg:g=0
 · subst hg;go_wp2_with fail
   refine(js_ _ HM3.out (by omega) hs3 _ gz_).mono ?_;rintro e w5 ⟨rfl,sa',sc',hm5,hc5,hn5⟩;go_wp2;all_goals go_end0
   all_goals exact⟨rfl,sa',sc',by simpa using hm5,HC3.out.trans (Nx.refl _ _) hc5,Nx.trans HC3.out.size (Nx.refl _ _) hn5⟩
 · have e1:(g==0)=false:=(by simpa using hg);have e2:(g != 0)=true:=(by simpa using hg);go_wp2_with fail
   refine(js_ _ HM3.out (by omega) hs3 _ gz_).mono ?_;rintro e w5 ⟨rfl,sa',sc',hm5,hc5,hn5⟩;go_wp2;all_goals go_end0
   all_goals exact⟨rfl,sa',sc',by simpa[hg] using hm5,HC3.out.trans (Nx.refl _ _) hc5,Nx.trans HC3.out.size (Nx.refl _ _) hn5⟩
end Go.Proofs.YtcgbfhpmkpglkaaGreatDoor
namespace Go.Proofs.YtcgbfhpmkpglkaaGreatDoor.Ce
open Go.RowKit
theorem ops (op:Int):op=1∨op=2∨op=3∨op=4∨op=5∨op=6∨op=7∨op=8∨op=9∨op=10∨op=11∨op=12∨op=13∨op=14∨op=15∨op=16∨op=17∨op=18∨op=19∨op=20∨op=21∨op=22∨op=23∨(op<1∨23<op):=by omega
theorem vv_ {op:Int} (k:Int) (h:op<1∨23<op):yu_ op k=false:=by
 unfold yu_;have e:∀ n:Int,1≤n→n≤23→(op==n)=false:=fun n a b=>by simp;omega
 simp[e]
theorem acm_ {op k:Int} (h:isK k=false):yd_ op k=0:=by
 have e:∀ n:Int,1≤n→n≤5→(k==n)=false:=fun n a b=>by simp[isK] at h;simp;omega
 have hh:yu_ op k=false:=by
  simp[yu_,h,e]
 simp[yd_,hh]
theorem xw_ (op k:Int) (w:World) :
 Calls Tryz.prog 37 #[.int .i64 op,.int .i64 k] w fun e w'=>e=.returned (.int .i64 (yd_ op k))∧w'=w:=by
 rcases ops op with rfl|rfl|rfl|rfl|rfl|rfl|rfl|rfl|rfl|rfl|rfl|rfl|rfl|rfl|rfl|rfl|rfl|rfl|rfl|rfl|rfl|rfl|rfl|h
 case inr.inr.inr.inr.inr.inr.inr.inr.inr.inr.inr.inr.inr.inr.inr.inr.inr.inr.inr.inr.inr.inr.inr=>
  have HR:Hid (yd_ op k=0):=by
   show yd_ op k=0
   simp[yd_,vv_ k h]
  have f:∀ n:Int,1≤n→n≤23→(op==n)=false:=fun n a b=>by simp;omega
  have g1:=f 1 (by decide) (by decide);have g2:=f 2 (by decide) (by decide);have g3:=f 3 (by decide) (by decide);have g4:=f 4 (by decide) (by decide);have g5:=f 5 (by decide) (by decide);have g6:=f 6 (by decide) (by decide);have g7:=f 7 (by decide) (by decide);have g8:=f 8 (by decide) (by decide);have g9:=f 9 (by decide) (by decide);have g10:=f 10 (by decide) (by decide);have g19:=f 19 (by decide) (by decide);have g20:=f 20 (by decide) (by decide);have g21:=f 21 (by decide) (by decide);have g22:=f 22 (by decide) (by decide);have g23:=f 23 (by decide) (by decide);clear f;rcases h with h|h
  ·go_enter Tryz.func37,Tryz.ntmps37;go_wp2;go_ret;exact⟨by simp;exact HR.out.symm,rfl⟩
  ·go_enter Tryz.func37,Tryz.ntmps37;go_wp2;go_ret;exact⟨by simp;exact HR.out.symm,rfl⟩
 all_goals
  go_enter Tryz.func37,Tryz.ntmps37;go_wp2
 all_goals go_ret
 all_goals refine⟨?_,rfl⟩
 all_goals simp
 all_goals try simp only[beq_iff_eq,beq_eq_false_iff_ne,ne_eq] at *
 all_goals rcases ae1_ k with rfl|rfl|rfl|rfl|rfl|h
 all_goals first|omega|decide|rw[acm_ (by simp[isK];omega)]
theorem kt_ (op k:Int):yd_ op k=0↔yu_ op k=false:=by
 constructor
 · intro h;by_cases hh:yu_ op k=true
   · exfalso;simp only[yd_,hh,if_true] at h;split at h
     ·omega
     ·subst h;have e:isK 0=false:=(by decide);simp[yu_,e] at hh
   ·simpa using hh
 ·intro h;simp[yd_,h]
theorem afx_ {op k:Int} (h:yu_ op k=true) (ho:21≤op):xt_ op k=0:=by
 have h3:op=21∨op=22∨op=23:=by
  by_cases h4:23<op
  ·rw[vv_ k (.inr h4)] at h;cases h
  ·omega
 simp only[xt_,h,if_true];rcases h3 with rfl|rfl|rfl <;> rfl
theorem x2_ (op k:Int) (w:World) :
 Calls Tryz.prog 26 #[.int .i64 op,.int .i64 k] w fun e w'=>e=.returned (.int .i64 (xt_ op k))∧w'=w:=by
 by_cases hh:yu_ op k=true
 · have hz:(yd_ op k==0)=false:=by
    have:=(kt_ op k);simp only[hh] at this;simp at this;simpa using this
   by_cases h1:21≤op
   · have HS:Hid (xt_ op k=0):=afx_ hh h1;clear hh;go_enter Tryz.func26,Tryz.ntmps26;go_wp2_with (go_at_call 37;refine(xw_ _ _ _).mono ?_;rintro e w' ⟨rfl,rfl⟩)
     go_ret;exact⟨xs_ HS.out.symm,rfl⟩
   · have h2:op<21:=(by omega);clear h1;by_cases h3:15≤op
     · by_cases h4:op≤18
       · have HS:Hid (xt_ op k=2):=u3_ hh (by simp[shB];omega);clear hh;go_enter Tryz.func26,Tryz.ntmps26;go_wp2_with (go_at_call 37;refine(xw_ _ _ _).mono ?_;rintro e w' ⟨rfl,rfl⟩)
         go_ret;exact⟨xs_ HS.out.symm,rfl⟩
       · have h5:18<op:=(by omega);have HS:Hid (xt_ op k=k):=by
          show xt_ op k=k
          have h6:op=19∨op=20:=(by omega);simp only[xt_,hh,if_true];rcases h6 with rfl|rfl <;> rfl
         clear hh h4;go_enter Tryz.func26,Tryz.ntmps26;go_wp2_with (go_at_call 37;refine(xw_ _ _ _).mono ?_;rintro e w' ⟨rfl,rfl⟩)
         go_ret;exact⟨xs_ HS.out.symm,rfl⟩
     · have h5:op<15:=(by omega);have HS:Hid (xt_ op k=k):=by
        show xt_ op k=k
        have f:∀ n:Int,15≤n→(op==n)=false:=fun n a=>by simp;omega
        simp[xt_,hh,f]
       clear hh h3;go_enter Tryz.func26,Tryz.ntmps26;go_wp2_with (go_at_call 37;refine(xw_ _ _ _).mono ?_;rintro e w' ⟨rfl,rfl⟩)
       go_ret;exact⟨xs_ HS.out.symm,rfl⟩
 · have hh:yu_ op k=false:=(by simpa using hh);have hz:(yd_ op k==0)=true:=by
    have:=(kt_ op k).2 hh;simp[this]
   have HS:Hid (xt_ op k=0):=by
    show xt_ op k=0
    simp[xt_,hh]
   clear hh;go_enter Tryz.func26,Tryz.ntmps26;go_wp2_with (go_at_call 37;refine(xw_ _ _ _).mono ?_;rintro e w' ⟨rfl,rfl⟩)
   go_ret;exact⟨xs_ HS.out.symm,rfl⟩
end Go.Proofs.YtcgbfhpmkpglkaaGreatDoor.Ce
namespace Go.Proofs.YtcgbfhpmkpglkaaGreatDoor.Ce
theorem z8_ (x k:Nat):x / 2 ^ k % 2=if x.testBit k=true then 1 else 0:=by
 rw[Nat.testBit_eq_decide_div_mod_eq];have:=Nat.mod_two_eq_zero_or_one (x / 2 ^ k);rcases this with h|h <;> simp[h]
def bwX (op:Int) (a b:Nat):Nat:=if op==6 then a &&& b else if op==7 then a |||b else if op==8 then a ^^^ b else 65535 - a
theorem aui_ (a b k:Nat):bwX 6 a b / 2 ^ k % 2=if a / 2 ^ k % 2=1∧b / 2 ^ k % 2=1 then 1 else 0:=by
 show(a &&& b) / 2 ^ k % 2=_
 rw[z8_,z8_,z8_,Nat.testBit_and];cases a.testBit k <;> cases b.testBit k <;> rfl
theorem av9_ (a b k:Nat):bwX 7 a b / 2 ^ k % 2=if a / 2 ^ k % 2=0∧b / 2 ^ k % 2=0 then 0 else 1:=by
 show(a |||b) / 2 ^ k % 2=_
 rw[z8_,z8_,z8_,Nat.testBit_or];cases a.testBit k <;> cases b.testBit k <;> rfl
theorem auj_ (a b k:Nat):bwX 8 a b / 2 ^ k % 2=if a / 2 ^ k % 2=b / 2 ^ k % 2 then 0 else 1:=by
 show(a ^^^ b) / 2 ^ k % 2=_
 rw[z8_,z8_,z8_,Nat.testBit_xor];cases a.testBit k <;> cases b.testBit k <;> rfl
theorem auk_ (a b k:Nat) (hk:k<16) (ha:a<65536):bwX 21 a b / 2 ^ k % 2=if a / 2 ^ k % 2=0 then 1 else 0:=by
 show(65535 - a) / 2 ^ k % 2=_
 have e:65535 - a=2 ^ 16 - (a+1):=(by omega);rw[z8_,z8_,e,Nat.testBit_two_pow_sub_succ (by omega)];simp only[hk];cases a.testBit k <;> rfl
theorem afy_ (op:Int) (a b:Nat) (ha:a<65536) (hb:b<65536):bwX op a b<65536:=by
 unfold bwX;split
 ·exact Nat.and_lt_two_pow (n:=16) a hb
 · split
   ·exact Nat.or_lt_two_pow (n:=16) ha hb
   · split
     ·exact Nat.xor_lt_two_pow (n:=16) ha hb
     ·omega
theorem ahy_ (x k:Nat):x % 2 ^ (k+1)=x % 2 ^ k+x / 2 ^ k % 2*2 ^ k:=by
 rw[Nat.mod_pow_succ,Nat.mul_comm]
def rotX (a m:Nat):Nat:=(a*2 ^ m) % 65536+a / 2 ^ (16 - m)
def mvX (op:Int) (a c:Nat):Nat:=
 if op==15 then a*2 ^ c % 65536 else if op==16 then a / 2 ^ c else if op==17 then rotX a (c % 16) else rotX a ((16 - c % 16) % 16)
theorem aow_ (a c k:Nat) (hk:k<16):mvX 15 a c / 2 ^ k % 2=if c≤k then a / 2 ^ (k - c) % 2 else 0:=by
 show(a*2 ^ c % 65536) / 2 ^ k % 2=_
 have e:a*2 ^ c % 65536=a*2 ^ c % 2 ^ 16:=rfl;rw[e,z8_,Nat.testBit_mod_two_pow,Nat.testBit_mul_two_pow];by_cases h:c≤k
 ·simp only[hk,h,z8_];simp
 ·simp[h]
theorem aox_ (a c k:Nat):mvX 16 a c / 2 ^ k % 2=a / 2 ^ (k+c) % 2:=by
 show(a / 2 ^ c) / 2 ^ k % 2=_
 rw[Nat.div_div_eq_div_mul,← Nat.pow_add,Nat.add_comm]
theorem aoy_ (a k:Nat) (ha:a<65536) (hk:16≤k):a / 2 ^ k % 2=0:=by
 have h1:2 ^ 16≤2 ^ k:=Nat.pow_le_pow_right (by decide) hk;have h2:a / 2 ^ k=0:=Nat.div_eq_of_lt (by omega);rw[h2]
theorem ali_ (a m k:Nat) (ha:a<65536) (hm:m<16) (hk:k<16):rotX a m / 2 ^ k % 2=a / 2 ^ ((k+16 - m) % 16) % 2:=by
 have hq:a / 2 ^ (16 - m)<2 ^ m:=by
  rw[Nat.div_lt_iff_lt_mul (Nat.two_pow_pos _),← Nat.pow_add];have e:m+(16 - m)=16:=(by omega);rw[e];exact ha
 have e16:(65536:Nat)=2 ^ m*2 ^ (16 - m):=by
  rw[← Nat.pow_add];have e:m+(16 - m)=16:=(by omega);rw[e]
 have e1:a*2 ^ m % 65536=2 ^ m*(a % 2 ^ (16 - m)):=by
  rw[e16,Nat.mul_comm a,Nat.mul_mod_mul_left]
 unfold rotX;rw[e1,Nat.two_pow_add_eq_or_of_lt hq,z8_,Nat.testBit_or,Nat.testBit_two_pow_mul,Nat.testBit_mod_two_pow,Nat.testBit_div_two_pow,z8_];by_cases h:m≤k
 ·have e2:(k+16 - m) % 16=k - m:=(by omega);have e3:a.testBit (k+(16 - m))=false:=Nat.testBit_lt_two_pow (Nat.lt_of_lt_of_le ha (Nat.pow_le_pow_right (n:=2) (by decide) (show 16≤k+(16 - m) by omega)));have e4:k - m<16 - m:=(by omega);simp[e2,e3,h,e4]
 ·have e2:(k+16 - m) % 16=k+(16 - m):=(by omega);simp[e2,h]
theorem aoz_ (a c k:Nat) (ha:a<65536) (hk:k<16) (f:Nat) (hf:(f:Int)=((k:Int) - c) % 16):mvX 17 a c / 2 ^ k % 2=a / 2 ^ f % 2:=by
 show rotX a (c % 16) / 2 ^ k % 2=_
 rw[ali_ a _ k ha (by omega) hk];have e:(k+16 - c % 16) % 16=f:=(by omega);rw[e]
theorem ao0_ (a c k:Nat) (ha:a<65536) (hk:k<16) (f:Nat) (hf:(f:Int)=((k:Int)+c) % 16):mvX 18 a c / 2 ^ k % 2=a / 2 ^ f % 2:=by
 show rotX a ((16 - c % 16) % 16) / 2 ^ k % 2=_
 rw[ali_ a _ k ha (by omega) hk];have e:(k+16 - (16 - c % 16) % 16) % 16=f:=(by omega);rw[e]
theorem alj_ (a m:Nat) (hm:m<16) (ha:a<65536):rotX a m<65536:=by
 have hc:m=0∨m=1∨m=2∨m=3∨m=4∨m=5∨m=6∨m=7∨m=8∨m=9∨m=10∨m=11∨m=12∨m=13∨m=14∨m=15:=(by omega);unfold rotX;rcases hc with rfl|rfl|rfl|rfl|rfl|rfl|rfl|rfl|rfl|rfl|rfl|rfl|rfl|rfl|rfl|rfl
 all_goals simp only[Nat.sub_zero,Nat.reduceSub,Nat.reducePow]
 all_goals omega
theorem aau_ (op:Int) (a c:Nat) (ha:a<65536):mvX op a c<65536:=by
 unfold mvX;split
 ·omega
 · split
   ·exact Nat.lt_of_le_of_lt (Nat.div_le_self _ _) ha
   · split
     ·exact alj_ a _ (by omega) ha
     ·exact alj_ a _ (by omega) ha
end Go.Proofs.YtcgbfhpmkpglkaaGreatDoor.Ce
namespace Go.Proofs.YtcgbfhpmkpglkaaGreatDoor.Ce
open Go.RowKit
theorem ami_ (n:Int) (k:Nat):n / 2 ^ (k+1)=n / 2 ^ k / 2:=by
 rw[Int.pow_succ,Int.ediv_ediv_of_nonneg (Int.pow_nonneg (by decide))]
theorem ar0_ (n:Int) (k:Nat) (h0:0≤n) (h1:n≤65535):0≤n / 2 ^ k∧n / 2 ^ k≤65535:=
 ⟨Int.ediv_nonneg h0 (Int.pow_nonneg (by decide)),Int.le_trans (Int.ediv_le_self _ h0) h1⟩
theorem yj_ (n:Int) (i:Nat) (w:World) (h0:0≤n) (h1:n≤65535) (hi:i≤16) :
 Calls Tryz.prog 62 #[.int .i64 n,.int .i64 i] w fun e w'=>e=.returned (.int .i64 (n / 2 ^ i % 2))∧w'=w:=by
 go_enter Tryz.func62,Tryz.ntmps62;go_wp2;go_loop [0,5] (fun a j=>∃ k:Nat,k≤i∧j=.int .i64 k∧a=.int .i64 (n / 2 ^ k)) (fun _ j=>i - (intOf j).toNat)
 case atStart=>exact⟨0,Nat.zero_le _,rfl,by simp⟩
 case round=>
  obtain⟨k,hk,rfl,rfl⟩:=hrel;have hb:=ar0_ n k h0 h1;have HN:Hid (n / 2 ^ (k+1)=n / 2 ^ k / 2):=ami_ n k;by_cases hlt:k<i
  · go_wp2;go_round
    case rel=>exact⟨k+1,by omega,by go_num,by rw[HN.out]⟩
    case measure=>simp[intOf];omega
  ·go_wp2;go_ret;have e:k=i:=(by omega);exact⟨xs_ (by rw[e]),rfl⟩
theorem ku_ (k:Nat) (h:k≤16):1≤(2:Int) ^ k∧(2:Int) ^ k≤65536:=by
 have h1:2 ^ k≤2 ^ 16:=Nat.pow_le_pow_right (by decide) h;have h2:0<2 ^ k:=Nat.two_pow_pos k;have e:(2:Int) ^ k=((2 ^ k:Nat):Int):=(by simp);rw[e];omega
theorem x8_ (i:Nat) (w:World) (hi:i≤16) :
 Calls Tryz.prog 63 #[.int .i64 i] w fun e w'=>e=.returned (.int .i64 (2 ^ i))∧w'=w:=by
 go_enter Tryz.func63,Tryz.ntmps63;go_wp2;go_loop [3,4] (fun p j=>∃ k:Nat,k≤i∧j=.int .i64 k∧p=.int .i64 (2 ^ k)) (fun _ j=>i - (intOf j).toNat)
 case atStart=>exact⟨0,Nat.zero_le _,rfl,by simp⟩
 case round=>
  obtain⟨k,hk,rfl,rfl⟩:=hrel;have hb:=ku_ k (by omega);have HN:Hid ((2:Int) ^ (k+1)=2 ^ k*2):=Int.pow_succ 2 k;by_cases hlt:k<i
  · go_wp2;go_round
    case rel=>exact⟨k+1,by omega,by go_num,by rw[HN.out]⟩
    case measure=>simp[intOf];omega
  ·go_wp2;go_ret;have e:k=i:=(by omega);exact⟨xs_ (by rw[e]),rfl⟩
theorem ar1_ (a b:Nat) (ha:a<65536) (hb:b<65536):bits .and .i64 (a:Int) (b:Int)=((a &&& b:Nat):Int):=
 (bits_nat .i64 16 (by decide) (fun n h0 h1=>by rw[IntWalk.i64_left];exact qc_ (by omega) (by omega)) a b ha hb).1
theorem aul_ (a b:Nat) (ha:a<65536) (hb:b<65536):bits .or .i64 (a:Int) (b:Int)=((a |||b:Nat):Int):=
 (bits_nat .i64 16 (by decide) (fun n h0 h1=>by rw[IntWalk.i64_left];exact qc_ (by omega) (by omega)) a b ha hb).2
theorem ar2_ (a b:Nat) (ha:a<65536) (hb:b<65536):bits .xor .i64 (a:Int) (b:Int)=((a ^^^ b:Nat):Int):=by
 unfold bits;have e:(BitVec.ofInt IntKind.i64.bits (a:Int) ^^^ BitVec.ofInt IntKind.i64.bits (b:Int)).toNat=a ^^^ b:=by
  show(BitVec.ofInt 64 (a:Int) ^^^ BitVec.ofInt 64 (b:Int)).toNat=a ^^^ b
  rw[BitVec.toNat_xor,BitVec.ofInt_natCast,BitVec.ofInt_natCast,BitVec.toNat_ofNat,BitVec.toNat_ofNat,Nat.mod_eq_of_lt (by omega),Nat.mod_eq_of_lt (by omega)]
 have hl:a ^^^ b<2 ^ 16:=Nat.xor_lt_two_pow ha hb;simp only[e];rw[IntWalk.i64_left];exact qc_ (by omega) (by omega)
theorem ar3_ (a:Int) (h0:0≤a) (h1:a≤65535):bits .xor .i64 (-1) a = -1 - a:=by
 obtain⟨x,rfl⟩:=Int.eq_ofNat_of_zero_le h0;exact i64_not x (by omega)
theorem adb_ (op k a b:Int) (hm:mkB op=true) (hk:k=1∨k=4) (h0:0≤a) (h1:a≤65535) (g0:0≤b) (g1:b≤65535) :
 xd_ k (acs_ op a b)=xd_ k ((bwX op a.toNat b.toNat:Nat):Int):=by
 obtain⟨x,rfl⟩:=Int.eq_ofNat_of_zero_le h0;obtain⟨y,rfl⟩:=Int.eq_ofNat_of_zero_le g0;have ho:op=6∨op=7∨op=8∨op=21:=(by simp[mkB] at hm;omega);rcases ho with rfl|rfl|rfl|rfl
 · show xd_ k (bits .and .i64 (x:Int) (y:Int))=xd_ k ((x &&& y:Nat):Int)
   rw[ar1_ x y (by omega) (by omega)]
 · show xd_ k (bits .or .i64 (x:Int) (y:Int))=xd_ k ((x |||y:Nat):Int)
   rw[aul_ x y (by omega) (by omega)]
 · show xd_ k (bits .xor .i64 (x:Int) (y:Int))=xd_ k ((x ^^^ y:Nat):Int)
   rw[ar2_ x y (by omega) (by omega)]
 · show xd_ k (bits .xor .i64 (-1) (x:Int))=xd_ k ((65535 - x:Nat):Int)
   rw[ar3_ x h0 h1];rcases hk with rfl|rfl
   ·rw[uc_,uc_];omega
   ·rw[vf_,vf_];omega
theorem ahz_ (a m:Nat):rotM (a:Int) m=((rotX a m:Nat):Int):=by
 unfold rotM rotX;simp
theorem alk_ (x m:Nat) (hm:16≤m):(x*2 ^ m) % 65536=0:=by
 have e1:2 ^ m=2 ^ (m - 16)*65536:=by
  rw[show(65536:Nat)=2 ^ 16 from by decide,← Nat.pow_add,Nat.sub_add_cancel hm]
 rw[e1,← Nat.mul_assoc,Nat.mul_mod_left]
theorem ao1_ (x m:Nat):((x:Int)*2 ^ m) % 65536=((x*2 ^ m % 65536:Nat):Int):=by simp
theorem aum_ (x n:Nat):((x:Int)*2 ^ min n 64) % 65536=((x*2 ^ n % 65536:Nat):Int):=by
 rw[ao1_];by_cases hn:n≤64
 ·rw[Nat.min_eq_left hn]
 ·rw[Nat.min_eq_right (by omega),alk_ x 64 (by decide),alk_ x n (by omega)]
theorem ah0_ (x m:Nat) (hx:x<65536) (hm:16≤m):x / 2 ^ m=0:=
 Nat.div_eq_of_lt (Nat.lt_of_lt_of_le (show x<2 ^ 16 from hx) (Nat.pow_le_pow_right (by decide) hm))
theorem aun_ (x n:Nat) (hx:x<65536):(x:Int) / 2 ^ min n 64=((x / 2 ^ n:Nat):Int):=by
 have e:∀ m:Nat,(x:Int) / 2 ^ m=((x / 2 ^ m:Nat):Int):=fun m=>by simp
 rw[e];by_cases hn:n≤64
 ·rw[Nat.min_eq_left hn]
 ·rw[Nat.min_eq_right (by omega),ah0_ x 64 hx (by decide),ah0_ x n hx (by omega)]
theorem auo_ (x n:Nat):rotL (x:Int) n=((rotX x (n % 16):Nat):Int):=by
 unfold rotL;have e:((n:Int) % 16).toNat=n % 16:=(by omega);rw[e,ahz_]
theorem aup_ (x n:Nat):rotL (x:Int) (-(n:Int))=((rotX x ((16 - n % 16) % 16):Nat):Int):=by
 unfold rotL;have e:((-(n:Int)) % 16).toNat=(16 - n % 16) % 16:=(by omega);rw[e,ahz_]
theorem sh15 (a c:Int):shK 15 a c=wrap64 (a*2 ^ min c.toNat 64):=by simp[shK]
theorem sh16 (a c:Int):shK 16 a c=a / 2 ^ min c.toNat 64:=by simp[shK]
theorem sh17 (a c:Int):shK 17 a c=rotL a c:=by simp[shK]
theorem sh18 (a c:Int):shK 18 a c=rotL a (-c):=by simp[shK]
theorem mv15 (a c:Nat):mvX 15 a c=a*2 ^ c % 65536:=by simp[mvX]
theorem mv16 (a c:Nat):mvX 16 a c=a / 2 ^ c:=by simp[mvX]
theorem mv17 (a c:Nat):mvX 17 a c=rotX a (c % 16):=by simp[mvX]
theorem mv18 (a c:Nat):mvX 18 a c=rotX a ((16 - c % 16) % 16):=by simp[mvX]
theorem ab5_ (op a c:Int) (hs:shB op=true) (h0:0≤a) (h1:a≤65535) (hc:0≤c) :
 xd_ 4 (shK op a c)=xd_ 4 ((mvX op a.toNat c.toNat:Nat):Int):=by
 obtain⟨x,rfl⟩:=Int.eq_ofNat_of_zero_le h0;obtain⟨n,rfl⟩:=Int.eq_ofNat_of_zero_le hc;have ho:op=15∨op=16∨op=17∨op=18:=(by simp[shB] at hs;omega);rw[Int.toNat_natCast,Int.toNat_natCast];rcases ho with rfl|rfl|rfl|rfl
 ·rw[sh15,mv15,uj_,vf_,vf_,Int.toNat_natCast,aum_];omega
 ·rw[sh16,mv16,Int.toNat_natCast,aun_ x n (by omega)]
 ·rw[sh17,mv17,auo_]
 ·rw[sh18,mv18,aup_]
end Go.Proofs.YtcgbfhpmkpglkaaGreatDoor.Ce
