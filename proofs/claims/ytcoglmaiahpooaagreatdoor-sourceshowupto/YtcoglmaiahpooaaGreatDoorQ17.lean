/- Texts put together: Mo. -/
import Derived.Test.YtcoglmaiahpooaaGreatDoorQ10
set_option linter.unusedVariables false
set_option linter.unusedSimpArgs false
set_option maxHeartbeats 8000000
namespace Go.Proofs.YtcoglmaiahpooaaGreatDoor
open Go.RowKit
attribute [local go_sem ↓] Go.wp_at_zero Go.wp_at_succ
theorem acn_ {V W:World} (hT:Tabs V) (hV:Vs V W) {ok:Nat→Prop} {es:List PE} {v:Value} (hx:Xs W ok v es) (hc:y9_ es≤4000000) (i:Nat) (hi:i<es.length) (d:Int) (h0:0≤d) (h1:d≤100) :
 ∃ g off c f o kd n nm pt a x ks kc,v=.slice (some ⟨g,off,none⟩) es.length c∧(∀ W',W.grownBy W' none→C8 W' g (off+i*8) (.mk f o kd n nm pt a ks) (.slice x ks.length kc))∧∀ W',W.grownBy W' none→Calls Tryz.prog 87 #[xV f o kd n nm pt a (.slice x ks.length kc),.int .i64 d] W' (xs_ W' (xr_ d es[i])):=by
 obtain⟨g,off,c,ka,kc,rfl,hn,hg,hk,hC⟩:=hx.at8 i hi;have hce:=qa_ es i hi;generalize es[i]=E at hk hC hce;obtain⟨f,o,kd,n,nm,pt,a,ks⟩:=E;exact⟨g,off,c,f,o,kd,n,nm,pt,a,ka,ks,kc,rfl,hC,fun W' hg=>qi_ hT (hV.gr hg) (e:=.mk f o kd n nm pt a ks) (hk.gw hg) (by omega) d h0 h1 W' (gr0 _)⟩
theorem len1 (es:List PE):((es.length:Int)==1)=decide (es.length=1):=j8_ _
theorem all1 {es:List PE} (h:es.length=1) (p:PE→Bool):es.all p=p (es[0]'(by omega)):=by
 match es,h with
 | [e],_=>simp
theorem all2 {es:List PE} (h:es.length=2) (p:PE→Bool):es.all p=(p (es[0]'(by omega)) && p (es[1]'(by omega))):=by
 match es,h with
 | [e,f],_=>simp
theorem j1_ {V W:World} (hT:Tabs V) (hV:Vs V W) {ok:Nat→Prop} {es:List PE} {x:Option Addr} {c:Nat} (hx:Xs W ok (.slice x es.length c) es) (hc:y9_ es≤4000000) (d:Int) (h0:0≤d) (h1:d≤100) :
 Calls Tryz.prog 126 #[.slice x es.length c,.int .i64 d] W (xs_ W (decide (es.length=1) && es.all (xr_ d))):=by
 by_cases h:es.length=1
 · obtain⟨g,off,c',f,o,kd,n,nm,pt,a,ka,ks,kc,ex,hC,cE⟩:=acn_ hT hV hx hc 0 (by omega) d h0 h1;injection ex with e1 e2 e3;subst e1 e3;have hC0:=hC W (gr0 _);rw[show off+0*8=off by omega] at hC0;obtain⟨x0,x1,x2,x3,x4,x5,x6,x7⟩:=hC0.all;clear hC0;rw[decide_eq_true h,Bool.true_and,all1 h];have cE2:=xa_ (cE W (gr0 _));clear hC cE hx hV hT hc;generalize xr_ d es[0]=Z at cE2 ⊢;rw[h];go_enter Tryz.func126,Tryz.ntmps126;go_wp2_with fail
   refine cE2.out.mono ?_;rintro e w2 ⟨rfl,g2⟩;go_wp2_with fail
   go_ret;exact⟨rfl,g2⟩
 · rw[decide_eq_false h,Bool.false_and];have h':((es.length:Int)==1)=false:=(by rw[len1,decide_eq_false h]);go_enter Tryz.func126,Tryz.ntmps126;go_wp2_with fail
   go_ret;exact⟨rfl,gr0 _⟩
abbrev sV (v sa:Int) (nm:ByteArray) (it:Bool) (q1 q2 q3 q4 q5:Value) (lo hi by1 ti:Int):Value:=.agg #[.int .i64 v,.int .i64 sa,.string nm,.bool it,q1,q2,q3,q4,q5,.int .i64 lo,.int .i64 hi,.int .i64 by1,.int .i64 ti]
theorem ai0_ (es:List PE):((es.length:Int)==2)=decide (es.length=2):=ur_ _
theorem aec_ {V W:World} (hT:Tabs V) (hV:Vs V W) {ok:Nat→Prop} {es:List PE} {x:Option Addr} {c:Nat} (v sa:Int) (nm:ByteArray) (it:Bool) (q2 q3 q4 q5:Value) (lo hi by1 ti:Int) (hx:Xs W ok (.slice x es.length c) es) (hc:y9_ es≤4000000) (d:Int) (h0:0≤d) (h1:d≤100) :
 Calls Tryz.prog 123 #[sV v sa nm it (.slice x es.length c) q2 q3 q4 q5 lo hi by1 ti,.int .i64 d] W (xs_ W ((if it=true then decide (es.length=2) else decide (es.length=1)) && es.all (xr_ d))):=by
 cases it
 · simp only[Bool.false_eq_true,if_false];have c1:=xa_ (fun W' (hg:W.grownBy W' none)=>j1_ hT (hV.gr hg) (hx.gw hg) hc d h0 h1);generalize(decide (es.length=1) && es.all (xr_ d))=Z at c1 ⊢;clear hx hV hT hc;go_enter Tryz.func123,Tryz.ntmps123;go_wp2_with fail
   refine(c1.out _ (gr1 _ _)).mono ?_;rintro e w2 ⟨rfl,g2⟩;go_wp2_with fail
   go_ret;exact⟨rfl,gtn (gr1 _ _) g2⟩
 simp only[if_true];by_cases h:es.length=2;rotate_left
 · rw[decide_eq_false h,Bool.false_and];have h':((es.length:Int)==2)=false:=(by rw[ai0_,decide_eq_false h]);go_enter Tryz.func123,Tryz.ntmps123;go_wp2_with fail
   go_ret;exact⟨rfl,gr1 _ _⟩
 obtain⟨g,off,c',f,o,kd,n,nm1,pt,a,ka,ks,kc,ex,hC,cE⟩:=acn_ hT hV hx hc 0 (by omega) d h0 h1;injection ex with e1 e2 e3;subst e1 e3;obtain⟨g',off',c',f',o',kd',n',nm',pt',a',ka',ks',kc',ex,hC',cE'⟩:=acn_ hT hV hx hc 1 (by omega) d h0 h1;injection ex with e1 e2 e3;injection e1 with e1;injection e1 with e1 e4;subst e1 e4 e3;obtain⟨W1,hW1⟩:∃ W1,W1=W.alloc (.cells #[.int .i64 v,.int .i64 sa,.string nm,.bool true,.slice (some ⟨g,off,none⟩) es.length c,q2,q3,q4,q5,.int .i64 lo,.int .i64 hi,.int .i64 by1,.int .i64 ti] 99):=⟨_,rfl⟩;have G1:Hid (W.grownBy W1 none):=hW1▸gr1 _ _;have A1:Hid (W1.heap[W.heap.size]?=some (.cells #[.int .i64 v,.int .i64 sa,.string nm,.bool true,.slice (some ⟨g,off,none⟩) es.length c,q2,q3,q4,q5,.int .i64 lo,.int .i64 hi,.int .i64 by1,.int .i64 ti] 99)):=hW1▸xe_ rfl _;have hC0:=hC W1 G1.out;rw[show off+0*8=off by omega] at hC0;obtain⟨x0,x1,x2,x3,x4,x5,x6,x7⟩:=hC0.all;clear hC0;rw[decide_eq_true h,Bool.true_and,all2 h];have cE1:=xa_ cE;have cE2:=xa_ cE';have HC':=xa_ hC';clear hC cE cE' hC' hx hV hT hc;generalize xr_ d es[0]=r1 at cE1 ⊢;generalize xr_ d es[1]=r2 at cE2 ⊢;rw[h] at A1 hW1 ⊢;obtain⟨Z,hZ⟩:∃ Z,(r1 && r2)=Z:=⟨_,rfl⟩;rw[hZ];have HZ:=xa_ hZ;have HW1:=xa_ hW1;clear hZ;rw[hW1] at x0 x1 x2 x3 x4 x5 x6 x7;clear hW1;go_enter Tryz.func123,Tryz.ntmps123;go_wp2_with fail
 rw[← HW1.out];refine(cE1.out _ G1.out).mono ?_;rintro e w2 ⟨rfl,g2⟩;have A2:=kept g2 A1.out;have G2:=xa_ (gtn G1.out g2);clear g2 x0 x1 x2 x3 x4 x5 x6 x7 A1 HW1;cases r1
 · have e:Z=false:=HZ.out.symm;subst e;clear HZ;go_wp2_with fail
   go_ret;exact⟨rfl,G2.out⟩
 have e:Z=r2:=HZ.out.symm;subst e;clear HZ;obtain⟨a1,a2,a3,a4,a5,a6⟩:=xb_ A2;have hC2:=HC'.out w2 G2.out;rw[show off+1*8=off+8 by omega] at hC2;obtain⟨x0,x1,x2,x3,x4,x5,x6,x7⟩:=hC2.all;clear hC2;go_wp2_with fail
 refine(cE2.out _ G2.out).mono ?_;rintro e w3 ⟨rfl,g3⟩;have G3:=xa_ (gtn G2.out g3);clear g3;go_wp2_with fail
 go_ret;exact⟨rfl,G3.out⟩
def yz_ (nm:ByteArray) (it:Bool) (N lo hi by1 ti:Int):Bool:=(nm.toList==[]) && (!it && ((N==0) && ((lo==0) && ((hi==0) && ((by1==0) && (ti==0))))))
theorem yn_ (v sa:Int) (nm:ByteArray) (it:Bool) (x1 x2 x3 x4 x5:Option Addr) (l1 l2 l3 l4 l5 c1 c2 c3 c4 c5:Nat) (lo hi by1 ti:Int) (b1:l1≤4000000) (b2:l2≤4000000) (b3:l3≤4000000) (b4:l4≤4000000) (b5:l5≤4000000) (W:World) :
 Calls Tryz.prog 129 #[sV v sa nm it (.slice x1 l1 c1) (.slice x2 l2 c2) (.slice x3 l3 c3) (.slice x4 l4 c4) (.slice x5 l5 c5) lo hi by1 ti] W (xs_ W (yz_ nm it ((l1:Int)+l2+l3+l4+l5) lo hi by1 ti)):=by
 have w1:IntKind.i64.wrap ((l1:Int)+l2)=(l1:Int)+l2:=IntWalk.i64_in _ (by omega);have w2:IntKind.i64.wrap ((l1:Int)+l2+l3)=(l1:Int)+l2+l3:=IntWalk.i64_in _ (by omega);have w3:IntKind.i64.wrap ((l1:Int)+l2+l3+l4)=(l1:Int)+l2+l3+l4:=IntWalk.i64_in _ (by omega);have w4:IntKind.i64.wrap ((l1:Int)+l2+l3+l4+l5)=(l1:Int)+l2+l3+l4+l5:=IntWalk.i64_in _ (by omega);rw[yz_];clear b1 b2 b3 b4 b5;obtain⟨N,hN⟩:∃ N,(l1:Int)+l2+l3+l4+l5=N:=⟨_,rfl⟩;rw[hN] at w4;rw[hN];obtain⟨v1,h1⟩:∃ b,(nm.toList==[])=b:=⟨_,rfl⟩;obtain⟨v3,h3⟩:∃ b,(N==0)=b:=⟨_,rfl⟩;obtain⟨v4,h4⟩:∃ b,(lo==0)=b:=⟨_,rfl⟩;obtain⟨v5,h5⟩:∃ b,(hi==0)=b:=⟨_,rfl⟩;obtain⟨v6,h6⟩:∃ b,(by1==0)=b:=⟨_,rfl⟩;obtain⟨v7,h7⟩:∃ b,(ti==0)=b:=⟨_,rfl⟩;rw[h1,h3,h4,h5,h6,h7];cases v1
 · clear h3 h4 h5 h6 h7;go_enter Tryz.func129,Tryz.ntmps129;go_wp2_with fail
   go_ret;exact⟨rfl,gr1 _ _⟩
 cases it;rotate_left
 · clear h3 h4 h5 h6 h7;go_enter Tryz.func129,Tryz.ntmps129;go_wp2_with fail
   go_ret;exact⟨rfl,gr1 _ _⟩
 cases v3
 · clear h4 h5 h6 h7;go_enter Tryz.func129,Tryz.ntmps129;go_wp2_with fail
   go_ret;exact⟨rfl,gr1 _ _⟩
 cases v4
 · clear h5 h6 h7;go_enter Tryz.func129,Tryz.ntmps129;go_wp2_with fail
   go_ret;exact⟨rfl,gr1 _ _⟩
 cases v5
 · clear h6 h7;go_enter Tryz.func129,Tryz.ntmps129;go_wp2_with fail
   go_ret;exact⟨rfl,gr1 _ _⟩
 cases v6
 · clear h7;go_enter Tryz.func129,Tryz.ntmps129;go_wp2_with fail
   go_ret;exact⟨rfl,gr1 _ _⟩
 cases v7;all_goals
  go_enter Tryz.func129,Tryz.ntmps129;go_wp2_with fail
  go_ret;exact⟨rfl,gr1 _ _⟩
theorem abb_ (v sa:Int) (nm:ByteArray) (it:Bool) (x1 x2 x3 x4 x5:Option Addr) (l1 l2 l3 l4 l5 c1 c2 c3 c4 c5:Nat) (lo hi by1 ti:Int) (W:World) :
 Calls Tryz.prog 127 #[sV v sa nm it (.slice x1 l1 c1) (.slice x2 l2 c2) (.slice x3 l3 c3) (.slice x4 l4 c4) (.slice x5 l5 c5) lo hi by1 ti] W (xs_ W (xu_ lo && (xu_ hi && (decide (hi - lo+1≤10000) && yw_ by1)))):=by
 have k1:=xa_ (aaa_ lo);have k2:=xa_ (aaa_ hi);have k3:=xa_ (fun W' h1 h2=>ab0_ lo hi W' h1 h2);have k4:=xa_ (abz_ by1);generalize decide (hi - lo+1≤10000)=v3 at k3 ⊢;generalize xu_ lo=v1 at k1 k3 ⊢;generalize xu_ hi=v2 at k2 k3 ⊢;generalize yw_ by1=v4 at k4 ⊢;obtain⟨Z,hZ⟩:∃ Z,(v1 && (v2 && (v3 && v4)))=Z:=⟨_,rfl⟩;rw[hZ];have HZ:=xa_ hZ;clear hZ;go_enter Tryz.func127,Tryz.ntmps127;go_wp2_with fail
 refine(k1.out _).mono ?_;rintro e W1 ⟨rfl,g⟩;have A1:Hid (W1.heap[W.heap.size]?=some (.cells #[.int .i64 v,.int .i64 sa,.string nm,.bool it,.slice x1 l1 c1,.slice x2 l2 c2,.slice x3 l3 c3,.slice x4 l4 c4,.slice x5 l5 c5,.int .i64 lo,.int .i64 hi,.int .i64 by1,.int .i64 ti] 99)):=kept g (xe_ (by first|rfl|simp) _);have G1:=xa_ (gtn (xf_ (gr0 _) _) g);clear g;obtain⟨a1a,a1b,a1c,a1d,a1e,a1f⟩:=xb_ A1.out;cases v1 with
 | false=>
  have e:Z=false:=HZ.out.symm;subst e;clear HZ;go_wp2_with fail
  go_ret;exact⟨rfl,G1.out⟩
 | true=>
 have HZ0:=xa_ ((Bool.true_and _).symm.trans HZ.out);clear HZ;have HZ:=HZ0;clear HZ0;go_wp2_with fail
 refine(k2.out _).mono ?_;rintro e W2 ⟨rfl,g⟩;have A2:Hid (W2.heap[W.heap.size]?=some (.cells #[.int .i64 v,.int .i64 sa,.string nm,.bool it,.slice x1 l1 c1,.slice x2 l2 c2,.slice x3 l3 c3,.slice x4 l4 c4,.slice x5 l5 c5,.int .i64 lo,.int .i64 hi,.int .i64 by1,.int .i64 ti] 99)):=kept g A1.out;have G2:=xa_ (gtn G1.out g);clear g a1a a1b a1c a1d a1e a1f;obtain⟨a2a,a2b,a2c,a2d,a2e,a2f⟩:=xb_ A2.out;cases v2 with
 | false=>
  have e:Z=false:=HZ.out.symm;subst e;clear HZ;go_wp2_with fail
  go_ret;exact⟨rfl,G2.out⟩
 | true=>
 have HZ0:=xa_ ((Bool.true_and _).symm.trans HZ.out);clear HZ;have HZ:=HZ0;clear HZ0;go_wp2_with fail
 refine(k3.out _ (by simp) (by simp)).mono ?_;rintro e W3 ⟨rfl,g⟩;have A3:Hid (W3.heap[W.heap.size]?=some (.cells #[.int .i64 v,.int .i64 sa,.string nm,.bool it,.slice x1 l1 c1,.slice x2 l2 c2,.slice x3 l3 c3,.slice x4 l4 c4,.slice x5 l5 c5,.int .i64 lo,.int .i64 hi,.int .i64 by1,.int .i64 ti] 99)):=kept g A2.out;have G3:=xa_ (gtn G2.out g);clear g a2a a2b a2c a2d a2e a2f;obtain⟨a3a,a3b,a3c,a3d,a3e,a3f⟩:=xb_ A3.out;cases v3 with
 | false=>
  have e:Z=false:=HZ.out.symm;subst e;clear HZ;go_wp2_with fail
  go_ret;exact⟨rfl,G3.out⟩
 | true=>
 have HZ0:=xa_ ((Bool.true_and _).symm.trans HZ.out);clear HZ;have HZ:=HZ0;clear HZ0;go_wp2_with fail
 refine(k4.out _).mono ?_;rintro e W4 ⟨rfl,g⟩;have A4:Hid (W4.heap[W.heap.size]?=some (.cells #[.int .i64 v,.int .i64 sa,.string nm,.bool it,.slice x1 l1 c1,.slice x2 l2 c2,.slice x3 l3 c3,.slice x4 l4 c4,.slice x5 l5 c5,.int .i64 lo,.int .i64 hi,.int .i64 by1,.int .i64 ti] 99)):=kept g A3.out;have G4:=xa_ (gtn G3.out g);clear g a3a a3b a3c a3d a3e a3f;obtain⟨a4a,a4b,a4c,a4d,a4e,a4f⟩:=xb_ A4.out;have e:Z=v4:=HZ.out.symm;subst e;clear HZ;go_wp2_with fail
 go_ret;exact⟨rfl,G4.out⟩
end Go.Proofs.YtcoglmaiahpooaaGreatDoor
