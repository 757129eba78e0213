/- Texts put together: Dx. -/
import Derived.Test.YtcoglmaiahpooaaGreatDoorQ14
import Derived.Test.YtcoglmaiahpooaaGreatDoorQ13
import Derived.Test.YtcoglmaiahpooaaGreatDoorQ26
set_option linter.unusedVariables false
set_option linter.unusedSimpArgs false
set_option maxHeartbeats 8000000
namespace Go.Proofs.YtcoglmaiahpooaaGreatDoor
open Go.RowKit
attribute [local go_sem ↓] Go.wp_at_zero Go.wp_at_succ
theorem qe_ (n:Int) (W:World):Calls Tryz.prog 23 #[.int .i64 n] W (xs_ W (xu_ n)):=acd_ n W
set_option maxRecDepth 100000 in
theorem aen_ (o kd n:Int) (nm pt:ByteArray) (a:Int) (ks:List PE) (x:Option Addr) (c:Nat) (d:Int) (W:World):Calls Tryz.prog 25 #[xV 1 o kd n nm pt a (.slice x ks.length c),.int .i64 d] W (xs_ W (xr_ d (.mk 1 o kd n nm pt a ks))):=by
 obtain⟨b1,h1⟩:∃ b,(o==0)=b:=⟨_,rfl⟩;have nh1:(o != 0)=!b1:=(by rw[bne,h1]);obtain⟨b2,h2⟩:∃ b,(nm.toList==[])=b:=⟨_,rfl⟩;have nh2:(nm.toList != [])=!b2:=(by rw[bne,h2]);obtain⟨b3,h3⟩:∃ b,(pt.toList==[])=b:=⟨_,rfl⟩;have nh3:(pt.toList != [])=!b3:=(by rw[bne,h3]);have hZ:xr_ d (.mk 1 o kd n nm pt a ks)=(decide (d≤40) && (b1 && (b2 && (b3 && (decide (ks.length=0) && yk_ kd n))))):=by
  rw[vq_,← h1,← h2,← h3,eqN,eqN];cases yk_ kd n <;> simp[eqD]
 rw[hZ];clear hZ;obtain⟨L,hL⟩:∃ L,ks.length=L:=⟨_,rfl⟩;rw[hL];clear hL;by_cases h40:d≤40;rotate_left
 · rw[decide_eq_false h40];go_enter Tryz.func25,Tryz.ntmps25;go_wp2_with fail
   go_ret;exact⟨rfl,gr1 _ _⟩
 rw[decide_eq_true h40,Bool.true_and];cases b1 with
 | false=>
  go_enter Tryz.func25,Tryz.ntmps25;go_wp2_with fail
  go_ret;exact⟨rfl,gr1 _ _⟩
 | true=>
 cases b2 with
 | false=>
  go_enter Tryz.func25,Tryz.ntmps25;go_wp2_with fail
  go_ret;exact⟨rfl,gr1 _ _⟩
 | true=>
 cases b3 with
 | false=>
  go_enter Tryz.func25,Tryz.ntmps25;go_wp2_with fail
  go_ret;exact⟨rfl,gr1 _ _⟩
 | true=>
 cases L with
 | succ m=>
  have hm:(0:Int)<((m+1:Nat):Int):=(by omega);have hm2:0<m+1:=(by omega);rw[decide_eq_false (p:=m+1=0) (by omega)];go_enter Tryz.func25,Tryz.ntmps25;go_wp2_with fail
  go_ret;exact⟨rfl,gr1 _ _⟩
 | zero=>
 rw[decide_eq_true (p:=0=0) rfl];simp only[Bool.true_and];by_cases k0:kd=0
 · subst k0;have cn:=xa_ (qe_ n);rw[show yk_ 0 n=xu_ n by simp[yk_]];generalize xu_ n=v at cn ⊢;go_enter Tryz.func25,Tryz.ntmps25;go_wp2_with fail
   refine(cn.out _).mono ?_;rintro e w2 ⟨rfl,g⟩;have G:=xa_ (gtn (gr1 _ _) g);clear g;go_wp2_with fail
   go_ret;exact⟨rfl,G.out⟩
 by_cases k1:kd=1
 · subst k1;have cn:=xa_ (aa4_ n);rw[show yk_ 1 n=(decide (0≤n) && decide (n≤1)) by simp[yk_]];generalize(decide (0≤n) && decide (n≤1))=v at cn ⊢;go_enter Tryz.func25,Tryz.ntmps25;go_wp2_with fail
   refine(cn.out _).mono ?_;rintro e w2 ⟨rfl,g⟩;have G:=xa_ (gtn (gr1 _ _) g);clear g;go_wp2_with fail
   go_ret;exact⟨rfl,G.out⟩
 by_cases k5:kd=5
 · subst k5;have cn:=xa_ (aa5_ n);rw[show yk_ 5 n=(decide (0≤n) && decide (n≤4294967295)) by simp[yk_]];generalize(decide (0≤n) && decide (n≤4294967295))=v at cn ⊢;go_enter Tryz.func25,Tryz.ntmps25;go_wp2_with fail
   refine(cn.out _).mono ?_;rintro e w2 ⟨rfl,g⟩;have G:=xa_ (gtn (gr1 _ _) g);clear g;go_wp2_with fail
   go_ret;exact⟨rfl,G.out⟩
 rw[show yk_ kd n=false by simp[yk_,k0,k1,k5]];have j0:(kd==0)=false:=(by simpa using k0);have j1:(kd==1)=false:=(by simpa using k1);have j5:(kd==5)=false:=(by simpa using k5);clear k0 k1 k5;go_enter Tryz.func25,Tryz.ntmps25;go_wp2_with fail
 go_ret;exact⟨rfl,gr1 _ _⟩
def XC (W:World) (e:PE) (k:Value):Prop:=∀(d:Int),0≤d→d≤100→∀ W',W.grownBy W' none→Calls Tryz.prog 25 #[exV e k,.int .i64 d] W' (xs_ W' (xr_ d e))
theorem ac1_ {f o kd n:Int} {nm pt:ByteArray} {c:Nat} (h1:f≠1) (h:¬(kd=0∧n=0∧2≤f∧f≤7)):hdB f o kd n nm pt c=false:=by
 rw[hdB,if_neg h1];by_cases h2:kd=0∧n=0
 ·rw[if_neg (by omega),if_neg (by omega),if_neg (by omega),if_neg (by omega),if_neg (by omega),if_neg (by omega),Bool.and_false]
 · have:(decide (kd=0) && decide (n=0))=false:=by
    rw[Bool.and_eq_false_iff];simp;omega
   rw[this];rfl
theorem aaj_ (n:Nat):((n:Int)==0)=decide (n=0):=by rw[Bool.eq_iff_iff];simp
theorem hd_2 (o:Int) (nm pt:ByteArray) (c:Nat):hdB 2 o 0 0 nm pt c=(nmB nm && ((o==0) && ((pt.toList==[]) && ((c:Int)==0)))):=by
 rw[eqN,aaj_,eqD];simp[hdB,Bool.and_assoc]
theorem hd_3 (o:Int) (nm pt:ByteArray) (c:Nat):hdB 3 o 0 0 nm pt c=(nmB nm && ((o==0) && ((pt.toList==[]) && ((c:Int)==1)))):=by
 rw[eqN,j8_,eqD];simp[hdB,Bool.and_assoc]
theorem hd_4 (o:Int) (nm pt:ByteArray) (c:Nat):hdB 4 o 0 0 nm pt c=(nmB nm && (nmB pt && ((o==0) && ((c:Int)==0)))):=by
 rw[aaj_,eqD];simp[hdB,Bool.and_assoc]
theorem hd_5 (o:Int) (nm pt:ByteArray) (c:Nat):hdB 5 o 0 0 nm pt c=(((o==21) ||(o==22)) && ((nm.toList==[]) && ((pt.toList==[]) && ((c:Int)==1)))):=by
 rw[eqN,eqN,j8_,eqD,eqD];simp[hdB,Bool.and_assoc]
theorem hd_6 (o:Int) (nm pt:ByteArray) (c:Nat):hdB 6 o 0 0 nm pt c=((!(lvS o==0)) && ((nm.toList==[]) && ((pt.toList==[]) && ((c:Int)==2)))):=by
 have:decide (0<lvS o)=!(lvS o==0):=by
  have:=abw_ o;rw[Bool.eq_iff_iff];simp;omega
 rw[eqN,eqN,ur_,← this];simp[hdB,Bool.and_assoc]
theorem hd_7 (o:Int) (nm pt:ByteArray) (c:Nat):hdB 7 o 0 0 nm pt c=((nmB nm ||(nm.toList==[109,97,120])) && ((o==0) && ((pt.toList==[]) && (decide (1≤c) && decide (c≤8))))):=by
 rw[eqN,eqD,eqS];simp[hdB,Bool.and_assoc,maxB];rfl
set_option maxRecDepth 100000 in
theorem ahk_ {W:World} {ok:Nat→Prop} {x:Option Addr} {c:Nat} (f o kd n:Int) (nm pt:ByteArray) (a:Int) (ks:List PE) (hx:Xs W ok (.slice x ks.length c) ks) (hf1:f≠1) (d:Int) (hd0:0≤d) (hd:d≤100)
 (hI:∀(i:Nat) (hi:i<ks.length) (ka:Option Addr) (kc:Nat) (W':World),W.grownBy W' none→Xs W' ok (.slice ka ks[i].kids.length kc) ks[i].kids→XC W' ks[i] (.slice ka ks[i].kids.length kc)) :
 Calls Tryz.prog 25 #[xV f o kd n nm pt a (.slice x ks.length c),.int .i64 d] W (xs_ W (xr_ d (.mk f o kd n nm pt a ks))):=by
 have jf1:(f==1)=false:=(by simpa using hf1);by_cases h40:d≤40;rotate_left
 · rw[kf_ h40];go_enter Tryz.func25,Tryz.ntmps25;go_wp2_with fail
   go_ret;exact⟨rfl,gr1 _ _⟩
 rw[xr_,decide_eq_true h40,Bool.true_and];obtain⟨hb,hH⟩:∃ b,hdB f o kd n nm pt ks.length=b:=⟨_,rfl⟩;obtain⟨D,hD⟩:∃ D,(if f=6 then d else d+1)=D:=⟨_,rfl⟩;obtain⟨Z,hZ⟩:∃ Z,(hb && yg_ f o D 0 ks)=Z:=⟨_,rfl⟩;rw[hH,hD,hZ];have HZ:=xa_ hZ;have HD:=xa_ hD;have HX:=xa_ hx;have HI:=xa_ hI;have hle:=hx.le;clear hZ hD hx hI;by_cases hr:kd=0∧n=0∧2≤f∧f≤7;rotate_left
 · have e:hb=false:=hH▸ac1_ hf1 hr;have e2:Z=false:=(by rw[← HZ.out,e];rfl);subst e2;clear HZ e hH HD HX HI;obtain⟨b1,g1⟩:∃ b,(kd==0)=b:=⟨_,rfl⟩;have ng1:(kd != 0)=!b1:=(by rw[bne,g1]);obtain⟨b2,g2⟩:∃ b,(n==0)=b:=⟨_,rfl⟩;have ng2:(n != 0)=!b2:=(by rw[bne,g2]);cases b1 with
   | false=>
    clear hr;go_enter Tryz.func25,Tryz.ntmps25;go_wp2_with fail
    go_ret;exact⟨rfl,gr1 _ _⟩
   | true=>
   cases b2 with
   | false=>
    clear hr;go_enter Tryz.func25,Tryz.ntmps25;go_wp2_with fail
    go_ret;exact⟨rfl,gr1 _ _⟩
   | true=>
   have hr2:f<2∨¬f<2∧7<f:=by
    have:=beq_iff_eq.1 g1;have:=beq_iff_eq.1 g2;omega
   clear hr;rcases hr2 with h2|⟨h2,h7⟩
   all_goals
    go_enter Tryz.func25,Tryz.ntmps25;go_wp2_with fail
    go_ret;exact⟨rfl,gr1 _ _⟩
 obtain⟨rfl,rfl,hf2,hf7⟩:=hr;have HH:=xa_ hH;clear hH;have k2:¬f<2:=(by omega);have k7:¬7<f:=(by omega);have HF:=hd_ (And.intro hf2 hf7);clear hf2 hf7;have cR:=xa_ (ja_ f o 0 0 nm pt a (.slice x ks.length c));have c1:=xa_ (zk_ nm);have c2:=xa_ (zk_ pt);obtain⟨q5,g5⟩:∃ b,(f==5)=b:=⟨_,rfl⟩;have ng5:(f != 5)=!q5:=(by rw[bne,g5]);obtain⟨q6,g6⟩:∃ b,(f==6)=b:=⟨_,rfl⟩;have ng6:(f != 6)=!q6:=(by rw[bne,g6]);obtain⟨W1,hW1⟩:∃ X,X=W.alloc (.cells #[.int .i64 f,.int .i64 o,.int .i64 0,.int .i64 0,.string nm,.string pt,.int .i64 a,.slice x ks.length c] 50):=⟨_,rfl⟩;have A1:Hid (W1.heap[W.heap.size]?=some (.cells #[.int .i64 f,.int .i64 o,.int .i64 0,.int .i64 0,.string nm,.string pt,.int .i64 a,.slice x ks.length c] 50)):=hW1▸xe_ rfl _;have G1:Hid (W.grownBy W1 none):=hW1▸gr1 _ _;have HW:=xa_ hW1;clear hW1;go_enter Tryz.func25,Tryz.ntmps25;go_upto_region 11 with fail;rw[← HW.out];clear HW;obtain⟨p1,p2,p3,p4,p5,p6⟩:=xb_ A1.out;go_cut [78] from 8 (fun s78 wx=>W1=wx∧s78=.bool (q5 ||q6))
 case first=>
  cases q5;all_goals cases q6
  all_goals
   go_wp2_with fail
   go_meet
   case rel=>exact⟨rfl,rfl⟩
 case rest=>
 obtain⟨rfl,rfl⟩:=hcut;go_upto_if 78 with fail;go_cut [5] from 8 (fun _ wx=>Hid (W.grownBy wx none∧wx.heap[W.heap.size]?=some (.cells #[.int .i64 f,.int .i64 o,.int .i64 0,.int .i64 0,.string nm,.string pt,.int .i64 a,.slice x ks.length c] 50)∧yg_ f o D 0 ks=Z∧(f=6→ks.length≤2)))
 case first=>
  have hf:f=2∨f=3∨f=4∨f=5∨f=6∨f=7:=(by have:=HF.out;omega);rcases hf with rfl|rfl|rfl|rfl|rfl|rfl
  · as_aux_lemma=>
     clear HF;have e5:q5=false:=(by rw[← g5];rfl);have e6:q6=false:=(by rw[← g6];rfl);subst e5 e6;have HQ:=HH.out;rw[hd_2] at HQ;clear HH;have HH:=xa_ HQ;clear HQ;obtain⟨y2,z2⟩:∃ b,(pt.toList==[])=b:=⟨_,rfl⟩;have nz2:(pt.toList != [])=!y2:=(by rw[bne,z2]);obtain⟨l1,zl⟩:∃ b,((ks.length:Int)==0)=b:=⟨_,rfl⟩;have nzl:((ks.length:Int) != 0)=!l1:=(by rw[bne,zl]);obtain⟨b,zb⟩:∃ b,(o==0)=b:=⟨_,rfl⟩;have nzb:(o != 0)=!b:=(by rw[bne,zb]);have HQ:=HH.out;rw[z2,zl,zb] at HQ;clear HH;have HH:=xa_ HQ;clear HQ;generalize nmB nm=v1 at c1 HH;cases b with
     | false=>
      have e:hb=false:=(by rw[← HH.out];simp);have e2:Z=false:=(by rw[← HZ.out,e];rfl);subst e2;clear HZ HH e;go_wp2_with fail
      go_ret;exact⟨rfl,G1.out⟩
     | true=>
     go_wp2_with fail
     refine(c1.out _).mono ?_;rintro e W2 ⟨rfl,g⟩;have A2:=xa_ (kept g A1.out);have G2:=xa_ (gtn G1.out g);clear g;dsimp only;obtain⟨p1,p2,p3,p4,p5,p6⟩:=xb_ A2.out;clear c1;cases v1 with
     | false=>
      have e:hb=false:=(by rw[← HH.out];simp);have e2:Z=false:=(by rw[← HZ.out,e];rfl);subst e2;clear HZ HH e;go_wp2_with fail
      go_ret;exact⟨rfl,G2.out⟩
     | true=>
     cases y2 with
     | false=>
      have e:hb=false:=(by rw[← HH.out];simp);have e2:Z=false:=(by rw[← HZ.out,e];rfl);subst e2;clear HZ HH e;go_wp2_with fail
      go_ret;exact⟨rfl,G2.out⟩
     | true=>
     cases l1 with
     | false=>
      have e:hb=false:=(by rw[← HH.out];simp);have e2:Z=false:=(by rw[← HZ.out,e];rfl);subst e2;clear HZ HH e;go_wp2_with fail
      go_ret;exact⟨rfl,G2.out⟩
     | true=>
     have e:hb=true:=(by rw[← HH.out];simp);have e2:=HZ.out;rw[e,Bool.true_and] at e2;have HY:=xa_ e2;clear HZ HH e e2;go_wp2_with fail
     go_meet
     case rel=>exact xa_ ⟨G2.out,A2.out,HY.out,fun h=>by omega⟩
  · as_aux_lemma=>
     clear HF;have e5:q5=false:=(by rw[← g5];rfl);have e6:q6=false:=(by rw[← g6];rfl);subst e5 e6;have HQ:=HH.out;rw[hd_3] at HQ;clear HH;have HH:=xa_ HQ;clear HQ;obtain⟨y2,z2⟩:∃ b,(pt.toList==[])=b:=⟨_,rfl⟩;have nz2:(pt.toList != [])=!y2:=(by rw[bne,z2]);obtain⟨l1,zl⟩:∃ b,((ks.length:Int)==1)=b:=⟨_,rfl⟩;have nzl:((ks.length:Int) != 1)=!l1:=(by rw[bne,zl]);obtain⟨b,zb⟩:∃ b,(o==0)=b:=⟨_,rfl⟩;have nzb:(o != 0)=!b:=(by rw[bne,zb]);have HQ:=HH.out;rw[z2,zl,zb] at HQ;clear HH;have HH:=xa_ HQ;clear HQ;generalize nmB nm=v1 at c1 HH;cases b with
     | false=>
      have e:hb=false:=(by rw[← HH.out];simp);have e2:Z=false:=(by rw[← HZ.out,e];rfl);subst e2;clear HZ HH e;go_wp2_with fail
      go_ret;exact⟨rfl,G1.out⟩
     | true=>
     go_wp2_with fail
     refine(c1.out _).mono ?_;rintro e W2 ⟨rfl,g⟩;have A2:=xa_ (kept g A1.out);have G2:=xa_ (gtn G1.out g);clear g;dsimp only;obtain⟨p1,p2,p3,p4,p5,p6⟩:=xb_ A2.out;clear c1;cases v1 with
     | false=>
      have e:hb=false:=(by rw[← HH.out];simp);have e2:Z=false:=(by rw[← HZ.out,e];rfl);subst e2;clear HZ HH e;go_wp2_with fail
      go_ret;exact⟨rfl,G2.out⟩
     | true=>
     cases y2 with
     | false=>
      have e:hb=false:=(by rw[← HH.out];simp);have e2:Z=false:=(by rw[← HZ.out,e];rfl);subst e2;clear HZ HH e;go_wp2_with fail
      go_ret;exact⟨rfl,G2.out⟩
     | true=>
     cases l1 with
     | false=>
      have e:hb=false:=(by rw[← HH.out];simp);have e2:Z=false:=(by rw[← HZ.out,e];rfl);subst e2;clear HZ HH e;go_wp2_with fail
      go_ret;exact⟨rfl,G2.out⟩
     | true=>
     have e:hb=true:=(by rw[← HH.out];simp);have e2:=HZ.out;rw[e,Bool.true_and] at e2;have HY:=xa_ e2;clear HZ HH e e2;go_wp2_with fail
     go_meet
     case rel=>exact xa_ ⟨G2.out,A2.out,HY.out,fun h=>by omega⟩
  · as_aux_lemma=>
     clear HF;have e5:q5=false:=(by rw[← g5];rfl);have e6:q6=false:=(by rw[← g6];rfl);subst e5 e6;have HQ:=HH.out;rw[hd_4] at HQ;clear HH;have HH:=xa_ HQ;clear HQ;obtain⟨l1,zl⟩:∃ b,((ks.length:Int)==0)=b:=⟨_,rfl⟩;have nzl:((ks.length:Int) != 0)=!l1:=(by rw[bne,zl]);obtain⟨b,zb⟩:∃ b,(o==0)=b:=⟨_,rfl⟩;have nzb:(o != 0)=!b:=(by rw[bne,zb]);have HQ:=HH.out;rw[zl,zb] at HQ;clear HH;have HH:=xa_ HQ;clear HQ;generalize nmB nm=v1 at c1 HH;generalize nmB pt=v2 at c2 HH;cases b with
     | false=>
      have e:hb=false:=(by rw[← HH.out];simp);have e2:Z=false:=(by rw[← HZ.out,e];rfl);subst e2;clear HZ HH e;go_wp2_with fail
      go_ret;exact⟨rfl,G1.out⟩
     | true=>
     go_wp2_with fail
     refine(c1.out _).mono ?_;rintro e W2 ⟨rfl,g⟩;have A2:=xa_ (kept g A1.out);have G2:=xa_ (gtn G1.out g);clear g;dsimp only;obtain⟨p1,p2,p3,p4,p5,p6⟩:=xb_ A2.out;clear c1;cases v1 with
     | false=>
      have e:hb=false:=(by rw[← HH.out];simp);have e2:Z=false:=(by rw[← HZ.out,e];rfl);subst e2;clear HZ HH e;go_wp2_with fail
      go_ret;exact⟨rfl,G2.out⟩
     | true=>
     go_wp2_with fail
     refine(c2.out _).mono ?_;rintro e W3 ⟨rfl,g⟩;have A3:=xa_ (kept g A2.out);have G3:=xa_ (gtn G2.out g);clear g;dsimp only;obtain⟨p1,p2,p3,p4,p5,p6⟩:=xb_ A3.out;clear c2;cases v2 with
     | false=>
      have e:hb=false:=(by rw[← HH.out];simp);have e2:Z=false:=(by rw[← HZ.out,e];rfl);subst e2;clear HZ HH e;go_wp2_with fail
      go_ret;exact⟨rfl,G3.out⟩
     | true=>
     cases l1 with
     | false=>
      have e:hb=false:=(by rw[← HH.out];simp);have e2:Z=false:=(by rw[← HZ.out,e];rfl);subst e2;clear HZ HH e;go_wp2_with fail
      go_ret;exact⟨rfl,G3.out⟩
     | true=>
     have e:hb=true:=(by rw[← HH.out];simp);have e2:=HZ.out;rw[e,Bool.true_and] at e2;have HY:=xa_ e2;clear HZ HH e e2;go_wp2_with fail
     go_meet
     case rel=>exact xa_ ⟨G3.out,A3.out,HY.out,fun h=>by omega⟩
  · as_aux_lemma=>
     clear HF;have e5:q5=true:=(by rw[← g5];rfl);have e6:q6=false:=(by rw[← g6];rfl);subst e5 e6;have HQ:=HH.out;rw[hd_5] at HQ;clear HH;have HH:=xa_ HQ;clear HQ;obtain⟨y1,z1⟩:∃ b,(nm.toList==[])=b:=⟨_,rfl⟩;have nz1:(nm.toList != [])=!y1:=(by rw[bne,z1]);obtain⟨y2,z2⟩:∃ b,(pt.toList==[])=b:=⟨_,rfl⟩;have nz2:(pt.toList != [])=!y2:=(by rw[bne,z2]);obtain⟨l1,zl⟩:∃ b,((ks.length:Int)==1)=b:=⟨_,rfl⟩;have nzl:((ks.length:Int) != 1)=!l1:=(by rw[bne,zl]);obtain⟨b21,z21⟩:∃ b,(o==21)=b:=⟨_,rfl⟩;have nz21:(o != 21)=!b21:=(by rw[bne,z21]);obtain⟨b22,z22⟩:∃ b,(o==22)=b:=⟨_,rfl⟩;have nz22:(o != 22)=!b22:=(by rw[bne,z22]);have HQ:=HH.out;rw[z1,z2,zl,z21,z22] at HQ;clear HH;have HH:=xa_ HQ;clear HQ;cases y1 with
     | false=>
      have e:hb=false:=(by rw[← HH.out];simp);have e2:Z=false:=(by rw[← HZ.out,e];rfl);subst e2;clear HZ HH e;go_wp2_with fail
      go_ret;exact⟨rfl,G1.out⟩
     | true=>
     cases y2 with
     | false=>
      have e:hb=false:=(by rw[← HH.out];simp);have e2:Z=false:=(by rw[← HZ.out,e];rfl);subst e2;clear HZ HH e;go_wp2_with fail
      go_ret;exact⟨rfl,G1.out⟩
     | true=>
     cases l1 with
     | false=>
      have e:hb=false:=(by rw[← HH.out];simp);have e2:Z=false:=(by rw[← HZ.out,e];rfl);subst e2;clear HZ HH e;go_wp2_with fail
      go_ret;exact⟨rfl,G1.out⟩
     | true=>
     cases b21 with
     | true=>
      have e:hb=true:=(by rw[← HH.out];simp);have e2:=HZ.out;rw[e,Bool.true_and] at e2;have HY:=xa_ e2;clear HZ HH e e2;go_wp2_with fail
      go_meet
      case rel=>exact xa_ ⟨G1.out,A1.out,HY.out,fun h=>by omega⟩
     | false=>
     cases b22 with
     | false=>
      have e:hb=false:=(by rw[← HH.out];simp);have e2:Z=false:=(by rw[← HZ.out,e];rfl);subst e2;clear HZ HH e;go_wp2_with fail
      go_ret;exact⟨rfl,G1.out⟩
     | true=>
     have e:hb=true:=(by rw[← HH.out];simp);have e2:=HZ.out;rw[e,Bool.true_and] at e2;have HY:=xa_ e2;clear HZ HH e e2;go_wp2_with fail
     go_meet
     case rel=>exact xa_ ⟨G1.out,A1.out,HY.out,fun h=>by omega⟩
  · as_aux_lemma=>
     clear HF;have e5:q5=false:=(by rw[← g5];rfl);have e6:q6=true:=(by rw[← g6];rfl);subst e5 e6;have HQ:=HH.out;rw[hd_6] at HQ;clear HH;have HH:=xa_ HQ;clear HQ;obtain⟨y1,z1⟩:∃ b,(nm.toList==[])=b:=⟨_,rfl⟩;have nz1:(nm.toList != [])=!y1:=(by rw[bne,z1]);obtain⟨y2,z2⟩:∃ b,(pt.toList==[])=b:=⟨_,rfl⟩;have nz2:(pt.toList != [])=!y2:=(by rw[bne,z2]);obtain⟨l1,zl⟩:∃ b,((ks.length:Int)==2)=b:=⟨_,rfl⟩;have nzl:((ks.length:Int) != 2)=!l1:=(by rw[bne,zl]);obtain⟨R,hR⟩:∃ R,lvS o=R:=⟨_,rfl⟩;rw[show rkI 6 o=R by rw[rkI,if_pos rfl,hR]] at cR;obtain⟨br,zr⟩:∃ b,(R==0)=b:=⟨_,rfl⟩;have nzr:(R != 0)=!br:=(by rw[bne,zr]);have HQ:=HH.out;rw[z1,z2,zl,hR,zr] at HQ;clear HH hR;have HH:=xa_ HQ;clear HQ;cases y1 with
     | false=>
      have e:hb=false:=(by rw[← HH.out];simp);have e2:Z=false:=(by rw[← HZ.out,e];rfl);subst e2;clear HZ HH e;go_wp2_with fail
      go_ret;exact⟨rfl,G1.out⟩
     | true=>
     cases y2 with
     | false=>
      have e:hb=false:=(by rw[← HH.out];simp);have e2:Z=false:=(by rw[← HZ.out,e];rfl);subst e2;clear HZ HH e;go_wp2_with fail
      go_ret;exact⟨rfl,G1.out⟩
     | true=>
     cases l1 with
     | false=>
      have e:hb=false:=(by rw[← HH.out];simp);have e2:Z=false:=(by rw[← HZ.out,e];rfl);subst e2;clear HZ HH e;go_wp2_with fail
      go_ret;exact⟨rfl,G1.out⟩
     | true=>
     have H2:Hid (ks.length≤2):=(by show _≤_;have:=beq_iff_eq.1 zl;omega);go_wp2_with fail
     refine(cR.out _).mono ?_;rintro e W2 ⟨rfl,g⟩;have A2:=xa_ (kept g A1.out);have G2:=xa_ (gtn G1.out g);clear g;dsimp only;obtain⟨p1,p2,p3,p4,p5,p6⟩:=xb_ A2.out;clear cR;cases br with
     | true=>
      have e:hb=false:=(by rw[← HH.out];simp);have e2:Z=false:=(by rw[← HZ.out,e];rfl);subst e2;clear HZ HH e;go_wp2_with fail
      go_ret;exact⟨rfl,G2.out⟩
     | false=>
     have e:hb=true:=(by rw[← HH.out];simp);have e2:=HZ.out;rw[e,Bool.true_and] at e2;have HY:=xa_ e2;clear HZ HH e e2;go_wp2_with fail
     go_meet
     case rel=>exact xa_ ⟨G2.out,A2.out,HY.out,fun _=>H2.out⟩
  · as_aux_lemma=>
     clear HF;have e5:q5=false:=(by rw[← g5];rfl);have e6:q6=false:=(by rw[← g6];rfl);subst e5 e6;have HQ:=HH.out;rw[hd_7] at HQ;clear HH;have HH:=xa_ HQ;clear HQ;obtain⟨y2,z2⟩:∃ b,(pt.toList==[])=b:=⟨_,rfl⟩;have nz2:(pt.toList != [])=!y2:=(by rw[bne,z2]);obtain⟨b,zb⟩:∃ b,(o==0)=b:=⟨_,rfl⟩;have nzb:(o != 0)=!b:=(by rw[bne,zb]);obtain⟨bm,zm⟩:∃ b,(nm.toList==[109,97,120])=b:=⟨_,rfl⟩;have nzm:(nm.toList != [109,97,120])=!bm:=(by rw[bne,zm]);have HQ:=HH.out;rw[z2,zb,zm] at HQ;clear HH;have HH:=xa_ HQ;clear HQ;generalize nmB nm=v1 at c1 HH;cases b with
     | false=>
      have e:hb=false:=(by rw[← HH.out];simp);have e2:Z=false:=(by rw[← HZ.out,e];rfl);subst e2;clear HZ HH e;go_wp2_with fail
      go_ret;exact⟨rfl,G1.out⟩
     | true=>
     go_wp2_with fail
     refine(c1.out _).mono ?_;rintro e W2 ⟨rfl,g⟩;have A2:=xa_ (kept g A1.out);have G2:=xa_ (gtn G1.out g);clear g;dsimp only;obtain⟨p1,p2,p3,p4,p5,p6⟩:=xb_ A2.out;clear c1;cases v1 with
     | true=>
      cases y2 with
      | false=>
       have e:hb=false:=(by rw[← HH.out];simp);have e2:Z=false:=(by rw[← HZ.out,e];rfl);subst e2;clear HZ HH e;go_wp2_with fail
       go_ret;exact⟨rfl,G2.out⟩
      | true=>
      by_cases s1:1≤ks.length;rotate_left
      · rw[decide_eq_false s1] at HH;have s2:ks.length<1:=(by omega);have s3:(ks.length:Int)<1:=(by omega);clear s1;have e:hb=false:=(by rw[← HH.out];simp);have e2:Z=false:=(by rw[← HZ.out,e];rfl);subst e2;clear HZ HH e;go_wp2_with fail
        go_ret;exact⟨rfl,G2.out⟩
      by_cases s8:ks.length≤8;rotate_left
      · rw[decide_eq_true s1,decide_eq_false s8] at HH;have s2:¬ks.length<1:=(by omega);have s3:¬(ks.length:Int)<1:=(by omega);have s4:8<ks.length:=(by omega);have s5:(8:Int)<(ks.length:Int):=(by omega);clear s1 s8;have e:hb=false:=(by rw[← HH.out];simp);have e2:Z=false:=(by rw[← HZ.out,e];rfl);subst e2;clear HZ HH e;go_wp2_with fail
        go_ret;exact⟨rfl,G2.out⟩
      rw[decide_eq_true s1,decide_eq_true s8] at HH;have s2:¬ks.length<1:=(by omega);have s3:¬(ks.length:Int)<1:=(by omega);have s4:¬8<ks.length:=(by omega);have s5:¬(8:Int)<(ks.length:Int):=(by omega);clear s1 s8;have e:hb=true:=(by rw[← HH.out];simp);have e2:=HZ.out;rw[e,Bool.true_and] at e2;have HY:=xa_ e2;clear HZ HH e e2;go_wp2_with fail
      go_meet
      case rel=>exact xa_ ⟨G2.out,A2.out,HY.out,fun h=>by omega⟩
     | false=>
     cases bm with
     | false=>
      have e:hb=false:=(by rw[← HH.out];simp);have e2:Z=false:=(by rw[← HZ.out,e];rfl);subst e2;clear HZ HH e;go_wp2_with fail
      go_ret;exact⟨rfl,G2.out⟩
     | true=>
     cases y2 with
     | false=>
      have e:hb=false:=(by rw[← HH.out];simp);have e2:Z=false:=(by rw[← HZ.out,e];rfl);subst e2;clear HZ HH e;go_wp2_with fail
      go_ret;exact⟨rfl,G2.out⟩
     | true=>
     by_cases s1:1≤ks.length;rotate_left
     · rw[decide_eq_false s1] at HH;have s2:ks.length<1:=(by omega);have s3:(ks.length:Int)<1:=(by omega);clear s1;have e:hb=false:=(by rw[← HH.out];simp);have e2:Z=false:=(by rw[← HZ.out,e];rfl);subst e2;clear HZ HH e;go_wp2_with fail
       go_ret;exact⟨rfl,G2.out⟩
     by_cases s8:ks.length≤8;rotate_left
     · rw[decide_eq_true s1,decide_eq_false s8] at HH;have s2:¬ks.length<1:=(by omega);have s3:¬(ks.length:Int)<1:=(by omega);have s4:8<ks.length:=(by omega);have s5:(8:Int)<(ks.length:Int):=(by omega);clear s1 s8;have e:hb=false:=(by rw[← HH.out];simp);have e2:Z=false:=(by rw[← HZ.out,e];rfl);subst e2;clear HZ HH e;go_wp2_with fail
       go_ret;exact⟨rfl,G2.out⟩
     rw[decide_eq_true s1,decide_eq_true s8] at HH;have s2:¬ks.length<1:=(by omega);have s3:¬(ks.length:Int)<1:=(by omega);have s4:¬8<ks.length:=(by omega);have s5:¬(8:Int)<(ks.length:Int):=(by omega);clear s1 s8;have e:hb=true:=(by rw[← HH.out];simp);have e2:=HZ.out;rw[e,Bool.true_and] at e2;have HY:=xa_ e2;clear HZ HH e e2;go_wp2_with fail
     go_meet
     case rel=>exact xa_ ⟨G2.out,A2.out,HY.out,fun h=>by omega⟩
 case rest=>
  have HC:=xa_ hcut.out;clear hcut A1 G1 p1 p2 p3 p4 p5 p6 HH HZ c1 c2 cR jf1 k2 k7 g5;obtain⟨gW,A2,hY,h62⟩:=HC.out;clear HC;have GW:=xa_ gW;have AW:=xa_ A2;have HY:=xa_ hY;have H62:=xa_ h62;clear gW A2 hY h62;have hwd:IntKind.i64.wrap (d+1)=d+1:=IntWalk.i64_in _ (by omega);obtain⟨p1,p2,p3,p4,p5,p6⟩:=xb_ AW.out;cases q6 with
  | false=>
   as_aux_lemma=>
    have hdD:(if f=6 then d else d+1)=D:=HD.out;rw[if_neg (by simpa using g6)] at hdD;go_wp2_with fail
    have LS:Hid (∃ i:Nat,Value.int .i64 0=.int .i64 (i:Int)∧Hid (i≤ks.length∧ks.length+1=ks.length+1 - i∧W.grownBy wc none∧wc.heap[W.heap.size]?=some (.cells #[.int .i64 f,.int .i64 o,.int .i64 0,.int .i64 0,.string nm,.string pt,.int .i64 a,.slice x ks.length c] 50)∧yg_ f o D i (ks.drop i)=Z)):=⟨0,rfl,xa_ ⟨by omega,rfl,GW.out,AW.out,by simpa using HY.out⟩⟩;clear p1 p2 p3 p4 p5 p6 AW GW HY;go_loopg [6,7] (ks.length+1) (fun gk s6 _ wx=>∃ i:Nat,s6=.int .i64 (i:Int)∧Hid (i≤ks.length∧gk=ks.length+1 - i∧W.grownBy wx none∧wx.heap[W.heap.size]?=some (.cells #[.int .i64 f,.int .i64 o,.int .i64 0,.int .i64 0,.string nm,.string pt,.int .i64 a,.slice x ks.length c] 50)∧yg_ f o D i (ks.drop i)=Z))
    case atStart=>exact LS.out
    case round=>
     clear LS;obtain⟨i,rfl,HH⟩:=hrel;obtain⟨hi1,hgk,hgW,X2,hm⟩:=HH.out;clear HH;obtain⟨p1,p2,p3,p4,p5,p6⟩:=xb_ X2;by_cases hi:i<ks.length;rotate_left
     · have hlt:¬((i:Int)<(ks.length:Int)):=(by omega);rw[List.drop_eq_nil_of_le (by omega),yg_] at hm;subst hm;have GW:=xa_ hgW;clear hgW;go_wp2_with fail
       go_ret;exact⟨rfl,GW.out⟩
     have hlt:((i:Int)<(ks.length:Int)):=(by omega);have hwi:IntKind.i64.wrap ((i:Int)+1)=i+1:=IntWalk.i64_in _ (by omega);rw[List.drop_eq_getElem_cons hi,yg_] at hm;obtain⟨g,off,c',ka,kc,ex,hn,hgl,hk,hc⟩:=HX.out.at8 i hi;injection ex with e1 _ e3;subst e1 e3;have GW:=xa_ hgW;have HM:=xa_ hm;have HAX:=xa_ X2;clear hm;have deep:Hid (¬D≤40→Z=false):=xa_ fun h=>by
      rw[← HM.out,kf_ (by split <;> omega)];rfl
     have H6:Hid (f=6→i≤1):=xa_ fun h=>by have:=H62.out h;omega
     have cB:=xa_ (uw_ f o 0 0 nm pt a ks (HX.out.gw GW.out) i hi H6.out);have cE:=xa_ (HI.out i hi ka kc W gz_ hk);have HC:=xa_ hc;clear hgW hc hk X2;by_cases d40:d+1≤40;rotate_left
     · have e:Z=false:=deep.out (by omega);subst e;have D40:40<d+1:=(by omega);clear HM deep cB cE;go_wp2_with fail
       go_ret;exact⟨rfl,GW.out⟩
     have D40:¬40<d+1:=(by omega);subst hdD;go_wp2_with fail
     refine cB.out.mono ?_;rintro e w2 ⟨rfl,g2⟩;have G2:=xa_ (gtn GW.out g2);have AX2:=xa_ (kept g2 HAX.out);clear g2 cB;generalize brB f o i ks[i]=bb at HM;have hC:=HC.out w2 G2.out;have cE2:=fun D h0 h1=>cE.out D h0 h1 w2 G2.out;clear HC cE;obtain⟨p1,p2,p3,p4,p5,p6⟩:=xb_ AX2.out;generalize ks[i]=E at hC cE2 HM;obtain⟨kf,ko,kk,kn,knm,kpt,kat,kks⟩:=E;obtain⟨x0,x1,x2,x3,x4,x5,x6,x7⟩:=hC.all;clear hC;have hwD:IntKind.i64.wrap (d+1+1)=d+1+1:=IntWalk.i64_in _ (by omega);have hDr:0≤d+1∧d+1≤41:=(by omega);cases bb
     · have cE3:=xa_ (cE2 (d+1) (by omega) (by omega));simp only[if_false,Bool.false_eq_true] at HM;clear cE2;generalize hr:xr_ (d+1) (.mk kf ko kk kn knm kpt kat kks)=r at cE3 HM;clear hr;go_wp2_with fail
       refine cE3.out.mono ?_;rintro e w3 ⟨rfl,g3⟩;have G3:=xa_ (kept g3 AX2.out);have G4:=xa_ (gtn G2.out g3);cases r
       · have e:Z=false:=(by rw[← HM.out];rfl);subst e;clear HM g3 deep;go_wp2_with fail
         go_ret;exact⟨rfl,G4.out⟩
       · have HM2:=xa_ ((Bool.true_and _).symm.trans HM.out);clear HM g3 deep;go_wp2_with fail
         go_roundg (ks.length+1 - (i+1))
         case measure=>omega
         case rel=>exact⟨i+1,by simp,xa_ ⟨by omega,rfl,G4.out,G3.out,HM2.out⟩⟩
     · have cE3:=xa_ (cE2 (d+1+1) (by omega) (by omega));simp only[if_true] at HM;clear cE2;generalize hr:xr_ (d+1+1) (.mk kf ko kk kn knm kpt kat kks)=r at cE3 HM;clear hr;go_wp2_with fail
       refine cE3.out.mono ?_;rintro e w3 ⟨rfl,g3⟩;have G3:=xa_ (kept g3 AX2.out);have G4:=xa_ (gtn G2.out g3);cases r
       · have e:Z=false:=(by rw[← HM.out];rfl);subst e;clear HM g3 deep;go_wp2_with fail
         go_ret;exact⟨rfl,G4.out⟩
       · have HM2:=xa_ ((Bool.true_and _).symm.trans HM.out);clear HM g3 deep;go_wp2_with fail
         go_roundg (ks.length+1 - (i+1))
         case measure=>omega
         case rel=>exact⟨i+1,by simp,xa_ ⟨by omega,rfl,G4.out,G3.out,HM2.out⟩⟩
  | true=>
   as_aux_lemma=>
    have hdD:(if f=6 then d else d+1)=D:=HD.out;rw[if_pos (by simpa using g6)] at hdD;go_wp2_with fail
    have LS:Hid (∃ i:Nat,Value.int .i64 0=.int .i64 (i:Int)∧Hid (i≤ks.length∧ks.length+1=ks.length+1 - i∧W.grownBy wc none∧wc.heap[W.heap.size]?=some (.cells #[.int .i64 f,.int .i64 o,.int .i64 0,.int .i64 0,.string nm,.string pt,.int .i64 a,.slice x ks.length c] 50)∧yg_ f o D i (ks.drop i)=Z)):=⟨0,rfl,xa_ ⟨by omega,rfl,GW.out,AW.out,by simpa using HY.out⟩⟩;clear p1 p2 p3 p4 p5 p6 AW GW HY;go_loopg [6,7] (ks.length+1) (fun gk s6 _ wx=>∃ i:Nat,s6=.int .i64 (i:Int)∧Hid (i≤ks.length∧gk=ks.length+1 - i∧W.grownBy wx none∧wx.heap[W.heap.size]?=some (.cells #[.int .i64 f,.int .i64 o,.int .i64 0,.int .i64 0,.string nm,.string pt,.int .i64 a,.slice x ks.length c] 50)∧yg_ f o D i (ks.drop i)=Z))
    case atStart=>exact LS.out
    case round=>
     clear LS;obtain⟨i,rfl,HH⟩:=hrel;obtain⟨hi1,hgk,hgW,X2,hm⟩:=HH.out;clear HH;obtain⟨p1,p2,p3,p4,p5,p6⟩:=xb_ X2;by_cases hi:i<ks.length;rotate_left
     · have hlt:¬((i:Int)<(ks.length:Int)):=(by omega);rw[List.drop_eq_nil_of_le (by omega),yg_] at hm;subst hm;have GW:=xa_ hgW;clear hgW;go_wp2_with fail
       go_ret;exact⟨rfl,GW.out⟩
     have hlt:((i:Int)<(ks.length:Int)):=(by omega);have hwi:IntKind.i64.wrap ((i:Int)+1)=i+1:=IntWalk.i64_in _ (by omega);rw[List.drop_eq_getElem_cons hi,yg_] at hm;obtain⟨g,off,c',ka,kc,ex,hn,hgl,hk,hc⟩:=HX.out.at8 i hi;injection ex with e1 _ e3;subst e1 e3;have GW:=xa_ hgW;have HM:=xa_ hm;have HAX:=xa_ X2;clear hm;have deep:Hid (¬D≤40→Z=false):=xa_ fun h=>by
      rw[← HM.out,kf_ (by split <;> omega)];rfl
     have H6:Hid (f=6→i≤1):=xa_ fun h=>by have:=H62.out h;omega
     have cB:=xa_ (uw_ f o 0 0 nm pt a ks (HX.out.gw GW.out) i hi H6.out);have cE:=xa_ (HI.out i hi ka kc W gz_ hk);have HC:=xa_ hc;clear hgW hc hk X2;subst hdD;go_wp2_with fail
     refine cB.out.mono ?_;rintro e w2 ⟨rfl,g2⟩;have G2:=xa_ (gtn GW.out g2);have AX2:=xa_ (kept g2 HAX.out);clear g2 cB;generalize brB f o i ks[i]=bb at HM;have hC:=HC.out w2 G2.out;have cE2:=fun D h0 h1=>cE.out D h0 h1 w2 G2.out;clear HC cE;obtain⟨p1,p2,p3,p4,p5,p6⟩:=xb_ AX2.out;generalize ks[i]=E at hC cE2 HM;obtain⟨kf,ko,kk,kn,knm,kpt,kat,kks⟩:=E;obtain⟨x0,x1,x2,x3,x4,x5,x6,x7⟩:=hC.all;clear hC;have hwD:IntKind.i64.wrap (d+1)=d+1:=IntWalk.i64_in _ (by omega);have hDr:0≤d∧d≤41:=(by omega);cases bb
     · have cE3:=xa_ (cE2 (d) (by omega) (by omega));simp only[if_false,Bool.false_eq_true] at HM;clear cE2;generalize hr:xr_ (d) (.mk kf ko kk kn knm kpt kat kks)=r at cE3 HM;clear hr;go_wp2_with fail
       refine cE3.out.mono ?_;rintro e w3 ⟨rfl,g3⟩;have G3:=xa_ (kept g3 AX2.out);have G4:=xa_ (gtn G2.out g3);cases r
       · have e:Z=false:=(by rw[← HM.out];rfl);subst e;clear HM g3 deep;go_wp2_with fail
         go_ret;exact⟨rfl,G4.out⟩
       · have HM2:=xa_ ((Bool.true_and _).symm.trans HM.out);clear HM g3 deep;go_wp2_with fail
         go_roundg (ks.length+1 - (i+1))
         case measure=>omega
         case rel=>exact⟨i+1,by simp,xa_ ⟨by omega,rfl,G4.out,G3.out,HM2.out⟩⟩
     · have cE3:=xa_ (cE2 (d+1) (by omega) (by omega));simp only[if_true] at HM;clear cE2;generalize hr:xr_ (d+1) (.mk kf ko kk kn knm kpt kat kks)=r at cE3 HM;clear hr;go_wp2_with fail
       refine cE3.out.mono ?_;rintro e w3 ⟨rfl,g3⟩;have G3:=xa_ (kept g3 AX2.out);have G4:=xa_ (gtn G2.out g3);cases r
       · have e:Z=false:=(by rw[← HM.out];rfl);subst e;clear HM g3 deep;go_wp2_with fail
         go_ret;exact⟨rfl,G4.out⟩
       · have HM2:=xa_ ((Bool.true_and _).symm.trans HM.out);clear HM g3 deep;go_wp2_with fail
         go_roundg (ks.length+1 - (i+1))
         case measure=>omega
         case rel=>exact⟨i+1,by simp,xa_ ⟨by omega,rfl,G4.out,G3.out,HM2.out⟩⟩
theorem ahl_:∀(n:Nat) (e:PE),SizeOf.sizeOf e<n→∀(W:World) (ok:Nat→Prop) (k:Value),Xs W ok k e.kids→XC W e k:=by
 intro n;induction n with
 | zero=>intro e h;omega
 | succ n ih=>
  intro e h W ok k hx d h0 h1 W' hg;obtain⟨x,c,rfl⟩:=hx.sl;obtain⟨f,o,kd,nn,nm,pt,a,ks⟩:=e;by_cases hf:f=1
  ·subst hf;exact aen_ o kd nn nm pt a ks x c d W'
  refine ahk_ f o kd nn nm pt a ks (hx.gw hg) hf d h0 h1 ?_;intro i hi ka kc W2 h2 hk;refine ih ks[i] ?_ W2 ok _ hk;have s1:SizeOf.sizeOf ks[i]<SizeOf.sizeOf ks:=List.sizeOf_lt_of_mem (List.getElem_mem hi);simp at h;omega
theorem exok {W:World} {ok:Nat→Prop} {k:Value} {e:PE} (hx:Xs W ok k e.kids):XC W e k:=ahl_ _ e (Nat.lt_succ_self _) W ok k hx
end Go.Proofs.YtcoglmaiahpooaaGreatDoor
