/- Texts put together: Mn. -/
import Derived.Test.YtcoglmaiahpooaaGreatDoorQ10
set_option linter.unusedVariables false
set_option linter.unusedSimpArgs false
set_option maxHeartbeats 8000000
namespace Go.Proofs.YtcoglmaiahpooaaGreatDoor
open Go.RowKit
attribute [local go_sem ↓] Go.wp_at_zero Go.wp_at_succ
theorem agf_ {V W:World} (hT:Tabs V) (hV:Vs V W) {ok:Nat→Prop} (s1 so:ByteArray) (ro vk lo ln:Int) (f o kd n:Int) (nm pt:ByteArray) (a:Int) (ks:List PE) (x:Option Addr) (c:Nat) (at1:Int) (hs1:s1.size≤4000000) (hs2:so.size≤4000000) (hx:Xs W ok (.slice x ks.length c) ks) (hc:yj_ (.mk f o kd n nm pt a ks)≤4000000) (hf:f≠1) (hk:vk≠0) :
 Calls Tryz.prog 47 #[.agg #[.string s1,.int .i64 ro,.int .i64 vk,.string so,.int .i64 lo,.int .i64 ln,.int .i64 f,.int .i64 o,.int .i64 kd,.int .i64 n,.string nm,.string pt,.int .i64 a,.slice x ks.length c,.int .i64 at1]] W (xs_ W (nmB s1 && (decide (1≤ro) && (decide (ro≤5) && (xz_ (.mk f o kd n nm pt a ks) && (kdB vk && ((so.toList==[]) && qh_ lo ln))))))):=by
 have c1:=xa_ (yi_ s1 hs1);have c2:=xa_ (fun W' (hg:W.grownBy W' none)=>yr_ f o kd n nm pt a ks x c W');have hf':(f==1)=false:=(by simpa using hf);have c3:=xa_ (kd_g vk);have c4:=xa_ (afa_ lo ln);have hk':(vk==0)=false:=(by simpa using hk);obtain⟨r1,h1⟩:∃ b,decide (1≤ro)=b:=⟨_,rfl⟩;obtain⟨r2,h2⟩:∃ b,decide (ro≤5)=b:=⟨_,rfl⟩;rw[h1,h2];obtain⟨r3,h3⟩:∃ b,(so.toList==[])=b:=⟨_,rfl⟩;rw[h3];generalize nmB s1=v1 at c1 ⊢;generalize xz_ (.mk f o kd n nm pt a ks)=v2 at c2 ⊢;generalize kdB vk=v3 at c3 ⊢;generalize qh_ lo ln=v4 at c4 ⊢;obtain⟨Z,hZ⟩:∃ Z,(v1 && (r1 && (r2 && (v2 && (v3 && (r3 && v4))))))=Z:=⟨_,rfl⟩;rw[hZ];have HZ:=xa_ hZ;clear hZ;clear hx hV hT hc hs1 hs2;go_enter Tryz.func47,Tryz.ntmps47;go_wp2_with fail
 refine(c1.out _).mono ?_;rintro e W1 ⟨rfl,g⟩;have A1:Hid (W1.heap[W.heap.size]?=some (.cells #[.string s1,.int .i64 ro,.int .i64 vk,.string so,.int .i64 lo,.int .i64 ln,.int .i64 f,.int .i64 o,.int .i64 kd,.int .i64 n,.string nm,.string pt,.int .i64 a,.slice x ks.length c,.int .i64 at1] 54)):=kept g (xe_ (by first|rfl|simp) _);have G1:=xa_ (gtn (xf_ (gr0 _) _) g);clear g;obtain⟨a1a,a1b,a1c,a1d,a1e,a1f⟩:=xb_ A1.out;cases v1 with
 | false=>
  have e:Z=false:=HZ.out.symm;subst e;clear HZ;go_wp2_with fail
  go_ret;exact⟨rfl,G1.out⟩
 | true=>
 have HZ0:=xa_ ((Bool.true_and _).symm.trans HZ.out);clear HZ;have HZ:=HZ0;clear HZ0;cases r1 with
 | false=>
  simp only[decide_eq_false_iff_not] at h1;have e:Z=false:=HZ.out.symm;subst e;clear HZ;go_wp2_with fail
  go_ret;exact⟨rfl,G1.out⟩
 | true=>
 simp only[decide_eq_true_eq] at h1;have HZ0:=xa_ ((Bool.true_and _).symm.trans HZ.out);clear HZ;have HZ:=HZ0;clear HZ0;cases r2 with
 | false=>
  simp only[decide_eq_false_iff_not] at h2;have e:Z=false:=HZ.out.symm;subst e;clear HZ;go_wp2_with fail
  go_ret;exact⟨rfl,G1.out⟩
 | true=>
 simp only[decide_eq_true_eq] at h2;have HZ0:=xa_ ((Bool.true_and _).symm.trans HZ.out);clear HZ;have HZ:=HZ0;clear HZ0;go_wp2_with fail
 refine(c2.out _ G1.out).mono ?_;rintro e W2 ⟨rfl,g⟩;have A2:Hid (W2.heap[W.heap.size]?=some (.cells #[.string s1,.int .i64 ro,.int .i64 vk,.string so,.int .i64 lo,.int .i64 ln,.int .i64 f,.int .i64 o,.int .i64 kd,.int .i64 n,.string nm,.string pt,.int .i64 a,.slice x ks.length c,.int .i64 at1] 54)):=kept g A1.out;have G2:=xa_ (gtn G1.out g);clear g a1a a1b a1c a1d a1e a1f;obtain⟨a2a,a2b,a2c,a2d,a2e,a2f⟩:=xb_ A2.out;cases v2 with
 | false=>
  have e:Z=false:=HZ.out.symm;subst e;clear HZ;go_wp2_with fail
  go_ret;exact⟨rfl,G2.out⟩
 | true=>
 have HZ0:=xa_ ((Bool.true_and _).symm.trans HZ.out);clear HZ;have HZ:=HZ0;clear HZ0;go_wp2_with fail
 refine(c3.out _).mono ?_;rintro e W3 ⟨rfl,g⟩;have A3:Hid (W3.heap[W.heap.size]?=some (.cells #[.string s1,.int .i64 ro,.int .i64 vk,.string so,.int .i64 lo,.int .i64 ln,.int .i64 f,.int .i64 o,.int .i64 kd,.int .i64 n,.string nm,.string pt,.int .i64 a,.slice x ks.length c,.int .i64 at1] 54)):=kept g A2.out;have G3:=xa_ (gtn G2.out g);clear g a2a a2b a2c a2d a2e a2f;obtain⟨a3a,a3b,a3c,a3d,a3e,a3f⟩:=xb_ A3.out;cases v3 with
 | false=>
  have e:Z=false:=HZ.out.symm;subst e;clear HZ;go_wp2_with fail
  go_ret;exact⟨rfl,G3.out⟩
 | true=>
 have HZ0:=xa_ ((Bool.true_and _).symm.trans HZ.out);clear HZ;have HZ:=HZ0;clear HZ0;cases r3 with
 | false=>
  have e:Z=false:=HZ.out.symm;subst e;clear HZ;go_wp2_with fail
  go_ret;exact⟨rfl,G3.out⟩
 | true=>
 have HZ0:=xa_ ((Bool.true_and _).symm.trans HZ.out);clear HZ;have HZ:=HZ0;clear HZ0;go_wp2_with fail
 refine(c4.out _).mono ?_;rintro e W4 ⟨rfl,g⟩;have A4:Hid (W4.heap[W.heap.size]?=some (.cells #[.string s1,.int .i64 ro,.int .i64 vk,.string so,.int .i64 lo,.int .i64 ln,.int .i64 f,.int .i64 o,.int .i64 kd,.int .i64 n,.string nm,.string pt,.int .i64 a,.slice x ks.length c,.int .i64 at1] 54)):=kept g A3.out;have G4:=xa_ (gtn G3.out g);clear g a3a a3b a3c a3d a3e a3f;obtain⟨a4a,a4b,a4c,a4d,a4e,a4f⟩:=xb_ A4.out;have e:Z=v4:=HZ.out.symm;subst e;clear HZ;go_wp2_with fail
 go_ret;exact⟨rfl,G4.out⟩
theorem agg_ {V W:World} (hT:Tabs V) (hV:Vs V W) {ok:Nat→Prop} (s1 so:ByteArray) (ro lo ln:Int) (f o kd n:Int) (nm pt:ByteArray) (a:Int) (ks:List PE) (x:Option Addr) (c:Nat) (at1:Int) (hs1:s1.size≤4000000) (hs2:so.size≤4000000) (hx:Xs W ok (.slice x ks.length c) ks) (hc:yj_ (.mk f o kd n nm pt a ks)≤4000000) (hf:f≠1) :
 Calls Tryz.prog 47 #[.agg #[.string s1,.int .i64 ro,.int .i64 0,.string so,.int .i64 lo,.int .i64 ln,.int .i64 f,.int .i64 o,.int .i64 kd,.int .i64 n,.string nm,.string pt,.int .i64 a,.slice x ks.length c,.int .i64 at1]] W (xs_ W (nmB s1 && (decide (1≤ro) && (decide (ro≤5) && (xz_ (.mk f o kd n nm pt a ks) && (nmB so && ((lo==0) && (ln==0)))))))):=by
 have c1:=xa_ (yi_ s1 hs1);have c2:=xa_ (fun W' (hg:W.grownBy W' none)=>yr_ f o kd n nm pt a ks x c W');have hf':(f==1)=false:=(by simpa using hf);have c3:=xa_ (yi_ so hs2);obtain⟨r1,h1⟩:∃ b,decide (1≤ro)=b:=⟨_,rfl⟩;obtain⟨r2,h2⟩:∃ b,decide (ro≤5)=b:=⟨_,rfl⟩;rw[h1,h2];obtain⟨r3,h3⟩:∃ b,(lo==0)=b:=⟨_,rfl⟩;obtain⟨r4,h4⟩:∃ b,(ln==0)=b:=⟨_,rfl⟩;rw[h3,h4];generalize nmB s1=v1 at c1 ⊢;generalize xz_ (.mk f o kd n nm pt a ks)=v2 at c2 ⊢;generalize nmB so=v3 at c3 ⊢;obtain⟨Z,hZ⟩:∃ Z,(v1 && (r1 && (r2 && (v2 && (v3 && (r3 && r4))))))=Z:=⟨_,rfl⟩;rw[hZ];have HZ:=xa_ hZ;clear hZ;clear hx hV hT hc hs1 hs2;go_enter Tryz.func47,Tryz.ntmps47;go_wp2_with fail
 refine(c1.out _).mono ?_;rintro e W1 ⟨rfl,g⟩;have A1:Hid (W1.heap[W.heap.size]?=some (.cells #[.string s1,.int .i64 ro,.int .i64 0,.string so,.int .i64 lo,.int .i64 ln,.int .i64 f,.int .i64 o,.int .i64 kd,.int .i64 n,.string nm,.string pt,.int .i64 a,.slice x ks.length c,.int .i64 at1] 54)):=kept g (xe_ (by first|rfl|simp) _);have G1:=xa_ (gtn (xf_ (gr0 _) _) g);clear g;obtain⟨a1a,a1b,a1c,a1d,a1e,a1f⟩:=xb_ A1.out;cases v1 with
 | false=>
  have e:Z=false:=HZ.out.symm;subst e;clear HZ;go_wp2_with fail
  go_ret;exact⟨rfl,G1.out⟩
 | true=>
 have HZ0:=xa_ ((Bool.true_and _).symm.trans HZ.out);clear HZ;have HZ:=HZ0;clear HZ0;cases r1 with
 | false=>
  simp only[decide_eq_false_iff_not] at h1;have e:Z=false:=HZ.out.symm;subst e;clear HZ;go_wp2_with fail
  go_ret;exact⟨rfl,G1.out⟩
 | true=>
 simp only[decide_eq_true_eq] at h1;have HZ0:=xa_ ((Bool.true_and _).symm.trans HZ.out);clear HZ;have HZ:=HZ0;clear HZ0;cases r2 with
 | false=>
  simp only[decide_eq_false_iff_not] at h2;have e:Z=false:=HZ.out.symm;subst e;clear HZ;go_wp2_with fail
  go_ret;exact⟨rfl,G1.out⟩
 | true=>
 simp only[decide_eq_true_eq] at h2;have HZ0:=xa_ ((Bool.true_and _).symm.trans HZ.out);clear HZ;have HZ:=HZ0;clear HZ0;go_wp2_with fail
 refine(c2.out _ G1.out).mono ?_;rintro e W2 ⟨rfl,g⟩;have A2:Hid (W2.heap[W.heap.size]?=some (.cells #[.string s1,.int .i64 ro,.int .i64 0,.string so,.int .i64 lo,.int .i64 ln,.int .i64 f,.int .i64 o,.int .i64 kd,.int .i64 n,.string nm,.string pt,.int .i64 a,.slice x ks.length c,.int .i64 at1] 54)):=kept g A1.out;have G2:=xa_ (gtn G1.out g);clear g a1a a1b a1c a1d a1e a1f;obtain⟨a2a,a2b,a2c,a2d,a2e,a2f⟩:=xb_ A2.out;cases v2 with
 | false=>
  have e:Z=false:=HZ.out.symm;subst e;clear HZ;go_wp2_with fail
  go_ret;exact⟨rfl,G2.out⟩
 | true=>
 have HZ0:=xa_ ((Bool.true_and _).symm.trans HZ.out);clear HZ;have HZ:=HZ0;clear HZ0;go_wp2_with fail
 refine(c3.out _).mono ?_;rintro e W3 ⟨rfl,g⟩;have A3:Hid (W3.heap[W.heap.size]?=some (.cells #[.string s1,.int .i64 ro,.int .i64 0,.string so,.int .i64 lo,.int .i64 ln,.int .i64 f,.int .i64 o,.int .i64 kd,.int .i64 n,.string nm,.string pt,.int .i64 a,.slice x ks.length c,.int .i64 at1] 54)):=kept g A2.out;have G3:=xa_ (gtn G2.out g);clear g a2a a2b a2c a2d a2e a2f;obtain⟨a3a,a3b,a3c,a3d,a3e,a3f⟩:=xb_ A3.out;cases v3 with
 | false=>
  have e:Z=false:=HZ.out.symm;subst e;clear HZ;go_wp2_with fail
  go_ret;exact⟨rfl,G3.out⟩
 | true=>
 have HZ0:=xa_ ((Bool.true_and _).symm.trans HZ.out);clear HZ;have HZ:=HZ0;clear HZ0;cases r3 with
 | false=>
  have e:Z=false:=HZ.out.symm;subst e;clear HZ;go_wp2_with fail
  go_ret;exact⟨rfl,G3.out⟩
 | true=>
 have HZ0:=xa_ ((Bool.true_and _).symm.trans HZ.out);clear HZ;have HZ:=HZ0;clear HZ0;have e:Z=r4:=HZ.out.symm;subst e;clear HZ;go_wp2_with fail
 go_ret;exact⟨xw_ (by first|exact h4|rfl),G3.out⟩
theorem agh_ {V W:World} (hT:Tabs V) (hV:Vs V W) {ok:Nat→Prop} (s1 so:ByteArray) (ro vk lo ln:Int) (o kd n:Int) (nm pt:ByteArray) (a:Int) (ks:List PE) (x:Option Addr) (c:Nat) (at1:Int) (hs1:s1.size≤4000000) (hs2:so.size≤4000000) (hx:Xs W ok (.slice x ks.length c) ks) (hc:yj_ (.mk 1 o kd n nm pt a ks)≤4000000) (hk:vk≠0) :
 Calls Tryz.prog 47 #[.agg #[.string s1,.int .i64 ro,.int .i64 vk,.string so,.int .i64 lo,.int .i64 ln,.int .i64 1,.int .i64 o,.int .i64 kd,.int .i64 n,.string nm,.string pt,.int .i64 a,.slice x ks.length c,.int .i64 at1]] W (xs_ W (nmB s1 && (decide (1≤ro) && (decide (ro≤5) && (xr_ 1 (.mk 1 o kd n nm pt a ks) && (kdB vk && ((so.toList==[]) && qh_ lo ln))))))):=by
 have c1:=xa_ (yi_ s1 hs1);have c2:=xa_ (fun W' (hg:W.grownBy W' none)=>qi_ hT (hV.gr hg) (e:=.mk 1 o kd n nm pt a ks) (hx.gw hg) hc 1 (by omega) (by omega) W' (gr0 _));have c3:=xa_ (kd_g vk);have c4:=xa_ (afa_ lo ln);have hk':(vk==0)=false:=(by simpa using hk);obtain⟨r1,h1⟩:∃ b,decide (1≤ro)=b:=⟨_,rfl⟩;obtain⟨r2,h2⟩:∃ b,decide (ro≤5)=b:=⟨_,rfl⟩;rw[h1,h2];obtain⟨r3,h3⟩:∃ b,(so.toList==[])=b:=⟨_,rfl⟩;rw[h3];generalize nmB s1=v1 at c1 ⊢;generalize xr_ 1 (.mk 1 o kd n nm pt a ks)=v2 at c2 ⊢;generalize kdB vk=v3 at c3 ⊢;generalize qh_ lo ln=v4 at c4 ⊢;obtain⟨Z,hZ⟩:∃ Z,(v1 && (r1 && (r2 && (v2 && (v3 && (r3 && v4))))))=Z:=⟨_,rfl⟩;rw[hZ];have HZ:=xa_ hZ;clear hZ;clear hx hV hT hc hs1 hs2;go_enter Tryz.func47,Tryz.ntmps47;go_wp2_with fail
 refine(c1.out _).mono ?_;rintro e W1 ⟨rfl,g⟩;have A1:Hid (W1.heap[W.heap.size]?=some (.cells #[.string s1,.int .i64 ro,.int .i64 vk,.string so,.int .i64 lo,.int .i64 ln,.int .i64 1,.int .i64 o,.int .i64 kd,.int .i64 n,.string nm,.string pt,.int .i64 a,.slice x ks.length c,.int .i64 at1] 54)):=kept g (xe_ (by first|rfl|simp) _);have G1:=xa_ (gtn (xf_ (gr0 _) _) g);clear g;obtain⟨a1a,a1b,a1c,a1d,a1e,a1f⟩:=xb_ A1.out;cases v1 with
 | false=>
  have e:Z=false:=HZ.out.symm;subst e;clear HZ;go_wp2_with fail
  go_ret;exact⟨rfl,G1.out⟩
 | true=>
 have HZ0:=xa_ ((Bool.true_and _).symm.trans HZ.out);clear HZ;have HZ:=HZ0;clear HZ0;cases r1 with
 | false=>
  simp only[decide_eq_false_iff_not] at h1;have e:Z=false:=HZ.out.symm;subst e;clear HZ;go_wp2_with fail
  go_ret;exact⟨rfl,G1.out⟩
 | true=>
 simp only[decide_eq_true_eq] at h1;have HZ0:=xa_ ((Bool.true_and _).symm.trans HZ.out);clear HZ;have HZ:=HZ0;clear HZ0;cases r2 with
 | false=>
  simp only[decide_eq_false_iff_not] at h2;have e:Z=false:=HZ.out.symm;subst e;clear HZ;go_wp2_with fail
  go_ret;exact⟨rfl,G1.out⟩
 | true=>
 simp only[decide_eq_true_eq] at h2;have HZ0:=xa_ ((Bool.true_and _).symm.trans HZ.out);clear HZ;have HZ:=HZ0;clear HZ0;go_wp2_with fail
 refine(c2.out _ G1.out).mono ?_;rintro e W2 ⟨rfl,g⟩;have A2:Hid (W2.heap[W.heap.size]?=some (.cells #[.string s1,.int .i64 ro,.int .i64 vk,.string so,.int .i64 lo,.int .i64 ln,.int .i64 1,.int .i64 o,.int .i64 kd,.int .i64 n,.string nm,.string pt,.int .i64 a,.slice x ks.length c,.int .i64 at1] 54)):=kept g A1.out;have G2:=xa_ (gtn G1.out g);clear g a1a a1b a1c a1d a1e a1f;obtain⟨a2a,a2b,a2c,a2d,a2e,a2f⟩:=xb_ A2.out;cases v2 with
 | false=>
  have e:Z=false:=HZ.out.symm;subst e;clear HZ;go_wp2_with fail
  go_ret;exact⟨rfl,G2.out⟩
 | true=>
 have HZ0:=xa_ ((Bool.true_and _).symm.trans HZ.out);clear HZ;have HZ:=HZ0;clear HZ0;go_wp2_with fail
 refine(c3.out _).mono ?_;rintro e W3 ⟨rfl,g⟩;have A3:Hid (W3.heap[W.heap.size]?=some (.cells #[.string s1,.int .i64 ro,.int .i64 vk,.string so,.int .i64 lo,.int .i64 ln,.int .i64 1,.int .i64 o,.int .i64 kd,.int .i64 n,.string nm,.string pt,.int .i64 a,.slice x ks.length c,.int .i64 at1] 54)):=kept g A2.out;have G3:=xa_ (gtn G2.out g);clear g a2a a2b a2c a2d a2e a2f;obtain⟨a3a,a3b,a3c,a3d,a3e,a3f⟩:=xb_ A3.out;cases v3 with
 | false=>
  have e:Z=false:=HZ.out.symm;subst e;clear HZ;go_wp2_with fail
  go_ret;exact⟨rfl,G3.out⟩
 | true=>
 have HZ0:=xa_ ((Bool.true_and _).symm.trans HZ.out);clear HZ;have HZ:=HZ0;clear HZ0;cases r3 with
 | false=>
  have e:Z=false:=HZ.out.symm;subst e;clear HZ;go_wp2_with fail
  go_ret;exact⟨rfl,G3.out⟩
 | true=>
 have HZ0:=xa_ ((Bool.true_and _).symm.trans HZ.out);clear HZ;have HZ:=HZ0;clear HZ0;go_wp2_with fail
 refine(c4.out _).mono ?_;rintro e W4 ⟨rfl,g⟩;have A4:Hid (W4.heap[W.heap.size]?=some (.cells #[.string s1,.int .i64 ro,.int .i64 vk,.string so,.int .i64 lo,.int .i64 ln,.int .i64 1,.int .i64 o,.int .i64 kd,.int .i64 n,.string nm,.string pt,.int .i64 a,.slice x ks.length c,.int .i64 at1] 54)):=kept g A3.out;have G4:=xa_ (gtn G3.out g);clear g a3a a3b a3c a3d a3e a3f;obtain⟨a4a,a4b,a4c,a4d,a4e,a4f⟩:=xb_ A4.out;have e:Z=v4:=HZ.out.symm;subst e;clear HZ;go_wp2_with fail
 go_ret;exact⟨rfl,G4.out⟩
theorem agi_ {V W:World} (hT:Tabs V) (hV:Vs V W) {ok:Nat→Prop} (s1 so:ByteArray) (ro lo ln:Int) (o kd n:Int) (nm pt:ByteArray) (a:Int) (ks:List PE) (x:Option Addr) (c:Nat) (at1:Int) (hs1:s1.size≤4000000) (hs2:so.size≤4000000) (hx:Xs W ok (.slice x ks.length c) ks) (hc:yj_ (.mk 1 o kd n nm pt a ks)≤4000000) :
 Calls Tryz.prog 47 #[.agg #[.string s1,.int .i64 ro,.int .i64 0,.string so,.int .i64 lo,.int .i64 ln,.int .i64 1,.int .i64 o,.int .i64 kd,.int .i64 n,.string nm,.string pt,.int .i64 a,.slice x ks.length c,.int .i64 at1]] W (xs_ W (nmB s1 && (decide (1≤ro) && (decide (ro≤5) && (xr_ 1 (.mk 1 o kd n nm pt a ks) && (nmB so && ((lo==0) && (ln==0)))))))):=by
 have c1:=xa_ (yi_ s1 hs1);have c2:=xa_ (fun W' (hg:W.grownBy W' none)=>qi_ hT (hV.gr hg) (e:=.mk 1 o kd n nm pt a ks) (hx.gw hg) hc 1 (by omega) (by omega) W' (gr0 _));have c3:=xa_ (yi_ so hs2);obtain⟨r1,h1⟩:∃ b,decide (1≤ro)=b:=⟨_,rfl⟩;obtain⟨r2,h2⟩:∃ b,decide (ro≤5)=b:=⟨_,rfl⟩;rw[h1,h2];obtain⟨r3,h3⟩:∃ b,(lo==0)=b:=⟨_,rfl⟩;obtain⟨r4,h4⟩:∃ b,(ln==0)=b:=⟨_,rfl⟩;rw[h3,h4];generalize nmB s1=v1 at c1 ⊢;generalize xr_ 1 (.mk 1 o kd n nm pt a ks)=v2 at c2 ⊢;generalize nmB so=v3 at c3 ⊢;obtain⟨Z,hZ⟩:∃ Z,(v1 && (r1 && (r2 && (v2 && (v3 && (r3 && r4))))))=Z:=⟨_,rfl⟩;rw[hZ];have HZ:=xa_ hZ;clear hZ;clear hx hV hT hc hs1 hs2;go_enter Tryz.func47,Tryz.ntmps47;go_wp2_with fail
 refine(c1.out _).mono ?_;rintro e W1 ⟨rfl,g⟩;have A1:Hid (W1.heap[W.heap.size]?=some (.cells #[.string s1,.int .i64 ro,.int .i64 0,.string so,.int .i64 lo,.int .i64 ln,.int .i64 1,.int .i64 o,.int .i64 kd,.int .i64 n,.string nm,.string pt,.int .i64 a,.slice x ks.length c,.int .i64 at1] 54)):=kept g (xe_ (by first|rfl|simp) _);have G1:=xa_ (gtn (xf_ (gr0 _) _) g);clear g;obtain⟨a1a,a1b,a1c,a1d,a1e,a1f⟩:=xb_ A1.out;cases v1 with
 | false=>
  have e:Z=false:=HZ.out.symm;subst e;clear HZ;go_wp2_with fail
  go_ret;exact⟨rfl,G1.out⟩
 | true=>
 have HZ0:=xa_ ((Bool.true_and _).symm.trans HZ.out);clear HZ;have HZ:=HZ0;clear HZ0;cases r1 with
 | false=>
  simp only[decide_eq_false_iff_not] at h1;have e:Z=false:=HZ.out.symm;subst e;clear HZ;go_wp2_with fail
  go_ret;exact⟨rfl,G1.out⟩
 | true=>
 simp only[decide_eq_true_eq] at h1;have HZ0:=xa_ ((Bool.true_and _).symm.trans HZ.out);clear HZ;have HZ:=HZ0;clear HZ0;cases r2 with
 | false=>
  simp only[decide_eq_false_iff_not] at h2;have e:Z=false:=HZ.out.symm;subst e;clear HZ;go_wp2_with fail
  go_ret;exact⟨rfl,G1.out⟩
 | true=>
 simp only[decide_eq_true_eq] at h2;have HZ0:=xa_ ((Bool.true_and _).symm.trans HZ.out);clear HZ;have HZ:=HZ0;clear HZ0;go_wp2_with fail
 refine(c2.out _ G1.out).mono ?_;rintro e W2 ⟨rfl,g⟩;have A2:Hid (W2.heap[W.heap.size]?=some (.cells #[.string s1,.int .i64 ro,.int .i64 0,.string so,.int .i64 lo,.int .i64 ln,.int .i64 1,.int .i64 o,.int .i64 kd,.int .i64 n,.string nm,.string pt,.int .i64 a,.slice x ks.length c,.int .i64 at1] 54)):=kept g A1.out;have G2:=xa_ (gtn G1.out g);clear g a1a a1b a1c a1d a1e a1f;obtain⟨a2a,a2b,a2c,a2d,a2e,a2f⟩:=xb_ A2.out;cases v2 with
 | false=>
  have e:Z=false:=HZ.out.symm;subst e;clear HZ;go_wp2_with fail
  go_ret;exact⟨rfl,G2.out⟩
 | true=>
 have HZ0:=xa_ ((Bool.true_and _).symm.trans HZ.out);clear HZ;have HZ:=HZ0;clear HZ0;go_wp2_with fail
 refine(c3.out _).mono ?_;rintro e W3 ⟨rfl,g⟩;have A3:Hid (W3.heap[W.heap.size]?=some (.cells #[.string s1,.int .i64 ro,.int .i64 0,.string so,.int .i64 lo,.int .i64 ln,.int .i64 1,.int .i64 o,.int .i64 kd,.int .i64 n,.string nm,.string pt,.int .i64 a,.slice x ks.length c,.int .i64 at1] 54)):=kept g A2.out;have G3:=xa_ (gtn G2.out g);clear g a2a a2b a2c a2d a2e a2f;obtain⟨a3a,a3b,a3c,a3d,a3e,a3f⟩:=xb_ A3.out;cases v3 with
 | false=>
  have e:Z=false:=HZ.out.symm;subst e;clear HZ;go_wp2_with fail
  go_ret;exact⟨rfl,G3.out⟩
 | true=>
 have HZ0:=xa_ ((Bool.true_and _).symm.trans HZ.out);clear HZ;have HZ:=HZ0;clear HZ0;cases r3 with
 | false=>
  have e:Z=false:=HZ.out.symm;subst e;clear HZ;go_wp2_with fail
  go_ret;exact⟨rfl,G3.out⟩
 | true=>
 have HZ0:=xa_ ((Bool.true_and _).symm.trans HZ.out);clear HZ;have HZ:=HZ0;clear HZ0;have e:Z=r4:=HZ.out.symm;subst e;clear HZ;go_wp2_with fail
 go_ret;exact⟨xw_ (by first|exact h4|rfl),G3.out⟩
def zt_ (v:PV):Nat:=1+v.name.size+v.of.size+yj_ v.init
theorem j0_ {V W:World} (hT:Tabs V) (hV:Vs V W) {ok:Nat→Prop} (p:PV) (k:Value) (hx:kdV.S W ok p k) (hc:zt_ p≤4000000) :
 Calls Tryz.prog 47 (#[.agg (kdV.c p k).toArray]++#[]) W (xs_ W (yo_ p)):=by
 obtain⟨s1,ro,vk,so,lo,ln,⟨f,o,kd,n,nm,pt,a,ks⟩,at1⟩:=p;have hx':Xs W ok k ks:=hx;obtain⟨x,c,rfl⟩:=hx'.sl;simp only[zt_] at hc;by_cases hf:f=1
 · subst hf;by_cases hk:vk=0
   · subst hk;have e:yo_ ⟨s1,ro,0,so,lo,ln,.mk 1 o kd n nm pt a ks,at1⟩=(nmB s1 && (decide (1≤ro) && (decide (ro≤5) && (xr_ 1 (.mk 1 o kd n nm pt a ks) && (nmB so && ((lo==0) && (ln==0))))))):=by
      simp[yo_,km_,PE.form,Bool.and_assoc,eqD]
     rw[e];exact agi_ hT hV s1 so ro lo ln o kd n nm pt a ks x c at1 (by omega) (by omega) hx' (by omega)
   · have e:yo_ ⟨s1,ro,vk,so,lo,ln,.mk 1 o kd n nm pt a ks,at1⟩=(nmB s1 && (decide (1≤ro) && (decide (ro≤5) && (xr_ 1 (.mk 1 o kd n nm pt a ks) && (kdB vk && ((so.toList==[]) && qh_ lo ln)))))):=by
      rw[eqN];simp[yo_,km_,PE.form,Bool.and_assoc,hk]
     rw[e];exact agh_ hT hV s1 so ro vk lo ln o kd n nm pt a ks x c at1 (by omega) (by omega) hx' (by omega) hk
 · by_cases hk:vk=0
   · subst hk;have e:yo_ ⟨s1,ro,0,so,lo,ln,.mk f o kd n nm pt a ks,at1⟩=(nmB s1 && (decide (1≤ro) && (decide (ro≤5) && (xz_ (.mk f o kd n nm pt a ks) && (nmB so && ((lo==0) && (ln==0))))))):=by
      simp[yo_,km_,PE.form,Bool.and_assoc,hf,eqD]
     rw[e];exact agg_ hT hV s1 so ro lo ln f o kd n nm pt a ks x c at1 (by omega) (by omega) hx' (by omega) hf
   · have e:yo_ ⟨s1,ro,vk,so,lo,ln,.mk f o kd n nm pt a ks,at1⟩=(nmB s1 && (decide (1≤ro) && (decide (ro≤5) && (xz_ (.mk f o kd n nm pt a ks) && (kdB vk && ((so.toList==[]) && qh_ lo ln)))))):=by
      rw[eqN];simp[yo_,km_,PE.form,Bool.and_assoc,hk,hf]
     rw[e];exact agf_ hT hV s1 so ro vk lo ln f o kd n nm pt a ks x c at1 (by omega) (by omega) hx' (by omega) hf hk
theorem q9_ {W:World} {ok:Nat→Prop} {x:Option Addr} {c:Nat} {l:List PV} (hx:Li kdV 24 W ok (.slice x l.length c) l) (P:PV→Bool) (caps:Array Value)
 (hP:∀(i:Nat) (hi:i<l.length) (q:Value) (W':World),W.grownBy W' none→kdV.S W' ok l[i] q→Calls Tryz.prog 47 (#[.agg (kdV.c l[i] q).toArray]++caps) W' (xs_ W' (P l[i]))) :
 Calls Tryz.prog 46 #[.slice x l.length c,.func (.func 47) #[] caps] W (xs_ W (l.all P)):=by
 obtain⟨Z,hZ⟩:∃ Z,l.all P=Z:=⟨_,rfl⟩;rw[hZ];have HZ:=xa_ hZ;have HX:=xa_ hx;have HP:=xa_ hP;have hle:=hx.le;clear hZ hx hP;go_enter Tryz.func46,Tryz.ntmps46;go_wp2_with fail
 have LS:Hid (∃ i:Nat,Value.int .i64 0=.int .i64 (i:Int)∧Hid (i≤l.length∧l.length+1=l.length+1 - i∧W.grownBy W none∧(l.drop i).all P=Z)):=⟨0,rfl,xa_ ⟨by omega,rfl,gr0 _,by simpa using HZ.out⟩⟩;clear HZ;go_loopg [9] (l.length+1) (fun gk s1 wx=>∃ i:Nat,s1=.int .i64 (i:Int)∧Hid (i≤l.length∧gk=l.length+1 - i∧W.grownBy wx none∧(l.drop i).all P=Z))
 case atStart=>exact LS.out
 case round=>
  obtain⟨i,rfl,HH⟩:=hrel;obtain⟨hi1,hgk,hg,hm⟩:=HH.out;clear HH LS;have HG:=xa_ hg;by_cases hi:i<l.length;rotate_left
  · have hlt:¬((i:Int)<(l.length:Int)):=(by omega);rw[List.drop_eq_nil_of_le (by omega)] at hm;have e:Z=true:=hm.symm;subst e;clear hg hm HP HX;go_wp2_with fail
    go_ret;exact⟨rfl,HG.out⟩
  have hlt:((i:Int)<(l.length:Int)):=(by omega);have hwi:IntKind.i64.wrap ((i:Int)+1)=i+1:=IntWalk.i64_in _ (by omega);rw[List.drop_eq_getElem_cons hi,List.all_cons] at hm;obtain⟨g,off,c',q,ex,hgl,hk,hc⟩:=HX.out.atG (sz:=15) zm_ (by decide) i hi;injection ex with e1 _ e3;subst e1 e3;have hC:=hc wr hg;have HK:=xa_ hk;have cP:=fun W' h=>HP.out i hi q W' h ((kdV.keep hk (fun b _ hl=>h.block b hl (by simp)) h.size));have HM:=xa_ hm;clear hc hk hm hg;generalize l[i]=E at hC cP HM HK;obtain⟨s1,ro,vk,so,lo,ln,⟨f,o,kd,n,nm,pt,a,ks⟩,at1⟩:=E;obtain⟨x,c,rfl⟩:=Xs.sl (show Xs W ok q ks from HK.out);have cP2:=xa_ cP;have y0:wr.cell? ⟨g,off+i*15,none⟩=some (.string s1):=hC 0 (by decide);have y1:wr.cell? ⟨g,off+i*15+1,none⟩=some (.int .i64 ro):=hC 1 (by decide);have y2:wr.cell? ⟨g,off+i*15+2,none⟩=some (.int .i64 vk):=hC 2 (by decide);have y3:wr.cell? ⟨g,off+i*15+3,none⟩=some (.string so):=hC 3 (by decide);have y4:wr.cell? ⟨g,off+i*15+4,none⟩=some (.int .i64 lo):=hC 4 (by decide);have y5:wr.cell? ⟨g,off+i*15+5,none⟩=some (.int .i64 ln):=hC 5 (by decide);have y6:wr.cell? ⟨g,off+i*15+6,none⟩=some (.int .i64 f):=hC 6 (by decide);have y7:wr.cell? ⟨g,off+i*15+7,none⟩=some (.int .i64 o):=hC 7 (by decide);have y8:wr.cell? ⟨g,off+i*15+8,none⟩=some (.int .i64 kd):=hC 8 (by decide);have y9:wr.cell? ⟨g,off+i*15+9,none⟩=some (.int .i64 n):=hC 9 (by decide);have y10:wr.cell? ⟨g,off+i*15+10,none⟩=some (.string nm):=hC 10 (by decide);have y11:wr.cell? ⟨g,off+i*15+11,none⟩=some (.string pt):=hC 11 (by decide);have y12:wr.cell? ⟨g,off+i*15+12,none⟩=some (.int .i64 a):=hC 12 (by decide)
  have y13:wr.cell? ⟨g,off+i*15+13,none⟩=some (.slice x ks.length c):=hC 13 (by decide);have y14:wr.cell? ⟨g,off+i*15+14,none⟩=some (.int .i64 at1):=hC 14 (by decide);clear hC cP HK;generalize hr:P ⟨s1,ro,vk,so,lo,ln,.mk f o kd n nm pt a ks,at1⟩=r at cP2 HM;clear hr;go_wp2_with fail
  refine(cP2.out _ (xf_ HG.out _)).mono ?_;rintro e w2 ⟨rfl,g2⟩;have G2:=xa_ (gtn (xf_ HG.out _) g2);clear g2;cases r
  · have e:Z=false:=(by rw[← HM.out];rfl);subst e;clear HM cP2;go_wp2_with fail
    go_ret;exact⟨rfl,G2.out⟩
  · have HM2:=xa_ ((Bool.true_and _).symm.trans HM.out);clear HM cP2;go_wp2_with fail
    go_roundg (l.length+1 - (i+1))
    case measure=>omega
    case rel=>exact⟨i+1,by simp,xa_ ⟨by omega,rfl,G2.out,HM2.out⟩⟩
end Go.Proofs.YtcoglmaiahpooaaGreatDoor
