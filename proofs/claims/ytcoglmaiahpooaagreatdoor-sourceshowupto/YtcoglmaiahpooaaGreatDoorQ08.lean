/- Texts put together: Mj2, Mj3, Mj4, Mj6. -/
import Derived.Test.YtcoglmaiahpooaaGreatDoorQ07
set_option linter.unusedVariables false
set_option linter.unusedSimpArgs false
set_option maxHeartbeats 8000000
namespace Go.Proofs.YtcoglmaiahpooaaGreatDoor
open Go.RowKit
attribute [local go_sem ↓] Go.wp_at_zero Go.wp_at_succ
theorem ex_2 {V W:World} (hT:Tabs V) (hV:Vs V W) {ok:Nat→Prop} {x:Option Addr} {c:Nat} (o kd n:Int) (nm pt:ByteArray) (a:Int) (ks:List PE) (hs1:nm.size≤4000000) (hs2:pt.size≤4000000) (hx:Xs W ok (.slice x ks.length c) ks) (d:Int) (hd0:0≤d) (hd:d≤100)
 (hI:∀(i:Nat) (hi:i<ks.length) (ka:Option Addr) (kc:Nat) (W':World),W.grownBy W' none→Xs W' ok (.slice ka ks[i].kids.length kc) ks[i].kids→EC W' ks[i] (.slice ka ks[i].kids.length kc)) :
 Calls Tryz.prog 87 #[xV 2 o kd n nm pt a (.slice x ks.length c),.int .i64 d] W (xs_ W (xr_ d (.mk 2 o kd n nm pt a ks))):=by
 rw[aie_];have hne:W.heap.size≠W.heap.size+1:=(by omega);have cB:=xa_ (fun W'=>yr_ (0) (o) (kd) (n) (nob) (pt) (a) ks x c W');have cK:d≤40→∀ W',W.grownBy W' none→Calls Tryz.prog 120 #[xV 2 o kd n nm pt a (.slice x ks.length c),.int .i64 d] W' (xs_ W' (yg_ 2 o (if (2:Int)=6 then d else d+1) 0 ks)):=fun h40 W' hg=>z9_ hT (hV.gr hg) 2 o kd n nm pt a ks (hx.gw hg) d hd0 h40 (fun i hi ka kc W2 h2 hk=>hI i hi ka kc W2 (gtn hg h2) hk);generalize xz_ (.mk 0 o kd n nob pt a ks)=BB at cB ⊢;generalize yg_ 2 o (if (2:Int)=6 then d else d+1) 0 ks=KK at cK ⊢;have cN:=xa_ (fun W'=>yi_ nm hs1 W');generalize nmB nm=R at cN ⊢;obtain⟨Z,hZ⟩:∃ Z,(decide (d≤40) && (R && (BB && KK)))=Z:=⟨_,rfl⟩;rw[hZ];have HZ:=xa_ hZ;clear hx hI hV hT hZ;obtain⟨W2,hW2⟩:∃ W2,W2=((W.alloc (.cells #[.int .i64 2,.int .i64 o,.int .i64 kd,.int .i64 n,.string nm,.string pt,.int .i64 a,.slice x ks.length c] 50)).alloc (.cells #[.int .i64 2,.int .i64 o,.int .i64 kd,.int .i64 n,.string nm,.string pt,.int .i64 a,.slice x ks.length c] 50)).drew:=⟨_,rfl⟩;have A2:Hid (W2.heap[W.heap.size]?=some (.cells #[.int .i64 2,.int .i64 o,.int .i64 kd,.int .i64 n,.string nm,.string pt,.int .i64 a,.slice x ks.length c] 50)):=hW2▸old (xe_ rfl _) _;have B2:Hid (W2.heap[W.heap.size+1]?=some (.cells #[.int .i64 2,.int .i64 o,.int .i64 kd,.int .i64 n,.string nm,.string pt,.int .i64 a,.slice x ks.length c] 50)):=hW2▸xe_ (by simp) _;have G2:Hid (W.grownBy W2 none):=hW2▸xi_ (xf_ (gr1 _ _) _);go_enter Tryz.func87,Tryz.ntmps87;go_wp2_with fail
 go_region
 rw[← hW2];clear hW2;obtain⟨a2a,a2b,a2c,a2d,a2e,a2f⟩:=xb_ A2.out;obtain⟨b2a,b2b,b2c,b2d,b2e,b2f⟩:=xb_ B2.out;go_wp2_with fail
 refine(cN.out _).mono ?_;rintro e W3 ⟨rfl,g⟩;have A3:Hid (W3.heap[W.heap.size]?=some (.cells #[.int .i64 2,.int .i64 o,.int .i64 kd,.int .i64 n,.string nm,.string pt,.int .i64 a,.slice x ks.length c] 50)):=kept g (x1_ A2.out hne);have B3:Hid (W3.heap[W.heap.size+1]?=some (.cells #[.int .i64 0,.int .i64 o,.int .i64 kd,.int .i64 n,.string nm,.string pt,.int .i64 a,.slice x ks.length c] 50)):=kept g (by simpa using(xj_ B2.out 0 (.int .i64 0)));have G3:=xa_ (gtn (xd_ G2.out (Nat.le_succ _) 0 (.int .i64 0)) g);clear g a2a a2b a2c a2d a2e a2f b2a b2b b2c b2d b2e b2f;obtain⟨a3a,a3b,a3c,a3d,a3e,a3f⟩:=xb_ A3.out;obtain⟨b3a,b3b,b3c,b3d,b3e,b3f⟩:=xb_ B3.out;clear cN;cases R with
 | false=>
  have e:Z=false:=(by rw[← HZ.out,Bool.false_and,Bool.and_false]);subst e;clear cB cK HZ;by_cases h40:d≤40;all_goals
   go_wp2_with fail
   go_ret;exact⟨rfl,(xd_ G3.out (Nat.le_succ _) 4 (.string ⟨#[]⟩))⟩
 | true=>
 by_cases h40:d≤40;rotate_left
 · have e:Z=false:=(by rw[← HZ.out,decide_eq_false h40,Bool.false_and]);subst e;clear cB cK HZ;go_wp2_with fail
   go_ret;exact⟨rfl,(xd_ G3.out (Nat.le_succ _) 4 (.string ⟨#[]⟩))⟩
 have cK2:=xa_ (cK h40);clear cK;go_wp2_with fail
 refine(cB.out _).mono ?_;rintro e W4 ⟨rfl,g⟩;have A4:Hid (W4.heap[W.heap.size]?=some (.cells #[.int .i64 2,.int .i64 o,.int .i64 kd,.int .i64 n,.string nm,.string pt,.int .i64 a,.slice x ks.length c] 50)):=kept g (x1_ A3.out hne);have B4:Hid (W4.heap[W.heap.size+1]?=some (.cells #[.int .i64 0,.int .i64 o,.int .i64 kd,.int .i64 n,.string ⟨#[]⟩,.string pt,.int .i64 a,.slice x ks.length c] 50)):=kept g (by simpa using(xj_ B3.out 4 (.string ⟨#[]⟩)));have G4:=xa_ (gtn (xd_ G3.out (Nat.le_succ _) 4 (.string ⟨#[]⟩)) g);clear g a3a a3b a3c a3d a3e a3f b3a b3b b3c b3d b3e b3f;obtain⟨a4a,a4b,a4c,a4d,a4e,a4f⟩:=xb_ A4.out;obtain⟨b4a,b4b,b4c,b4d,b4e,b4f⟩:=xb_ B4.out;cases BB with
 | false=>
  have e:Z=false:=(by rw[← HZ.out,decide_eq_true h40];rfl);subst e;clear cK2 HZ;go_wp2_with fail
  go_ret;exact⟨rfl,G4.out⟩
 | true=>
 have e:Z=KK:=(by rw[← HZ.out,decide_eq_true h40];rfl);subst e;clear HZ;go_wp2_with fail
 refine(cK2.out _ G4.out).mono ?_;rintro e W5 ⟨rfl,g⟩;have A5:Hid (W5.heap[W.heap.size]?=some (.cells #[.int .i64 2,.int .i64 o,.int .i64 kd,.int .i64 n,.string nm,.string pt,.int .i64 a,.slice x ks.length c] 50)):=kept g A4.out;have B5:Hid (W5.heap[W.heap.size+1]?=some (.cells #[.int .i64 0,.int .i64 o,.int .i64 kd,.int .i64 n,.string ⟨#[]⟩,.string pt,.int .i64 a,.slice x ks.length c] 50)):=kept g (by simpa using B4.out);have G5:=xa_ (gtn G4.out g);clear g a4a a4b a4c a4d a4e a4f b4a b4b b4c b4d b4e b4f;go_wp2_with fail
 go_ret;exact⟨rfl,G5.out⟩
theorem ex_3 {V W:World} (hT:Tabs V) (hV:Vs V W) {ok:Nat→Prop} {x:Option Addr} {c:Nat} (o kd n:Int) (nm pt:ByteArray) (a:Int) (ks:List PE) (hs1:nm.size≤4000000) (hs2:pt.size≤4000000) (hx:Xs W ok (.slice x ks.length c) ks) (d:Int) (hd0:0≤d) (hd:d≤100)
 (hI:∀(i:Nat) (hi:i<ks.length) (ka:Option Addr) (kc:Nat) (W':World),W.grownBy W' none→Xs W' ok (.slice ka ks[i].kids.length kc) ks[i].kids→EC W' ks[i] (.slice ka ks[i].kids.length kc)) :
 Calls Tryz.prog 87 #[xV 3 o kd n nm pt a (.slice x ks.length c),.int .i64 d] W (xs_ W (xr_ d (.mk 3 o kd n nm pt a ks))):=by
 rw[aif_];have hne:W.heap.size≠W.heap.size+1:=(by omega);have cB:=xa_ (fun W'=>yr_ (0) (o) (kd) (n) (nob) (pt) (a) ([]:List PE) none 0 W');have cK:d≤40→∀ W',W.grownBy W' none→Calls Tryz.prog 120 #[xV 3 o kd n nm pt a (.slice x ks.length c),.int .i64 d] W' (xs_ W' (yg_ 3 o (if (3:Int)=6 then d else d+1) 0 ks)):=fun h40 W' hg=>z9_ hT (hV.gr hg) 3 o kd n nm pt a ks (hx.gw hg) d hd0 h40 (fun i hi ka kc W2 h2 hk=>hI i hi ka kc W2 (gtn hg h2) hk);generalize xz_ (.mk 0 o kd n nob pt a [])=BB at cB ⊢;generalize yg_ 3 o (if (3:Int)=6 then d else d+1) 0 ks=KK at cK ⊢;have cN:=xa_ (fun W'=>yi_ nm hs1 W');generalize nmB nm=N1 at cN ⊢;obtain⟨Z,hZ⟩:∃ Z,(decide (d≤40) && ((N1 && ((ks.length:Int)==1)) && (BB && KK)))=Z:=⟨_,rfl⟩;rw[hZ];have HZ:=xa_ hZ;clear hx hI hV hT hZ;obtain⟨W2,hW2⟩:∃ W2,W2=((W.alloc (.cells #[.int .i64 3,.int .i64 o,.int .i64 kd,.int .i64 n,.string nm,.string pt,.int .i64 a,.slice x ks.length c] 50)).alloc (.cells #[.int .i64 3,.int .i64 o,.int .i64 kd,.int .i64 n,.string nm,.string pt,.int .i64 a,.slice x ks.length c] 50)).drew:=⟨_,rfl⟩;have A2:Hid (W2.heap[W.heap.size]?=some (.cells #[.int .i64 3,.int .i64 o,.int .i64 kd,.int .i64 n,.string nm,.string pt,.int .i64 a,.slice x ks.length c] 50)):=hW2▸old (xe_ rfl _) _;have B2:Hid (W2.heap[W.heap.size+1]?=some (.cells #[.int .i64 3,.int .i64 o,.int .i64 kd,.int .i64 n,.string nm,.string pt,.int .i64 a,.slice x ks.length c] 50)):=hW2▸xe_ (by simp) _;have G2:Hid (W.grownBy W2 none):=hW2▸xi_ (xf_ (gr1 _ _) _);go_enter Tryz.func87,Tryz.ntmps87;go_wp2_with fail
 go_region
 rw[← hW2];clear hW2;obtain⟨a2a,a2b,a2c,a2d,a2e,a2f⟩:=xb_ A2.out;obtain⟨b2a,b2b,b2c,b2d,b2e,b2f⟩:=xb_ B2.out;go_wp2_with fail
 refine(cN.out _).mono ?_;rintro e W3 ⟨rfl,g⟩;have A3:Hid (W3.heap[W.heap.size]?=some (.cells #[.int .i64 3,.int .i64 o,.int .i64 kd,.int .i64 n,.string nm,.string pt,.int .i64 a,.slice x ks.length c] 50)):=kept g (x1_ A2.out hne);have B3:Hid (W3.heap[W.heap.size+1]?=some (.cells #[.int .i64 0,.int .i64 o,.int .i64 kd,.int .i64 n,.string nm,.string pt,.int .i64 a,.slice x ks.length c] 50)):=kept g (by simpa using(xj_ B2.out 0 (.int .i64 0)));have G3:=xa_ (gtn (xd_ G2.out (Nat.le_succ _) 0 (.int .i64 0)) g);clear g a2a a2b a2c a2d a2e a2f b2a b2b b2c b2d b2e b2f;obtain⟨a3a,a3b,a3c,a3d,a3e,a3f⟩:=xb_ A3.out;obtain⟨b3a,b3b,b3c,b3d,b3e,b3f⟩:=xb_ B3.out;clear cN;cases N1 with
 | false=>
  have e:Z=false:=(by rw[← HZ.out];cases decide (d≤40) <;> rfl);subst e;clear cB cK HZ;by_cases h40:d≤40;all_goals
   go_wp2_with fail
   go_ret;exact⟨rfl,(xd_ (xd_ G3.out (Nat.le_succ _) 4 (.string ⟨#[]⟩)) (Nat.le_succ _) 7 (.slice none 0 0))⟩
 | true=>
  obtain⟨R,hR⟩:∃ R,((ks.length:Int)==1)=R:=⟨_,rfl⟩;rw[hR] at HZ;have HZ0:=xa_ ((by cases R <;> rfl:(decide (d≤40) && (R && (BB && KK)))=_).trans HZ.out);clear HZ;have HZ:=HZ0;clear HZ0;cases R with
  | false=>
   have e:Z=false:=(by rw[← HZ.out,Bool.false_and,Bool.and_false]);subst e;clear cB cK HZ;by_cases h40:d≤40;all_goals
    go_wp2_with fail
    go_ret;exact⟨rfl,(xd_ (xd_ G3.out (Nat.le_succ _) 4 (.string ⟨#[]⟩)) (Nat.le_succ _) 7 (.slice none 0 0))⟩
  | true=>
  by_cases h40:d≤40;rotate_left
  · have e:Z=false:=(by rw[← HZ.out,decide_eq_false h40,Bool.false_and]);subst e;clear cB cK HZ;go_wp2_with fail
    go_ret;exact⟨rfl,(xd_ (xd_ G3.out (Nat.le_succ _) 4 (.string ⟨#[]⟩)) (Nat.le_succ _) 7 (.slice none 0 0))⟩
  have cK2:=xa_ (cK h40);clear cK;go_wp2_with fail
  refine(cB.out _).mono ?_;rintro e W4 ⟨rfl,g⟩;have A4:Hid (W4.heap[W.heap.size]?=some (.cells #[.int .i64 3,.int .i64 o,.int .i64 kd,.int .i64 n,.string nm,.string pt,.int .i64 a,.slice x ks.length c] 50)):=kept g (x1_ (x1_ A3.out hne) hne);have B4:Hid (W4.heap[W.heap.size+1]?=some (.cells #[.int .i64 0,.int .i64 o,.int .i64 kd,.int .i64 n,.string ⟨#[]⟩,.string pt,.int .i64 a,.slice none 0 0] 50)):=kept g (by simpa using(xj_ (xj_ B3.out 4 (.string ⟨#[]⟩)) 7 (.slice none 0 0)));have G4:=xa_ (gtn (xd_ (xd_ G3.out (Nat.le_succ _) 4 (.string ⟨#[]⟩)) (Nat.le_succ _) 7 (.slice none 0 0)) g);clear g a3a a3b a3c a3d a3e a3f b3a b3b b3c b3d b3e b3f;obtain⟨a4a,a4b,a4c,a4d,a4e,a4f⟩:=xb_ A4.out;obtain⟨b4a,b4b,b4c,b4d,b4e,b4f⟩:=xb_ B4.out;cases BB with
  | false=>
   have e:Z=false:=(by rw[← HZ.out,decide_eq_true h40];rfl);subst e;clear cK2 HZ;go_wp2_with fail
   go_ret;exact⟨rfl,G4.out⟩
  | true=>
  have e:Z=KK:=(by rw[← HZ.out,decide_eq_true h40];rfl);subst e;clear HZ;go_wp2_with fail
  refine(cK2.out _ G4.out).mono ?_;rintro e W5 ⟨rfl,g⟩;have A5:Hid (W5.heap[W.heap.size]?=some (.cells #[.int .i64 3,.int .i64 o,.int .i64 kd,.int .i64 n,.string nm,.string pt,.int .i64 a,.slice x ks.length c] 50)):=kept g A4.out;have B5:Hid (W5.heap[W.heap.size+1]?=some (.cells #[.int .i64 0,.int .i64 o,.int .i64 kd,.int .i64 n,.string ⟨#[]⟩,.string pt,.int .i64 a,.slice none 0 0] 50)):=kept g (by simpa using B4.out);have G5:=xa_ (gtn G4.out g);clear g a4a a4b a4c a4d a4e a4f b4a b4b b4c b4d b4e b4f;go_wp2_with fail
  go_ret;exact⟨rfl,G5.out⟩
theorem ex_4 {V W:World} (hT:Tabs V) (hV:Vs V W) {ok:Nat→Prop} {x:Option Addr} {c:Nat} (o kd n:Int) (nm pt:ByteArray) (a:Int) (ks:List PE) (hs1:nm.size≤4000000) (hs2:pt.size≤4000000) (hx:Xs W ok (.slice x ks.length c) ks) (d:Int) (hd0:0≤d) (hd:d≤100)
 (hI:∀(i:Nat) (hi:i<ks.length) (ka:Option Addr) (kc:Nat) (W':World),W.grownBy W' none→Xs W' ok (.slice ka ks[i].kids.length kc) ks[i].kids→EC W' ks[i] (.slice ka ks[i].kids.length kc)) :
 Calls Tryz.prog 87 #[xV 4 o kd n nm pt a (.slice x ks.length c),.int .i64 d] W (xs_ W (xr_ d (.mk 4 o kd n nm pt a ks))):=by
 rw[aig_];have hne:W.heap.size≠W.heap.size+1:=(by omega);have cB:=xa_ (fun W'=>yr_ (0) (o) (kd) (n) (nob) (nob) (a) ks x c W');have cK:d≤40→∀ W',W.grownBy W' none→Calls Tryz.prog 120 #[xV 4 o kd n nm pt a (.slice x ks.length c),.int .i64 d] W' (xs_ W' (yg_ 4 o (if (4:Int)=6 then d else d+1) 0 ks)):=fun h40 W' hg=>z9_ hT (hV.gr hg) 4 o kd n nm pt a ks (hx.gw hg) d hd0 h40 (fun i hi ka kc W2 h2 hk=>hI i hi ka kc W2 (gtn hg h2) hk);generalize xz_ (.mk 0 o kd n nob nob a ks)=BB at cB ⊢;generalize yg_ 4 o (if (4:Int)=6 then d else d+1) 0 ks=KK at cK ⊢;have cN:=xa_ (fun W'=>yi_ nm hs1 W');have cM:=xa_ (fun W'=>yi_ pt hs2 W');generalize nmB nm=N1 at cN ⊢;generalize nmB pt=N2 at cM ⊢;obtain⟨Z,hZ⟩:∃ Z,(decide (d≤40) && ((N1 && N2) && (BB && KK)))=Z:=⟨_,rfl⟩;rw[hZ];have HZ:=xa_ hZ;clear hx hI hV hT hZ;obtain⟨W2,hW2⟩:∃ W2,W2=((W.alloc (.cells #[.int .i64 4,.int .i64 o,.int .i64 kd,.int .i64 n,.string nm,.string pt,.int .i64 a,.slice x ks.length c] 50)).alloc (.cells #[.int .i64 4,.int .i64 o,.int .i64 kd,.int .i64 n,.string nm,.string pt,.int .i64 a,.slice x ks.length c] 50)).drew:=⟨_,rfl⟩;have A2:Hid (W2.heap[W.heap.size]?=some (.cells #[.int .i64 4,.int .i64 o,.int .i64 kd,.int .i64 n,.string nm,.string pt,.int .i64 a,.slice x ks.length c] 50)):=hW2▸old (xe_ rfl _) _;have B2:Hid (W2.heap[W.heap.size+1]?=some (.cells #[.int .i64 4,.int .i64 o,.int .i64 kd,.int .i64 n,.string nm,.string pt,.int .i64 a,.slice x ks.length c] 50)):=hW2▸xe_ (by simp) _;have G2:Hid (W.grownBy W2 none):=hW2▸xi_ (xf_ (gr1 _ _) _);go_enter Tryz.func87,Tryz.ntmps87
 go_wp2_with fail
 go_region
 rw[← hW2];clear hW2;obtain⟨a2a,a2b,a2c,a2d,a2e,a2f⟩:=xb_ A2.out;obtain⟨b2a,b2b,b2c,b2d,b2e,b2f⟩:=xb_ B2.out;go_wp2_with fail
 refine(cN.out _).mono ?_;rintro e W3 ⟨rfl,g⟩;have A3:Hid (W3.heap[W.heap.size]?=some (.cells #[.int .i64 4,.int .i64 o,.int .i64 kd,.int .i64 n,.string nm,.string pt,.int .i64 a,.slice x ks.length c] 50)):=kept g (x1_ A2.out hne);have B3:Hid (W3.heap[W.heap.size+1]?=some (.cells #[.int .i64 0,.int .i64 o,.int .i64 kd,.int .i64 n,.string nm,.string pt,.int .i64 a,.slice x ks.length c] 50)):=kept g (by simpa using(xj_ B2.out 0 (.int .i64 0)));have G3:=xa_ (gtn (xd_ G2.out (Nat.le_succ _) 0 (.int .i64 0)) g);clear g a2a a2b a2c a2d a2e a2f b2a b2b b2c b2d b2e b2f;obtain⟨a3a,a3b,a3c,a3d,a3e,a3f⟩:=xb_ A3.out;obtain⟨b3a,b3b,b3c,b3d,b3e,b3f⟩:=xb_ B3.out;clear cN;cases N1 with
 | false=>
  have e:Z=false:=(by rw[← HZ.out];cases decide (d≤40) <;> rfl);subst e;clear cB cK HZ cM;by_cases h40:d≤40;all_goals
   go_wp2_with fail
   go_ret;exact⟨rfl,(xd_ (xd_ G3.out (Nat.le_succ _) 4 (.string ⟨#[]⟩)) (Nat.le_succ _) 5 (.string ⟨#[]⟩))⟩
 | true=>
 go_wp2_with fail
 refine(cM.out _).mono ?_;rintro e W4 ⟨rfl,g⟩;have A4:Hid (W4.heap[W.heap.size]?=some (.cells #[.int .i64 4,.int .i64 o,.int .i64 kd,.int .i64 n,.string nm,.string pt,.int .i64 a,.slice x ks.length c] 50)):=kept g A3.out;have B4:Hid (W4.heap[W.heap.size+1]?=some (.cells #[.int .i64 0,.int .i64 o,.int .i64 kd,.int .i64 n,.string nm,.string pt,.int .i64 a,.slice x ks.length c] 50)):=kept g (by simpa using B3.out);have G4:=xa_ (gtn G3.out g);clear g a3a a3b a3c a3d a3e a3f b3a b3b b3c b3d b3e b3f;obtain⟨a4a,a4b,a4c,a4d,a4e,a4f⟩:=xb_ A4.out;obtain⟨b4a,b4b,b4c,b4d,b4e,b4f⟩:=xb_ B4.out;clear cM;generalize N2=R at HZ;have HZ0:=xa_ ((by rfl:(decide (d≤40) && (R && (BB && KK)))=_).trans HZ.out);clear HZ;have HZ:=HZ0;clear HZ0;cases R with
 | false=>
  have e:Z=false:=(by rw[← HZ.out,Bool.false_and,Bool.and_false]);subst e;clear cB cK HZ;by_cases h40:d≤40;all_goals
   go_wp2_with fail
   go_ret;exact⟨rfl,(xd_ (xd_ G4.out (Nat.le_succ _) 4 (.string ⟨#[]⟩)) (Nat.le_succ _) 5 (.string ⟨#[]⟩))⟩
 | true=>
 by_cases h40:d≤40;rotate_left
 · have e:Z=false:=(by rw[← HZ.out,decide_eq_false h40,Bool.false_and]);subst e;clear cB cK HZ;go_wp2_with fail
   go_ret;exact⟨rfl,(xd_ (xd_ G4.out (Nat.le_succ _) 4 (.string ⟨#[]⟩)) (Nat.le_succ _) 5 (.string ⟨#[]⟩))⟩
 have cK2:=xa_ (cK h40);clear cK;go_wp2_with fail
 refine(cB.out _).mono ?_;rintro e W5 ⟨rfl,g⟩;have A5:Hid (W5.heap[W.heap.size]?=some (.cells #[.int .i64 4,.int .i64 o,.int .i64 kd,.int .i64 n,.string nm,.string pt,.int .i64 a,.slice x ks.length c] 50)):=kept g (x1_ (x1_ A4.out hne) hne);have B5:Hid (W5.heap[W.heap.size+1]?=some (.cells #[.int .i64 0,.int .i64 o,.int .i64 kd,.int .i64 n,.string ⟨#[]⟩,.string ⟨#[]⟩,.int .i64 a,.slice x ks.length c] 50)):=kept g (by simpa using(xj_ (xj_ B4.out 4 (.string ⟨#[]⟩)) 5 (.string ⟨#[]⟩)));have G5:=xa_ (gtn (xd_ (xd_ G4.out (Nat.le_succ _) 4 (.string ⟨#[]⟩)) (Nat.le_succ _) 5 (.string ⟨#[]⟩)) g);clear g a4a a4b a4c a4d a4e a4f b4a b4b b4c b4d b4e b4f;obtain⟨a5a,a5b,a5c,a5d,a5e,a5f⟩:=xb_ A5.out;obtain⟨b5a,b5b,b5c,b5d,b5e,b5f⟩:=xb_ B5.out;cases BB with
 | false=>
  have e:Z=false:=(by rw[← HZ.out,decide_eq_true h40];rfl);subst e;clear cK2 HZ;go_wp2_with fail
  go_ret;exact⟨rfl,G5.out⟩
 | true=>
 have e:Z=KK:=(by rw[← HZ.out,decide_eq_true h40];rfl);subst e;clear HZ;go_wp2_with fail
 refine(cK2.out _ G5.out).mono ?_;rintro e W6 ⟨rfl,g⟩;have A6:Hid (W6.heap[W.heap.size]?=some (.cells #[.int .i64 4,.int .i64 o,.int .i64 kd,.int .i64 n,.string nm,.string pt,.int .i64 a,.slice x ks.length c] 50)):=kept g A5.out;have B6:Hid (W6.heap[W.heap.size+1]?=some (.cells #[.int .i64 0,.int .i64 o,.int .i64 kd,.int .i64 n,.string ⟨#[]⟩,.string ⟨#[]⟩,.int .i64 a,.slice x ks.length c] 50)):=kept g (by simpa using B5.out);have G6:=xa_ (gtn G5.out g);clear g a5a a5b a5c a5d a5e a5f b5a b5b b5c b5d b5e b5f;go_wp2_with fail
 go_ret;exact⟨rfl,G6.out⟩
theorem ex_6 {V W:World} (hT:Tabs V) (hV:Vs V W) {ok:Nat→Prop} {x:Option Addr} {c:Nat} (o kd n:Int) (nm pt:ByteArray) (a:Int) (ks:List PE) (hs1:nm.size≤4000000) (hs2:pt.size≤4000000) (hx:Xs W ok (.slice x ks.length c) ks) (d:Int) (hd0:0≤d) (hd:d≤100)
 (hI:∀(i:Nat) (hi:i<ks.length) (ka:Option Addr) (kc:Nat) (W':World),W.grownBy W' none→Xs W' ok (.slice ka ks[i].kids.length kc) ks[i].kids→EC W' ks[i] (.slice ka ks[i].kids.length kc)) :
 Calls Tryz.prog 87 #[xV 6 o kd n nm pt a (.slice x ks.length c),.int .i64 d] W (xs_ W (xr_ d (.mk 6 o kd n nm pt a ks))):=by
 rw[aii_];have hne:W.heap.size≠W.heap.size+1:=(by omega);have cB:=xa_ (fun W'=>yr_ (0) (0) (kd) (n) (nm) (pt) (a) ([]:List PE) none 0 W');have cK:d≤40→∀ W',W.grownBy W' none→Calls Tryz.prog 120 #[xV 6 o kd n nm pt a (.slice x ks.length c),.int .i64 d] W' (xs_ W' (yg_ 6 o (if (6:Int)=6 then d else d+1) 0 ks)):=fun h40 W' hg=>z9_ hT (hV.gr hg) 6 o kd n nm pt a ks (hx.gw hg) d hd0 h40 (fun i hi ka kc W2 h2 hk=>hI i hi ka kc W2 (gtn hg h2) hk);generalize xz_ (.mk 0 0 kd n nm pt a [])=BB at cB ⊢;generalize yg_ 6 o (if (6:Int)=6 then d else d+1) 0 ks=KK at cK ⊢;have cN:=xa_ (fun W' (hg:W.grownBy W' none)=>adx_ hT o (hV.gr hg));generalize lvS o=N1 at cN ⊢;obtain⟨Z,hZ⟩:∃ Z,(decide (d≤40) && ((decide (0<N1) && ((ks.length:Int)==2)) && (BB && KK)))=Z:=⟨_,rfl⟩;rw[hZ];have HZ:=xa_ hZ;clear hx hI hV hT hZ;obtain⟨W2,hW2⟩:∃ W2,W2=((W.alloc (.cells #[.int .i64 6,.int .i64 o,.int .i64 kd,.int .i64 n,.string nm,.string pt,.int .i64 a,.slice x ks.length c] 50)).alloc (.cells #[.int .i64 6,.int .i64 o,.int .i64 kd,.int .i64 n,.string nm,.string pt,.int .i64 a,.slice x ks.length c] 50)).drew:=⟨_,rfl⟩;have A2:Hid (W2.heap[W.heap.size]?=some (.cells #[.int .i64 6,.int .i64 o,.int .i64 kd,.int .i64 n,.string nm,.string pt,.int .i64 a,.slice x ks.length c] 50)):=hW2▸old (xe_ rfl _) _;have B2:Hid (W2.heap[W.heap.size+1]?=some (.cells #[.int .i64 6,.int .i64 o,.int .i64 kd,.int .i64 n,.string nm,.string pt,.int .i64 a,.slice x ks.length c] 50)):=hW2▸xe_ (by simp) _;have G2:Hid (W.grownBy W2 none):=hW2▸xi_ (xf_ (gr1 _ _) _);go_enter Tryz.func87,Tryz.ntmps87
 go_wp2_with fail
 go_region
 rw[← hW2];clear hW2;obtain⟨a2a,a2b,a2c,a2d,a2e,a2f⟩:=xb_ A2.out;obtain⟨b2a,b2b,b2c,b2d,b2e,b2f⟩:=xb_ B2.out;go_wp2_with fail
 refine(cN.out _ (xd_ G2.out (Nat.le_succ _) 0 (.int .i64 0))).mono ?_;rintro e W3 ⟨rfl,g⟩;have A3:Hid (W3.heap[W.heap.size]?=some (.cells #[.int .i64 6,.int .i64 o,.int .i64 kd,.int .i64 n,.string nm,.string pt,.int .i64 a,.slice x ks.length c] 50)):=kept g (x1_ A2.out hne);have B3:Hid (W3.heap[W.heap.size+1]?=some (.cells #[.int .i64 0,.int .i64 o,.int .i64 kd,.int .i64 n,.string nm,.string pt,.int .i64 a,.slice x ks.length c] 50)):=kept g (by simpa using(xj_ B2.out 0 (.int .i64 0)));have G3:=xa_ (gtn (xd_ G2.out (Nat.le_succ _) 0 (.int .i64 0)) g);clear g a2a a2b a2c a2d a2e a2f b2a b2b b2c b2d b2e b2f;obtain⟨a3a,a3b,a3c,a3d,a3e,a3f⟩:=xb_ A3.out;obtain⟨b3a,b3b,b3c,b3d,b3e,b3f⟩:=xb_ B3.out;clear cN;obtain⟨P1,hP1⟩:∃ b,decide (0<N1)=b:=⟨_,rfl⟩;rw[hP1] at HZ;have hP:=hP1;cases P1 with
 | true=>
  simp only[decide_eq_true_eq] at hP1;obtain⟨R,hR⟩:∃ R,((ks.length:Int)==2)=R:=⟨_,rfl⟩;rw[hR] at HZ;have HZ0:=xa_ ((by cases R <;> rfl:(decide (d≤40) && (R && (BB && KK)))=_).trans HZ.out);clear HZ;have HZ:=HZ0;clear HZ0;cases R with
  | false=>
   have e:Z=false:=(by rw[← HZ.out,Bool.false_and,Bool.and_false]);subst e;clear cB cK HZ;by_cases h40:d≤40;all_goals
    go_wp2_with fail
    go_ret;exact⟨rfl,(xd_ (xd_ G3.out (Nat.le_succ _) 1 (.int .i64 0)) (Nat.le_succ _) 7 (.slice none 0 0))⟩
  | true=>
  by_cases h40:d≤40;rotate_left
  · have e:Z=false:=(by rw[← HZ.out,decide_eq_false h40,Bool.false_and]);subst e;clear cB cK HZ;go_wp2_with fail
    go_ret;exact⟨rfl,(xd_ (xd_ G3.out (Nat.le_succ _) 1 (.int .i64 0)) (Nat.le_succ _) 7 (.slice none 0 0))⟩
  have cK2:=xa_ (cK h40);clear cK;go_wp2_with fail
  refine(cB.out _).mono ?_;rintro e W4 ⟨rfl,g⟩;have A4:Hid (W4.heap[W.heap.size]?=some (.cells #[.int .i64 6,.int .i64 o,.int .i64 kd,.int .i64 n,.string nm,.string pt,.int .i64 a,.slice x ks.length c] 50)):=kept g (x1_ (x1_ A3.out hne) hne);have B4:Hid (W4.heap[W.heap.size+1]?=some (.cells #[.int .i64 0,.int .i64 0,.int .i64 kd,.int .i64 n,.string nm,.string pt,.int .i64 a,.slice none 0 0] 50)):=kept g (by simpa using(xj_ (xj_ B3.out 1 (.int .i64 0)) 7 (.slice none 0 0)));have G4:=xa_ (gtn (xd_ (xd_ G3.out (Nat.le_succ _) 1 (.int .i64 0)) (Nat.le_succ _) 7 (.slice none 0 0)) g);clear g a3a a3b a3c a3d a3e a3f b3a b3b b3c b3d b3e b3f;obtain⟨a4a,a4b,a4c,a4d,a4e,a4f⟩:=xb_ A4.out;obtain⟨b4a,b4b,b4c,b4d,b4e,b4f⟩:=xb_ B4.out;cases BB with
  | false=>
   have e:Z=false:=(by rw[← HZ.out,decide_eq_true h40];rfl);subst e;clear cK2 HZ;go_wp2_with fail
   go_ret;exact⟨rfl,G4.out⟩
  | true=>
  have e:Z=KK:=(by rw[← HZ.out,decide_eq_true h40];rfl);subst e;clear HZ;go_wp2_with fail
  refine(cK2.out _ G4.out).mono ?_;rintro e W5 ⟨rfl,g⟩;have A5:Hid (W5.heap[W.heap.size]?=some (.cells #[.int .i64 6,.int .i64 o,.int .i64 kd,.int .i64 n,.string nm,.string pt,.int .i64 a,.slice x ks.length c] 50)):=kept g A4.out;have B5:Hid (W5.heap[W.heap.size+1]?=some (.cells #[.int .i64 0,.int .i64 0,.int .i64 kd,.int .i64 n,.string nm,.string pt,.int .i64 a,.slice none 0 0] 50)):=kept g (by simpa using B4.out);have G5:=xa_ (gtn G4.out g);clear g a4a a4b a4c a4d a4e a4f b4a b4b b4c b4d b4e b4f;go_wp2_with fail
  go_ret;exact⟨rfl,G5.out⟩
 | false=>
  simp only[decide_eq_false_iff_not] at hP1;have e:Z=false:=(by rw[← HZ.out];cases decide (d≤40) <;> rfl);subst e;clear cB cK HZ;by_cases h40:d≤40;all_goals
   go_wp2_with fail
   go_ret;exact⟨rfl,(xd_ (xd_ G3.out (Nat.le_succ _) 1 (.int .i64 0)) (Nat.le_succ _) 7 (.slice none 0 0))⟩
end Go.Proofs.YtcoglmaiahpooaaGreatDoor
