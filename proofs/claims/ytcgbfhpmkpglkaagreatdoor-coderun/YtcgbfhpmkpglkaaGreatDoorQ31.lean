/- Texts put together: BlR0, BlR1, BlT4, BlT6, BlT3q. -/
import Derived.Test.YtcgbfhpmkpglkaaGreatDoorQ30
set_option linter.unusedVariables false
set_option linter.unusedSimpArgs false
set_option maxHeartbeats 8000000
namespace Go.Proofs.YtcgbfhpmkpglkaaGreatDoor.Bl
open Go.RowKit
attribute [local go_sem ↓] Go.wp_at_zero Go.wp_at_succ
def qq_ (nm:ByteArray) (n m:Nat) (kS kI:List Int) (F:List Int→List Int→Int→List Int×List Int):Prop:=
 ∀(vs vi:Value) (l li:List Int) (now:Int) (w:World),rd w vs l→rd w vi li→Calls Tryz.prog 47 #[.string nm,vs,vi,.int .i64 now] w (zf_ n m (F (xm_ kS l) (xm_ kI li) (xd_ 5 now)) w)
theorem xy_ {n m:Nat} {R:List Int×List Int} {w w3 w4:World} {e:Ending} (h:zf_ n m R w3 e w4) (hg:w.grownBy w3 none):zf_ n m R w e w4:=by
 obtain⟨c1,c2,he,g1,g2,gne,h1,h2,hg4⟩:=h;exact⟨c1,c2,he,Nat.le_trans hg.size g1,Nat.le_trans hg.size g2,gne,h1,h2,hg.trans hg4⟩
theorem agy_ {x:Int} (h:x=0∨x=1):x1_ (decide (x=1))=x:=by rcases h with rfl|rfl <;> rfl
theorem agz_ {x:Int} (h:x=0∨x=1):x1_ (x==1)=x:=by rcases h with rfl|rfl <;> rfl
set_option maxRecDepth 10000 in
theorem ai5_:qq_ zu_ 4 2 [1,5,1,5] [1,5] jy_:=by
 intro vs vi l li now w hr hri;obtain⟨a0,a1,a2,a3,e⟩:=abj_ 1 5 1 5 l;obtain⟨c0,c1,e'⟩:=qy_ 1 5 li;have HR:Hid (rd w vs l):=hr;have HRI:Hid (rd w vi li):=hri;have HE:Hid (xm_ (yb_ tonS) l=_):=e;have HE':Hid (xm_ (yb_ tonI) li=_):=e';rw[e,e'];clear hr hri e e';have h_x0:=ye_ a0;have h_x1:=yo_ a1;have h_x2:=ye_ a2;have h_x3:=yo_ a3;have h_i0:=ye_ c0;have h_i1:=yo_ c1;have h_now:=yo_ now;generalize xd_ 1 a0=x0 at *;generalize xd_ 5 a1=x1 at *;generalize xd_ 1 a2=x2 at *;generalize xd_ 5 a3=x3 at *;generalize xd_ 1 c0=i0 at *;generalize xd_ 5 c1=i1 at *;have hlS:tonS.length=4:=rfl;have hlI:tonI.length=2:=rfl;unfold zu_;go_enter Tryz.func47,Tryz.ntmps47;go_wp2_with fail
 refine(u8_ _).mono ?_;rintro e w1 ⟨v,rfl,⟨r1,r2,r3,rfl,_,_,_,_,_,_,R1,R2,R3⟩,hg1⟩;go_wp2_with fail
 refine(xp_ tonS (by decide) r3 vs l _ ?_ ?_).mono ?_
 ·exact(xh_ (xg_ R3) _).trans R3
 ·exact xo_ HR.out (xb_ hg1 _)
 rintro e w2 ⟨rfl,S2,hg2⟩;have X2:=xa_ (kept hg2 (heap_alloc_new w1 _)) 0;simp at X2;go_wp2_with fail
 refine(xp_ tonI (by decide) r1 vi li _ ?_ ?_).mono ?_
 ·exact kept hg2 ((xh_ (xg_ R1) _).trans R1)
 ·exact xo_ HRI.out ((xb_ hg1 _).trans hg2)
 rintro e w3 ⟨rfl,I3,hg3⟩;have S3:=kept hg3 S2;rw[HE.out] at S3;rw[HE'.out] at I3;have hgw:w.grownBy w3 none:=((xb_ hg1 _).trans hg2).trans hg3;have ls:=xg_ S3;have li3:=xg_ I3;clear X2 R1 R2 R3 S2 hg1 hg2 hg3;simp only[World.size_alloc] at S3 ls;generalize w1.heap.size+1=cs at S3 ls ⊢;generalize w2.heap.size=ci at I3 li3 ⊢;have q0:=xa_ I3 0;have q1:=xa_ I3 1;simp[xi_] at q0 q1;go_wp2_with (go_at_call 42;refine(xq_ _ _ _).mono ?_;rintro e w' ⟨rfl,rfl⟩)
 go_region_held3 (fun w'=>w'.cell? ⟨ci,0,none⟩=some (.int .i64 i0)∧w'.cell? ⟨ci,1,none⟩=some (.int .i64 i1)) (go_keep)
  (first|(go_at_call 66;go_must (refine(agu_ cs x0 x1 x2 x3 i1 (xd_ 5 now) _ _ h_x0 h_x1 h_x2 h_x3 h_i1 h_now ?_).mono ?_);(exact(xe_ _ _).trans S3);(rintro e w4 ⟨d1,d2,rfl,g1,g2,gne,h1,h2,hg4⟩);have q2:=hg4.cell (jh_ q0) (by simp);have q3:=hg4.cell (jh_ q1) (by simp)))
 go_wp2_with fail
 go_ret2;first|rw[agy_ h_i0] at h1 h2|rw[agz_ h_i0] at h1 h2
 exact xy_ ⟨d1,d2,rfl,g1,g2,gne,h1,h2,hg4⟩ (xf_ hgw)
set_option maxRecDepth 10000 in
theorem ai6_:qq_ zv_ 4 2 [1,5,1,5] [1,5] qv_:=by
 intro vs vi l li now w hr hri;obtain⟨a0,a1,a2,a3,e⟩:=abj_ 1 5 1 5 l;obtain⟨c0,c1,e'⟩:=qy_ 1 5 li;have HR:Hid (rd w vs l):=hr;have HRI:Hid (rd w vi li):=hri;have HE:Hid (xm_ (yb_ tofS) l=_):=e;have HE':Hid (xm_ (yb_ tofI) li=_):=e';rw[e,e'];clear hr hri e e';have h_x0:=ye_ a0;have h_x1:=yo_ a1;have h_x2:=ye_ a2;have h_x3:=yo_ a3;have h_i0:=ye_ c0;have h_i1:=yo_ c1;have h_now:=yo_ now;generalize xd_ 1 a0=x0 at *;generalize xd_ 5 a1=x1 at *;generalize xd_ 1 a2=x2 at *;generalize xd_ 5 a3=x3 at *;generalize xd_ 1 c0=i0 at *;generalize xd_ 5 c1=i1 at *;have hlS:tofS.length=4:=rfl;have hlI:tofI.length=2:=rfl;unfold zv_;go_enter Tryz.func47,Tryz.ntmps47;go_wp2_with fail
 refine(u9_ _).mono ?_;rintro e w1 ⟨v,rfl,⟨r1,r2,r3,rfl,_,_,_,_,_,_,R1,R2,R3⟩,hg1⟩;go_wp2_with fail
 refine(xp_ tofS (by decide) r3 vs l _ ?_ ?_).mono ?_
 ·exact(xh_ (xg_ R3) _).trans R3
 ·exact xo_ HR.out (xb_ hg1 _)
 rintro e w2 ⟨rfl,S2,hg2⟩;have X2:=xa_ (kept hg2 (heap_alloc_new w1 _)) 0;simp at X2;go_wp2_with fail
 refine(xp_ tofI (by decide) r1 vi li _ ?_ ?_).mono ?_
 ·exact kept hg2 ((xh_ (xg_ R1) _).trans R1)
 ·exact xo_ HRI.out ((xb_ hg1 _).trans hg2)
 rintro e w3 ⟨rfl,I3,hg3⟩;have S3:=kept hg3 S2;rw[HE.out] at S3;rw[HE'.out] at I3;have hgw:w.grownBy w3 none:=((xb_ hg1 _).trans hg2).trans hg3;have ls:=xg_ S3;have li3:=xg_ I3;clear X2 R1 R2 R3 S2 hg1 hg2 hg3;simp only[World.size_alloc] at S3 ls;generalize w1.heap.size+1=cs at S3 ls ⊢;generalize w2.heap.size=ci at I3 li3 ⊢;have q0:=xa_ I3 0;have q1:=xa_ I3 1;simp[xi_] at q0 q1;go_wp2_with (go_at_call 42;refine(xq_ _ _ _).mono ?_;rintro e w' ⟨rfl,rfl⟩)
 go_region_held3 (fun w'=>w'.cell? ⟨ci,0,none⟩=some (.int .i64 i0)∧w'.cell? ⟨ci,1,none⟩=some (.int .i64 i1)) (go_keep)
  (first|(go_at_call 66;go_must (refine(agv_ cs x0 x1 x2 x3 i1 (xd_ 5 now) _ _ h_x0 h_x1 h_x2 h_x3 h_i1 h_now ?_).mono ?_);(exact(xe_ _ _).trans S3);(rintro e w4 ⟨d1,d2,rfl,g1,g2,gne,h1,h2,hg4⟩);have q2:=hg4.cell (jh_ q0) (by simp);have q3:=hg4.cell (jh_ q1) (by simp)))
 go_wp2_with fail
 go_ret2;first|rw[agy_ h_i0] at h1 h2|rw[agz_ h_i0] at h1 h2
 exact xy_ ⟨d1,d2,rfl,g1,g2,gne,h1,h2,hg4⟩ (xf_ hgw)
set_option maxRecDepth 10000 in
theorem akt_:qq_ qu_ 4 2 [1,5,1,5] [1,5] tpF:=by
 intro vs vi l li now w hr hri;obtain⟨a0,a1,a2,a3,e⟩:=abj_ 1 5 1 5 l;obtain⟨c0,c1,e'⟩:=qy_ 1 5 li;have HR:Hid (rd w vs l):=hr;have HRI:Hid (rd w vi li):=hri;have HE:Hid (xm_ (yb_ tpS) l=_):=e;have HE':Hid (xm_ (yb_ tpI) li=_):=e';rw[e,e'];clear hr hri e e';have h_x0:=ye_ a0;have h_x1:=yo_ a1;have h_x2:=ye_ a2;have h_x3:=yo_ a3;have h_i0:=ye_ c0;have h_i1:=yo_ c1;have h_now:=yo_ now;generalize xd_ 1 a0=x0 at *;generalize xd_ 5 a1=x1 at *;generalize xd_ 1 a2=x2 at *;generalize xd_ 5 a3=x3 at *;generalize xd_ 1 c0=i0 at *;generalize xd_ 5 c1=i1 at *;have hlS:tpS.length=4:=rfl;have hlI:tpI.length=2:=rfl;unfold qu_;go_enter Tryz.func47,Tryz.ntmps47;go_wp2_with fail
 refine(aat_ _).mono ?_;rintro e w1 ⟨v,rfl,⟨r1,r2,r3,rfl,_,_,_,_,_,_,R1,R2,R3⟩,hg1⟩;go_wp2_with fail
 refine(xp_ tpS (by decide) r3 vs l _ ?_ ?_).mono ?_
 ·exact(xh_ (xg_ R3) _).trans R3
 ·exact xo_ HR.out (xb_ hg1 _)
 rintro e w2 ⟨rfl,S2,hg2⟩;have X2:=xa_ (kept hg2 (heap_alloc_new w1 _)) 0;simp at X2;go_wp2_with fail
 refine(xp_ tpI (by decide) r1 vi li _ ?_ ?_).mono ?_
 ·exact kept hg2 ((xh_ (xg_ R1) _).trans R1)
 ·exact xo_ HRI.out ((xb_ hg1 _).trans hg2)
 rintro e w3 ⟨rfl,I3,hg3⟩;have S3:=kept hg3 S2;rw[HE.out] at S3;rw[HE'.out] at I3;have hgw:w.grownBy w3 none:=((xb_ hg1 _).trans hg2).trans hg3;have ls:=xg_ S3;have li3:=xg_ I3;clear X2 R1 R2 R3 S2 hg1 hg2 hg3;simp only[World.size_alloc] at S3 ls;generalize w1.heap.size+1=cs at S3 ls ⊢;generalize w2.heap.size=ci at I3 li3 ⊢;have q0:=xa_ I3 0;have q1:=xa_ I3 1;simp[xi_] at q0 q1;go_wp2_with (go_at_call 42;refine(xq_ _ _ _).mono ?_;rintro e w' ⟨rfl,rfl⟩)
 go_region_held3 (fun w'=>w'.cell? ⟨ci,0,none⟩=some (.int .i64 i0)∧w'.cell? ⟨ci,1,none⟩=some (.int .i64 i1)) (go_keep)
  (first|(go_at_call 66;go_must (refine(ai3_ cs x0 x1 x2 x3 i1 (xd_ 5 now) _ _ h_x0 h_x1 h_x2 h_x3 h_i1 h_now ?_).mono ?_);(exact(xe_ _ _).trans S3);(rintro e w4 ⟨d1,d2,rfl,g1,g2,gne,h1,h2,hg4⟩);have q2:=hg4.cell (jh_ q0) (by simp);have q3:=hg4.cell (jh_ q1) (by simp)))
 go_wp2_with fail
 go_ret2;first|rw[agy_ h_i0] at h1 h2|rw[agz_ h_i0] at h1 h2
 exact xy_ ⟨d1,d2,rfl,g1,g2,gne,h1,h2,hg4⟩ (xf_ hgw)
set_option maxRecDepth 10000 in
theorem ai7_:qq_ zw_ 2 2 [1,2] [1,1,2] qr_:=by
 intro vs vi l li now w hr hri;obtain⟨a0,a1,e⟩:=qy_ 1 2 l;obtain⟨c0,c1,c2,e'⟩:=uq_ 1 1 2 li;have HR:Hid (rd w vs l):=hr;have HRI:Hid (rd w vi li):=hri;have HE:Hid (xm_ (yb_ ctuS) l=_):=e;have HE':Hid (xm_ (yb_ ctuI) li=_):=e';rw[e,e'];clear hr hri e e';have h_x0:=ye_ a0;have h_x1:=q6_ a1;have h_i0:=ye_ c0;have h_i1:=ye_ c1;have h_i2:=q6_ c2;have h_now:=yo_ now;generalize xd_ 1 a0=x0 at *;generalize xd_ 2 a1=x1 at *;generalize xd_ 1 c0=i0 at *;generalize xd_ 1 c1=i1 at *;generalize xd_ 2 c2=i2 at *;have hlS:ctuS.length=2:=rfl;have hlI:ctuI.length=3:=rfl;unfold zw_;go_enter Tryz.func47,Tryz.ntmps47;go_wp2_with fail
 refine(aaa_ _).mono ?_;rintro e w1 ⟨v,rfl,⟨r1,r2,r3,rfl,_,_,_,_,_,_,R1,R2,R3⟩,hg1⟩;go_wp2_with fail
 refine(xp_ ctuS (by decide) r3 vs l _ ?_ ?_).mono ?_
 ·exact(xh_ (xg_ R3) _).trans R3
 ·exact xo_ HR.out (xb_ hg1 _)
 rintro e w2 ⟨rfl,S2,hg2⟩;have X2:=xa_ (kept hg2 (heap_alloc_new w1 _)) 0;simp at X2;go_wp2_with fail
 refine(xp_ ctuI (by decide) r1 vi li _ ?_ ?_).mono ?_
 ·exact kept hg2 ((xh_ (xg_ R1) _).trans R1)
 ·exact xo_ HRI.out ((xb_ hg1 _).trans hg2)
 rintro e w3 ⟨rfl,I3,hg3⟩;have S3:=kept hg3 S2;rw[HE.out] at S3;rw[HE'.out] at I3;have hgw:w.grownBy w3 none:=((xb_ hg1 _).trans hg2).trans hg3;have ls:=xg_ S3;have li3:=xg_ I3;clear X2 R1 R2 R3 S2 hg1 hg2 hg3;simp only[World.size_alloc] at S3 ls;generalize w1.heap.size+1=cs at S3 ls ⊢;generalize w2.heap.size=ci at I3 li3 ⊢;go_wp2_with (go_at_call 42;refine(xq_ _ _ _).mono ?_;rintro e w' ⟨rfl,rfl⟩)
 refine(agw_ cs ci x0 x1 i0 i1 i2 _ h_x0 h_x1 h_i0 h_i1 h_i2 S3 I3).mono ?_;rintro e w4 ⟨d1,d2,rfl,g1,g2,gne,h1,h2,hg4⟩;go_wp2_with fail
 go_ret2;exact xy_ ⟨d1,d2,rfl,g1,g2,gne,h1,h2,hg4⟩ hgw
set_option maxRecDepth 10000 in
theorem ai8_:qq_ zx_ 2 2 [1,2] [1,1,2] qs_:=by
 intro vs vi l li now w hr hri;obtain⟨a0,a1,e⟩:=qy_ 1 2 l;obtain⟨c0,c1,c2,e'⟩:=uq_ 1 1 2 li;have HR:Hid (rd w vs l):=hr;have HRI:Hid (rd w vi li):=hri;have HE:Hid (xm_ (yb_ ctdS) l=_):=e;have HE':Hid (xm_ (yb_ ctdI) li=_):=e';rw[e,e'];clear hr hri e e';have h_x0:=ye_ a0;have h_x1:=q6_ a1;have h_i0:=ye_ c0;have h_i1:=ye_ c1;have h_i2:=q6_ c2;have h_now:=yo_ now;generalize xd_ 1 a0=x0 at *;generalize xd_ 2 a1=x1 at *;generalize xd_ 1 c0=i0 at *;generalize xd_ 1 c1=i1 at *;generalize xd_ 2 c2=i2 at *;have hlS:ctdS.length=2:=rfl;have hlI:ctdI.length=3:=rfl;unfold zx_;go_enter Tryz.func47,Tryz.ntmps47;go_wp2_with fail
 refine(aab_ _).mono ?_;rintro e w1 ⟨v,rfl,⟨r1,r2,r3,rfl,_,_,_,_,_,_,R1,R2,R3⟩,hg1⟩;go_wp2_with fail
 refine(xp_ ctdS (by decide) r3 vs l _ ?_ ?_).mono ?_
 ·exact(xh_ (xg_ R3) _).trans R3
 ·exact xo_ HR.out (xb_ hg1 _)
 rintro e w2 ⟨rfl,S2,hg2⟩;have X2:=xa_ (kept hg2 (heap_alloc_new w1 _)) 0;simp at X2;go_wp2_with fail
 refine(xp_ ctdI (by decide) r1 vi li _ ?_ ?_).mono ?_
 ·exact kept hg2 ((xh_ (xg_ R1) _).trans R1)
 ·exact xo_ HRI.out ((xb_ hg1 _).trans hg2)
 rintro e w3 ⟨rfl,I3,hg3⟩;have S3:=kept hg3 S2;rw[HE.out] at S3;rw[HE'.out] at I3;have hgw:w.grownBy w3 none:=((xb_ hg1 _).trans hg2).trans hg3;have ls:=xg_ S3;have li3:=xg_ I3;clear X2 R1 R2 R3 S2 hg1 hg2 hg3;simp only[World.size_alloc] at S3 ls;generalize w1.heap.size+1=cs at S3 ls ⊢;generalize w2.heap.size=ci at I3 li3 ⊢;go_wp2_with (go_at_call 42;refine(xq_ _ _ _).mono ?_;rintro e w' ⟨rfl,rfl⟩)
 refine(agx_ cs ci x0 x1 i0 i1 i2 _ h_x0 h_x1 h_i0 h_i1 h_i2 S3 I3).mono ?_;rintro e w4 ⟨d1,d2,rfl,g1,g2,gne,h1,h2,hg4⟩;go_wp2_with fail
 go_ret2;exact xy_ ⟨d1,d2,rfl,g1,g2,gne,h1,h2,hg4⟩ hgw
end Go.Proofs.YtcgbfhpmkpglkaaGreatDoor.Bl
namespace Go.Proofs.YtcgbfhpmkpglkaaGreatDoor.Bl
open Go.RowKit
theorem aaz_ {W:World} {a:Addr} {v:Value} {n:Nat} (h:W.cell? a=some v):(W.drewN n).cell? a=some v:=h
theorem ai4_ {w W:World} {r:Option Nat} (h:w.grownBy W r) (n:Nat):w.grownBy (W.drewN n) r:=⟨h.os,h.tape,h.output,h.size,h.block⟩
theorem kl_ (n m:Nat) (R:List Int×List Int) (w:World) (k:Nat):zf_ n m R w (.returned (.tuple #[.slice (some ⟨w.heap.size,0,none⟩) n n,.slice (some ⟨w.heap.size+1,0,none⟩) m m])) (((w.drewN k).alloc (.cells (xi_ R.1) 3)).alloc (.cells (xi_ R.2) 3)).drew:=by
 obtain⟨c1,c2,he,g1,g2,gne,h1,h2,hg4⟩:=x7_ n m R (w.drewN k);exact⟨c1,c2,he,g1,g2,gne,h1,h2,(ai4_ (World.grownBy.refl w none) k).trans hg4⟩
theorem km_ (n m:Nat) (R:List Int×List Int) (w:World) (k:Nat):zf_ n m R w (.returned (.tuple #[.slice (some ⟨w.heap.size+1,0,none⟩) n n,.slice (some ⟨w.heap.size,0,none⟩) m m])) (((w.drewN k).alloc (.cells (xi_ R.2) 3)).alloc (.cells (xi_ R.1) 3)).drew:=by
 obtain⟨c1,c2,he,g1,g2,gne,h1,h2,hg4⟩:=zm_ n m R (w.drewN k);exact⟨c1,c2,he,g1,g2,gne,h1,h2,(ai4_ (World.grownBy.refl w none) k).trans hg4⟩
theorem vc_ (n m:Nat) (R:List Int×List Int) (w:World) (k:Nat):zf_ n m R w (.returned (.tuple #[.slice (some ⟨w.heap.size,0,none⟩) n n,.slice (some ⟨w.heap.size+1,0,none⟩) m m])) (((w.drewN k).alloc (.cells (xi_ R.1) 3)).alloc (.cells (xi_ R.2) 3)):=by
 obtain⟨c1,c2,he,g1,g2,gne,h1,h2,hg4⟩:=kl_ n m R w k;exact⟨c1,c2,he,g1,g2,gne,h1,h2,⟨hg4.os,hg4.tape,hg4.output,hg4.size,hg4.block⟩⟩
theorem vd_ (n m:Nat) (R:List Int×List Int) (w:World) (k:Nat):zf_ n m R w (.returned (.tuple #[.slice (some ⟨w.heap.size+1,0,none⟩) n n,.slice (some ⟨w.heap.size,0,none⟩) m m])) (((w.drewN k).alloc (.cells (xi_ R.2) 3)).alloc (.cells (xi_ R.1) 3)):=by
 obtain⟨c1,c2,he,g1,g2,gne,h1,h2,hg4⟩:=km_ n m R w k;exact⟨c1,c2,he,g1,g2,gne,h1,h2,⟨hg4.os,hg4.tape,hg4.output,hg4.size,hg4.block⟩⟩
end Go.Proofs.YtcgbfhpmkpglkaaGreatDoor.Bl
