/- Texts put together: BlT8, BlT9. -/
import Derived.Test.YtcgbfhpmkpglkaaGreatDoorQ31
set_option linter.unusedVariables false
set_option linter.unusedSimpArgs false
set_option maxHeartbeats 8000000
namespace Go.Proofs.YtcgbfhpmkpglkaaGreatDoor.Bl
open Go.RowKit
attribute [local go_sem ↓] Go.wp_at_zero Go.wp_at_succ
theorem yv_ (n m:Nat) (R:List Int×List Int) (w:World):zf_ n m R w (.returned (.tuple #[.slice (some ⟨w.heap.size,0,none⟩) n n,.slice (some ⟨w.heap.size+1,0,none⟩) m m])) ((w.alloc (.cells (xi_ R.1) 3)).alloc (.cells (xi_ R.2) 3)):=
 ⟨w.heap.size,w.heap.size+1,rfl,by omega,by omega,by omega,(xh_ (by simp) _).trans (xj_ (by simp) _),xj_ (by simp) _,xb_ (xb_ gz_ _) _⟩
set_option maxRecDepth 10000 in
theorem akv_:qq_ q7_ 1 1 [1] [1,1] srF:=by
 intro vs vi l li now w hr hri;obtain⟨a0,e⟩:=qp_ 1 l;obtain⟨c0,c1,e'⟩:=qy_ 1 1 li;have HR:Hid (rd w vs l):=hr;have HRI:Hid (rd w vi li):=hri;have HE:Hid (xm_ (yb_ srS) l=_):=e;have HE':Hid (xm_ (yb_ srI) li=_):=e';rw[e,e'];clear hr hri e e';have h_x0:=ye_ a0;have h_i0:=ye_ c0;have h_i1:=ye_ c1;have h_now:=yo_ now;generalize xd_ 1 a0=x0 at *;generalize xd_ 1 c0=i0 at *;generalize xd_ 1 c1=i1 at *;have hlS:srS.length=1:=rfl;have hlI:srI.length=2:=rfl;unfold q7_;rcases h_x0 with rfl|rfl
 · rcases h_i0 with rfl|rfl
   · rcases h_i1 with rfl|rfl
     · skip
       have hF:srF [0] [0,0] (xd_ 5 now)=([0],[0]):=(by simp[srF,srN,rsN,y2_,zr_]);rw[hF];clear hF;go_enter Tryz.func47,Tryz.ntmps47;go_wp2_with fail
       refine(z0_ _).mono ?_;rintro e w1 ⟨v,rfl,⟨r1,r2,r3,rfl,_,_,_,_,_,_,R1,R2,R3⟩,hg1⟩;go_wp2_with fail
       refine(xp_ srS (by decide) r3 vs l _ ?_ ?_).mono ?_
       ·exact(xh_ (xg_ R3) _).trans R3
       ·exact xo_ HR.out (xb_ hg1 _)
       rintro e w2 ⟨rfl,S2,hg2⟩;have X2:=xa_ (kept hg2 (heap_alloc_new w1 _)) 0;simp at X2;go_wp2_with fail
       refine(xp_ srI (by decide) r1 vi li _ ?_ ?_).mono ?_
       ·exact kept hg2 ((xh_ (xg_ R1) _).trans R1)
       ·exact xo_ HRI.out ((xb_ hg1 _).trans hg2)
       rintro e w3 ⟨rfl,I3,hg3⟩;have S3:=kept hg3 S2;rw[HE.out] at S3;rw[HE'.out] at I3;have hgw:w.grownBy w3 none:=((xb_ hg1 _).trans hg2).trans hg3;have ls:=xg_ S3;have li3:=xg_ I3;clear X2 R1 R2 R3 S2 hg1 hg2 hg3;simp only[World.size_alloc] at S3 ls;generalize w1.heap.size+1=cs at S3 ls ⊢;generalize w2.heap.size=ci at I3 li3 ⊢;have p0:=xa_ S3 0;have q0:=xa_ I3 0;have q1:=xa_ I3 1;simp[xi_] at p0 q0 q1;go_wp2_with (first|(go_at_call 28;refine(xl_ _ _).mono ?_;rintro e w' ⟨rfl,rfl⟩)|(go_at_call 42;refine(xq_ _ _ _).mono ?_;rintro e w' ⟨rfl,rfl⟩))
       all_goals go_ret2
       all_goals first|exact xy_ (yv_ _ _ _ _) hgw|exact xy_ (x7_ _ _ _ _) hgw
     · skip
       have hF:srF [0] [0,1] (xd_ 5 now)=([0],[0]):=(by simp[srF,srN,rsN,y2_,zr_]);rw[hF];clear hF;go_enter Tryz.func47,Tryz.ntmps47;go_wp2_with fail
       refine(z0_ _).mono ?_;rintro e w1 ⟨v,rfl,⟨r1,r2,r3,rfl,_,_,_,_,_,_,R1,R2,R3⟩,hg1⟩;go_wp2_with fail
       refine(xp_ srS (by decide) r3 vs l _ ?_ ?_).mono ?_
       ·exact(xh_ (xg_ R3) _).trans R3
       ·exact xo_ HR.out (xb_ hg1 _)
       rintro e w2 ⟨rfl,S2,hg2⟩;have X2:=xa_ (kept hg2 (heap_alloc_new w1 _)) 0;simp at X2;go_wp2_with fail
       refine(xp_ srI (by decide) r1 vi li _ ?_ ?_).mono ?_
       ·exact kept hg2 ((xh_ (xg_ R1) _).trans R1)
       ·exact xo_ HRI.out ((xb_ hg1 _).trans hg2)
       rintro e w3 ⟨rfl,I3,hg3⟩;have S3:=kept hg3 S2;rw[HE.out] at S3;rw[HE'.out] at I3;have hgw:w.grownBy w3 none:=((xb_ hg1 _).trans hg2).trans hg3;have ls:=xg_ S3;have li3:=xg_ I3;clear X2 R1 R2 R3 S2 hg1 hg2 hg3;simp only[World.size_alloc] at S3 ls;generalize w1.heap.size+1=cs at S3 ls ⊢;generalize w2.heap.size=ci at I3 li3 ⊢;have p0:=xa_ S3 0;have q0:=xa_ I3 0;have q1:=xa_ I3 1;simp[xi_] at p0 q0 q1;go_wp2_with (first|(go_at_call 28;refine(xl_ _ _).mono ?_;rintro e w' ⟨rfl,rfl⟩)|(go_at_call 42;refine(xq_ _ _ _).mono ?_;rintro e w' ⟨rfl,rfl⟩))
       all_goals go_ret2
       all_goals first|exact xy_ (yv_ _ _ _ _) hgw|exact xy_ (x7_ _ _ _ _) hgw
   · rcases h_i1 with rfl|rfl
     · skip
       have hF:srF [0] [1,0] (xd_ 5 now)=([1],[1]):=(by simp[srF,srN,rsN,y2_,zr_]);rw[hF];clear hF;go_enter Tryz.func47,Tryz.ntmps47;go_wp2_with fail
       refine(z0_ _).mono ?_;rintro e w1 ⟨v,rfl,⟨r1,r2,r3,rfl,_,_,_,_,_,_,R1,R2,R3⟩,hg1⟩;go_wp2_with fail
       refine(xp_ srS (by decide) r3 vs l _ ?_ ?_).mono ?_
       ·exact(xh_ (xg_ R3) _).trans R3
       ·exact xo_ HR.out (xb_ hg1 _)
       rintro e w2 ⟨rfl,S2,hg2⟩;have X2:=xa_ (kept hg2 (heap_alloc_new w1 _)) 0;simp at X2;go_wp2_with fail
       refine(xp_ srI (by decide) r1 vi li _ ?_ ?_).mono ?_
       ·exact kept hg2 ((xh_ (xg_ R1) _).trans R1)
       ·exact xo_ HRI.out ((xb_ hg1 _).trans hg2)
       rintro e w3 ⟨rfl,I3,hg3⟩;have S3:=kept hg3 S2;rw[HE.out] at S3;rw[HE'.out] at I3;have hgw:w.grownBy w3 none:=((xb_ hg1 _).trans hg2).trans hg3;have ls:=xg_ S3;have li3:=xg_ I3;clear X2 R1 R2 R3 S2 hg1 hg2 hg3;simp only[World.size_alloc] at S3 ls;generalize w1.heap.size+1=cs at S3 ls ⊢;generalize w2.heap.size=ci at I3 li3 ⊢;have p0:=xa_ S3 0;have q0:=xa_ I3 0;have q1:=xa_ I3 1;simp[xi_] at p0 q0 q1;go_wp2_with (first|(go_at_call 28;refine(xl_ _ _).mono ?_;rintro e w' ⟨rfl,rfl⟩)|(go_at_call 42;refine(xq_ _ _ _).mono ?_;rintro e w' ⟨rfl,rfl⟩))
       all_goals go_ret2
       all_goals first|exact xy_ (yv_ _ _ _ _) hgw|exact xy_ (x7_ _ _ _ _) hgw
     · skip
       have hF:srF [0] [1,1] (xd_ 5 now)=([1],[1]):=(by simp[srF,srN,rsN,y2_,zr_]);rw[hF];clear hF;go_enter Tryz.func47,Tryz.ntmps47;go_wp2_with fail
       refine(z0_ _).mono ?_;rintro e w1 ⟨v,rfl,⟨r1,r2,r3,rfl,_,_,_,_,_,_,R1,R2,R3⟩,hg1⟩;go_wp2_with fail
       refine(xp_ srS (by decide) r3 vs l _ ?_ ?_).mono ?_
       ·exact(xh_ (xg_ R3) _).trans R3
       ·exact xo_ HR.out (xb_ hg1 _)
       rintro e w2 ⟨rfl,S2,hg2⟩;have X2:=xa_ (kept hg2 (heap_alloc_new w1 _)) 0;simp at X2;go_wp2_with fail
       refine(xp_ srI (by decide) r1 vi li _ ?_ ?_).mono ?_
       ·exact kept hg2 ((xh_ (xg_ R1) _).trans R1)
       ·exact xo_ HRI.out ((xb_ hg1 _).trans hg2)
       rintro e w3 ⟨rfl,I3,hg3⟩;have S3:=kept hg3 S2;rw[HE.out] at S3;rw[HE'.out] at I3;have hgw:w.grownBy w3 none:=((xb_ hg1 _).trans hg2).trans hg3;have ls:=xg_ S3;have li3:=xg_ I3;clear X2 R1 R2 R3 S2 hg1 hg2 hg3;simp only[World.size_alloc] at S3 ls;generalize w1.heap.size+1=cs at S3 ls ⊢;generalize w2.heap.size=ci at I3 li3 ⊢;have p0:=xa_ S3 0;have q0:=xa_ I3 0;have q1:=xa_ I3 1;simp[xi_] at p0 q0 q1;go_wp2_with (first|(go_at_call 28;refine(xl_ _ _).mono ?_;rintro e w' ⟨rfl,rfl⟩)|(go_at_call 42;refine(xq_ _ _ _).mono ?_;rintro e w' ⟨rfl,rfl⟩))
       all_goals go_ret2
       all_goals first|exact xy_ (yv_ _ _ _ _) hgw|exact xy_ (x7_ _ _ _ _) hgw
 · rcases h_i0 with rfl|rfl
   · rcases h_i1 with rfl|rfl
     · skip
       have hF:srF [1] [0,0] (xd_ 5 now)=([1],[1]):=(by simp[srF,srN,rsN,y2_,zr_]);rw[hF];clear hF;go_enter Tryz.func47,Tryz.ntmps47;go_wp2_with fail
       refine(z0_ _).mono ?_;rintro e w1 ⟨v,rfl,⟨r1,r2,r3,rfl,_,_,_,_,_,_,R1,R2,R3⟩,hg1⟩;go_wp2_with fail
       refine(xp_ srS (by decide) r3 vs l _ ?_ ?_).mono ?_
       ·exact(xh_ (xg_ R3) _).trans R3
       ·exact xo_ HR.out (xb_ hg1 _)
       rintro e w2 ⟨rfl,S2,hg2⟩;have X2:=xa_ (kept hg2 (heap_alloc_new w1 _)) 0;simp at X2;go_wp2_with fail
       refine(xp_ srI (by decide) r1 vi li _ ?_ ?_).mono ?_
       ·exact kept hg2 ((xh_ (xg_ R1) _).trans R1)
       ·exact xo_ HRI.out ((xb_ hg1 _).trans hg2)
       rintro e w3 ⟨rfl,I3,hg3⟩;have S3:=kept hg3 S2;rw[HE.out] at S3;rw[HE'.out] at I3;have hgw:w.grownBy w3 none:=((xb_ hg1 _).trans hg2).trans hg3;have ls:=xg_ S3;have li3:=xg_ I3;clear X2 R1 R2 R3 S2 hg1 hg2 hg3;simp only[World.size_alloc] at S3 ls;generalize w1.heap.size+1=cs at S3 ls ⊢;generalize w2.heap.size=ci at I3 li3 ⊢;have p0:=xa_ S3 0;have q0:=xa_ I3 0;have q1:=xa_ I3 1;simp[xi_] at p0 q0 q1;go_wp2_with (first|(go_at_call 28;refine(xl_ _ _).mono ?_;rintro e w' ⟨rfl,rfl⟩)|(go_at_call 42;refine(xq_ _ _ _).mono ?_;rintro e w' ⟨rfl,rfl⟩))
       all_goals go_ret2
       all_goals first|exact xy_ (yv_ _ _ _ _) hgw|exact xy_ (x7_ _ _ _ _) hgw
     · skip
       have hF:srF [1] [0,1] (xd_ 5 now)=([0],[0]):=(by simp[srF,srN,rsN,y2_,zr_]);rw[hF];clear hF;go_enter Tryz.func47,Tryz.ntmps47;go_wp2_with fail
       refine(z0_ _).mono ?_;rintro e w1 ⟨v,rfl,⟨r1,r2,r3,rfl,_,_,_,_,_,_,R1,R2,R3⟩,hg1⟩;go_wp2_with fail
       refine(xp_ srS (by decide) r3 vs l _ ?_ ?_).mono ?_
       ·exact(xh_ (xg_ R3) _).trans R3
       ·exact xo_ HR.out (xb_ hg1 _)
       rintro e w2 ⟨rfl,S2,hg2⟩;have X2:=xa_ (kept hg2 (heap_alloc_new w1 _)) 0;simp at X2;go_wp2_with fail
       refine(xp_ srI (by decide) r1 vi li _ ?_ ?_).mono ?_
       ·exact kept hg2 ((xh_ (xg_ R1) _).trans R1)
       ·exact xo_ HRI.out ((xb_ hg1 _).trans hg2)
       rintro e w3 ⟨rfl,I3,hg3⟩;have S3:=kept hg3 S2;rw[HE.out] at S3;rw[HE'.out] at I3;have hgw:w.grownBy w3 none:=((xb_ hg1 _).trans hg2).trans hg3;have ls:=xg_ S3;have li3:=xg_ I3;clear X2 R1 R2 R3 S2 hg1 hg2 hg3;simp only[World.size_alloc] at S3 ls;generalize w1.heap.size+1=cs at S3 ls ⊢;generalize w2.heap.size=ci at I3 li3 ⊢;have p0:=xa_ S3 0;have q0:=xa_ I3 0;have q1:=xa_ I3 1;simp[xi_] at p0 q0 q1;go_wp2_with (first|(go_at_call 28;refine(xl_ _ _).mono ?_;rintro e w' ⟨rfl,rfl⟩)|(go_at_call 42;refine(xq_ _ _ _).mono ?_;rintro e w' ⟨rfl,rfl⟩))
       all_goals go_ret2
       all_goals first|exact xy_ (yv_ _ _ _ _) hgw|exact xy_ (x7_ _ _ _ _) hgw
   · rcases h_i1 with rfl|rfl
     · skip
       have hF:srF [1] [1,0] (xd_ 5 now)=([1],[1]):=(by simp[srF,srN,rsN,y2_,zr_]);rw[hF];clear hF;go_enter Tryz.func47,Tryz.ntmps47;go_wp2_with fail
       refine(z0_ _).mono ?_;rintro e w1 ⟨v,rfl,⟨r1,r2,r3,rfl,_,_,_,_,_,_,R1,R2,R3⟩,hg1⟩;go_wp2_with fail
       refine(xp_ srS (by decide) r3 vs l _ ?_ ?_).mono ?_
       ·exact(xh_ (xg_ R3) _).trans R3
       ·exact xo_ HR.out (xb_ hg1 _)
       rintro e w2 ⟨rfl,S2,hg2⟩;have X2:=xa_ (kept hg2 (heap_alloc_new w1 _)) 0;simp at X2;go_wp2_with fail
       refine(xp_ srI (by decide) r1 vi li _ ?_ ?_).mono ?_
       ·exact kept hg2 ((xh_ (xg_ R1) _).trans R1)
       ·exact xo_ HRI.out ((xb_ hg1 _).trans hg2)
       rintro e w3 ⟨rfl,I3,hg3⟩;have S3:=kept hg3 S2;rw[HE.out] at S3;rw[HE'.out] at I3;have hgw:w.grownBy w3 none:=((xb_ hg1 _).trans hg2).trans hg3;have ls:=xg_ S3;have li3:=xg_ I3;clear X2 R1 R2 R3 S2 hg1 hg2 hg3;simp only[World.size_alloc] at S3 ls;generalize w1.heap.size+1=cs at S3 ls ⊢;generalize w2.heap.size=ci at I3 li3 ⊢;have p0:=xa_ S3 0;have q0:=xa_ I3 0;have q1:=xa_ I3 1;simp[xi_] at p0 q0 q1;go_wp2_with (first|(go_at_call 28;refine(xl_ _ _).mono ?_;rintro e w' ⟨rfl,rfl⟩)|(go_at_call 42;refine(xq_ _ _ _).mono ?_;rintro e w' ⟨rfl,rfl⟩))
       all_goals go_ret2
       all_goals first|exact xy_ (yv_ _ _ _ _) hgw|exact xy_ (x7_ _ _ _ _) hgw
     · skip
       have hF:srF [1] [1,1] (xd_ 5 now)=([1],[1]):=(by simp[srF,srN,rsN,y2_,zr_]);rw[hF];clear hF;go_enter Tryz.func47,Tryz.ntmps47;go_wp2_with fail
       refine(z0_ _).mono ?_;rintro e w1 ⟨v,rfl,⟨r1,r2,r3,rfl,_,_,_,_,_,_,R1,R2,R3⟩,hg1⟩;go_wp2_with fail
       refine(xp_ srS (by decide) r3 vs l _ ?_ ?_).mono ?_
       ·exact(xh_ (xg_ R3) _).trans R3
       ·exact xo_ HR.out (xb_ hg1 _)
       rintro e w2 ⟨rfl,S2,hg2⟩;have X2:=xa_ (kept hg2 (heap_alloc_new w1 _)) 0;simp at X2;go_wp2_with fail
       refine(xp_ srI (by decide) r1 vi li _ ?_ ?_).mono ?_
       ·exact kept hg2 ((xh_ (xg_ R1) _).trans R1)
       ·exact xo_ HRI.out ((xb_ hg1 _).trans hg2)
       rintro e w3 ⟨rfl,I3,hg3⟩;have S3:=kept hg3 S2;rw[HE.out] at S3;rw[HE'.out] at I3;have hgw:w.grownBy w3 none:=((xb_ hg1 _).trans hg2).trans hg3;have ls:=xg_ S3;have li3:=xg_ I3;clear X2 R1 R2 R3 S2 hg1 hg2 hg3;simp only[World.size_alloc] at S3 ls;generalize w1.heap.size+1=cs at S3 ls ⊢;generalize w2.heap.size=ci at I3 li3 ⊢;have p0:=xa_ S3 0;have q0:=xa_ I3 0;have q1:=xa_ I3 1;simp[xi_] at p0 q0 q1;go_wp2_with (first|(go_at_call 28;refine(xl_ _ _).mono ?_;rintro e w' ⟨rfl,rfl⟩)|(go_at_call 42;refine(xq_ _ _ _).mono ?_;rintro e w' ⟨rfl,rfl⟩))
       all_goals go_ret2
       all_goals first|exact xy_ (yv_ _ _ _ _) hgw|exact xy_ (x7_ _ _ _ _) hgw
set_option maxRecDepth 10000 in
theorem akw_:qq_ q8_ 1 1 [1] [1,1] rsF:=by
 intro vs vi l li now w hr hri;obtain⟨a0,e⟩:=qp_ 1 l;obtain⟨c0,c1,e'⟩:=qy_ 1 1 li;have HR:Hid (rd w vs l):=hr;have HRI:Hid (rd w vi li):=hri;have HE:Hid (xm_ (yb_ rsS) l=_):=e;have HE':Hid (xm_ (yb_ rsI) li=_):=e';rw[e,e'];clear hr hri e e';have h_x0:=ye_ a0;have h_i0:=ye_ c0;have h_i1:=ye_ c1;have h_now:=yo_ now;generalize xd_ 1 a0=x0 at *;generalize xd_ 1 c0=i0 at *;generalize xd_ 1 c1=i1 at *;have hlS:rsS.length=1:=rfl;have hlI:rsI.length=2:=rfl;unfold q8_;rcases h_x0 with rfl|rfl
 · rcases h_i0 with rfl|rfl
   · rcases h_i1 with rfl|rfl
     · skip
       have hF:rsF [0] [0,0] (xd_ 5 now)=([0],[0]):=(by simp[rsF,srN,rsN,y2_,zr_]);rw[hF];clear hF;go_enter Tryz.func47,Tryz.ntmps47;go_wp2_with fail
       refine(z1_ _).mono ?_;rintro e w1 ⟨v,rfl,⟨r1,r2,r3,rfl,_,_,_,_,_,_,R1,R2,R3⟩,hg1⟩;go_wp2_with fail
       refine(xp_ rsS (by decide) r3 vs l _ ?_ ?_).mono ?_
       ·exact(xh_ (xg_ R3) _).trans R3
       ·exact xo_ HR.out (xb_ hg1 _)
       rintro e w2 ⟨rfl,S2,hg2⟩;have X2:=xa_ (kept hg2 (heap_alloc_new w1 _)) 0;simp at X2;go_wp2_with fail
       refine(xp_ rsI (by decide) r1 vi li _ ?_ ?_).mono ?_
       ·exact kept hg2 ((xh_ (xg_ R1) _).trans R1)
       ·exact xo_ HRI.out ((xb_ hg1 _).trans hg2)
       rintro e w3 ⟨rfl,I3,hg3⟩;have S3:=kept hg3 S2;rw[HE.out] at S3;rw[HE'.out] at I3;have hgw:w.grownBy w3 none:=((xb_ hg1 _).trans hg2).trans hg3;have ls:=xg_ S3;have li3:=xg_ I3;clear X2 R1 R2 R3 S2 hg1 hg2 hg3;simp only[World.size_alloc] at S3 ls;generalize w1.heap.size+1=cs at S3 ls ⊢;generalize w2.heap.size=ci at I3 li3 ⊢;have p0:=xa_ S3 0;have q0:=xa_ I3 0;have q1:=xa_ I3 1;simp[xi_] at p0 q0 q1;go_wp2_with (first|(go_at_call 28;refine(xl_ _ _).mono ?_;rintro e w' ⟨rfl,rfl⟩)|(go_at_call 42;refine(xq_ _ _ _).mono ?_;rintro e w' ⟨rfl,rfl⟩))
       all_goals go_ret2
       all_goals first|exact xy_ (yv_ _ _ _ _) hgw|exact xy_ (x7_ _ _ _ _) hgw
     · skip
       have hF:rsF [0] [0,1] (xd_ 5 now)=([0],[0]):=(by simp[rsF,srN,rsN,y2_,zr_]);rw[hF];clear hF;go_enter Tryz.func47,Tryz.ntmps47;go_wp2_with fail
       refine(z1_ _).mono ?_;rintro e w1 ⟨v,rfl,⟨r1,r2,r3,rfl,_,_,_,_,_,_,R1,R2,R3⟩,hg1⟩;go_wp2_with fail
       refine(xp_ rsS (by decide) r3 vs l _ ?_ ?_).mono ?_
       ·exact(xh_ (xg_ R3) _).trans R3
       ·exact xo_ HR.out (xb_ hg1 _)
       rintro e w2 ⟨rfl,S2,hg2⟩;have X2:=xa_ (kept hg2 (heap_alloc_new w1 _)) 0;simp at X2;go_wp2_with fail
       refine(xp_ rsI (by decide) r1 vi li _ ?_ ?_).mono ?_
       ·exact kept hg2 ((xh_ (xg_ R1) _).trans R1)
       ·exact xo_ HRI.out ((xb_ hg1 _).trans hg2)
       rintro e w3 ⟨rfl,I3,hg3⟩;have S3:=kept hg3 S2;rw[HE.out] at S3;rw[HE'.out] at I3;have hgw:w.grownBy w3 none:=((xb_ hg1 _).trans hg2).trans hg3;have ls:=xg_ S3;have li3:=xg_ I3;clear X2 R1 R2 R3 S2 hg1 hg2 hg3;simp only[World.size_alloc] at S3 ls;generalize w1.heap.size+1=cs at S3 ls ⊢;generalize w2.heap.size=ci at I3 li3 ⊢;have p0:=xa_ S3 0;have q0:=xa_ I3 0;have q1:=xa_ I3 1;simp[xi_] at p0 q0 q1;go_wp2_with (first|(go_at_call 28;refine(xl_ _ _).mono ?_;rintro e w' ⟨rfl,rfl⟩)|(go_at_call 42;refine(xq_ _ _ _).mono ?_;rintro e w' ⟨rfl,rfl⟩))
       all_goals go_ret2
       all_goals first|exact xy_ (yv_ _ _ _ _) hgw|exact xy_ (x7_ _ _ _ _) hgw
   · rcases h_i1 with rfl|rfl
     · skip
       have hF:rsF [0] [1,0] (xd_ 5 now)=([1],[1]):=(by simp[rsF,srN,rsN,y2_,zr_]);rw[hF];clear hF;go_enter Tryz.func47,Tryz.ntmps47;go_wp2_with fail
       refine(z1_ _).mono ?_;rintro e w1 ⟨v,rfl,⟨r1,r2,r3,rfl,_,_,_,_,_,_,R1,R2,R3⟩,hg1⟩;go_wp2_with fail
       refine(xp_ rsS (by decide) r3 vs l _ ?_ ?_).mono ?_
       ·exact(xh_ (xg_ R3) _).trans R3
       ·exact xo_ HR.out (xb_ hg1 _)
       rintro e w2 ⟨rfl,S2,hg2⟩;have X2:=xa_ (kept hg2 (heap_alloc_new w1 _)) 0;simp at X2;go_wp2_with fail
       refine(xp_ rsI (by decide) r1 vi li _ ?_ ?_).mono ?_
       ·exact kept hg2 ((xh_ (xg_ R1) _).trans R1)
       ·exact xo_ HRI.out ((xb_ hg1 _).trans hg2)
       rintro e w3 ⟨rfl,I3,hg3⟩;have S3:=kept hg3 S2;rw[HE.out] at S3;rw[HE'.out] at I3;have hgw:w.grownBy w3 none:=((xb_ hg1 _).trans hg2).trans hg3;have ls:=xg_ S3;have li3:=xg_ I3;clear X2 R1 R2 R3 S2 hg1 hg2 hg3;simp only[World.size_alloc] at S3 ls;generalize w1.heap.size+1=cs at S3 ls ⊢;generalize w2.heap.size=ci at I3 li3 ⊢;have p0:=xa_ S3 0;have q0:=xa_ I3 0;have q1:=xa_ I3 1;simp[xi_] at p0 q0 q1;go_wp2_with (first|(go_at_call 28;refine(xl_ _ _).mono ?_;rintro e w' ⟨rfl,rfl⟩)|(go_at_call 42;refine(xq_ _ _ _).mono ?_;rintro e w' ⟨rfl,rfl⟩))
       all_goals go_ret2
       all_goals first|exact xy_ (yv_ _ _ _ _) hgw|exact xy_ (x7_ _ _ _ _) hgw
     · skip
       have hF:rsF [0] [1,1] (xd_ 5 now)=([0],[0]):=(by simp[rsF,srN,rsN,y2_,zr_]);rw[hF];clear hF;go_enter Tryz.func47,Tryz.ntmps47;go_wp2_with fail
       refine(z1_ _).mono ?_;rintro e w1 ⟨v,rfl,⟨r1,r2,r3,rfl,_,_,_,_,_,_,R1,R2,R3⟩,hg1⟩;go_wp2_with fail
       refine(xp_ rsS (by decide) r3 vs l _ ?_ ?_).mono ?_
       ·exact(xh_ (xg_ R3) _).trans R3
       ·exact xo_ HR.out (xb_ hg1 _)
       rintro e w2 ⟨rfl,S2,hg2⟩;have X2:=xa_ (kept hg2 (heap_alloc_new w1 _)) 0;simp at X2;go_wp2_with fail
       refine(xp_ rsI (by decide) r1 vi li _ ?_ ?_).mono ?_
       ·exact kept hg2 ((xh_ (xg_ R1) _).trans R1)
       ·exact xo_ HRI.out ((xb_ hg1 _).trans hg2)
       rintro e w3 ⟨rfl,I3,hg3⟩;have S3:=kept hg3 S2;rw[HE.out] at S3;rw[HE'.out] at I3;have hgw:w.grownBy w3 none:=((xb_ hg1 _).trans hg2).trans hg3;have ls:=xg_ S3;have li3:=xg_ I3;clear X2 R1 R2 R3 S2 hg1 hg2 hg3;simp only[World.size_alloc] at S3 ls;generalize w1.heap.size+1=cs at S3 ls ⊢;generalize w2.heap.size=ci at I3 li3 ⊢;have p0:=xa_ S3 0;have q0:=xa_ I3 0;have q1:=xa_ I3 1;simp[xi_] at p0 q0 q1;go_wp2_with (first|(go_at_call 28;refine(xl_ _ _).mono ?_;rintro e w' ⟨rfl,rfl⟩)|(go_at_call 42;refine(xq_ _ _ _).mono ?_;rintro e w' ⟨rfl,rfl⟩))
       all_goals go_ret2
       all_goals first|exact xy_ (yv_ _ _ _ _) hgw|exact xy_ (x7_ _ _ _ _) hgw
 · rcases h_i0 with rfl|rfl
   · rcases h_i1 with rfl|rfl
     · skip
       have hF:rsF [1] [0,0] (xd_ 5 now)=([1],[1]):=(by simp[rsF,srN,rsN,y2_,zr_]);rw[hF];clear hF;go_enter Tryz.func47,Tryz.ntmps47;go_wp2_with fail
       refine(z1_ _).mono ?_;rintro e w1 ⟨v,rfl,⟨r1,r2,r3,rfl,_,_,_,_,_,_,R1,R2,R3⟩,hg1⟩;go_wp2_with fail
       refine(xp_ rsS (by decide) r3 vs l _ ?_ ?_).mono ?_
       ·exact(xh_ (xg_ R3) _).trans R3
       ·exact xo_ HR.out (xb_ hg1 _)
       rintro e w2 ⟨rfl,S2,hg2⟩;have X2:=xa_ (kept hg2 (heap_alloc_new w1 _)) 0;simp at X2;go_wp2_with fail
       refine(xp_ rsI (by decide) r1 vi li _ ?_ ?_).mono ?_
       ·exact kept hg2 ((xh_ (xg_ R1) _).trans R1)
       ·exact xo_ HRI.out ((xb_ hg1 _).trans hg2)
       rintro e w3 ⟨rfl,I3,hg3⟩;have S3:=kept hg3 S2;rw[HE.out] at S3;rw[HE'.out] at I3;have hgw:w.grownBy w3 none:=((xb_ hg1 _).trans hg2).trans hg3;have ls:=xg_ S3;have li3:=xg_ I3;clear X2 R1 R2 R3 S2 hg1 hg2 hg3;simp only[World.size_alloc] at S3 ls;generalize w1.heap.size+1=cs at S3 ls ⊢;generalize w2.heap.size=ci at I3 li3 ⊢;have p0:=xa_ S3 0;have q0:=xa_ I3 0;have q1:=xa_ I3 1;simp[xi_] at p0 q0 q1;go_wp2_with (first|(go_at_call 28;refine(xl_ _ _).mono ?_;rintro e w' ⟨rfl,rfl⟩)|(go_at_call 42;refine(xq_ _ _ _).mono ?_;rintro e w' ⟨rfl,rfl⟩))
       all_goals go_ret2
       all_goals first|exact xy_ (yv_ _ _ _ _) hgw|exact xy_ (x7_ _ _ _ _) hgw
     · skip
       have hF:rsF [1] [0,1] (xd_ 5 now)=([0],[0]):=(by simp[rsF,srN,rsN,y2_,zr_]);rw[hF];clear hF;go_enter Tryz.func47,Tryz.ntmps47;go_wp2_with fail
       refine(z1_ _).mono ?_;rintro e w1 ⟨v,rfl,⟨r1,r2,r3,rfl,_,_,_,_,_,_,R1,R2,R3⟩,hg1⟩;go_wp2_with fail
       refine(xp_ rsS (by decide) r3 vs l _ ?_ ?_).mono ?_
       ·exact(xh_ (xg_ R3) _).trans R3
       ·exact xo_ HR.out (xb_ hg1 _)
       rintro e w2 ⟨rfl,S2,hg2⟩;have X2:=xa_ (kept hg2 (heap_alloc_new w1 _)) 0;simp at X2;go_wp2_with fail
       refine(xp_ rsI (by decide) r1 vi li _ ?_ ?_).mono ?_
       ·exact kept hg2 ((xh_ (xg_ R1) _).trans R1)
       ·exact xo_ HRI.out ((xb_ hg1 _).trans hg2)
       rintro e w3 ⟨rfl,I3,hg3⟩;have S3:=kept hg3 S2;rw[HE.out] at S3;rw[HE'.out] at I3;have hgw:w.grownBy w3 none:=((xb_ hg1 _).trans hg2).trans hg3;have ls:=xg_ S3;have li3:=xg_ I3;clear X2 R1 R2 R3 S2 hg1 hg2 hg3;simp only[World.size_alloc] at S3 ls;generalize w1.heap.size+1=cs at S3 ls ⊢;generalize w2.heap.size=ci at I3 li3 ⊢;have p0:=xa_ S3 0;have q0:=xa_ I3 0;have q1:=xa_ I3 1;simp[xi_] at p0 q0 q1;go_wp2_with (first|(go_at_call 28;refine(xl_ _ _).mono ?_;rintro e w' ⟨rfl,rfl⟩)|(go_at_call 42;refine(xq_ _ _ _).mono ?_;rintro e w' ⟨rfl,rfl⟩))
       all_goals go_ret2
       all_goals first|exact xy_ (yv_ _ _ _ _) hgw|exact xy_ (x7_ _ _ _ _) hgw
   · rcases h_i1 with rfl|rfl
     · skip
       have hF:rsF [1] [1,0] (xd_ 5 now)=([1],[1]):=(by simp[rsF,srN,rsN,y2_,zr_]);rw[hF];clear hF;go_enter Tryz.func47,Tryz.ntmps47;go_wp2_with fail
       refine(z1_ _).mono ?_;rintro e w1 ⟨v,rfl,⟨r1,r2,r3,rfl,_,_,_,_,_,_,R1,R2,R3⟩,hg1⟩;go_wp2_with fail
       refine(xp_ rsS (by decide) r3 vs l _ ?_ ?_).mono ?_
       ·exact(xh_ (xg_ R3) _).trans R3
       ·exact xo_ HR.out (xb_ hg1 _)
       rintro e w2 ⟨rfl,S2,hg2⟩;have X2:=xa_ (kept hg2 (heap_alloc_new w1 _)) 0;simp at X2;go_wp2_with fail
       refine(xp_ rsI (by decide) r1 vi li _ ?_ ?_).mono ?_
       ·exact kept hg2 ((xh_ (xg_ R1) _).trans R1)
       ·exact xo_ HRI.out ((xb_ hg1 _).trans hg2)
       rintro e w3 ⟨rfl,I3,hg3⟩;have S3:=kept hg3 S2;rw[HE.out] at S3;rw[HE'.out] at I3;have hgw:w.grownBy w3 none:=((xb_ hg1 _).trans hg2).trans hg3;have ls:=xg_ S3;have li3:=xg_ I3;clear X2 R1 R2 R3 S2 hg1 hg2 hg3;simp only[World.size_alloc] at S3 ls;generalize w1.heap.size+1=cs at S3 ls ⊢;generalize w2.heap.size=ci at I3 li3 ⊢;have p0:=xa_ S3 0;have q0:=xa_ I3 0;have q1:=xa_ I3 1;simp[xi_] at p0 q0 q1;go_wp2_with (first|(go_at_call 28;refine(xl_ _ _).mono ?_;rintro e w' ⟨rfl,rfl⟩)|(go_at_call 42;refine(xq_ _ _ _).mono ?_;rintro e w' ⟨rfl,rfl⟩))
       all_goals go_ret2
       all_goals first|exact xy_ (yv_ _ _ _ _) hgw|exact xy_ (x7_ _ _ _ _) hgw
     · skip
       have hF:rsF [1] [1,1] (xd_ 5 now)=([0],[0]):=(by simp[rsF,srN,rsN,y2_,zr_]);rw[hF];clear hF;go_enter Tryz.func47,Tryz.ntmps47;go_wp2_with fail
       refine(z1_ _).mono ?_;rintro e w1 ⟨v,rfl,⟨r1,r2,r3,rfl,_,_,_,_,_,_,R1,R2,R3⟩,hg1⟩;go_wp2_with fail
       refine(xp_ rsS (by decide) r3 vs l _ ?_ ?_).mono ?_
       ·exact(xh_ (xg_ R3) _).trans R3
       ·exact xo_ HR.out (xb_ hg1 _)
       rintro e w2 ⟨rfl,S2,hg2⟩;have X2:=xa_ (kept hg2 (heap_alloc_new w1 _)) 0;simp at X2;go_wp2_with fail
       refine(xp_ rsI (by decide) r1 vi li _ ?_ ?_).mono ?_
       ·exact kept hg2 ((xh_ (xg_ R1) _).trans R1)
       ·exact xo_ HRI.out ((xb_ hg1 _).trans hg2)
       rintro e w3 ⟨rfl,I3,hg3⟩;have S3:=kept hg3 S2;rw[HE.out] at S3;rw[HE'.out] at I3;have hgw:w.grownBy w3 none:=((xb_ hg1 _).trans hg2).trans hg3;have ls:=xg_ S3;have li3:=xg_ I3;clear X2 R1 R2 R3 S2 hg1 hg2 hg3;simp only[World.size_alloc] at S3 ls;generalize w1.heap.size+1=cs at S3 ls ⊢;generalize w2.heap.size=ci at I3 li3 ⊢;have p0:=xa_ S3 0;have q0:=xa_ I3 0;have q1:=xa_ I3 1;simp[xi_] at p0 q0 q1;go_wp2_with (first|(go_at_call 28;refine(xl_ _ _).mono ?_;rintro e w' ⟨rfl,rfl⟩)|(go_at_call 42;refine(xq_ _ _ _).mono ?_;rintro e w' ⟨rfl,rfl⟩))
       all_goals go_ret2
       all_goals first|exact xy_ (yv_ _ _ _ _) hgw|exact xy_ (x7_ _ _ _ _) hgw
set_option maxRecDepth 10000 in
theorem ag1_:qq_ zo_ 1 1 [2] [2,2] zl_:=by
 intro vs vi l li now w hr hri;obtain⟨a0,e⟩:=qp_ 2 l;obtain⟨c0,c1,e'⟩:=qy_ 2 2 li;have HR:Hid (rd w vs l):=hr;have HRI:Hid (rd w vi li):=hri;have HE:Hid (xm_ (yb_ aai_) l=_):=e;have HE':Hid (xm_ (yb_ up_) li=_):=e';rw[e,e'];clear hr hri e e';have h_x0:=q6_ a0;have h_i0:=q6_ c0;have h_i1:=q6_ c1;have h_now:=yo_ now;generalize xd_ 2 a0=x0 at *;generalize xd_ 2 c0=i0 at *;generalize xd_ 2 c1=i1 at *;have hlS:aai_.length=1:=rfl;have hlI:up_.length=2:=rfl;unfold zo_;by_cases k0:0<i1
 · by_cases k1:x0<i0
   · by_cases k2:i0<x0+i1
     · have hv:y2_ x0 i0 i1=i0:=(by unfold y2_;repeat' split;all_goals omega);have hF:zl_ [x0] [i0,i1] (xd_ 5 now)=([i0],[i0]):=(by simp only[zl_,hv]);rw[hF];clear hF;go_enter Tryz.func47,Tryz.ntmps47;go_wp2_with fail
       refine(z2_ _).mono ?_;rintro e w1 ⟨v,rfl,⟨r1,r2,r3,rfl,_,_,_,_,_,_,R1,R2,R3⟩,hg1⟩;go_wp2_with fail
       refine(xp_ aai_ (by decide) r3 vs l _ ?_ ?_).mono ?_
       ·exact(xh_ (xg_ R3) _).trans R3
       ·exact xo_ HR.out (xb_ hg1 _)
       rintro e w2 ⟨rfl,S2,hg2⟩;have X2:=xa_ (kept hg2 (heap_alloc_new w1 _)) 0;simp at X2;go_wp2_with fail
       refine(xp_ up_ (by decide) r1 vi li _ ?_ ?_).mono ?_
       ·exact kept hg2 ((xh_ (xg_ R1) _).trans R1)
       ·exact xo_ HRI.out ((xb_ hg1 _).trans hg2)
       rintro e w3 ⟨rfl,I3,hg3⟩;have S3:=kept hg3 S2;rw[HE.out] at S3;rw[HE'.out] at I3;have hgw:w.grownBy w3 none:=((xb_ hg1 _).trans hg2).trans hg3;have ls:=xg_ S3;have li3:=xg_ I3;clear X2 R1 R2 R3 S2 hg1 hg2 hg3;simp only[World.size_alloc] at S3 ls;generalize w1.heap.size+1=cs at S3 ls ⊢;generalize w2.heap.size=ci at I3 li3 ⊢;have p0:=xa_ S3 0;have q0:=xa_ I3 0;have q1:=xa_ I3 1;simp[xi_] at p0 q0 q1;go_wp2_with (first|(go_at_call 28;refine(xl_ _ _).mono ?_;rintro e w' ⟨rfl,rfl⟩)|(go_at_call 42;refine(xq_ _ _ _).mono ?_;rintro e w' ⟨rfl,rfl⟩))
       all_goals go_ret2
       all_goals first|exact xy_ (yv_ _ _ _ _) hgw|exact xy_ (x7_ _ _ _ _) hgw
     · have hv:y2_ x0 i0 i1=x0+i1:=(by unfold y2_;repeat' split;all_goals omega);have hF:zl_ [x0] [i0,i1] (xd_ 5 now)=([x0+i1],[x0+i1]):=(by simp only[zl_,hv]);rw[hF];clear hF;go_enter Tryz.func47,Tryz.ntmps47;go_wp2_with fail
       refine(z2_ _).mono ?_;rintro e w1 ⟨v,rfl,⟨r1,r2,r3,rfl,_,_,_,_,_,_,R1,R2,R3⟩,hg1⟩;go_wp2_with fail
       refine(xp_ aai_ (by decide) r3 vs l _ ?_ ?_).mono ?_
       ·exact(xh_ (xg_ R3) _).trans R3
       ·exact xo_ HR.out (xb_ hg1 _)
       rintro e w2 ⟨rfl,S2,hg2⟩;have X2:=xa_ (kept hg2 (heap_alloc_new w1 _)) 0;simp at X2;go_wp2_with fail
       refine(xp_ up_ (by decide) r1 vi li _ ?_ ?_).mono ?_
       ·exact kept hg2 ((xh_ (xg_ R1) _).trans R1)
       ·exact xo_ HRI.out ((xb_ hg1 _).trans hg2)
       rintro e w3 ⟨rfl,I3,hg3⟩;have S3:=kept hg3 S2;rw[HE.out] at S3;rw[HE'.out] at I3;have hgw:w.grownBy w3 none:=((xb_ hg1 _).trans hg2).trans hg3;have ls:=xg_ S3;have li3:=xg_ I3;clear X2 R1 R2 R3 S2 hg1 hg2 hg3;simp only[World.size_alloc] at S3 ls;generalize w1.heap.size+1=cs at S3 ls ⊢;generalize w2.heap.size=ci at I3 li3 ⊢;have p0:=xa_ S3 0;have q0:=xa_ I3 0;have q1:=xa_ I3 1;simp[xi_] at p0 q0 q1;go_wp2_with (first|(go_at_call 28;refine(xl_ _ _).mono ?_;rintro e w' ⟨rfl,rfl⟩)|(go_at_call 42;refine(xq_ _ _ _).mono ?_;rintro e w' ⟨rfl,rfl⟩))
       all_goals go_ret2
       all_goals first|exact xy_ (yv_ _ _ _ _) hgw|exact xy_ (x7_ _ _ _ _) hgw
   · by_cases k3:i0<x0
     · by_cases k2:x0 - i1<i0
       · have hv:y2_ x0 i0 i1=i0:=(by unfold y2_;repeat' split;all_goals omega);have hF:zl_ [x0] [i0,i1] (xd_ 5 now)=([i0],[i0]):=(by simp only[zl_,hv]);rw[hF];clear hF;go_enter Tryz.func47,Tryz.ntmps47;go_wp2_with fail
         refine(z2_ _).mono ?_;rintro e w1 ⟨v,rfl,⟨r1,r2,r3,rfl,_,_,_,_,_,_,R1,R2,R3⟩,hg1⟩;go_wp2_with fail
         refine(xp_ aai_ (by decide) r3 vs l _ ?_ ?_).mono ?_
         ·exact(xh_ (xg_ R3) _).trans R3
         ·exact xo_ HR.out (xb_ hg1 _)
         rintro e w2 ⟨rfl,S2,hg2⟩;have X2:=xa_ (kept hg2 (heap_alloc_new w1 _)) 0;simp at X2;go_wp2_with fail
         refine(xp_ up_ (by decide) r1 vi li _ ?_ ?_).mono ?_
         ·exact kept hg2 ((xh_ (xg_ R1) _).trans R1)
         ·exact xo_ HRI.out ((xb_ hg1 _).trans hg2)
         rintro e w3 ⟨rfl,I3,hg3⟩;have S3:=kept hg3 S2;rw[HE.out] at S3;rw[HE'.out] at I3;have hgw:w.grownBy w3 none:=((xb_ hg1 _).trans hg2).trans hg3;have ls:=xg_ S3;have li3:=xg_ I3;clear X2 R1 R2 R3 S2 hg1 hg2 hg3;simp only[World.size_alloc] at S3 ls;generalize w1.heap.size+1=cs at S3 ls ⊢;generalize w2.heap.size=ci at I3 li3 ⊢;have p0:=xa_ S3 0;have q0:=xa_ I3 0;have q1:=xa_ I3 1;simp[xi_] at p0 q0 q1;go_wp2_with (first|(go_at_call 28;refine(xl_ _ _).mono ?_;rintro e w' ⟨rfl,rfl⟩)|(go_at_call 42;refine(xq_ _ _ _).mono ?_;rintro e w' ⟨rfl,rfl⟩))
         all_goals go_ret2
         all_goals first|exact xy_ (yv_ _ _ _ _) hgw|exact xy_ (x7_ _ _ _ _) hgw
       · have hv:y2_ x0 i0 i1=x0 - i1:=(by unfold y2_;repeat' split;all_goals omega);have hF:zl_ [x0] [i0,i1] (xd_ 5 now)=([x0 - i1],[x0 - i1]):=(by simp only[zl_,hv]);rw[hF];clear hF;go_enter Tryz.func47,Tryz.ntmps47;go_wp2_with fail
         refine(z2_ _).mono ?_;rintro e w1 ⟨v,rfl,⟨r1,r2,r3,rfl,_,_,_,_,_,_,R1,R2,R3⟩,hg1⟩;go_wp2_with fail
         refine(xp_ aai_ (by decide) r3 vs l _ ?_ ?_).mono ?_
         ·exact(xh_ (xg_ R3) _).trans R3
         ·exact xo_ HR.out (xb_ hg1 _)
         rintro e w2 ⟨rfl,S2,hg2⟩;have X2:=xa_ (kept hg2 (heap_alloc_new w1 _)) 0;simp at X2;go_wp2_with fail
         refine(xp_ up_ (by decide) r1 vi li _ ?_ ?_).mono ?_
         ·exact kept hg2 ((xh_ (xg_ R1) _).trans R1)
         ·exact xo_ HRI.out ((xb_ hg1 _).trans hg2)
         rintro e w3 ⟨rfl,I3,hg3⟩;have S3:=kept hg3 S2;rw[HE.out] at S3;rw[HE'.out] at I3;have hgw:w.grownBy w3 none:=((xb_ hg1 _).trans hg2).trans hg3;have ls:=xg_ S3;have li3:=xg_ I3;clear X2 R1 R2 R3 S2 hg1 hg2 hg3;simp only[World.size_alloc] at S3 ls;generalize w1.heap.size+1=cs at S3 ls ⊢;generalize w2.heap.size=ci at I3 li3 ⊢;have p0:=xa_ S3 0;have q0:=xa_ I3 0;have q1:=xa_ I3 1;simp[xi_] at p0 q0 q1;go_wp2_with (first|(go_at_call 28;refine(xl_ _ _).mono ?_;rintro e w' ⟨rfl,rfl⟩)|(go_at_call 42;refine(xq_ _ _ _).mono ?_;rintro e w' ⟨rfl,rfl⟩))
         all_goals go_ret2
         all_goals first|exact xy_ (yv_ _ _ _ _) hgw|exact xy_ (x7_ _ _ _ _) hgw
     · have hv:y2_ x0 i0 i1=x0:=(by unfold y2_;repeat' split;all_goals omega);have hF:zl_ [x0] [i0,i1] (xd_ 5 now)=([x0],[x0]):=(by simp only[zl_,hv]);rw[hF];clear hF;go_enter Tryz.func47,Tryz.ntmps47;go_wp2_with fail
       refine(z2_ _).mono ?_;rintro e w1 ⟨v,rfl,⟨r1,r2,r3,rfl,_,_,_,_,_,_,R1,R2,R3⟩,hg1⟩;go_wp2_with fail
       refine(xp_ aai_ (by decide) r3 vs l _ ?_ ?_).mono ?_
       ·exact(xh_ (xg_ R3) _).trans R3
       ·exact xo_ HR.out (xb_ hg1 _)
       rintro e w2 ⟨rfl,S2,hg2⟩;have X2:=xa_ (kept hg2 (heap_alloc_new w1 _)) 0;simp at X2;go_wp2_with fail
       refine(xp_ up_ (by decide) r1 vi li _ ?_ ?_).mono ?_
       ·exact kept hg2 ((xh_ (xg_ R1) _).trans R1)
       ·exact xo_ HRI.out ((xb_ hg1 _).trans hg2)
       rintro e w3 ⟨rfl,I3,hg3⟩;have S3:=kept hg3 S2;rw[HE.out] at S3;rw[HE'.out] at I3;have hgw:w.grownBy w3 none:=((xb_ hg1 _).trans hg2).trans hg3;have ls:=xg_ S3;have li3:=xg_ I3;clear X2 R1 R2 R3 S2 hg1 hg2 hg3;simp only[World.size_alloc] at S3 ls;generalize w1.heap.size+1=cs at S3 ls ⊢;generalize w2.heap.size=ci at I3 li3 ⊢;have p0:=xa_ S3 0;have q0:=xa_ I3 0;have q1:=xa_ I3 1;simp[xi_] at p0 q0 q1;go_wp2_with (first|(go_at_call 28;refine(xl_ _ _).mono ?_;rintro e w' ⟨rfl,rfl⟩)|(go_at_call 42;refine(xq_ _ _ _).mono ?_;rintro e w' ⟨rfl,rfl⟩))
       all_goals go_ret2
       all_goals first|exact xy_ (yv_ _ _ _ _) hgw|exact xy_ (x7_ _ _ _ _) hgw
 · have hv:y2_ x0 i0 i1=x0:=(by unfold y2_;repeat' split;all_goals omega);have hF:zl_ [x0] [i0,i1] (xd_ 5 now)=([x0],[x0]):=(by simp only[zl_,hv]);rw[hF];clear hF;go_enter Tryz.func47,Tryz.ntmps47;go_wp2_with fail
   refine(z2_ _).mono ?_;rintro e w1 ⟨v,rfl,⟨r1,r2,r3,rfl,_,_,_,_,_,_,R1,R2,R3⟩,hg1⟩;go_wp2_with fail
   refine(xp_ aai_ (by decide) r3 vs l _ ?_ ?_).mono ?_
   ·exact(xh_ (xg_ R3) _).trans R3
   ·exact xo_ HR.out (xb_ hg1 _)
   rintro e w2 ⟨rfl,S2,hg2⟩;have X2:=xa_ (kept hg2 (heap_alloc_new w1 _)) 0;simp at X2;go_wp2_with fail
   refine(xp_ up_ (by decide) r1 vi li _ ?_ ?_).mono ?_
   ·exact kept hg2 ((xh_ (xg_ R1) _).trans R1)
   ·exact xo_ HRI.out ((xb_ hg1 _).trans hg2)
   rintro e w3 ⟨rfl,I3,hg3⟩;have S3:=kept hg3 S2;rw[HE.out] at S3;rw[HE'.out] at I3;have hgw:w.grownBy w3 none:=((xb_ hg1 _).trans hg2).trans hg3;have ls:=xg_ S3;have li3:=xg_ I3;clear X2 R1 R2 R3 S2 hg1 hg2 hg3;simp only[World.size_alloc] at S3 ls;generalize w1.heap.size+1=cs at S3 ls ⊢;generalize w2.heap.size=ci at I3 li3 ⊢;have p0:=xa_ S3 0;have q0:=xa_ I3 0;have q1:=xa_ I3 1;simp[xi_] at p0 q0 q1;go_wp2_with (first|(go_at_call 28;refine(xl_ _ _).mono ?_;rintro e w' ⟨rfl,rfl⟩)|(go_at_call 42;refine(xq_ _ _ _).mono ?_;rintro e w' ⟨rfl,rfl⟩))
   all_goals go_ret2
   all_goals first|exact xy_ (yv_ _ _ _ _) hgw|exact xy_ (x7_ _ _ _ _) hgw
set_option maxRecDepth 10000 in
theorem ag2_:qq_ zp_ 1 1 [1] [2,2,2] qh_:=by
 intro vs vi l li now w hr hri;obtain⟨a0,e⟩:=qp_ 1 l;obtain⟨c0,c1,c2,e'⟩:=uq_ 2 2 2 li;have HR:Hid (rd w vs l):=hr;have HRI:Hid (rd w vi li):=hri;have HE:Hid (xm_ (yb_ ab0_) l=_):=e;have HE':Hid (xm_ (yb_ abi_) li=_):=e';rw[e,e'];clear hr hri e e';have h_x0:=ye_ a0;have h_i0:=q6_ c0;have h_i1:=q6_ c1;have h_i2:=q6_ c2;have h_now:=yo_ now;generalize xd_ 1 a0=x0 at *;generalize xd_ 2 c0=i0 at *;generalize xd_ 2 c1=i1 at *;generalize xd_ 2 c2=i2 at *;have hlS:ab0_.length=1:=rfl;have hlI:abi_.length=3:=rfl;unfold zp_;by_cases k0:i1≤i0
 · skip
   have hF:qh_ [x0] [i0,i1,i2] (xd_ 5 now)=([1],[1]):=(by simp[qh_,srN,rsN,y2_,zr_,k0]);rw[hF];clear hF;go_enter Tryz.func47,Tryz.ntmps47;go_wp2_with fail
   refine(jn_ _).mono ?_;rintro e w1 ⟨v,rfl,⟨r1,r2,r3,rfl,_,_,_,_,_,_,R1,R2,R3⟩,hg1⟩;go_wp2_with fail
   refine(xp_ ab0_ (by decide) r3 vs l _ ?_ ?_).mono ?_
   ·exact(xh_ (xg_ R3) _).trans R3
   ·exact xo_ HR.out (xb_ hg1 _)
   rintro e w2 ⟨rfl,S2,hg2⟩;have X2:=xa_ (kept hg2 (heap_alloc_new w1 _)) 0;simp at X2;go_wp2_with fail
   refine(xp_ abi_ (by decide) r1 vi li _ ?_ ?_).mono ?_
   ·exact kept hg2 ((xh_ (xg_ R1) _).trans R1)
   ·exact xo_ HRI.out ((xb_ hg1 _).trans hg2)
   rintro e w3 ⟨rfl,I3,hg3⟩;have S3:=kept hg3 S2;rw[HE.out] at S3;rw[HE'.out] at I3;have hgw:w.grownBy w3 none:=((xb_ hg1 _).trans hg2).trans hg3;have ls:=xg_ S3;have li3:=xg_ I3;clear X2 R1 R2 R3 S2 hg1 hg2 hg3;simp only[World.size_alloc] at S3 ls;generalize w1.heap.size+1=cs at S3 ls ⊢;generalize w2.heap.size=ci at I3 li3 ⊢;have p0:=xa_ S3 0;have q0:=xa_ I3 0;have q1:=xa_ I3 1;have q2:=xa_ I3 2;simp[xi_] at p0 q0 q1 q2;go_wp2_with (first|(go_at_call 28;refine(xl_ _ _).mono ?_;rintro e w' ⟨rfl,rfl⟩)|(go_at_call 42;refine(xq_ _ _ _).mono ?_;rintro e w' ⟨rfl,rfl⟩))
   go_region_held3 (fun w'=>w'.cell? ⟨cs,0,none⟩=some (.int .i64 x0)∧w'.cell? ⟨ci,0,none⟩=some (.int .i64 i0)∧w'.cell? ⟨ci,1,none⟩=some (.int .i64 i1)∧w'.cell? ⟨ci,2,none⟩=some (.int .i64 i2)) (go_keep) (fail)
   all_goals go_wp2_with fail
   all_goals go_ret2
   all_goals first|exact xy_ (x7_ _ _ _ _) (xf_ hgw)|exact xy_ (yv_ _ _ _ _) (xf_ hgw)|exact xy_ (x7_ _ _ _ _) hgw
 · by_cases k1:i0≤i2
   · skip
     have hF:qh_ [x0] [i0,i1,i2] (xd_ 5 now)=([0],[0]):=(by simp[qh_,srN,rsN,y2_,zr_,k0,k1]);rw[hF];clear hF;go_enter Tryz.func47,Tryz.ntmps47;go_wp2_with fail
     refine(jn_ _).mono ?_;rintro e w1 ⟨v,rfl,⟨r1,r2,r3,rfl,_,_,_,_,_,_,R1,R2,R3⟩,hg1⟩;go_wp2_with fail
     refine(xp_ ab0_ (by decide) r3 vs l _ ?_ ?_).mono ?_
     ·exact(xh_ (xg_ R3) _).trans R3
     ·exact xo_ HR.out (xb_ hg1 _)
     rintro e w2 ⟨rfl,S2,hg2⟩;have X2:=xa_ (kept hg2 (heap_alloc_new w1 _)) 0;simp at X2;go_wp2_with fail
     refine(xp_ abi_ (by decide) r1 vi li _ ?_ ?_).mono ?_
     ·exact kept hg2 ((xh_ (xg_ R1) _).trans R1)
     ·exact xo_ HRI.out ((xb_ hg1 _).trans hg2)
     rintro e w3 ⟨rfl,I3,hg3⟩;have S3:=kept hg3 S2;rw[HE.out] at S3;rw[HE'.out] at I3;have hgw:w.grownBy w3 none:=((xb_ hg1 _).trans hg2).trans hg3;have ls:=xg_ S3;have li3:=xg_ I3;clear X2 R1 R2 R3 S2 hg1 hg2 hg3;simp only[World.size_alloc] at S3 ls;generalize w1.heap.size+1=cs at S3 ls ⊢;generalize w2.heap.size=ci at I3 li3 ⊢;have p0:=xa_ S3 0;have q0:=xa_ I3 0;have q1:=xa_ I3 1;have q2:=xa_ I3 2;simp[xi_] at p0 q0 q1 q2;go_wp2_with (first|(go_at_call 28;refine(xl_ _ _).mono ?_;rintro e w' ⟨rfl,rfl⟩)|(go_at_call 42;refine(xq_ _ _ _).mono ?_;rintro e w' ⟨rfl,rfl⟩))
     go_region_held3 (fun w'=>w'.cell? ⟨cs,0,none⟩=some (.int .i64 x0)∧w'.cell? ⟨ci,0,none⟩=some (.int .i64 i0)∧w'.cell? ⟨ci,1,none⟩=some (.int .i64 i1)∧w'.cell? ⟨ci,2,none⟩=some (.int .i64 i2)) (go_keep) (fail)
     all_goals go_wp2_with fail
     go_region_held3 (fun w'=>w'.cell? ⟨cs,0,none⟩=some (.int .i64 x0)∧w'.cell? ⟨ci,0,none⟩=some (.int .i64 i0)∧w'.cell? ⟨ci,1,none⟩=some (.int .i64 i1)∧w'.cell? ⟨ci,2,none⟩=some (.int .i64 i2)) (go_keep) (fail)
     all_goals go_wp2_with fail
     all_goals go_ret2
     all_goals first|exact xy_ (x7_ _ _ _ _) (xf_ (xf_ hgw))|exact xy_ (yv_ _ _ _ _) (xf_ (xf_ hgw))|exact xy_ (x7_ _ _ _ _) (xf_ hgw)
   · skip
     have hF:qh_ [x0] [i0,i1,i2] (xd_ 5 now)=([x0],[x0]):=(by simp[qh_,srN,rsN,y2_,zr_,k0,k1]);rw[hF];clear hF;go_enter Tryz.func47,Tryz.ntmps47;go_wp2_with fail
     refine(jn_ _).mono ?_;rintro e w1 ⟨v,rfl,⟨r1,r2,r3,rfl,_,_,_,_,_,_,R1,R2,R3⟩,hg1⟩;go_wp2_with fail
     refine(xp_ ab0_ (by decide) r3 vs l _ ?_ ?_).mono ?_
     ·exact(xh_ (xg_ R3) _).trans R3
     ·exact xo_ HR.out (xb_ hg1 _)
     rintro e w2 ⟨rfl,S2,hg2⟩;have X2:=xa_ (kept hg2 (heap_alloc_new w1 _)) 0;simp at X2;go_wp2_with fail
     refine(xp_ abi_ (by decide) r1 vi li _ ?_ ?_).mono ?_
     ·exact kept hg2 ((xh_ (xg_ R1) _).trans R1)
     ·exact xo_ HRI.out ((xb_ hg1 _).trans hg2)
     rintro e w3 ⟨rfl,I3,hg3⟩;have S3:=kept hg3 S2;rw[HE.out] at S3;rw[HE'.out] at I3;have hgw:w.grownBy w3 none:=((xb_ hg1 _).trans hg2).trans hg3;have ls:=xg_ S3;have li3:=xg_ I3;clear X2 R1 R2 R3 S2 hg1 hg2 hg3;simp only[World.size_alloc] at S3 ls;generalize w1.heap.size+1=cs at S3 ls ⊢;generalize w2.heap.size=ci at I3 li3 ⊢;have p0:=xa_ S3 0;have q0:=xa_ I3 0;have q1:=xa_ I3 1;have q2:=xa_ I3 2;simp[xi_] at p0 q0 q1 q2;go_wp2_with (first|(go_at_call 28;refine(xl_ _ _).mono ?_;rintro e w' ⟨rfl,rfl⟩)|(go_at_call 42;refine(xq_ _ _ _).mono ?_;rintro e w' ⟨rfl,rfl⟩))
     go_region_held3 (fun w'=>w'.cell? ⟨cs,0,none⟩=some (.int .i64 x0)∧w'.cell? ⟨ci,0,none⟩=some (.int .i64 i0)∧w'.cell? ⟨ci,1,none⟩=some (.int .i64 i1)∧w'.cell? ⟨ci,2,none⟩=some (.int .i64 i2)) (go_keep) (fail)
     all_goals go_wp2_with fail
     go_region_held3 (fun w'=>w'.cell? ⟨cs,0,none⟩=some (.int .i64 x0)∧w'.cell? ⟨ci,0,none⟩=some (.int .i64 i0)∧w'.cell? ⟨ci,1,none⟩=some (.int .i64 i1)∧w'.cell? ⟨ci,2,none⟩=some (.int .i64 i2)) (go_keep) (fail)
     all_goals go_wp2_with fail
     all_goals go_ret2
     all_goals first|exact xy_ (x7_ _ _ _ _) (xf_ (xf_ hgw))|exact xy_ (yv_ _ _ _ _) (xf_ (xf_ hgw))|exact xy_ (x7_ _ _ _ _) (xf_ hgw)
end Go.Proofs.YtcgbfhpmkpglkaaGreatDoor.Bl
