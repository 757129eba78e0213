/- Texts put together: BlT7f. -/
import Derived.Deep.RegionWith
import Derived.Test.YtcgbfhpmkpglkaaGreatDoorQ31
set_option linter.unusedVariables false
set_option linter.unusedSimpArgs false
set_option maxHeartbeats 8000000
namespace Go.Proofs.YtcgbfhpmkpglkaaGreatDoor.Bl
open Go.RowKit
attribute [local go_sem ↓] Go.wp_at_zero Go.wp_at_succ
set_option maxRecDepth 10000 in
theorem aeo_:qq_ zc_ 1 1 [1] [1] qj_:=by
 intro vs vi l li now w hr hri;obtain⟨a0,e⟩:=qp_ 1 l;obtain⟨c0,e'⟩:=qp_ 1 li;have HR:Hid (rd w vs l):=hr;have HRI:Hid (rd w vi li):=hri;have HE:Hid (xm_ (yb_ k7_) l=_):=e;have HE':Hid (xm_ (yb_ kd_) li=_):=e';rw[e,e'];clear hr hri e e';have h_x0:=ye_ a0;have h_i0:=ye_ c0;have h_now:=yo_ now;generalize xd_ 1 a0=x0 at *;generalize xd_ 1 c0=i0 at *;have hlS:k7_.length=1:=rfl;have hlI:kd_.length=1:=rfl;unfold zc_;rcases h_i0 with rfl|rfl
 · rcases h_x0 with rfl|rfl
   · skip
     have hF:qj_ [0] [0] (xd_ 5 now)=([0],[0]):=(by simp[qj_,srN,rsN,y2_,zr_]);rw[hF];clear hF;go_enter Tryz.func47,Tryz.ntmps47;go_wp2_with fail
     refine(ja_ _).mono ?_;rintro e w1 ⟨v,rfl,⟨r1,r2,r3,rfl,_,_,_,_,_,_,R1,R2,R3⟩,hg1⟩;go_wp2_with fail
     refine(xp_ k7_ (by decide) r3 vs l _ ?_ ?_).mono ?_
     ·exact(xh_ (xg_ R3) _).trans R3
     ·exact xo_ HR.out (xb_ hg1 _)
     rintro e w2 ⟨rfl,S2,hg2⟩;have X2:=xa_ (kept hg2 (heap_alloc_new w1 _)) 0;simp at X2;go_wp2_with fail
     refine(xp_ kd_ (by decide) r1 vi li _ ?_ ?_).mono ?_
     ·exact kept hg2 ((xh_ (xg_ R1) _).trans R1)
     ·exact xo_ HRI.out ((xb_ hg1 _).trans hg2)
     rintro e w3 ⟨rfl,I3,hg3⟩;have S3:=kept hg3 S2;rw[HE.out] at S3;rw[HE'.out] at I3;have hgw:w.grownBy w3 none:=((xb_ hg1 _).trans hg2).trans hg3;have ls:=xg_ S3;have li3:=xg_ I3;clear X2 R1 R2 R3 S2 hg1 hg2 hg3;simp only[World.size_alloc] at S3 ls;generalize w1.heap.size+1=cs at S3 ls ⊢;generalize w2.heap.size=ci at I3 li3 ⊢;have p0:=xa_ S3 0;have q0:=xa_ I3 0;simp[xi_] at p0 q0;go_wp2_with (first|(go_at_call 28;refine(xl_ _ _).mono ?_;rintro e w' ⟨rfl,rfl⟩)|(go_at_call 42;refine(xq_ _ _ _).mono ?_;rintro e w' ⟨rfl,rfl⟩))
     go_region_held3 (fun w'=>w'.cell? ⟨cs,0,none⟩=some (.int .i64 0)∧w'.cell? ⟨ci,0,none⟩=some (.int .i64 0)) (refine⟨?_,?_⟩ <;> (exact k5_)) (first|(go_at_call 28;refine(xl_ _ _).mono ?_;rintro e w' ⟨rfl,rfl⟩))
     all_goals go_wp2_with (go_at_call 28;refine(xl_ _ _).mono ?_;rintro e w' ⟨rfl,rfl⟩)
     all_goals go_ret2
     all_goals first|exact xy_ (x7_ _ _ _ _) hgw|exact xy_ (zm_ _ _ _ _) hgw
   · skip
     have hF:qj_ [1] [0] (xd_ 5 now)=([0],[1]):=(by simp[qj_,srN,rsN,y2_,zr_]);rw[hF];clear hF;go_enter Tryz.func47,Tryz.ntmps47;go_wp2_with fail
     refine(ja_ _).mono ?_;rintro e w1 ⟨v,rfl,⟨r1,r2,r3,rfl,_,_,_,_,_,_,R1,R2,R3⟩,hg1⟩;go_wp2_with fail
     refine(xp_ k7_ (by decide) r3 vs l _ ?_ ?_).mono ?_
     ·exact(xh_ (xg_ R3) _).trans R3
     ·exact xo_ HR.out (xb_ hg1 _)
     rintro e w2 ⟨rfl,S2,hg2⟩;have X2:=xa_ (kept hg2 (heap_alloc_new w1 _)) 0;simp at X2;go_wp2_with fail
     refine(xp_ kd_ (by decide) r1 vi li _ ?_ ?_).mono ?_
     ·exact kept hg2 ((xh_ (xg_ R1) _).trans R1)
     ·exact xo_ HRI.out ((xb_ hg1 _).trans hg2)
     rintro e w3 ⟨rfl,I3,hg3⟩;have S3:=kept hg3 S2;rw[HE.out] at S3;rw[HE'.out] at I3;have hgw:w.grownBy w3 none:=((xb_ hg1 _).trans hg2).trans hg3;have ls:=xg_ S3;have li3:=xg_ I3;clear X2 R1 R2 R3 S2 hg1 hg2 hg3;simp only[World.size_alloc] at S3 ls;generalize w1.heap.size+1=cs at S3 ls ⊢;generalize w2.heap.size=ci at I3 li3 ⊢;have p0:=xa_ S3 0;have q0:=xa_ I3 0;simp[xi_] at p0 q0;go_wp2_with (first|(go_at_call 28;refine(xl_ _ _).mono ?_;rintro e w' ⟨rfl,rfl⟩)|(go_at_call 42;refine(xq_ _ _ _).mono ?_;rintro e w' ⟨rfl,rfl⟩))
     go_region_held3 (fun w'=>w'.cell? ⟨cs,0,none⟩=some (.int .i64 1)∧w'.cell? ⟨ci,0,none⟩=some (.int .i64 0)) (refine⟨?_,?_⟩ <;> (exact k5_)) (first|(go_at_call 28;refine(xl_ _ _).mono ?_;rintro e w' ⟨rfl,rfl⟩))
     all_goals go_wp2_with (go_at_call 28;refine(xl_ _ _).mono ?_;rintro e w' ⟨rfl,rfl⟩)
     all_goals go_ret2
     all_goals first|exact xy_ (x7_ _ _ _ _) hgw|exact xy_ (zm_ _ _ _ _) hgw
 · skip
   have hF:qj_ [x0] [1] (xd_ 5 now)=([1],[0]):=(by simp[qj_,srN,rsN,y2_,zr_]);rw[hF];clear hF;go_enter Tryz.func47,Tryz.ntmps47;go_wp2_with fail
   refine(ja_ _).mono ?_;rintro e w1 ⟨v,rfl,⟨r1,r2,r3,rfl,_,_,_,_,_,_,R1,R2,R3⟩,hg1⟩;go_wp2_with fail
   refine(xp_ k7_ (by decide) r3 vs l _ ?_ ?_).mono ?_
   ·exact(xh_ (xg_ R3) _).trans R3
   ·exact xo_ HR.out (xb_ hg1 _)
   rintro e w2 ⟨rfl,S2,hg2⟩;have X2:=xa_ (kept hg2 (heap_alloc_new w1 _)) 0;simp at X2;go_wp2_with fail
   refine(xp_ kd_ (by decide) r1 vi li _ ?_ ?_).mono ?_
   ·exact kept hg2 ((xh_ (xg_ R1) _).trans R1)
   ·exact xo_ HRI.out ((xb_ hg1 _).trans hg2)
   rintro e w3 ⟨rfl,I3,hg3⟩;have S3:=kept hg3 S2;rw[HE.out] at S3;rw[HE'.out] at I3;have hgw:w.grownBy w3 none:=((xb_ hg1 _).trans hg2).trans hg3;have ls:=xg_ S3;have li3:=xg_ I3;clear X2 R1 R2 R3 S2 hg1 hg2 hg3;simp only[World.size_alloc] at S3 ls;generalize w1.heap.size+1=cs at S3 ls ⊢;generalize w2.heap.size=ci at I3 li3 ⊢;have p0:=xa_ S3 0;have q0:=xa_ I3 0;simp[xi_] at p0 q0;go_wp2_with (first|(go_at_call 28;refine(xl_ _ _).mono ?_;rintro e w' ⟨rfl,rfl⟩)|(go_at_call 42;refine(xq_ _ _ _).mono ?_;rintro e w' ⟨rfl,rfl⟩))
   first|go_region_with (first|(go_at_call 28;refine(xl_ _ _).mono ?_;rintro e w' ⟨rfl,rfl⟩))|fail
   all_goals go_wp2_with (go_at_call 28;refine(xl_ _ _).mono ?_;rintro e w' ⟨rfl,rfl⟩)
   all_goals go_ret2
   all_goals first|exact xy_ (x7_ _ _ _ _) hgw|exact xy_ (zm_ _ _ _ _) hgw
end Go.Proofs.YtcgbfhpmkpglkaaGreatDoor.Bl
