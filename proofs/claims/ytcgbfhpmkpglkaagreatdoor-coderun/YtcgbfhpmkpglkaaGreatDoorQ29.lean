/- Texts put together: BlT2. -/
import Derived.Test.YtcgbfhpmkpglkaaGreatDoorQ16
set_option linter.unusedVariables false
set_option linter.unusedSimpArgs false
set_option maxHeartbeats 8000000
namespace Go.Proofs.YtcgbfhpmkpglkaaGreatDoor.Bl
open Go.RowKit
attribute [local go_sem ↓] Go.wp_at_zero Go.wp_at_succ
theorem xl_ (b:Bool) (w:World):Calls Tryz.prog 28 #[.bool b] w fun e w'=>e=.returned (.int .i64 (x1_ b))∧w=w':=(yes_any b w).mono fun _ _ h=>⟨h.1,h.2.symm⟩
set_option maxRecDepth 10000 in
theorem agu_ (b:Nat) (r s m a pt now:Int) (x:Bool) (w:World) (hr:r=0∨r=1) (hs:0≤s∧s≤4294967295) (hm:m=0∨m=1) (ha:0≤a∧a≤4294967295) (hp:0≤pt∧pt≤4294967295) (hn:0≤now∧now≤4294967295) (hb:w.heap[b]?=some (.cells (xi_ [r,s,m,a]) 3)) :
 Calls Tryz.prog 66 #[.string zu_,.slice (some ⟨b,0,none⟩) 4 4,.bool x,.int .i64 pt,.int .i64 now] w (zf_ 4 2 (jy_ [r,s,m,a] [x1_ x,pt] now) w):=by
 have d0:=xa_ hb 0;have d1:=xa_ hb 1;have d2:=xa_ hb 2;have d3:=xa_ hb 3;simp[xi_] at d0 d1 d2 d3;clear hb;have hz:xd_ 5 0=0:=jb_ 5;have hgn:xz_ now now=0:=(by unfold xz_;rw[Int.sub_self];exact hz);obtain⟨g,hg,hg0⟩:∃ g,xz_ now s=g∧xd_ 5 (now - s)=g:=⟨_,rfl,rfl⟩;unfold zu_;cases x
 · skip
   have hF:jy_ [r,s,m,a] [x1_ false,pt] now=([0,0,0,0],[0,0]):=(by simp[jy_,qg_,x1_,hg,hgn]);rw[hF];have HF:Hid (_=_):=hF;clear hF;go_enter Tryz.func66,Tryz.ntmps66;go_wp2_with fail
   go_region_held3 (fun w'=>w'.cell? ⟨b,0,none⟩=some (.int .i64 r)∧w'.cell? ⟨b,1,none⟩=some (.int .i64 s)∧w'.cell? ⟨b,2,none⟩=some (.int .i64 m)∧w'.cell? ⟨b,3,none⟩=some (.int .i64 a)) (go_keep) (fail)
   go_wp2_with (first|(go_at_call 42;refine(xq_ _ _ _).mono ?_;rintro e w' ⟨rfl,rfl⟩)|(go_at_call 28;refine(xl_ _ _).mono ?_;rintro e w' ⟨rfl,rfl⟩))
   all_goals go_ret2
   all_goals exact⟨w.heap.size,w.heap.size+1,by simp,by omega,by omega,by omega,(xh_ (by simp) _).trans (xj_ (by simp) _),xj_ (by simp) _,xb_ (xb_ (xf_ gz_) _) _⟩
 · rcases hr with rfl|rfl
   · by_cases hq:pt≤0
     · skip
       have hF:jy_ [0,s,m,a] [x1_ true,pt] now=([1,now,1,pt],[1,pt]):=(by simp[jy_,qg_,x1_,hg,hgn,hq,Int.min_eq_right hq]);rw[hF];have HF:Hid (_=_):=hF;clear hF;go_enter Tryz.func66,Tryz.ntmps66;go_wp2_with fail
       go_region_held3 (fun w'=>w'.cell? ⟨b,0,none⟩=some (.int .i64 0)∧w'.cell? ⟨b,1,none⟩=some (.int .i64 s)∧w'.cell? ⟨b,2,none⟩=some (.int .i64 m)∧w'.cell? ⟨b,3,none⟩=some (.int .i64 a)) (go_keep) (fail)
       go_wp2_with (first|(go_at_call 42;refine(xq_ _ _ _).mono ?_;rintro e w' ⟨rfl,rfl⟩)|(go_at_call 28;refine(xl_ _ _).mono ?_;rintro e w' ⟨rfl,rfl⟩))
       all_goals go_ret2
       all_goals exact⟨w.heap.size,w.heap.size+1,by simp,by omega,by omega,by omega,(xh_ (by simp) _).trans (xj_ (by simp) _),xj_ (by simp) _,xb_ (xb_ (xf_ gz_) _) _⟩
     · have hq2:min 0 pt=0:=(by omega);have hF:jy_ [0,s,m,a] [x1_ true,pt] now=([1,now,0,0],[0,0]):=(by simp[jy_,qg_,x1_,hg,hgn,hq,hq2]);rw[hF];have HF:Hid (_=_):=hF;clear hF;go_enter Tryz.func66,Tryz.ntmps66;go_wp2_with fail
       go_region_held3 (fun w'=>w'.cell? ⟨b,0,none⟩=some (.int .i64 0)∧w'.cell? ⟨b,1,none⟩=some (.int .i64 s)∧w'.cell? ⟨b,2,none⟩=some (.int .i64 m)∧w'.cell? ⟨b,3,none⟩=some (.int .i64 a)) (go_keep) (fail)
       go_wp2_with (first|(go_at_call 42;refine(xq_ _ _ _).mono ?_;rintro e w' ⟨rfl,rfl⟩)|(go_at_call 28;refine(xl_ _ _).mono ?_;rintro e w' ⟨rfl,rfl⟩))
       all_goals go_ret2
       all_goals exact⟨w.heap.size,w.heap.size+1,by simp,by omega,by omega,by omega,(xh_ (by simp) _).trans (xj_ (by simp) _),xj_ (by simp) _,xb_ (xb_ (xf_ gz_) _) _⟩
   · rcases hm with rfl|rfl
     · by_cases hq:pt≤g
       · skip
         have hF:jy_ [1,s,0,a] [x1_ true,pt] now=([1,s,1,pt],[1,pt]):=(by simp[jy_,qg_,x1_,hg,hgn,hq,Int.min_eq_right hq]);rw[hF];have HF:Hid (_=_):=hF;clear hF;go_enter Tryz.func66,Tryz.ntmps66;go_wp2_with fail
         go_region_held3 (fun w'=>w'.cell? ⟨b,0,none⟩=some (.int .i64 1)∧w'.cell? ⟨b,1,none⟩=some (.int .i64 s)∧w'.cell? ⟨b,2,none⟩=some (.int .i64 0)∧w'.cell? ⟨b,3,none⟩=some (.int .i64 a)) (go_keep) (fail)
         go_wp2_with (first|(go_at_call 42;refine(xq_ _ _ _).mono ?_;rintro e w' ⟨rfl,rfl⟩)|(go_at_call 28;refine(xl_ _ _).mono ?_;rintro e w' ⟨rfl,rfl⟩))
         all_goals go_ret2
         all_goals exact⟨w.heap.size,w.heap.size+1,by simp,by omega,by omega,by omega,(xh_ (by simp) _).trans (xj_ (by simp) _),xj_ (by simp) _,xb_ (xb_ (xf_ gz_) _) _⟩
       · have hq2:min g pt=g:=(by omega);have hF:jy_ [1,s,0,a] [x1_ true,pt] now=([1,s,0,g],[0,g]):=(by simp[jy_,qg_,x1_,hg,hgn,hq,hq2]);rw[hF];have HF:Hid (_=_):=hF;clear hF;go_enter Tryz.func66,Tryz.ntmps66;go_wp2_with fail
         go_region_held3 (fun w'=>w'.cell? ⟨b,0,none⟩=some (.int .i64 1)∧w'.cell? ⟨b,1,none⟩=some (.int .i64 s)∧w'.cell? ⟨b,2,none⟩=some (.int .i64 0)∧w'.cell? ⟨b,3,none⟩=some (.int .i64 a)) (go_keep) (fail)
         go_wp2_with (first|(go_at_call 42;refine(xq_ _ _ _).mono ?_;rintro e w' ⟨rfl,rfl⟩)|(go_at_call 28;refine(xl_ _ _).mono ?_;rintro e w' ⟨rfl,rfl⟩))
         all_goals go_ret2
         all_goals exact⟨w.heap.size,w.heap.size+1,by simp,by omega,by omega,by omega,(xh_ (by simp) _).trans (xj_ (by simp) _),xj_ (by simp) _,xb_ (xb_ (xf_ gz_) _) _⟩
     · skip
       have hF:jy_ [1,s,1,a] [x1_ true,pt] now=([1,s,1,a],[1,a]):=(by simp[jy_,qg_,x1_,hg,hgn]);rw[hF];have HF:Hid (_=_):=hF;clear hF;go_enter Tryz.func66,Tryz.ntmps66;go_wp2_with fail
       go_region_held3 (fun w'=>w'.cell? ⟨b,0,none⟩=some (.int .i64 1)∧w'.cell? ⟨b,1,none⟩=some (.int .i64 s)∧w'.cell? ⟨b,2,none⟩=some (.int .i64 1)∧w'.cell? ⟨b,3,none⟩=some (.int .i64 a)) (go_keep) (fail)
       go_wp2_with (first|(go_at_call 42;refine(xq_ _ _ _).mono ?_;rintro e w' ⟨rfl,rfl⟩)|(go_at_call 28;refine(xl_ _ _).mono ?_;rintro e w' ⟨rfl,rfl⟩))
       all_goals go_ret2
       all_goals exact⟨w.heap.size,w.heap.size+1,by simp,by omega,by omega,by omega,(xh_ (by simp) _).trans (xj_ (by simp) _),xj_ (by simp) _,xb_ (xb_ (xf_ gz_) _) _⟩
set_option maxRecDepth 10000 in
theorem agv_ (b:Nat) (r s m a pt now:Int) (x:Bool) (w:World) (hr:r=0∨r=1) (hs:0≤s∧s≤4294967295) (hm:m=0∨m=1) (ha:0≤a∧a≤4294967295) (hp:0≤pt∧pt≤4294967295) (hn:0≤now∧now≤4294967295) (hb:w.heap[b]?=some (.cells (xi_ [r,s,m,a]) 3)) :
 Calls Tryz.prog 66 #[.string zv_,.slice (some ⟨b,0,none⟩) 4 4,.bool x,.int .i64 pt,.int .i64 now] w (zf_ 4 2 (qv_ [r,s,m,a] [x1_ x,pt] now) w):=by
 have d0:=xa_ hb 0;have d1:=xa_ hb 1;have d2:=xa_ hb 2;have d3:=xa_ hb 3;simp[xi_] at d0 d1 d2 d3;clear hb;have hz:xd_ 5 0=0:=jb_ 5;have hgn:xz_ now now=0:=(by unfold xz_;rw[Int.sub_self];exact hz);obtain⟨g,hg,hg0⟩:∃ g,xz_ now s=g∧xd_ 5 (now - s)=g:=⟨_,rfl,rfl⟩;unfold zv_;cases x
 · rcases hm with rfl|rfl
   · skip
     have hF:qv_ [r,s,0,a] [x1_ false,pt] now=([r,s,0,a],[0,a]):=(by simp[qv_,qg_,x1_,hg,hgn]);rw[hF];have HF:Hid (_=_):=hF;clear hF;go_enter Tryz.func66,Tryz.ntmps66;go_wp2_with fail
     go_region_held3 (fun w'=>w'.cell? ⟨b,0,none⟩=some (.int .i64 r)∧w'.cell? ⟨b,1,none⟩=some (.int .i64 s)∧w'.cell? ⟨b,2,none⟩=some (.int .i64 0)∧w'.cell? ⟨b,3,none⟩=some (.int .i64 a)) (go_keep) (fail)
     go_wp2_with (first|(go_at_call 42;refine(xq_ _ _ _).mono ?_;rintro e w' ⟨rfl,rfl⟩)|(go_at_call 28;refine(xl_ _ _).mono ?_;rintro e w' ⟨rfl,rfl⟩))
     all_goals go_ret2
     all_goals exact⟨w.heap.size,w.heap.size+1,by simp,by omega,by omega,by omega,(xh_ (by simp) _).trans (xj_ (by simp) _),xj_ (by simp) _,xb_ (xb_ (xf_ gz_) _) _⟩
   · rcases hr with rfl|rfl
     · by_cases hq:pt≤0
       · skip
         have hF:qv_ [0,s,1,a] [x1_ false,pt] now=([0,0,0,pt],[0,pt]):=(by simp[qv_,qg_,x1_,hg,hgn,hq,Int.min_eq_right hq]);rw[hF];have HF:Hid (_=_):=hF;clear hF;go_enter Tryz.func66,Tryz.ntmps66;go_wp2_with fail
         go_region_held3 (fun w'=>w'.cell? ⟨b,0,none⟩=some (.int .i64 0)∧w'.cell? ⟨b,1,none⟩=some (.int .i64 s)∧w'.cell? ⟨b,2,none⟩=some (.int .i64 1)∧w'.cell? ⟨b,3,none⟩=some (.int .i64 a)) (go_keep) (fail)
         go_wp2_with (first|(go_at_call 42;refine(xq_ _ _ _).mono ?_;rintro e w' ⟨rfl,rfl⟩)|(go_at_call 28;refine(xl_ _ _).mono ?_;rintro e w' ⟨rfl,rfl⟩))
         all_goals go_ret2
         all_goals exact⟨w.heap.size,w.heap.size+1,by simp,by omega,by omega,by omega,(xh_ (by simp) _).trans (xj_ (by simp) _),xj_ (by simp) _,xb_ (xb_ (xf_ gz_) _) _⟩
       · have hq2:min 0 pt=0:=(by omega);have hF:qv_ [0,s,1,a] [x1_ false,pt] now=([1,now,1,0],[1,0]):=(by simp[qv_,qg_,x1_,hg,hgn,hq,hq2]);rw[hF];have HF:Hid (_=_):=hF;clear hF;go_enter Tryz.func66,Tryz.ntmps66;go_wp2_with fail
         go_region_held3 (fun w'=>w'.cell? ⟨b,0,none⟩=some (.int .i64 0)∧w'.cell? ⟨b,1,none⟩=some (.int .i64 s)∧w'.cell? ⟨b,2,none⟩=some (.int .i64 1)∧w'.cell? ⟨b,3,none⟩=some (.int .i64 a)) (go_keep) (fail)
         go_wp2_with (first|(go_at_call 42;refine(xq_ _ _ _).mono ?_;rintro e w' ⟨rfl,rfl⟩)|(go_at_call 28;refine(xl_ _ _).mono ?_;rintro e w' ⟨rfl,rfl⟩))
         all_goals go_ret2
         all_goals exact⟨w.heap.size,w.heap.size+1,by simp,by omega,by omega,by omega,(xh_ (by simp) _).trans (xj_ (by simp) _),xj_ (by simp) _,xb_ (xb_ (xf_ gz_) _) _⟩
     · by_cases hq:pt≤g
       · skip
         have hF:qv_ [1,s,1,a] [x1_ false,pt] now=([0,0,0,pt],[0,pt]):=(by simp[qv_,qg_,x1_,hg,hgn,hq,Int.min_eq_right hq]);rw[hF];have HF:Hid (_=_):=hF;clear hF;go_enter Tryz.func66,Tryz.ntmps66;go_wp2_with fail
         go_region_held3 (fun w'=>w'.cell? ⟨b,0,none⟩=some (.int .i64 1)∧w'.cell? ⟨b,1,none⟩=some (.int .i64 s)∧w'.cell? ⟨b,2,none⟩=some (.int .i64 1)∧w'.cell? ⟨b,3,none⟩=some (.int .i64 a)) (go_keep) (fail)
         go_wp2_with (first|(go_at_call 42;refine(xq_ _ _ _).mono ?_;rintro e w' ⟨rfl,rfl⟩)|(go_at_call 28;refine(xl_ _ _).mono ?_;rintro e w' ⟨rfl,rfl⟩))
         all_goals go_ret2
         all_goals exact⟨w.heap.size,w.heap.size+1,by simp,by omega,by omega,by omega,(xh_ (by simp) _).trans (xj_ (by simp) _),xj_ (by simp) _,xb_ (xb_ (xf_ gz_) _) _⟩
       · have hq2:min g pt=g:=(by omega);have hF:qv_ [1,s,1,a] [x1_ false,pt] now=([1,s,1,g],[1,g]):=(by simp[qv_,qg_,x1_,hg,hgn,hq,hq2]);rw[hF];have HF:Hid (_=_):=hF;clear hF;go_enter Tryz.func66,Tryz.ntmps66;go_wp2_with fail
         go_region_held3 (fun w'=>w'.cell? ⟨b,0,none⟩=some (.int .i64 1)∧w'.cell? ⟨b,1,none⟩=some (.int .i64 s)∧w'.cell? ⟨b,2,none⟩=some (.int .i64 1)∧w'.cell? ⟨b,3,none⟩=some (.int .i64 a)) (go_keep) (fail)
         go_wp2_with (first|(go_at_call 42;refine(xq_ _ _ _).mono ?_;rintro e w' ⟨rfl,rfl⟩)|(go_at_call 28;refine(xl_ _ _).mono ?_;rintro e w' ⟨rfl,rfl⟩))
         all_goals go_ret2
         all_goals exact⟨w.heap.size,w.heap.size+1,by simp,by omega,by omega,by omega,(xh_ (by simp) _).trans (xj_ (by simp) _),xj_ (by simp) _,xb_ (xb_ (xf_ gz_) _) _⟩
 · skip
   have hF:qv_ [r,s,m,a] [x1_ true,pt] now=([0,0,1,0],[1,0]):=(by simp[qv_,qg_,x1_,hg,hgn]);rw[hF];have HF:Hid (_=_):=hF;clear hF;go_enter Tryz.func66,Tryz.ntmps66;go_wp2_with fail
   go_region_held3 (fun w'=>w'.cell? ⟨b,0,none⟩=some (.int .i64 r)∧w'.cell? ⟨b,1,none⟩=some (.int .i64 s)∧w'.cell? ⟨b,2,none⟩=some (.int .i64 m)∧w'.cell? ⟨b,3,none⟩=some (.int .i64 a)) (go_keep) (fail)
   go_wp2_with (first|(go_at_call 42;refine(xq_ _ _ _).mono ?_;rintro e w' ⟨rfl,rfl⟩)|(go_at_call 28;refine(xl_ _ _).mono ?_;rintro e w' ⟨rfl,rfl⟩))
   all_goals go_ret2
   all_goals exact⟨w.heap.size,w.heap.size+1,by simp,by omega,by omega,by omega,(xh_ (by simp) _).trans (xj_ (by simp) _),xj_ (by simp) _,xb_ (xb_ (xf_ gz_) _) _⟩
set_option maxRecDepth 10000 in
theorem ai3_ (b:Nat) (r s m a pt now:Int) (x:Bool) (w:World) (hr:r=0∨r=1) (hs:0≤s∧s≤4294967295) (hm:m=0∨m=1) (ha:0≤a∧a≤4294967295) (hp:0≤pt∧pt≤4294967295) (hn:0≤now∧now≤4294967295) (hb:w.heap[b]?=some (.cells (xi_ [r,s,m,a]) 3)) :
 Calls Tryz.prog 66 #[.string qu_,.slice (some ⟨b,0,none⟩) 4 4,.bool x,.int .i64 pt,.int .i64 now] w (zf_ 4 2 (tpF [r,s,m,a] [x1_ x,pt] now) w):=by
 have d0:=xa_ hb 0;have d1:=xa_ hb 1;have d2:=xa_ hb 2;have d3:=xa_ hb 3;simp[xi_] at d0 d1 d2 d3;clear hb;have hz:xd_ 5 0=0:=jb_ 5;have hgn:xz_ now now=0:=(by unfold xz_;rw[Int.sub_self];exact hz);obtain⟨g,hg,hg0⟩:∃ g,xz_ now s=g∧xd_ 5 (now - s)=g:=⟨_,rfl,rfl⟩;unfold qu_;rcases hr with rfl|rfl
 · cases x
   · skip
     have hF:tpF [0,s,m,a] [x1_ false,pt] now=([0,s,0,0],[0,0]):=(by simp[tpF,qg_,x1_,hg,hgn]);rw[hF];have HF:Hid (_=_):=hF;clear hF;go_enter Tryz.func66,Tryz.ntmps66;go_wp2_with fail
     go_region_held3 (fun w'=>w'.cell? ⟨b,0,none⟩=some (.int .i64 0)∧w'.cell? ⟨b,1,none⟩=some (.int .i64 s)∧w'.cell? ⟨b,2,none⟩=some (.int .i64 m)∧w'.cell? ⟨b,3,none⟩=some (.int .i64 a)) (go_keep) (fail)
     go_wp2_with (first|(go_at_call 42;refine(xq_ _ _ _).mono ?_;rintro e w' ⟨rfl,rfl⟩)|(go_at_call 28;refine(xl_ _ _).mono ?_;rintro e w' ⟨rfl,rfl⟩))
     all_goals go_ret2
     all_goals exact⟨w.heap.size,w.heap.size+1,by simp,by omega,by omega,by omega,(xh_ (by simp) _).trans (xj_ (by simp) _),xj_ (by simp) _,xb_ (xb_ (xf_ gz_) _) _⟩
   · rcases hm with rfl|rfl
     · by_cases hq:pt≤0
       · skip
         have hF:tpF [0,s,0,a] [x1_ true,pt] now=([0,0,1,pt],[0,pt]):=(by simp[tpF,qg_,x1_,hg,hgn,hq,Int.min_eq_right hq]);rw[hF];have HF:Hid (_=_):=hF;clear hF;go_enter Tryz.func66,Tryz.ntmps66;go_wp2_with fail
         go_region_held3 (fun w'=>w'.cell? ⟨b,0,none⟩=some (.int .i64 0)∧w'.cell? ⟨b,1,none⟩=some (.int .i64 s)∧w'.cell? ⟨b,2,none⟩=some (.int .i64 0)∧w'.cell? ⟨b,3,none⟩=some (.int .i64 a)) (go_keep) (fail)
         go_wp2_with (first|(go_at_call 42;refine(xq_ _ _ _).mono ?_;rintro e w' ⟨rfl,rfl⟩)|(go_at_call 28;refine(xl_ _ _).mono ?_;rintro e w' ⟨rfl,rfl⟩))
         all_goals go_ret2
         all_goals exact⟨w.heap.size,w.heap.size+1,by simp,by omega,by omega,by omega,(xh_ (by simp) _).trans (xj_ (by simp) _),xj_ (by simp) _,xb_ (xb_ (xf_ gz_) _) _⟩
       · have hq2:min 0 pt=0:=(by omega);have hF:tpF [0,s,0,a] [x1_ true,pt] now=([1,now,1,0],[1,0]):=(by simp[tpF,qg_,x1_,hg,hgn,hq,hq2]);rw[hF];have HF:Hid (_=_):=hF;clear hF;go_enter Tryz.func66,Tryz.ntmps66;go_wp2_with fail
         go_region_held3 (fun w'=>w'.cell? ⟨b,0,none⟩=some (.int .i64 0)∧w'.cell? ⟨b,1,none⟩=some (.int .i64 s)∧w'.cell? ⟨b,2,none⟩=some (.int .i64 0)∧w'.cell? ⟨b,3,none⟩=some (.int .i64 a)) (go_keep) (fail)
         go_wp2_with (first|(go_at_call 42;refine(xq_ _ _ _).mono ?_;rintro e w' ⟨rfl,rfl⟩)|(go_at_call 28;refine(xl_ _ _).mono ?_;rintro e w' ⟨rfl,rfl⟩))
         all_goals go_ret2
         all_goals exact⟨w.heap.size,w.heap.size+1,by simp,by omega,by omega,by omega,(xh_ (by simp) _).trans (xj_ (by simp) _),xj_ (by simp) _,xb_ (xb_ (xf_ gz_) _) _⟩
     · skip
       have hF:tpF [0,s,1,a] [x1_ true,pt] now=([0,s,1,a],[0,a]):=(by simp[tpF,qg_,x1_,hg,hgn]);rw[hF];have HF:Hid (_=_):=hF;clear hF;go_enter Tryz.func66,Tryz.ntmps66;go_wp2_with fail
       go_region_held3 (fun w'=>w'.cell? ⟨b,0,none⟩=some (.int .i64 0)∧w'.cell? ⟨b,1,none⟩=some (.int .i64 s)∧w'.cell? ⟨b,2,none⟩=some (.int .i64 1)∧w'.cell? ⟨b,3,none⟩=some (.int .i64 a)) (go_keep) (fail)
       go_wp2_with (first|(go_at_call 42;refine(xq_ _ _ _).mono ?_;rintro e w' ⟨rfl,rfl⟩)|(go_at_call 28;refine(xl_ _ _).mono ?_;rintro e w' ⟨rfl,rfl⟩))
       all_goals go_ret2
       all_goals exact⟨w.heap.size,w.heap.size+1,by simp,by omega,by omega,by omega,(xh_ (by simp) _).trans (xj_ (by simp) _),xj_ (by simp) _,xb_ (xb_ (xf_ gz_) _) _⟩
 · by_cases hq:pt≤g
   · cases x
     · skip
       have hF:tpF [1,s,m,a] [x1_ false,pt] now=([0,0,0,pt],[0,pt]):=(by simp[tpF,qg_,x1_,hg,hgn,hq,Int.min_eq_right hq]);rw[hF];have HF:Hid (_=_):=hF;clear hF;go_enter Tryz.func66,Tryz.ntmps66;go_wp2_with fail
       go_region_held3 (fun w'=>w'.cell? ⟨b,0,none⟩=some (.int .i64 1)∧w'.cell? ⟨b,1,none⟩=some (.int .i64 s)∧w'.cell? ⟨b,2,none⟩=some (.int .i64 m)∧w'.cell? ⟨b,3,none⟩=some (.int .i64 a)) (go_keep) (fail)
       go_wp2_with (first|(go_at_call 42;refine(xq_ _ _ _).mono ?_;rintro e w' ⟨rfl,rfl⟩)|(go_at_call 28;refine(xl_ _ _).mono ?_;rintro e w' ⟨rfl,rfl⟩))
       all_goals go_ret2
       all_goals exact⟨w.heap.size,w.heap.size+1,by simp,by omega,by omega,by omega,(xh_ (by simp) _).trans (xj_ (by simp) _),xj_ (by simp) _,xb_ (xb_ (xf_ gz_) _) _⟩
     · skip
       have hF:tpF [1,s,m,a] [x1_ true,pt] now=([0,0,1,pt],[0,pt]):=(by simp[tpF,qg_,x1_,hg,hgn,hq,Int.min_eq_right hq]);rw[hF];have HF:Hid (_=_):=hF;clear hF;go_enter Tryz.func66,Tryz.ntmps66;go_wp2_with fail
       go_region_held3 (fun w'=>w'.cell? ⟨b,0,none⟩=some (.int .i64 1)∧w'.cell? ⟨b,1,none⟩=some (.int .i64 s)∧w'.cell? ⟨b,2,none⟩=some (.int .i64 m)∧w'.cell? ⟨b,3,none⟩=some (.int .i64 a)) (go_keep) (fail)
       go_wp2_with (first|(go_at_call 42;refine(xq_ _ _ _).mono ?_;rintro e w' ⟨rfl,rfl⟩)|(go_at_call 28;refine(xl_ _ _).mono ?_;rintro e w' ⟨rfl,rfl⟩))
       all_goals go_ret2
       all_goals exact⟨w.heap.size,w.heap.size+1,by simp,by omega,by omega,by omega,(xh_ (by simp) _).trans (xj_ (by simp) _),xj_ (by simp) _,xb_ (xb_ (xf_ gz_) _) _⟩
   · have hq2:min g pt=g:=(by omega);cases x
     · skip
       have hF:tpF [1,s,m,a] [x1_ false,pt] now=([1,s,0,g],[1,g]):=(by simp[tpF,qg_,x1_,hg,hgn,hq,hq2]);rw[hF];have HF:Hid (_=_):=hF;clear hF;go_enter Tryz.func66,Tryz.ntmps66;go_wp2_with fail
       go_region_held3 (fun w'=>w'.cell? ⟨b,0,none⟩=some (.int .i64 1)∧w'.cell? ⟨b,1,none⟩=some (.int .i64 s)∧w'.cell? ⟨b,2,none⟩=some (.int .i64 m)∧w'.cell? ⟨b,3,none⟩=some (.int .i64 a)) (go_keep) (fail)
       go_wp2_with (first|(go_at_call 42;refine(xq_ _ _ _).mono ?_;rintro e w' ⟨rfl,rfl⟩)|(go_at_call 28;refine(xl_ _ _).mono ?_;rintro e w' ⟨rfl,rfl⟩))
       all_goals go_ret2
       all_goals exact⟨w.heap.size,w.heap.size+1,by simp,by omega,by omega,by omega,(xh_ (by simp) _).trans (xj_ (by simp) _),xj_ (by simp) _,xb_ (xb_ (xf_ gz_) _) _⟩
     · skip
       have hF:tpF [1,s,m,a] [x1_ true,pt] now=([1,s,1,g],[1,g]):=(by simp[tpF,qg_,x1_,hg,hgn,hq,hq2]);rw[hF];have HF:Hid (_=_):=hF;clear hF;go_enter Tryz.func66,Tryz.ntmps66;go_wp2_with fail
       go_region_held3 (fun w'=>w'.cell? ⟨b,0,none⟩=some (.int .i64 1)∧w'.cell? ⟨b,1,none⟩=some (.int .i64 s)∧w'.cell? ⟨b,2,none⟩=some (.int .i64 m)∧w'.cell? ⟨b,3,none⟩=some (.int .i64 a)) (go_keep) (fail)
       go_wp2_with (first|(go_at_call 42;refine(xq_ _ _ _).mono ?_;rintro e w' ⟨rfl,rfl⟩)|(go_at_call 28;refine(xl_ _ _).mono ?_;rintro e w' ⟨rfl,rfl⟩))
       all_goals go_ret2
       all_goals exact⟨w.heap.size,w.heap.size+1,by simp,by omega,by omega,by omega,(xh_ (by simp) _).trans (xj_ (by simp) _),xj_ (by simp) _,xb_ (xb_ (xf_ gz_) _) _⟩
end Go.Proofs.YtcgbfhpmkpglkaaGreatDoor.Bl
