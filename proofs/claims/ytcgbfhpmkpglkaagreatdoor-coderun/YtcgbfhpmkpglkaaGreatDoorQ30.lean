/- Texts put together: BlT3. -/
import Derived.Test.YtcgbfhpmkpglkaaGreatDoorQ29
set_option linter.unusedVariables false
set_option linter.unusedSimpArgs false
set_option maxHeartbeats 8000000
namespace Go.Proofs.YtcgbfhpmkpglkaaGreatDoor.Bl
open Go.RowKit
attribute [local go_sem ↓] Go.wp_at_zero Go.wp_at_succ
theorem x7_ (n m:Nat) (R:List Int×List Int) (w:World):zf_ n m R w (.returned (.tuple #[.slice (some ⟨w.heap.size,0,none⟩) n n,.slice (some ⟨w.heap.size+1,0,none⟩) m m])) ((w.alloc (.cells (xi_ R.1) 3)).alloc (.cells (xi_ R.2) 3)).drew:=
 ⟨w.heap.size,w.heap.size+1,rfl,by omega,by omega,by omega,(xh_ (by simp) _).trans (xj_ (by simp) _),xj_ (by simp) _,xf_ (xb_ (xb_ gz_ _) _)⟩
theorem zm_ (n m:Nat) (R:List Int×List Int) (w:World):zf_ n m R w (.returned (.tuple #[.slice (some ⟨w.heap.size+1,0,none⟩) n n,.slice (some ⟨w.heap.size,0,none⟩) m m])) ((w.alloc (.cells (xi_ R.2) 3)).alloc (.cells (xi_ R.1) 3)).drew:=
 ⟨w.heap.size+1,w.heap.size,rfl,by omega,by omega,by omega,xj_ (by simp) _,(xh_ (by simp) _).trans (xj_ (by simp) _),xf_ (xb_ (xb_ gz_ _) _)⟩
set_option maxRecDepth 10000 in
theorem agw_ (b c:Nat) (p n c0 r pv:Int) (w:World) (h_p:p=0∨p=1) (h_n : -32768≤n∧n≤32767) (h_c0:c0=0∨c0=1) (h_r:r=0∨r=1) (h_pv : -32768≤pv∧pv≤32767) (hb:w.heap[b]?=some (.cells (xi_ [p,n]) 3)) (hc:w.heap[c]?=some (.cells (xi_ [c0,r,pv]) 3)) :
 Calls Tryz.prog 67 #[.string zw_,.slice (some ⟨b,0,none⟩) 2 2,.slice (some ⟨c,0,none⟩) 3 3] w (zf_ 2 2 (qr_ [p,n] [c0,r,pv] 0) w):=by
 have d0:=xa_ hb 0;have d1:=xa_ hb 1;have e0:=xa_ hc 0;have e1:=xa_ hc 1;have e2:=xa_ hc 2;simp[xi_] at d0 d1 e0 e1 e2;have lb:=xg_ hb;have lc:=xg_ hc;clear hb hc;unfold zw_;rcases h_c0 with rfl|rfl
 · rcases h_r with rfl|rfl
   · skip
     have hF:qr_ [p,n] [0,0,pv] 0=([0,n],[x1_ (decide (pv≤n)),n]):=(by simp[qr_,udN,x1_]);rw[hF];have HF:Hid (_=_):=hF;clear hF;go_enter Tryz.func67,Tryz.ntmps67;go_wp2_with fail
     go_region_held3 (fun w'=>w'.cell? ⟨c,0,none⟩=some (.int .i64 0)∧w'.cell? ⟨c,1,none⟩=some (.int .i64 0)∧w'.cell? ⟨c,2,none⟩=some (.int .i64 pv)) (refine⟨?_,?_,?_⟩ <;> (exact k5_)) (first|(go_at_call 28;refine(xl_ _ _).mono ?_;rintro e w' ⟨rfl,rfl⟩))
     all_goals go_wp2_with (go_at_call 28;refine(xl_ _ _).mono ?_;rintro e w' ⟨rfl,rfl⟩)
     all_goals go_ret2
     all_goals first|exact x7_ _ _ _ _|exact zm_ _ _ _ _
   · skip
     have hF:qr_ [p,n] [0,1,pv] 0=([0,0],[x1_ (decide (pv≤0)),0]):=(by simp[qr_,udN,x1_]);rw[hF];have HF:Hid (_=_):=hF;clear hF;go_enter Tryz.func67,Tryz.ntmps67;go_wp2_with fail
     go_region_held3 (fun w'=>w'.cell? ⟨c,0,none⟩=some (.int .i64 0)∧w'.cell? ⟨c,1,none⟩=some (.int .i64 1)∧w'.cell? ⟨c,2,none⟩=some (.int .i64 pv)) (refine⟨?_,?_,?_⟩ <;> (exact k5_)) (first|(go_at_call 28;refine(xl_ _ _).mono ?_;rintro e w' ⟨rfl,rfl⟩))
     all_goals go_wp2_with (go_at_call 28;refine(xl_ _ _).mono ?_;rintro e w' ⟨rfl,rfl⟩)
     all_goals go_ret2
     all_goals first|exact x7_ _ _ _ _|exact zm_ _ _ _ _
 · rcases h_p with rfl|rfl
   · rcases h_r with rfl|rfl
     · by_cases hq:n<32767
       · have hq2:min (n+1) 32767=n+1:=(by omega);have hF:qr_ [0,n] [1,0,pv] 0=([1,(n+1)],[x1_ (decide (pv≤(n+1))),(n+1)]):=(by simp[qr_,udN,x1_,qk_,ql_,hq2]);rw[hF];have HF:Hid (_=_):=hF;clear hF;go_enter Tryz.func67,Tryz.ntmps67;go_wp2_with fail
         go_region_held3 (fun w'=>w'.cell? ⟨c,0,none⟩=some (.int .i64 1)∧w'.cell? ⟨c,1,none⟩=some (.int .i64 0)∧w'.cell? ⟨c,2,none⟩=some (.int .i64 pv)) (refine⟨?_,?_,?_⟩ <;> (exact k5_)) (first|(go_at_call 28;refine(xl_ _ _).mono ?_;rintro e w' ⟨rfl,rfl⟩))
         all_goals go_wp2_with (go_at_call 28;refine(xl_ _ _).mono ?_;rintro e w' ⟨rfl,rfl⟩)
         all_goals go_ret2
         all_goals first|exact x7_ _ _ _ _|exact zm_ _ _ _ _
       · have hq2:min (n+1) 32767=n:=(by omega);have hF:qr_ [0,n] [1,0,pv] 0=([1,n],[x1_ (decide (pv≤n)),n]):=(by simp[qr_,udN,x1_,qk_,ql_,hq2]);rw[hF];have HF:Hid (_=_):=hF;clear hF;go_enter Tryz.func67,Tryz.ntmps67;go_wp2_with fail
         go_region_held3 (fun w'=>w'.cell? ⟨c,0,none⟩=some (.int .i64 1)∧w'.cell? ⟨c,1,none⟩=some (.int .i64 0)∧w'.cell? ⟨c,2,none⟩=some (.int .i64 pv)) (refine⟨?_,?_,?_⟩ <;> (exact k5_)) (first|(go_at_call 28;refine(xl_ _ _).mono ?_;rintro e w' ⟨rfl,rfl⟩))
         all_goals go_wp2_with (go_at_call 28;refine(xl_ _ _).mono ?_;rintro e w' ⟨rfl,rfl⟩)
         all_goals go_ret2
         all_goals first|exact x7_ _ _ _ _|exact zm_ _ _ _ _
     · skip
       have hF:qr_ [0,n] [1,1,pv] 0=([1,0],[x1_ (decide (pv≤0)),0]):=(by simp[qr_,udN,x1_]);rw[hF];have HF:Hid (_=_):=hF;clear hF;go_enter Tryz.func67,Tryz.ntmps67;go_wp2_with fail
       go_region_held3 (fun w'=>w'.cell? ⟨c,0,none⟩=some (.int .i64 1)∧w'.cell? ⟨c,1,none⟩=some (.int .i64 1)∧w'.cell? ⟨c,2,none⟩=some (.int .i64 pv)) (refine⟨?_,?_,?_⟩ <;> (exact k5_)) (first|(go_at_call 28;refine(xl_ _ _).mono ?_;rintro e w' ⟨rfl,rfl⟩))
       all_goals go_wp2_with (go_at_call 28;refine(xl_ _ _).mono ?_;rintro e w' ⟨rfl,rfl⟩)
       all_goals go_ret2
       all_goals first|exact x7_ _ _ _ _|exact zm_ _ _ _ _
   · rcases h_r with rfl|rfl
     · skip
       have hF:qr_ [1,n] [1,0,pv] 0=([1,n],[x1_ (decide (pv≤n)),n]):=(by simp[qr_,udN,x1_]);rw[hF];have HF:Hid (_=_):=hF;clear hF;go_enter Tryz.func67,Tryz.ntmps67;go_wp2_with fail
       go_region_held3 (fun w'=>w'.cell? ⟨c,0,none⟩=some (.int .i64 1)∧w'.cell? ⟨c,1,none⟩=some (.int .i64 0)∧w'.cell? ⟨c,2,none⟩=some (.int .i64 pv)) (refine⟨?_,?_,?_⟩ <;> (exact k5_)) (first|(go_at_call 28;refine(xl_ _ _).mono ?_;rintro e w' ⟨rfl,rfl⟩))
       all_goals go_wp2_with (go_at_call 28;refine(xl_ _ _).mono ?_;rintro e w' ⟨rfl,rfl⟩)
       all_goals go_ret2
       all_goals first|exact x7_ _ _ _ _|exact zm_ _ _ _ _
     · skip
       have hF:qr_ [1,n] [1,1,pv] 0=([1,0],[x1_ (decide (pv≤0)),0]):=(by simp[qr_,udN,x1_]);rw[hF];have HF:Hid (_=_):=hF;clear hF;go_enter Tryz.func67,Tryz.ntmps67;go_wp2_with fail
       go_region_held3 (fun w'=>w'.cell? ⟨c,0,none⟩=some (.int .i64 1)∧w'.cell? ⟨c,1,none⟩=some (.int .i64 1)∧w'.cell? ⟨c,2,none⟩=some (.int .i64 pv)) (refine⟨?_,?_,?_⟩ <;> (exact k5_)) (first|(go_at_call 28;refine(xl_ _ _).mono ?_;rintro e w' ⟨rfl,rfl⟩))
       all_goals go_wp2_with (go_at_call 28;refine(xl_ _ _).mono ?_;rintro e w' ⟨rfl,rfl⟩)
       all_goals go_ret2
       all_goals first|exact x7_ _ _ _ _|exact zm_ _ _ _ _
set_option maxRecDepth 10000 in
theorem agx_ (b c:Nat) (p n c0 r pv:Int) (w:World) (h_p:p=0∨p=1) (h_n : -32768≤n∧n≤32767) (h_c0:c0=0∨c0=1) (h_r:r=0∨r=1) (h_pv : -32768≤pv∧pv≤32767) (hb:w.heap[b]?=some (.cells (xi_ [p,n]) 3)) (hc:w.heap[c]?=some (.cells (xi_ [c0,r,pv]) 3)) :
 Calls Tryz.prog 67 #[.string zx_,.slice (some ⟨b,0,none⟩) 2 2,.slice (some ⟨c,0,none⟩) 3 3] w (zf_ 2 2 (qs_ [p,n] [c0,r,pv] 0) w):=by
 have d0:=xa_ hb 0;have d1:=xa_ hb 1;have e0:=xa_ hc 0;have e1:=xa_ hc 1;have e2:=xa_ hc 2;simp[xi_] at d0 d1 e0 e1 e2;have lb:=xg_ hb;have lc:=xg_ hc;clear hb hc;unfold zx_;rcases h_c0 with rfl|rfl
 · rcases h_r with rfl|rfl
   · skip
     have hF:qs_ [p,n] [0,0,pv] 0=([0,n],[x1_ (decide (n≤0)),n]):=(by simp[qs_,udN,x1_]);rw[hF];have HF:Hid (_=_):=hF;clear hF;go_enter Tryz.func67,Tryz.ntmps67;go_wp2_with fail
     go_region_held3 (fun w'=>w'.cell? ⟨c,0,none⟩=some (.int .i64 0)∧w'.cell? ⟨c,1,none⟩=some (.int .i64 0)∧w'.cell? ⟨c,2,none⟩=some (.int .i64 pv)) (refine⟨?_,?_,?_⟩ <;> (exact k5_)) (first|(go_at_call 28;refine(xl_ _ _).mono ?_;rintro e w' ⟨rfl,rfl⟩))
     all_goals go_wp2_with (go_at_call 28;refine(xl_ _ _).mono ?_;rintro e w' ⟨rfl,rfl⟩)
     all_goals go_ret2
     all_goals first|exact x7_ _ _ _ _|exact zm_ _ _ _ _
   · skip
     have hF:qs_ [p,n] [0,1,pv] 0=([0,pv],[x1_ (decide (pv≤0)),pv]):=(by simp[qs_,udN,x1_]);rw[hF];have HF:Hid (_=_):=hF;clear hF;go_enter Tryz.func67,Tryz.ntmps67;go_wp2_with fail
     go_region_held3 (fun w'=>w'.cell? ⟨c,0,none⟩=some (.int .i64 0)∧w'.cell? ⟨c,1,none⟩=some (.int .i64 1)∧w'.cell? ⟨c,2,none⟩=some (.int .i64 pv)) (refine⟨?_,?_,?_⟩ <;> (exact k5_)) (first|(go_at_call 28;refine(xl_ _ _).mono ?_;rintro e w' ⟨rfl,rfl⟩))
     all_goals go_wp2_with (go_at_call 28;refine(xl_ _ _).mono ?_;rintro e w' ⟨rfl,rfl⟩)
     all_goals go_ret2
     all_goals first|exact x7_ _ _ _ _|exact zm_ _ _ _ _
 · rcases h_p with rfl|rfl
   · rcases h_r with rfl|rfl
     · by_cases hq : -32768<n
       · have hq2:max (n - 1) (-32768)=n - 1:=(by omega);have hF:qs_ [0,n] [1,0,pv] 0=([1,(n - 1)],[x1_ (decide ((n - 1)≤0)),(n - 1)]):=(by simp[qs_,udN,x1_,qk_,ql_,hq2]);rw[hF];have HF:Hid (_=_):=hF;clear hF;go_enter Tryz.func67,Tryz.ntmps67;go_wp2_with fail
         go_region_held3 (fun w'=>w'.cell? ⟨c,0,none⟩=some (.int .i64 1)∧w'.cell? ⟨c,1,none⟩=some (.int .i64 0)∧w'.cell? ⟨c,2,none⟩=some (.int .i64 pv)) (refine⟨?_,?_,?_⟩ <;> (exact k5_)) (first|(go_at_call 28;refine(xl_ _ _).mono ?_;rintro e w' ⟨rfl,rfl⟩))
         all_goals go_wp2_with (go_at_call 28;refine(xl_ _ _).mono ?_;rintro e w' ⟨rfl,rfl⟩)
         all_goals go_ret2
         all_goals first|exact x7_ _ _ _ _|exact zm_ _ _ _ _
       · have hq2:max (n - 1) (-32768)=n:=(by omega);have hF:qs_ [0,n] [1,0,pv] 0=([1,n],[x1_ (decide (n≤0)),n]):=(by simp[qs_,udN,x1_,qk_,ql_,hq2]);rw[hF];have HF:Hid (_=_):=hF;clear hF;go_enter Tryz.func67,Tryz.ntmps67;go_wp2_with fail
         go_region_held3 (fun w'=>w'.cell? ⟨c,0,none⟩=some (.int .i64 1)∧w'.cell? ⟨c,1,none⟩=some (.int .i64 0)∧w'.cell? ⟨c,2,none⟩=some (.int .i64 pv)) (refine⟨?_,?_,?_⟩ <;> (exact k5_)) (first|(go_at_call 28;refine(xl_ _ _).mono ?_;rintro e w' ⟨rfl,rfl⟩))
         all_goals go_wp2_with (go_at_call 28;refine(xl_ _ _).mono ?_;rintro e w' ⟨rfl,rfl⟩)
         all_goals go_ret2
         all_goals first|exact x7_ _ _ _ _|exact zm_ _ _ _ _
     · skip
       have hF:qs_ [0,n] [1,1,pv] 0=([1,pv],[x1_ (decide (pv≤0)),pv]):=(by simp[qs_,udN,x1_]);rw[hF];have HF:Hid (_=_):=hF;clear hF;go_enter Tryz.func67,Tryz.ntmps67;go_wp2_with fail
       go_region_held3 (fun w'=>w'.cell? ⟨c,0,none⟩=some (.int .i64 1)∧w'.cell? ⟨c,1,none⟩=some (.int .i64 1)∧w'.cell? ⟨c,2,none⟩=some (.int .i64 pv)) (refine⟨?_,?_,?_⟩ <;> (exact k5_)) (first|(go_at_call 28;refine(xl_ _ _).mono ?_;rintro e w' ⟨rfl,rfl⟩))
       all_goals go_wp2_with (go_at_call 28;refine(xl_ _ _).mono ?_;rintro e w' ⟨rfl,rfl⟩)
       all_goals go_ret2
       all_goals first|exact x7_ _ _ _ _|exact zm_ _ _ _ _
   · rcases h_r with rfl|rfl
     · skip
       have hF:qs_ [1,n] [1,0,pv] 0=([1,n],[x1_ (decide (n≤0)),n]):=(by simp[qs_,udN,x1_]);rw[hF];have HF:Hid (_=_):=hF;clear hF;go_enter Tryz.func67,Tryz.ntmps67;go_wp2_with fail
       go_region_held3 (fun w'=>w'.cell? ⟨c,0,none⟩=some (.int .i64 1)∧w'.cell? ⟨c,1,none⟩=some (.int .i64 0)∧w'.cell? ⟨c,2,none⟩=some (.int .i64 pv)) (refine⟨?_,?_,?_⟩ <;> (exact k5_)) (first|(go_at_call 28;refine(xl_ _ _).mono ?_;rintro e w' ⟨rfl,rfl⟩))
       all_goals go_wp2_with (go_at_call 28;refine(xl_ _ _).mono ?_;rintro e w' ⟨rfl,rfl⟩)
       all_goals go_ret2
       all_goals first|exact x7_ _ _ _ _|exact zm_ _ _ _ _
     · skip
       have hF:qs_ [1,n] [1,1,pv] 0=([1,pv],[x1_ (decide (pv≤0)),pv]):=(by simp[qs_,udN,x1_]);rw[hF];have HF:Hid (_=_):=hF;clear hF;go_enter Tryz.func67,Tryz.ntmps67;go_wp2_with fail
       go_region_held3 (fun w'=>w'.cell? ⟨c,0,none⟩=some (.int .i64 1)∧w'.cell? ⟨c,1,none⟩=some (.int .i64 1)∧w'.cell? ⟨c,2,none⟩=some (.int .i64 pv)) (refine⟨?_,?_,?_⟩ <;> (exact k5_)) (first|(go_at_call 28;refine(xl_ _ _).mono ?_;rintro e w' ⟨rfl,rfl⟩))
       all_goals go_wp2_with (go_at_call 28;refine(xl_ _ _).mono ?_;rintro e w' ⟨rfl,rfl⟩)
       all_goals go_ret2
       all_goals first|exact x7_ _ _ _ _|exact zm_ _ _ _ _
end Go.Proofs.YtcgbfhpmkpglkaaGreatDoor.Bl
