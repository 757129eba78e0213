/- Texts put together: BlH7. -/
import Derived.Test.YtcgbfhpmkpglkaaGreatDoorQ15
set_option linter.unusedVariables false
set_option linter.unusedSimpArgs false
set_option maxHeartbeats 8000000
namespace Go.Proofs.YtcgbfhpmkpglkaaGreatDoor.Bl
open Go.RowKit
attribute [local go_sem ↓] Go.wp_at_zero Go.wp_at_succ
theorem j1_ {W:World} {p:Nat} {o:Obj} {n:Nat} (h:W.heap[p]?=some o):(W.drewN n).heap[p]?=some o:=h
theorem j2_ {w W:World} {r:Option Nat} {n:Nat} (h:w.grownBy W r):w.grownBy (W.drewN n) r:=⟨h.os,h.tape,h.output,h.size,h.block⟩
theorem amy_ (p b T:Nat) (U:Bool) (D:Bool) (n i0 i1 i2 i3 pv now:Int) (w:World) (hp:w.heap[p]?=some (.cells #[.bool U,.bool D,.int .i64 n] T)) (hb:w.heap[b]?=some (.cells #[.int .i64 i0,.int .i64 i1,.int .i64 i2,.int .i64 i3,.int .i64 pv] 3)) (hne:p≠b) (h0:(i0 != 0)=true) (h1:(i1 != 0)=true) (h2:(i2 != 0)=true) (hc0 : -32768≤n) (hc1:n≤32767) :
 Calls Tryz.prog 146 #[.pointer (some ⟨p,0,none⟩),.slice (some ⟨b,0,none⟩) 5 5,.int .i64 now] w fun e w'=>e=.returned (.slice (some ⟨w.heap.size,0,none⟩) 3 3)∧w'.heap[w.heap.size]?=some (.cells #[.int .i64 (x1_ (decide (pv≤0))),.int .i64 (x1_ true),.int .i64 0] 3)∧w'.heap[p]?=some (.cells #[.bool true,.bool true,.int .i64 0] T)∧w.grownBy w' (some p):=by
 have hpl:=xg_ hp;have c0:=xa_ hb 0;have c1:=xa_ hb 1;have c2:=xa_ hb 2;have c3:=xa_ hb 3;have c4:=xa_ hb 4;have d0:=xa_ hp 0;have f0:=xc_ hp 0;have d1:=xa_ hp 1;have f1:=xc_ hp 1;have d2:=xa_ hp 2;have f2:=xc_ hp 2;simp at c0 c1 c2 c3 c4 d0 d1 d2;obtain⟨q,hq⟩:∃ q,decide (pv≤0)=q:=⟨_,rfl⟩;rw[hq];go_enter Tryz.func146,Tryz.ntmps146;go_wp2;go_region_held3 (fun w'=>w'.cell? ⟨b,0,none⟩=some (.int .i64 i0)∧w'.cell? ⟨b,1,none⟩=some (.int .i64 i1)∧w'.cell? ⟨b,2,none⟩=some (.int .i64 i2)∧w'.cell? ⟨b,3,none⟩=some (.int .i64 i3)∧w'.cell? ⟨b,4,none⟩=some (.int .i64 pv)) (refine⟨?_,?_,?_,?_,?_⟩ <;> (exact k3_)) (first|(go_at_call 119;refine(xn_ _ _).mono ?_;rintro e w' ⟨rfl,rfl⟩))
 go_wp2;go_quiet (fail)
 go_wp2_with (first|(go_at_call 138;refine(y9_ n _ hc0 hc1).mono ?_;rintro e w' ⟨rfl,rfl⟩)|(go_at_call 142;refine(za_ n _ hc0 hc1).mono ?_;rintro e w' ⟨rfl,rfl⟩))
 go_region_held3 (fun w'=>w'.cell? ⟨p,2,none⟩=some (.int .i64 0)) ((exact k3_)) (first|(go_at_call 120;refine(xx_ _ _).mono ?_;rintro e w' ⟨rfl,rfl⟩))
 go_wp2;all_goals go_ret
 all_goals refine⟨rfl,?_,?_,?_⟩
 · repeat(with_reducible refine(xe_ _ _).trans ?_)
   exact xj_ (by simp) _
 · repeat(with_reducible refine(xe_ _ _).trans ?_)
   refine(xh_ (pl_ hpl) _).trans ?_;repeat(with_reducible refine(xe_ _ _).trans ?_)
   apply Eq.trans
   ·repeat(first|with_reducible exact hp|with_reducible apply j1_|apply xk_)
   ·simp
 ·repeat(first|with_reducible exact gz_|with_reducible apply x3_|with_reducible apply xb_|with_reducible apply j2_|with_reducible apply xf_)
theorem amz_ (p b T:Nat) (U:Bool) (D:Bool) (n i0 i1 i2 i3 pv now:Int) (w:World) (hp:w.heap[p]?=some (.cells #[.bool U,.bool D,.int .i64 n] T)) (hb:w.heap[b]?=some (.cells #[.int .i64 i0,.int .i64 i1,.int .i64 i2,.int .i64 i3,.int .i64 pv] 3)) (hne:p≠b) (h0:(i0 != 0)=true) (h1:(i1 != 0)=true) (h2:(i2 != 0)=false) (h3:(i3 != 0)=true) (hc0 : -32768≤n) (hc1:n≤32767) :
 Calls Tryz.prog 146 #[.pointer (some ⟨p,0,none⟩),.slice (some ⟨b,0,none⟩) 5 5,.int .i64 now] w fun e w'=>e=.returned (.slice (some ⟨w.heap.size,0,none⟩) 3 3)∧w'.heap[w.heap.size]?=some (.cells #[.int .i64 (x1_ true),.int .i64 (x1_ (decide (pv≤0))),.int .i64 pv] 3)∧w'.heap[p]?=some (.cells #[.bool true,.bool true,.int .i64 pv] T)∧w.grownBy w' (some p):=by
 have hpl:=xg_ hp;have c0:=xa_ hb 0;have c1:=xa_ hb 1;have c2:=xa_ hb 2;have c3:=xa_ hb 3;have c4:=xa_ hb 4;have d0:=xa_ hp 0;have f0:=xc_ hp 0;have d1:=xa_ hp 1;have f1:=xc_ hp 1;have d2:=xa_ hp 2;have f2:=xc_ hp 2;simp at c0 c1 c2 c3 c4 d0 d1 d2;obtain⟨q,hq⟩:∃ q,decide (pv≤0)=q:=⟨_,rfl⟩;rw[hq];go_enter Tryz.func146,Tryz.ntmps146;go_wp2;go_region_held3 (fun w'=>w'.cell? ⟨b,0,none⟩=some (.int .i64 i0)∧w'.cell? ⟨b,1,none⟩=some (.int .i64 i1)∧w'.cell? ⟨b,2,none⟩=some (.int .i64 i2)∧w'.cell? ⟨b,3,none⟩=some (.int .i64 i3)∧w'.cell? ⟨b,4,none⟩=some (.int .i64 pv)) (refine⟨?_,?_,?_,?_,?_⟩ <;> (exact k3_)) (first|(go_at_call 119;refine(xn_ _ _).mono ?_;rintro e w' ⟨rfl,rfl⟩))
 go_wp2;go_quiet (fail)
 go_wp2_with (first|(go_at_call 138;refine(y9_ n _ hc0 hc1).mono ?_;rintro e w' ⟨rfl,rfl⟩)|(go_at_call 142;refine(za_ n _ hc0 hc1).mono ?_;rintro e w' ⟨rfl,rfl⟩))
 go_region_held3 (fun w'=>w'.cell? ⟨p,2,none⟩=some (.int .i64 pv)) ((exact k3_)) (first|(go_at_call 120;refine(xx_ _ _).mono ?_;rintro e w' ⟨rfl,rfl⟩))
 go_wp2;all_goals go_ret
 all_goals refine⟨rfl,?_,?_,?_⟩
 · repeat(with_reducible refine(xe_ _ _).trans ?_)
   exact xj_ (by simp) _
 · repeat(with_reducible refine(xe_ _ _).trans ?_)
   refine(xh_ (pl_ hpl) _).trans ?_;repeat(with_reducible refine(xe_ _ _).trans ?_)
   apply Eq.trans
   ·repeat(first|with_reducible exact hp|with_reducible apply j1_|apply xk_)
   ·simp
 ·repeat(first|with_reducible exact gz_|with_reducible apply x3_|with_reducible apply xb_|with_reducible apply j2_|with_reducible apply xf_)
theorem am0_ (p b T:Nat) (U:Bool) (D:Bool) (n i0 i1 i2 i3 pv now:Int) (w:World) (hp:w.heap[p]?=some (.cells #[.bool U,.bool D,.int .i64 n] T)) (hb:w.heap[b]?=some (.cells #[.int .i64 i0,.int .i64 i1,.int .i64 i2,.int .i64 i3,.int .i64 pv] 3)) (hne:p≠b) (h0:(i0 != 0)=true) (h1:(i1 != 0)=false) (h2:(i2 != 0)=true) (hc0 : -32768≤n) (hc1:n≤32767) :
 Calls Tryz.prog 146 #[.pointer (some ⟨p,0,none⟩),.slice (some ⟨b,0,none⟩) 5 5,.int .i64 now] w fun e w'=>e=.returned (.slice (some ⟨w.heap.size,0,none⟩) 3 3)∧w'.heap[w.heap.size]?=some (.cells #[.int .i64 (x1_ (decide (pv≤0))),.int .i64 (x1_ true),.int .i64 0] 3)∧w'.heap[p]?=some (.cells #[.bool true,.bool false,.int .i64 0] T)∧w.grownBy w' (some p):=by
 have hpl:=xg_ hp;have c0:=xa_ hb 0;have c1:=xa_ hb 1;have c2:=xa_ hb 2;have c3:=xa_ hb 3;have c4:=xa_ hb 4;have d0:=xa_ hp 0;have f0:=xc_ hp 0;have d1:=xa_ hp 1;have f1:=xc_ hp 1;have d2:=xa_ hp 2;have f2:=xc_ hp 2;simp at c0 c1 c2 c3 c4 d0 d1 d2;obtain⟨q,hq⟩:∃ q,decide (pv≤0)=q:=⟨_,rfl⟩;rw[hq];go_enter Tryz.func146,Tryz.ntmps146;go_wp2;go_region_held3 (fun w'=>w'.cell? ⟨b,0,none⟩=some (.int .i64 i0)∧w'.cell? ⟨b,1,none⟩=some (.int .i64 i1)∧w'.cell? ⟨b,2,none⟩=some (.int .i64 i2)∧w'.cell? ⟨b,3,none⟩=some (.int .i64 i3)∧w'.cell? ⟨b,4,none⟩=some (.int .i64 pv)) (refine⟨?_,?_,?_,?_,?_⟩ <;> (exact k3_)) (first|(go_at_call 119;refine(xn_ _ _).mono ?_;rintro e w' ⟨rfl,rfl⟩))
 go_wp2;go_quiet (fail)
 go_wp2_with (first|(go_at_call 138;refine(y9_ n _ hc0 hc1).mono ?_;rintro e w' ⟨rfl,rfl⟩)|(go_at_call 142;refine(za_ n _ hc0 hc1).mono ?_;rintro e w' ⟨rfl,rfl⟩))
 go_region_held3 (fun w'=>w'.cell? ⟨p,2,none⟩=some (.int .i64 0)) ((exact k3_)) (first|(go_at_call 120;refine(xx_ _ _).mono ?_;rintro e w' ⟨rfl,rfl⟩))
 go_wp2;all_goals go_ret
 all_goals refine⟨rfl,?_,?_,?_⟩
 · repeat(with_reducible refine(xe_ _ _).trans ?_)
   exact xj_ (by simp) _
 · repeat(with_reducible refine(xe_ _ _).trans ?_)
   refine(xh_ (pl_ hpl) _).trans ?_;repeat(with_reducible refine(xe_ _ _).trans ?_)
   apply Eq.trans
   ·repeat(first|with_reducible exact hp|with_reducible apply j1_|apply xk_)
   ·simp
 ·repeat(first|with_reducible exact gz_|with_reducible apply x3_|with_reducible apply xb_|with_reducible apply j2_|with_reducible apply xf_)
theorem am1_ (p b T:Nat) (U:Bool) (D:Bool) (n i0 i1 i2 i3 pv now:Int) (w:World) (hp:w.heap[p]?=some (.cells #[.bool U,.bool D,.int .i64 n] T)) (hb:w.heap[b]?=some (.cells #[.int .i64 i0,.int .i64 i1,.int .i64 i2,.int .i64 i3,.int .i64 pv] 3)) (hne:p≠b) (h0:(i0 != 0)=true) (h1:(i1 != 0)=false) (h2:(i2 != 0)=false) (h3:(i3 != 0)=true) (hc0 : -32768≤n) (hc1:n≤32767) :
 Calls Tryz.prog 146 #[.pointer (some ⟨p,0,none⟩),.slice (some ⟨b,0,none⟩) 5 5,.int .i64 now] w fun e w'=>e=.returned (.slice (some ⟨w.heap.size,0,none⟩) 3 3)∧w'.heap[w.heap.size]?=some (.cells #[.int .i64 (x1_ true),.int .i64 (x1_ (decide (pv≤0))),.int .i64 pv] 3)∧w'.heap[p]?=some (.cells #[.bool true,.bool false,.int .i64 pv] T)∧w.grownBy w' (some p):=by
 have hpl:=xg_ hp;have c0:=xa_ hb 0;have c1:=xa_ hb 1;have c2:=xa_ hb 2;have c3:=xa_ hb 3;have c4:=xa_ hb 4;have d0:=xa_ hp 0;have f0:=xc_ hp 0;have d1:=xa_ hp 1;have f1:=xc_ hp 1;have d2:=xa_ hp 2;have f2:=xc_ hp 2;simp at c0 c1 c2 c3 c4 d0 d1 d2;obtain⟨q,hq⟩:∃ q,decide (pv≤0)=q:=⟨_,rfl⟩;rw[hq];go_enter Tryz.func146,Tryz.ntmps146;go_wp2;go_region_held3 (fun w'=>w'.cell? ⟨b,0,none⟩=some (.int .i64 i0)∧w'.cell? ⟨b,1,none⟩=some (.int .i64 i1)∧w'.cell? ⟨b,2,none⟩=some (.int .i64 i2)∧w'.cell? ⟨b,3,none⟩=some (.int .i64 i3)∧w'.cell? ⟨b,4,none⟩=some (.int .i64 pv)) (refine⟨?_,?_,?_,?_,?_⟩ <;> (exact k3_)) (first|(go_at_call 119;refine(xn_ _ _).mono ?_;rintro e w' ⟨rfl,rfl⟩))
 go_wp2;go_quiet (fail)
 go_wp2_with (first|(go_at_call 138;refine(y9_ n _ hc0 hc1).mono ?_;rintro e w' ⟨rfl,rfl⟩)|(go_at_call 142;refine(za_ n _ hc0 hc1).mono ?_;rintro e w' ⟨rfl,rfl⟩))
 go_region_held3 (fun w'=>w'.cell? ⟨p,2,none⟩=some (.int .i64 pv)) ((exact k3_)) (first|(go_at_call 120;refine(xx_ _ _).mono ?_;rintro e w' ⟨rfl,rfl⟩))
 go_wp2;all_goals go_ret
 all_goals refine⟨rfl,?_,?_,?_⟩
 · repeat(with_reducible refine(xe_ _ _).trans ?_)
   exact xj_ (by simp) _
 · repeat(with_reducible refine(xe_ _ _).trans ?_)
   refine(xh_ (pl_ hpl) _).trans ?_;repeat(with_reducible refine(xe_ _ _).trans ?_)
   apply Eq.trans
   ·repeat(first|with_reducible exact hp|with_reducible apply j1_|apply xk_)
   ·simp
 ·repeat(first|with_reducible exact gz_|with_reducible apply x3_|with_reducible apply xb_|with_reducible apply j2_|with_reducible apply xf_)
theorem am2_ (p b T:Nat) (U:Bool) (D:Bool) (n i0 i1 i2 i3 pv now:Int) (w:World) (hp:w.heap[p]?=some (.cells #[.bool U,.bool D,.int .i64 n] T)) (hb:w.heap[b]?=some (.cells #[.int .i64 i0,.int .i64 i1,.int .i64 i2,.int .i64 i3,.int .i64 pv] 3)) (hne:p≠b) (h0:(i0 != 0)=false) (h1:(i1 != 0)=true) (h2:(i2 != 0)=true) (hc0 : -32768≤n) (hc1:n≤32767) :
 Calls Tryz.prog 146 #[.pointer (some ⟨p,0,none⟩),.slice (some ⟨b,0,none⟩) 5 5,.int .i64 now] w fun e w'=>e=.returned (.slice (some ⟨w.heap.size,0,none⟩) 3 3)∧w'.heap[w.heap.size]?=some (.cells #[.int .i64 (x1_ (decide (pv≤0))),.int .i64 (x1_ true),.int .i64 0] 3)∧w'.heap[p]?=some (.cells #[.bool false,.bool true,.int .i64 0] T)∧w.grownBy w' (some p):=by
 have hpl:=xg_ hp;have c0:=xa_ hb 0;have c1:=xa_ hb 1;have c2:=xa_ hb 2;have c3:=xa_ hb 3;have c4:=xa_ hb 4;have d0:=xa_ hp 0;have f0:=xc_ hp 0;have d1:=xa_ hp 1;have f1:=xc_ hp 1;have d2:=xa_ hp 2;have f2:=xc_ hp 2;simp at c0 c1 c2 c3 c4 d0 d1 d2;obtain⟨q,hq⟩:∃ q,decide (pv≤0)=q:=⟨_,rfl⟩;rw[hq];go_enter Tryz.func146,Tryz.ntmps146;go_wp2;go_region_held3 (fun w'=>w'.cell? ⟨b,0,none⟩=some (.int .i64 i0)∧w'.cell? ⟨b,1,none⟩=some (.int .i64 i1)∧w'.cell? ⟨b,2,none⟩=some (.int .i64 i2)∧w'.cell? ⟨b,3,none⟩=some (.int .i64 i3)∧w'.cell? ⟨b,4,none⟩=some (.int .i64 pv)) (refine⟨?_,?_,?_,?_,?_⟩ <;> (exact k3_)) (first|(go_at_call 119;refine(xn_ _ _).mono ?_;rintro e w' ⟨rfl,rfl⟩))
 go_wp2;go_quiet (fail)
 go_wp2_with (first|(go_at_call 138;refine(y9_ n _ hc0 hc1).mono ?_;rintro e w' ⟨rfl,rfl⟩)|(go_at_call 142;refine(za_ n _ hc0 hc1).mono ?_;rintro e w' ⟨rfl,rfl⟩))
 go_region_held3 (fun w'=>w'.cell? ⟨p,2,none⟩=some (.int .i64 0)) ((exact k3_)) (first|(go_at_call 120;refine(xx_ _ _).mono ?_;rintro e w' ⟨rfl,rfl⟩))
 go_wp2;all_goals go_ret
 all_goals refine⟨rfl,?_,?_,?_⟩
 · repeat(with_reducible refine(xe_ _ _).trans ?_)
   exact xj_ (by simp) _
 · repeat(with_reducible refine(xe_ _ _).trans ?_)
   refine(xh_ (pl_ hpl) _).trans ?_;repeat(with_reducible refine(xe_ _ _).trans ?_)
   apply Eq.trans
   ·repeat(first|with_reducible exact hp|with_reducible apply j1_|apply xk_)
   ·simp
 ·repeat(first|with_reducible exact gz_|with_reducible apply x3_|with_reducible apply xb_|with_reducible apply j2_|with_reducible apply xf_)
theorem am3_ (p b T:Nat) (U:Bool) (D:Bool) (n i0 i1 i2 i3 pv now:Int) (w:World) (hp:w.heap[p]?=some (.cells #[.bool U,.bool D,.int .i64 n] T)) (hb:w.heap[b]?=some (.cells #[.int .i64 i0,.int .i64 i1,.int .i64 i2,.int .i64 i3,.int .i64 pv] 3)) (hne:p≠b) (h0:(i0 != 0)=false) (h1:(i1 != 0)=true) (h2:(i2 != 0)=false) (h3:(i3 != 0)=true) (hc0 : -32768≤n) (hc1:n≤32767) :
 Calls Tryz.prog 146 #[.pointer (some ⟨p,0,none⟩),.slice (some ⟨b,0,none⟩) 5 5,.int .i64 now] w fun e w'=>e=.returned (.slice (some ⟨w.heap.size,0,none⟩) 3 3)∧w'.heap[w.heap.size]?=some (.cells #[.int .i64 (x1_ true),.int .i64 (x1_ (decide (pv≤0))),.int .i64 pv] 3)∧w'.heap[p]?=some (.cells #[.bool false,.bool true,.int .i64 pv] T)∧w.grownBy w' (some p):=by
 have hpl:=xg_ hp;have c0:=xa_ hb 0;have c1:=xa_ hb 1;have c2:=xa_ hb 2;have c3:=xa_ hb 3;have c4:=xa_ hb 4;have d0:=xa_ hp 0;have f0:=xc_ hp 0;have d1:=xa_ hp 1;have f1:=xc_ hp 1;have d2:=xa_ hp 2;have f2:=xc_ hp 2;simp at c0 c1 c2 c3 c4 d0 d1 d2;obtain⟨q,hq⟩:∃ q,decide (pv≤0)=q:=⟨_,rfl⟩;rw[hq];go_enter Tryz.func146,Tryz.ntmps146;go_wp2;go_region_held3 (fun w'=>w'.cell? ⟨b,0,none⟩=some (.int .i64 i0)∧w'.cell? ⟨b,1,none⟩=some (.int .i64 i1)∧w'.cell? ⟨b,2,none⟩=some (.int .i64 i2)∧w'.cell? ⟨b,3,none⟩=some (.int .i64 i3)∧w'.cell? ⟨b,4,none⟩=some (.int .i64 pv)) (refine⟨?_,?_,?_,?_,?_⟩ <;> (exact k3_)) (first|(go_at_call 119;refine(xn_ _ _).mono ?_;rintro e w' ⟨rfl,rfl⟩))
 go_wp2;go_quiet (fail)
 go_wp2_with (first|(go_at_call 138;refine(y9_ n _ hc0 hc1).mono ?_;rintro e w' ⟨rfl,rfl⟩)|(go_at_call 142;refine(za_ n _ hc0 hc1).mono ?_;rintro e w' ⟨rfl,rfl⟩))
 go_region_held3 (fun w'=>w'.cell? ⟨p,2,none⟩=some (.int .i64 pv)) ((exact k3_)) (first|(go_at_call 120;refine(xx_ _ _).mono ?_;rintro e w' ⟨rfl,rfl⟩))
 go_wp2;all_goals go_ret
 all_goals refine⟨rfl,?_,?_,?_⟩
 · repeat(with_reducible refine(xe_ _ _).trans ?_)
   exact xj_ (by simp) _
 · repeat(with_reducible refine(xe_ _ _).trans ?_)
   refine(xh_ (pl_ hpl) _).trans ?_;repeat(with_reducible refine(xe_ _ _).trans ?_)
   apply Eq.trans
   ·repeat(first|with_reducible exact hp|with_reducible apply j1_|apply xk_)
   ·simp
 ·repeat(first|with_reducible exact gz_|with_reducible apply x3_|with_reducible apply xb_|with_reducible apply j2_|with_reducible apply xf_)
theorem am4_ (p b T:Nat) (U:Bool) (D:Bool) (n i0 i1 i2 i3 pv now:Int) (w:World) (hp:w.heap[p]?=some (.cells #[.bool U,.bool D,.int .i64 n] T)) (hb:w.heap[b]?=some (.cells #[.int .i64 i0,.int .i64 i1,.int .i64 i2,.int .i64 i3,.int .i64 pv] 3)) (hne:p≠b) (h0:(i0 != 0)=false) (h1:(i1 != 0)=false) (h2:(i2 != 0)=true) (hc0 : -32768≤n) (hc1:n≤32767) :
 Calls Tryz.prog 146 #[.pointer (some ⟨p,0,none⟩),.slice (some ⟨b,0,none⟩) 5 5,.int .i64 now] w fun e w'=>e=.returned (.slice (some ⟨w.heap.size,0,none⟩) 3 3)∧w'.heap[w.heap.size]?=some (.cells #[.int .i64 (x1_ (decide (pv≤0))),.int .i64 (x1_ true),.int .i64 0] 3)∧w'.heap[p]?=some (.cells #[.bool false,.bool false,.int .i64 0] T)∧w.grownBy w' (some p):=by
 have hpl:=xg_ hp;have c0:=xa_ hb 0;have c1:=xa_ hb 1;have c2:=xa_ hb 2;have c3:=xa_ hb 3;have c4:=xa_ hb 4;have d0:=xa_ hp 0;have f0:=xc_ hp 0;have d1:=xa_ hp 1;have f1:=xc_ hp 1;have d2:=xa_ hp 2;have f2:=xc_ hp 2;simp at c0 c1 c2 c3 c4 d0 d1 d2;obtain⟨q,hq⟩:∃ q,decide (pv≤0)=q:=⟨_,rfl⟩;rw[hq];go_enter Tryz.func146,Tryz.ntmps146;go_wp2;go_region_held3 (fun w'=>w'.cell? ⟨b,0,none⟩=some (.int .i64 i0)∧w'.cell? ⟨b,1,none⟩=some (.int .i64 i1)∧w'.cell? ⟨b,2,none⟩=some (.int .i64 i2)∧w'.cell? ⟨b,3,none⟩=some (.int .i64 i3)∧w'.cell? ⟨b,4,none⟩=some (.int .i64 pv)) (refine⟨?_,?_,?_,?_,?_⟩ <;> (exact k3_)) (first|(go_at_call 119;refine(xn_ _ _).mono ?_;rintro e w' ⟨rfl,rfl⟩))
 go_wp2;go_quiet (fail)
 go_wp2_with (first|(go_at_call 138;refine(y9_ n _ hc0 hc1).mono ?_;rintro e w' ⟨rfl,rfl⟩)|(go_at_call 142;refine(za_ n _ hc0 hc1).mono ?_;rintro e w' ⟨rfl,rfl⟩))
 go_region_held3 (fun w'=>w'.cell? ⟨p,2,none⟩=some (.int .i64 0)) ((exact k3_)) (first|(go_at_call 120;refine(xx_ _ _).mono ?_;rintro e w' ⟨rfl,rfl⟩))
 go_wp2;all_goals go_ret
 all_goals refine⟨rfl,?_,?_,?_⟩
 · repeat(with_reducible refine(xe_ _ _).trans ?_)
   exact xj_ (by simp) _
 · repeat(with_reducible refine(xe_ _ _).trans ?_)
   refine(xh_ (pl_ hpl) _).trans ?_;repeat(with_reducible refine(xe_ _ _).trans ?_)
   apply Eq.trans
   ·repeat(first|with_reducible exact hp|with_reducible apply j1_|apply xk_)
   ·simp
 ·repeat(first|with_reducible exact gz_|with_reducible apply x3_|with_reducible apply xb_|with_reducible apply j2_|with_reducible apply xf_)
theorem am5_ (p b T:Nat) (U:Bool) (D:Bool) (n i0 i1 i2 i3 pv now:Int) (w:World) (hp:w.heap[p]?=some (.cells #[.bool U,.bool D,.int .i64 n] T)) (hb:w.heap[b]?=some (.cells #[.int .i64 i0,.int .i64 i1,.int .i64 i2,.int .i64 i3,.int .i64 pv] 3)) (hne:p≠b) (h0:(i0 != 0)=false) (h1:(i1 != 0)=false) (h2:(i2 != 0)=false) (h3:(i3 != 0)=true) (hc0 : -32768≤n) (hc1:n≤32767) :
 Calls Tryz.prog 146 #[.pointer (some ⟨p,0,none⟩),.slice (some ⟨b,0,none⟩) 5 5,.int .i64 now] w fun e w'=>e=.returned (.slice (some ⟨w.heap.size,0,none⟩) 3 3)∧w'.heap[w.heap.size]?=some (.cells #[.int .i64 (x1_ true),.int .i64 (x1_ (decide (pv≤0))),.int .i64 pv] 3)∧w'.heap[p]?=some (.cells #[.bool false,.bool false,.int .i64 pv] T)∧w.grownBy w' (some p):=by
 have hpl:=xg_ hp;have c0:=xa_ hb 0;have c1:=xa_ hb 1;have c2:=xa_ hb 2;have c3:=xa_ hb 3;have c4:=xa_ hb 4;have d0:=xa_ hp 0;have f0:=xc_ hp 0;have d1:=xa_ hp 1;have f1:=xc_ hp 1;have d2:=xa_ hp 2;have f2:=xc_ hp 2;simp at c0 c1 c2 c3 c4 d0 d1 d2;obtain⟨q,hq⟩:∃ q,decide (pv≤0)=q:=⟨_,rfl⟩;rw[hq];go_enter Tryz.func146,Tryz.ntmps146;go_wp2;go_region_held3 (fun w'=>w'.cell? ⟨b,0,none⟩=some (.int .i64 i0)∧w'.cell? ⟨b,1,none⟩=some (.int .i64 i1)∧w'.cell? ⟨b,2,none⟩=some (.int .i64 i2)∧w'.cell? ⟨b,3,none⟩=some (.int .i64 i3)∧w'.cell? ⟨b,4,none⟩=some (.int .i64 pv)) (refine⟨?_,?_,?_,?_,?_⟩ <;> (exact k3_)) (first|(go_at_call 119;refine(xn_ _ _).mono ?_;rintro e w' ⟨rfl,rfl⟩))
 go_wp2;go_quiet (fail)
 go_wp2_with (first|(go_at_call 138;refine(y9_ n _ hc0 hc1).mono ?_;rintro e w' ⟨rfl,rfl⟩)|(go_at_call 142;refine(za_ n _ hc0 hc1).mono ?_;rintro e w' ⟨rfl,rfl⟩))
 go_region_held3 (fun w'=>w'.cell? ⟨p,2,none⟩=some (.int .i64 pv)) ((exact k3_)) (first|(go_at_call 120;refine(xx_ _ _).mono ?_;rintro e w' ⟨rfl,rfl⟩))
 go_wp2;all_goals go_ret
 all_goals refine⟨rfl,?_,?_,?_⟩
 · repeat(with_reducible refine(xe_ _ _).trans ?_)
   exact xj_ (by simp) _
 · repeat(with_reducible refine(xe_ _ _).trans ?_)
   refine(xh_ (pl_ hpl) _).trans ?_;repeat(with_reducible refine(xe_ _ _).trans ?_)
   apply Eq.trans
   ·repeat(first|with_reducible exact hp|with_reducible apply j1_|apply xk_)
   ·simp
 ·repeat(first|with_reducible exact gz_|with_reducible apply x3_|with_reducible apply xb_|with_reducible apply j2_|with_reducible apply xf_)
end Go.Proofs.YtcgbfhpmkpglkaaGreatDoor.Bl
