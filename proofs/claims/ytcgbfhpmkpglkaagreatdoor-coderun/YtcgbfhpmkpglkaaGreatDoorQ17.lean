/- Texts put together: BlH5. -/
import Derived.Test.YtcgbfhpmkpglkaaGreatDoorQ15
set_option linter.unusedVariables false
set_option linter.unusedSimpArgs false
set_option maxHeartbeats 8000000
namespace Go.Proofs.YtcgbfhpmkpglkaaGreatDoor.Bl
open Go.RowKit
attribute [local go_sem ↓] Go.wp_at_zero Go.wp_at_succ
theorem app_ (p b T:Nat) (i0 now:Int) (w:World) (hp:w.heap[p]?=some (.cells #[.bool true] T)) (hb:w.heap[b]?=some (.cells #[.int .i64 i0] 3)) (hne:p≠b) (h0:(i0 != 0)=true) :
 Calls Tryz.prog 150 #[.pointer (some ⟨p,0,none⟩),.slice (some ⟨b,0,none⟩) 1 1,.int .i64 now] w fun e w'=>e=.returned (.slice (some ⟨w.heap.size,0,none⟩) 1 1)∧w'.heap[w.heap.size]?=some (.cells #[.int .i64 0] 3)∧w'.heap[p]?=some (.cells #[.bool true] T)∧w.grownBy w' (some p):=by
 have hpl:=xg_ hp;have c0:=xa_ hb 0;have d0:=xa_ hp 0;have f0:=xc_ hp 0;simp at c0 d0;go_enter Tryz.func150,Tryz.ntmps150;go_wp2_with (first|(go_at_call 119;refine(xn_ _ _).mono ?_;rintro e w' ⟨rfl,rfl⟩)|(go_at_call 120;refine(xx_ _ _).mono ?_;rintro e w' ⟨rfl,rfl⟩))
 all_goals go_ret
 all_goals refine⟨rfl,?_,?_,?_⟩
 · repeat(with_reducible refine(xe_ _ _).trans ?_)
   exact xj_ (by simp) _
 · repeat(with_reducible refine(xe_ _ _).trans ?_)
   refine(xh_ (pl_ hpl) _).trans ?_;repeat(with_reducible refine(xe_ _ _).trans ?_)
   apply Eq.trans
   ·repeat(first|with_reducible exact hp|apply xk_)
   ·simp
 ·exact kg_
theorem apq_ (p b T:Nat) (i0 now:Int) (w:World) (hp:w.heap[p]?=some (.cells #[.bool false] T)) (hb:w.heap[b]?=some (.cells #[.int .i64 i0] 3)) (hne:p≠b) (h0:(i0 != 0)=true) :
 Calls Tryz.prog 150 #[.pointer (some ⟨p,0,none⟩),.slice (some ⟨b,0,none⟩) 1 1,.int .i64 now] w fun e w'=>e=.returned (.slice (some ⟨w.heap.size,0,none⟩) 1 1)∧w'.heap[w.heap.size]?=some (.cells #[.int .i64 1] 3)∧w'.heap[p]?=some (.cells #[.bool true] T)∧w.grownBy w' (some p):=by
 have hpl:=xg_ hp;have c0:=xa_ hb 0;have d0:=xa_ hp 0;have f0:=xc_ hp 0;simp at c0 d0;go_enter Tryz.func150,Tryz.ntmps150;go_wp2_with (first|(go_at_call 119;refine(xn_ _ _).mono ?_;rintro e w' ⟨rfl,rfl⟩)|(go_at_call 120;refine(xx_ _ _).mono ?_;rintro e w' ⟨rfl,rfl⟩))
 all_goals go_ret
 all_goals refine⟨rfl,?_,?_,?_⟩
 · repeat(with_reducible refine(xe_ _ _).trans ?_)
   exact xj_ (by simp) _
 · repeat(with_reducible refine(xe_ _ _).trans ?_)
   refine(xh_ (pl_ hpl) _).trans ?_;repeat(with_reducible refine(xe_ _ _).trans ?_)
   apply Eq.trans
   ·repeat(first|with_reducible exact hp|apply xk_)
   ·simp
 ·exact kg_
theorem apr_ (p b T:Nat) (i0 now:Int) (w:World) (hp:w.heap[p]?=some (.cells #[.bool true] T)) (hb:w.heap[b]?=some (.cells #[.int .i64 i0] 3)) (hne:p≠b) (h0:(i0 != 0)=false) :
 Calls Tryz.prog 150 #[.pointer (some ⟨p,0,none⟩),.slice (some ⟨b,0,none⟩) 1 1,.int .i64 now] w fun e w'=>e=.returned (.slice (some ⟨w.heap.size,0,none⟩) 1 1)∧w'.heap[w.heap.size]?=some (.cells #[.int .i64 0] 3)∧w'.heap[p]?=some (.cells #[.bool false] T)∧w.grownBy w' (some p):=by
 have hpl:=xg_ hp;have c0:=xa_ hb 0;have d0:=xa_ hp 0;have f0:=xc_ hp 0;simp at c0 d0;go_enter Tryz.func150,Tryz.ntmps150;go_wp2_with (first|(go_at_call 119;refine(xn_ _ _).mono ?_;rintro e w' ⟨rfl,rfl⟩)|(go_at_call 120;refine(xx_ _ _).mono ?_;rintro e w' ⟨rfl,rfl⟩))
 all_goals go_ret
 all_goals refine⟨rfl,?_,?_,?_⟩
 · repeat(with_reducible refine(xe_ _ _).trans ?_)
   exact xj_ (by simp) _
 · repeat(with_reducible refine(xe_ _ _).trans ?_)
   refine(xh_ (pl_ hpl) _).trans ?_;repeat(with_reducible refine(xe_ _ _).trans ?_)
   apply Eq.trans
   ·repeat(first|with_reducible exact hp|apply xk_)
   ·simp
 ·exact kg_
theorem aps_ (p b T:Nat) (i0 now:Int) (w:World) (hp:w.heap[p]?=some (.cells #[.bool false] T)) (hb:w.heap[b]?=some (.cells #[.int .i64 i0] 3)) (hne:p≠b) (h0:(i0 != 0)=false) :
 Calls Tryz.prog 150 #[.pointer (some ⟨p,0,none⟩),.slice (some ⟨b,0,none⟩) 1 1,.int .i64 now] w fun e w'=>e=.returned (.slice (some ⟨w.heap.size,0,none⟩) 1 1)∧w'.heap[w.heap.size]?=some (.cells #[.int .i64 0] 3)∧w'.heap[p]?=some (.cells #[.bool false] T)∧w.grownBy w' (some p):=by
 have hpl:=xg_ hp;have c0:=xa_ hb 0;have d0:=xa_ hp 0;have f0:=xc_ hp 0;simp at c0 d0;go_enter Tryz.func150,Tryz.ntmps150;go_wp2_with (first|(go_at_call 119;refine(xn_ _ _).mono ?_;rintro e w' ⟨rfl,rfl⟩)|(go_at_call 120;refine(xx_ _ _).mono ?_;rintro e w' ⟨rfl,rfl⟩))
 all_goals go_ret
 all_goals refine⟨rfl,?_,?_,?_⟩
 · repeat(with_reducible refine(xe_ _ _).trans ?_)
   exact xj_ (by simp) _
 · repeat(with_reducible refine(xe_ _ _).trans ?_)
   refine(xh_ (pl_ hpl) _).trans ?_;repeat(with_reducible refine(xe_ _ _).trans ?_)
   apply Eq.trans
   ·repeat(first|with_reducible exact hp|apply xk_)
   ·simp
 ·exact kg_
theorem apt_ (p b T:Nat) (i0 now:Int) (w:World) (hp:w.heap[p]?=some (.cells #[.bool true] T)) (hb:w.heap[b]?=some (.cells #[.int .i64 i0] 3)) (hne:p≠b) (h0:(i0 != 0)=true) :
 Calls Tryz.prog 151 #[.pointer (some ⟨p,0,none⟩),.slice (some ⟨b,0,none⟩) 1 1,.int .i64 now] w fun e w'=>e=.returned (.slice (some ⟨w.heap.size,0,none⟩) 1 1)∧w'.heap[w.heap.size]?=some (.cells #[.int .i64 0] 3)∧w'.heap[p]?=some (.cells #[.bool true] T)∧w.grownBy w' (some p):=by
 have hpl:=xg_ hp;have c0:=xa_ hb 0;have d0:=xa_ hp 0;have f0:=xc_ hp 0;simp at c0 d0;go_enter Tryz.func151,Tryz.ntmps151;go_wp2_with (first|(go_at_call 119;refine(xn_ _ _).mono ?_;rintro e w' ⟨rfl,rfl⟩)|(go_at_call 120;refine(xx_ _ _).mono ?_;rintro e w' ⟨rfl,rfl⟩))
 all_goals go_ret
 all_goals refine⟨rfl,?_,?_,?_⟩
 · repeat(with_reducible refine(xe_ _ _).trans ?_)
   exact xj_ (by simp) _
 · repeat(with_reducible refine(xe_ _ _).trans ?_)
   refine(xh_ (pl_ hpl) _).trans ?_;repeat(with_reducible refine(xe_ _ _).trans ?_)
   apply Eq.trans
   ·repeat(first|with_reducible exact hp|apply xk_)
   ·simp
 ·exact kg_
theorem apu_ (p b T:Nat) (i0 now:Int) (w:World) (hp:w.heap[p]?=some (.cells #[.bool false] T)) (hb:w.heap[b]?=some (.cells #[.int .i64 i0] 3)) (hne:p≠b) (h0:(i0 != 0)=true) :
 Calls Tryz.prog 151 #[.pointer (some ⟨p,0,none⟩),.slice (some ⟨b,0,none⟩) 1 1,.int .i64 now] w fun e w'=>e=.returned (.slice (some ⟨w.heap.size,0,none⟩) 1 1)∧w'.heap[w.heap.size]?=some (.cells #[.int .i64 0] 3)∧w'.heap[p]?=some (.cells #[.bool true] T)∧w.grownBy w' (some p):=by
 have hpl:=xg_ hp;have c0:=xa_ hb 0;have d0:=xa_ hp 0;have f0:=xc_ hp 0;simp at c0 d0;go_enter Tryz.func151,Tryz.ntmps151;go_wp2_with (first|(go_at_call 119;refine(xn_ _ _).mono ?_;rintro e w' ⟨rfl,rfl⟩)|(go_at_call 120;refine(xx_ _ _).mono ?_;rintro e w' ⟨rfl,rfl⟩))
 all_goals go_ret
 all_goals refine⟨rfl,?_,?_,?_⟩
 · repeat(with_reducible refine(xe_ _ _).trans ?_)
   exact xj_ (by simp) _
 · repeat(with_reducible refine(xe_ _ _).trans ?_)
   refine(xh_ (pl_ hpl) _).trans ?_;repeat(with_reducible refine(xe_ _ _).trans ?_)
   apply Eq.trans
   ·repeat(first|with_reducible exact hp|apply xk_)
   ·simp
 ·exact kg_
theorem apv_ (p b T:Nat) (i0 now:Int) (w:World) (hp:w.heap[p]?=some (.cells #[.bool true] T)) (hb:w.heap[b]?=some (.cells #[.int .i64 i0] 3)) (hne:p≠b) (h0:(i0 != 0)=false) :
 Calls Tryz.prog 151 #[.pointer (some ⟨p,0,none⟩),.slice (some ⟨b,0,none⟩) 1 1,.int .i64 now] w fun e w'=>e=.returned (.slice (some ⟨w.heap.size,0,none⟩) 1 1)∧w'.heap[w.heap.size]?=some (.cells #[.int .i64 1] 3)∧w'.heap[p]?=some (.cells #[.bool false] T)∧w.grownBy w' (some p):=by
 have hpl:=xg_ hp;have c0:=xa_ hb 0;have d0:=xa_ hp 0;have f0:=xc_ hp 0;simp at c0 d0;go_enter Tryz.func151,Tryz.ntmps151;go_wp2_with (first|(go_at_call 119;refine(xn_ _ _).mono ?_;rintro e w' ⟨rfl,rfl⟩)|(go_at_call 120;refine(xx_ _ _).mono ?_;rintro e w' ⟨rfl,rfl⟩))
 all_goals go_ret
 all_goals refine⟨rfl,?_,?_,?_⟩
 · repeat(with_reducible refine(xe_ _ _).trans ?_)
   exact xj_ (by simp) _
 · repeat(with_reducible refine(xe_ _ _).trans ?_)
   refine(xh_ (pl_ hpl) _).trans ?_;repeat(with_reducible refine(xe_ _ _).trans ?_)
   apply Eq.trans
   ·repeat(first|with_reducible exact hp|apply xk_)
   ·simp
 ·exact kg_
theorem apw_ (p b T:Nat) (i0 now:Int) (w:World) (hp:w.heap[p]?=some (.cells #[.bool false] T)) (hb:w.heap[b]?=some (.cells #[.int .i64 i0] 3)) (hne:p≠b) (h0:(i0 != 0)=false) :
 Calls Tryz.prog 151 #[.pointer (some ⟨p,0,none⟩),.slice (some ⟨b,0,none⟩) 1 1,.int .i64 now] w fun e w'=>e=.returned (.slice (some ⟨w.heap.size,0,none⟩) 1 1)∧w'.heap[w.heap.size]?=some (.cells #[.int .i64 0] 3)∧w'.heap[p]?=some (.cells #[.bool false] T)∧w.grownBy w' (some p):=by
 have hpl:=xg_ hp;have c0:=xa_ hb 0;have d0:=xa_ hp 0;have f0:=xc_ hp 0;simp at c0 d0;go_enter Tryz.func151,Tryz.ntmps151;go_wp2_with (first|(go_at_call 119;refine(xn_ _ _).mono ?_;rintro e w' ⟨rfl,rfl⟩)|(go_at_call 120;refine(xx_ _ _).mono ?_;rintro e w' ⟨rfl,rfl⟩))
 all_goals go_ret
 all_goals refine⟨rfl,?_,?_,?_⟩
 · repeat(with_reducible refine(xe_ _ _).trans ?_)
   exact xj_ (by simp) _
 · repeat(with_reducible refine(xe_ _ _).trans ?_)
   refine(xh_ (pl_ hpl) _).trans ?_;repeat(with_reducible refine(xe_ _ _).trans ?_)
   apply Eq.trans
   ·repeat(first|with_reducible exact hp|apply xk_)
   ·simp
 ·exact kg_
theorem au2_ (p b T:Nat) (i0 i1 now:Int) (w:World) (hp:w.heap[p]?=some (.cells #[.bool true] T)) (hb:w.heap[b]?=some (.cells #[.int .i64 i0,.int .i64 i1] 3)) (hne:p≠b) (h0:(i0 != 0)=true) (h1:(i1 != 0)=true) :
 Calls Tryz.prog 155 #[.pointer (some ⟨p,0,none⟩),.slice (some ⟨b,0,none⟩) 2 2,.int .i64 now] w fun e w'=>e=.returned (.slice (some ⟨w.heap.size,0,none⟩) 1 1)∧w'.heap[w.heap.size]?=some (.cells #[.int .i64 1] 3)∧w'.heap[p]?=some (.cells #[.bool true] T)∧w.grownBy w' (some p):=by
 have hpl:=xg_ hp;have c0:=xa_ hb 0;have c1:=xa_ hb 1;have d0:=xa_ hp 0;have f0:=xc_ hp 0;simp at c0 c1 d0;go_enter Tryz.func155,Tryz.ntmps155;go_wp2;go_region_held3 (fun w'=>w'.cell? ⟨b,0,none⟩=some (.int .i64 i0)∧w'.cell? ⟨b,1,none⟩=some (.int .i64 i1)) (refine⟨?_,?_⟩ <;> (exact k3_)) (first|(go_at_call 119;refine(xn_ _ _).mono ?_;rintro e w' ⟨rfl,rfl⟩))
 go_wp2_with (go_at_call 120;refine(xx_ _ _).mono ?_;rintro e w' ⟨rfl,rfl⟩)
 all_goals go_ret
 all_goals refine⟨rfl,?_,?_,?_⟩
 · repeat(with_reducible refine(xe_ _ _).trans ?_)
   exact xj_ (by simp) _
 · repeat(with_reducible refine(xe_ _ _).trans ?_)
   refine(xh_ (pl_ hpl) _).trans ?_;repeat(with_reducible refine(xe_ _ _).trans ?_)
   apply Eq.trans
   ·repeat(first|with_reducible exact hp|apply xk_)
   ·simp
 ·exact kg_
theorem au3_ (p b T:Nat) (i0 i1 now:Int) (w:World) (hp:w.heap[p]?=some (.cells #[.bool false] T)) (hb:w.heap[b]?=some (.cells #[.int .i64 i0,.int .i64 i1] 3)) (hne:p≠b) (h0:(i0 != 0)=true) (h1:(i1 != 0)=true) :
 Calls Tryz.prog 155 #[.pointer (some ⟨p,0,none⟩),.slice (some ⟨b,0,none⟩) 2 2,.int .i64 now] w fun e w'=>e=.returned (.slice (some ⟨w.heap.size,0,none⟩) 1 1)∧w'.heap[w.heap.size]?=some (.cells #[.int .i64 1] 3)∧w'.heap[p]?=some (.cells #[.bool true] T)∧w.grownBy w' (some p):=by
 have hpl:=xg_ hp;have c0:=xa_ hb 0;have c1:=xa_ hb 1;have d0:=xa_ hp 0;have f0:=xc_ hp 0;simp at c0 c1 d0;go_enter Tryz.func155,Tryz.ntmps155;go_wp2;go_region_held3 (fun w'=>w'.cell? ⟨b,0,none⟩=some (.int .i64 i0)∧w'.cell? ⟨b,1,none⟩=some (.int .i64 i1)) (refine⟨?_,?_⟩ <;> (exact k3_)) (first|(go_at_call 119;refine(xn_ _ _).mono ?_;rintro e w' ⟨rfl,rfl⟩))
 go_wp2_with (go_at_call 120;refine(xx_ _ _).mono ?_;rintro e w' ⟨rfl,rfl⟩)
 all_goals go_ret
 all_goals refine⟨rfl,?_,?_,?_⟩
 · repeat(with_reducible refine(xe_ _ _).trans ?_)
   exact xj_ (by simp) _
 · repeat(with_reducible refine(xe_ _ _).trans ?_)
   refine(xh_ (pl_ hpl) _).trans ?_;repeat(with_reducible refine(xe_ _ _).trans ?_)
   apply Eq.trans
   ·repeat(first|with_reducible exact hp|apply xk_)
   ·simp
 ·exact kg_
theorem au4_ (p b T:Nat) (i0 i1 now:Int) (w:World) (hp:w.heap[p]?=some (.cells #[.bool true] T)) (hb:w.heap[b]?=some (.cells #[.int .i64 i0,.int .i64 i1] 3)) (hne:p≠b) (h0:(i0 != 0)=true) (h1:(i1 != 0)=false) :
 Calls Tryz.prog 155 #[.pointer (some ⟨p,0,none⟩),.slice (some ⟨b,0,none⟩) 2 2,.int .i64 now] w fun e w'=>e=.returned (.slice (some ⟨w.heap.size,0,none⟩) 1 1)∧w'.heap[w.heap.size]?=some (.cells #[.int .i64 1] 3)∧w'.heap[p]?=some (.cells #[.bool true] T)∧w.grownBy w' (some p):=by
 have hpl:=xg_ hp;have c0:=xa_ hb 0;have c1:=xa_ hb 1;have d0:=xa_ hp 0;have f0:=xc_ hp 0;simp at c0 c1 d0;go_enter Tryz.func155,Tryz.ntmps155;go_wp2;go_region_held3 (fun w'=>w'.cell? ⟨b,0,none⟩=some (.int .i64 i0)∧w'.cell? ⟨b,1,none⟩=some (.int .i64 i1)) (refine⟨?_,?_⟩ <;> (exact k3_)) (first|(go_at_call 119;refine(xn_ _ _).mono ?_;rintro e w' ⟨rfl,rfl⟩))
 go_wp2_with (go_at_call 120;refine(xx_ _ _).mono ?_;rintro e w' ⟨rfl,rfl⟩)
 all_goals go_ret
 all_goals refine⟨rfl,?_,?_,?_⟩
 · repeat(with_reducible refine(xe_ _ _).trans ?_)
   exact xj_ (by simp) _
 · repeat(with_reducible refine(xe_ _ _).trans ?_)
   refine(xh_ (pl_ hpl) _).trans ?_;repeat(with_reducible refine(xe_ _ _).trans ?_)
   apply Eq.trans
   ·repeat(first|with_reducible exact hp|apply xk_)
   ·simp
 ·exact kg_
theorem au5_ (p b T:Nat) (i0 i1 now:Int) (w:World) (hp:w.heap[p]?=some (.cells #[.bool false] T)) (hb:w.heap[b]?=some (.cells #[.int .i64 i0,.int .i64 i1] 3)) (hne:p≠b) (h0:(i0 != 0)=true) (h1:(i1 != 0)=false) :
 Calls Tryz.prog 155 #[.pointer (some ⟨p,0,none⟩),.slice (some ⟨b,0,none⟩) 2 2,.int .i64 now] w fun e w'=>e=.returned (.slice (some ⟨w.heap.size,0,none⟩) 1 1)∧w'.heap[w.heap.size]?=some (.cells #[.int .i64 1] 3)∧w'.heap[p]?=some (.cells #[.bool true] T)∧w.grownBy w' (some p):=by
 have hpl:=xg_ hp;have c0:=xa_ hb 0;have c1:=xa_ hb 1;have d0:=xa_ hp 0;have f0:=xc_ hp 0;simp at c0 c1 d0;go_enter Tryz.func155,Tryz.ntmps155;go_wp2;go_region_held3 (fun w'=>w'.cell? ⟨b,0,none⟩=some (.int .i64 i0)∧w'.cell? ⟨b,1,none⟩=some (.int .i64 i1)) (refine⟨?_,?_⟩ <;> (exact k3_)) (first|(go_at_call 119;refine(xn_ _ _).mono ?_;rintro e w' ⟨rfl,rfl⟩))
 go_wp2_with (go_at_call 120;refine(xx_ _ _).mono ?_;rintro e w' ⟨rfl,rfl⟩)
 all_goals go_ret
 all_goals refine⟨rfl,?_,?_,?_⟩
 · repeat(with_reducible refine(xe_ _ _).trans ?_)
   exact xj_ (by simp) _
 · repeat(with_reducible refine(xe_ _ _).trans ?_)
   refine(xh_ (pl_ hpl) _).trans ?_;repeat(with_reducible refine(xe_ _ _).trans ?_)
   apply Eq.trans
   ·repeat(first|with_reducible exact hp|apply xk_)
   ·simp
 ·exact kg_
theorem au6_ (p b T:Nat) (i0 i1 now:Int) (w:World) (hp:w.heap[p]?=some (.cells #[.bool true] T)) (hb:w.heap[b]?=some (.cells #[.int .i64 i0,.int .i64 i1] 3)) (hne:p≠b) (h0:(i0 != 0)=false) (h1:(i1 != 0)=true) :
 Calls Tryz.prog 155 #[.pointer (some ⟨p,0,none⟩),.slice (some ⟨b,0,none⟩) 2 2,.int .i64 now] w fun e w'=>e=.returned (.slice (some ⟨w.heap.size,0,none⟩) 1 1)∧w'.heap[w.heap.size]?=some (.cells #[.int .i64 0] 3)∧w'.heap[p]?=some (.cells #[.bool false] T)∧w.grownBy w' (some p):=by
 have hpl:=xg_ hp;have c0:=xa_ hb 0;have c1:=xa_ hb 1;have d0:=xa_ hp 0;have f0:=xc_ hp 0;simp at c0 c1 d0;go_enter Tryz.func155,Tryz.ntmps155;go_wp2;go_region_held3 (fun w'=>w'.cell? ⟨b,0,none⟩=some (.int .i64 i0)∧w'.cell? ⟨b,1,none⟩=some (.int .i64 i1)) (refine⟨?_,?_⟩ <;> (exact k3_)) (first|(go_at_call 119;refine(xn_ _ _).mono ?_;rintro e w' ⟨rfl,rfl⟩))
 go_wp2_with (go_at_call 120;refine(xx_ _ _).mono ?_;rintro e w' ⟨rfl,rfl⟩)
 all_goals go_ret
 all_goals refine⟨rfl,?_,?_,?_⟩
 · repeat(with_reducible refine(xe_ _ _).trans ?_)
   exact xj_ (by simp) _
 · repeat(with_reducible refine(xe_ _ _).trans ?_)
   refine(xh_ (pl_ hpl) _).trans ?_;repeat(with_reducible refine(xe_ _ _).trans ?_)
   apply Eq.trans
   ·repeat(first|with_reducible exact hp|apply xk_)
   ·simp
 ·exact kg_
theorem au7_ (p b T:Nat) (i0 i1 now:Int) (w:World) (hp:w.heap[p]?=some (.cells #[.bool false] T)) (hb:w.heap[b]?=some (.cells #[.int .i64 i0,.int .i64 i1] 3)) (hne:p≠b) (h0:(i0 != 0)=false) (h1:(i1 != 0)=true) :
 Calls Tryz.prog 155 #[.pointer (some ⟨p,0,none⟩),.slice (some ⟨b,0,none⟩) 2 2,.int .i64 now] w fun e w'=>e=.returned (.slice (some ⟨w.heap.size,0,none⟩) 1 1)∧w'.heap[w.heap.size]?=some (.cells #[.int .i64 0] 3)∧w'.heap[p]?=some (.cells #[.bool false] T)∧w.grownBy w' (some p):=by
 have hpl:=xg_ hp;have c0:=xa_ hb 0;have c1:=xa_ hb 1;have d0:=xa_ hp 0;have f0:=xc_ hp 0;simp at c0 c1 d0;go_enter Tryz.func155,Tryz.ntmps155;go_wp2;go_region_held3 (fun w'=>w'.cell? ⟨b,0,none⟩=some (.int .i64 i0)∧w'.cell? ⟨b,1,none⟩=some (.int .i64 i1)) (refine⟨?_,?_⟩ <;> (exact k3_)) (first|(go_at_call 119;refine(xn_ _ _).mono ?_;rintro e w' ⟨rfl,rfl⟩))
 go_wp2_with (go_at_call 120;refine(xx_ _ _).mono ?_;rintro e w' ⟨rfl,rfl⟩)
 all_goals go_ret
 all_goals refine⟨rfl,?_,?_,?_⟩
 · repeat(with_reducible refine(xe_ _ _).trans ?_)
   exact xj_ (by simp) _
 · repeat(with_reducible refine(xe_ _ _).trans ?_)
   refine(xh_ (pl_ hpl) _).trans ?_;repeat(with_reducible refine(xe_ _ _).trans ?_)
   apply Eq.trans
   ·repeat(first|with_reducible exact hp|apply xk_)
   ·simp
 ·exact kg_
theorem au8_ (p b T:Nat) (i0 i1 now:Int) (w:World) (hp:w.heap[p]?=some (.cells #[.bool true] T)) (hb:w.heap[b]?=some (.cells #[.int .i64 i0,.int .i64 i1] 3)) (hne:p≠b) (h0:(i0 != 0)=false) (h1:(i1 != 0)=false) :
 Calls Tryz.prog 155 #[.pointer (some ⟨p,0,none⟩),.slice (some ⟨b,0,none⟩) 2 2,.int .i64 now] w fun e w'=>e=.returned (.slice (some ⟨w.heap.size,0,none⟩) 1 1)∧w'.heap[w.heap.size]?=some (.cells #[.int .i64 1] 3)∧w'.heap[p]?=some (.cells #[.bool true] T)∧w.grownBy w' (some p):=by
 have hpl:=xg_ hp;have c0:=xa_ hb 0;have c1:=xa_ hb 1;have d0:=xa_ hp 0;have f0:=xc_ hp 0;simp at c0 c1 d0;go_enter Tryz.func155,Tryz.ntmps155;go_wp2;go_region_held3 (fun w'=>w'.cell? ⟨b,0,none⟩=some (.int .i64 i0)∧w'.cell? ⟨b,1,none⟩=some (.int .i64 i1)) (refine⟨?_,?_⟩ <;> (exact k3_)) (first|(go_at_call 119;refine(xn_ _ _).mono ?_;rintro e w' ⟨rfl,rfl⟩))
 go_wp2_with (go_at_call 120;refine(xx_ _ _).mono ?_;rintro e w' ⟨rfl,rfl⟩)
 all_goals go_ret
 all_goals refine⟨rfl,?_,?_,?_⟩
 · repeat(with_reducible refine(xe_ _ _).trans ?_)
   exact xj_ (by simp) _
 · repeat(with_reducible refine(xe_ _ _).trans ?_)
   refine(xh_ (pl_ hpl) _).trans ?_;repeat(with_reducible refine(xe_ _ _).trans ?_)
   apply Eq.trans
   ·repeat(first|with_reducible exact hp|apply xk_)
   ·simp
 ·exact kg_
theorem au9_ (p b T:Nat) (i0 i1 now:Int) (w:World) (hp:w.heap[p]?=some (.cells #[.bool false] T)) (hb:w.heap[b]?=some (.cells #[.int .i64 i0,.int .i64 i1] 3)) (hne:p≠b) (h0:(i0 != 0)=false) (h1:(i1 != 0)=false) :
 Calls Tryz.prog 155 #[.pointer (some ⟨p,0,none⟩),.slice (some ⟨b,0,none⟩) 2 2,.int .i64 now] w fun e w'=>e=.returned (.slice (some ⟨w.heap.size,0,none⟩) 1 1)∧w'.heap[w.heap.size]?=some (.cells #[.int .i64 0] 3)∧w'.heap[p]?=some (.cells #[.bool false] T)∧w.grownBy w' (some p):=by
 have hpl:=xg_ hp;have c0:=xa_ hb 0;have c1:=xa_ hb 1;have d0:=xa_ hp 0;have f0:=xc_ hp 0;simp at c0 c1 d0;go_enter Tryz.func155,Tryz.ntmps155;go_wp2;go_region_held3 (fun w'=>w'.cell? ⟨b,0,none⟩=some (.int .i64 i0)∧w'.cell? ⟨b,1,none⟩=some (.int .i64 i1)) (refine⟨?_,?_⟩ <;> (exact k3_)) (first|(go_at_call 119;refine(xn_ _ _).mono ?_;rintro e w' ⟨rfl,rfl⟩))
 go_wp2_with (go_at_call 120;refine(xx_ _ _).mono ?_;rintro e w' ⟨rfl,rfl⟩)
 all_goals go_ret
 all_goals refine⟨rfl,?_,?_,?_⟩
 · repeat(with_reducible refine(xe_ _ _).trans ?_)
   exact xj_ (by simp) _
 · repeat(with_reducible refine(xe_ _ _).trans ?_)
   refine(xh_ (pl_ hpl) _).trans ?_;repeat(with_reducible refine(xe_ _ _).trans ?_)
   apply Eq.trans
   ·repeat(first|with_reducible exact hp|apply xk_)
   ·simp
 ·exact kg_
theorem ava_ (p b T:Nat) (i0 i1 now:Int) (w:World) (hp:w.heap[p]?=some (.cells #[.bool true] T)) (hb:w.heap[b]?=some (.cells #[.int .i64 i0,.int .i64 i1] 3)) (hne:p≠b) (h0:(i0 != 0)=true) (h1:(i1 != 0)=true) :
 Calls Tryz.prog 158 #[.pointer (some ⟨p,0,none⟩),.slice (some ⟨b,0,none⟩) 2 2,.int .i64 now] w fun e w'=>e=.returned (.slice (some ⟨w.heap.size,0,none⟩) 1 1)∧w'.heap[w.heap.size]?=some (.cells #[.int .i64 0] 3)∧w'.heap[p]?=some (.cells #[.bool false] T)∧w.grownBy w' (some p):=by
 have hpl:=xg_ hp;have c0:=xa_ hb 0;have c1:=xa_ hb 1;have d0:=xa_ hp 0;have f0:=xc_ hp 0;simp at c0 c1 d0;go_enter Tryz.func158,Tryz.ntmps158;go_wp2;go_region_held3 (fun w'=>w'.cell? ⟨b,0,none⟩=some (.int .i64 i0)∧w'.cell? ⟨b,1,none⟩=some (.int .i64 i1)) (refine⟨?_,?_⟩ <;> (exact k3_)) (first|(go_at_call 119;refine(xn_ _ _).mono ?_;rintro e w' ⟨rfl,rfl⟩))
 go_wp2_with (go_at_call 120;refine(xx_ _ _).mono ?_;rintro e w' ⟨rfl,rfl⟩)
 all_goals go_ret
 all_goals refine⟨rfl,?_,?_,?_⟩
 · repeat(with_reducible refine(xe_ _ _).trans ?_)
   exact xj_ (by simp) _
 · repeat(with_reducible refine(xe_ _ _).trans ?_)
   refine(xh_ (pl_ hpl) _).trans ?_;repeat(with_reducible refine(xe_ _ _).trans ?_)
   apply Eq.trans
   ·repeat(first|with_reducible exact hp|apply xk_)
   ·simp
 ·exact kg_
theorem avb_ (p b T:Nat) (i0 i1 now:Int) (w:World) (hp:w.heap[p]?=some (.cells #[.bool false] T)) (hb:w.heap[b]?=some (.cells #[.int .i64 i0,.int .i64 i1] 3)) (hne:p≠b) (h0:(i0 != 0)=true) (h1:(i1 != 0)=true) :
 Calls Tryz.prog 158 #[.pointer (some ⟨p,0,none⟩),.slice (some ⟨b,0,none⟩) 2 2,.int .i64 now] w fun e w'=>e=.returned (.slice (some ⟨w.heap.size,0,none⟩) 1 1)∧w'.heap[w.heap.size]?=some (.cells #[.int .i64 0] 3)∧w'.heap[p]?=some (.cells #[.bool false] T)∧w.grownBy w' (some p):=by
 have hpl:=xg_ hp;have c0:=xa_ hb 0;have c1:=xa_ hb 1;have d0:=xa_ hp 0;have f0:=xc_ hp 0;simp at c0 c1 d0;go_enter Tryz.func158,Tryz.ntmps158;go_wp2;go_region_held3 (fun w'=>w'.cell? ⟨b,0,none⟩=some (.int .i64 i0)∧w'.cell? ⟨b,1,none⟩=some (.int .i64 i1)) (refine⟨?_,?_⟩ <;> (exact k3_)) (first|(go_at_call 119;refine(xn_ _ _).mono ?_;rintro e w' ⟨rfl,rfl⟩))
 go_wp2_with (go_at_call 120;refine(xx_ _ _).mono ?_;rintro e w' ⟨rfl,rfl⟩)
 all_goals go_ret
 all_goals refine⟨rfl,?_,?_,?_⟩
 · repeat(with_reducible refine(xe_ _ _).trans ?_)
   exact xj_ (by simp) _
 · repeat(with_reducible refine(xe_ _ _).trans ?_)
   refine(xh_ (pl_ hpl) _).trans ?_;repeat(with_reducible refine(xe_ _ _).trans ?_)
   apply Eq.trans
   ·repeat(first|with_reducible exact hp|apply xk_)
   ·simp
 ·exact kg_
theorem avc_ (p b T:Nat) (i0 i1 now:Int) (w:World) (hp:w.heap[p]?=some (.cells #[.bool true] T)) (hb:w.heap[b]?=some (.cells #[.int .i64 i0,.int .i64 i1] 3)) (hne:p≠b) (h0:(i0 != 0)=true) (h1:(i1 != 0)=false) :
 Calls Tryz.prog 158 #[.pointer (some ⟨p,0,none⟩),.slice (some ⟨b,0,none⟩) 2 2,.int .i64 now] w fun e w'=>e=.returned (.slice (some ⟨w.heap.size,0,none⟩) 1 1)∧w'.heap[w.heap.size]?=some (.cells #[.int .i64 1] 3)∧w'.heap[p]?=some (.cells #[.bool true] T)∧w.grownBy w' (some p):=by
 have hpl:=xg_ hp;have c0:=xa_ hb 0;have c1:=xa_ hb 1;have d0:=xa_ hp 0;have f0:=xc_ hp 0;simp at c0 c1 d0;go_enter Tryz.func158,Tryz.ntmps158;go_wp2;go_region_held3 (fun w'=>w'.cell? ⟨b,0,none⟩=some (.int .i64 i0)∧w'.cell? ⟨b,1,none⟩=some (.int .i64 i1)) (refine⟨?_,?_⟩ <;> (exact k3_)) (first|(go_at_call 119;refine(xn_ _ _).mono ?_;rintro e w' ⟨rfl,rfl⟩))
 go_wp2_with (go_at_call 120;refine(xx_ _ _).mono ?_;rintro e w' ⟨rfl,rfl⟩)
 all_goals go_ret
 all_goals refine⟨rfl,?_,?_,?_⟩
 · repeat(with_reducible refine(xe_ _ _).trans ?_)
   exact xj_ (by simp) _
 · repeat(with_reducible refine(xe_ _ _).trans ?_)
   refine(xh_ (pl_ hpl) _).trans ?_;repeat(with_reducible refine(xe_ _ _).trans ?_)
   apply Eq.trans
   ·repeat(first|with_reducible exact hp|apply xk_)
   ·simp
 ·exact kg_
theorem avd_ (p b T:Nat) (i0 i1 now:Int) (w:World) (hp:w.heap[p]?=some (.cells #[.bool false] T)) (hb:w.heap[b]?=some (.cells #[.int .i64 i0,.int .i64 i1] 3)) (hne:p≠b) (h0:(i0 != 0)=true) (h1:(i1 != 0)=false) :
 Calls Tryz.prog 158 #[.pointer (some ⟨p,0,none⟩),.slice (some ⟨b,0,none⟩) 2 2,.int .i64 now] w fun e w'=>e=.returned (.slice (some ⟨w.heap.size,0,none⟩) 1 1)∧w'.heap[w.heap.size]?=some (.cells #[.int .i64 1] 3)∧w'.heap[p]?=some (.cells #[.bool true] T)∧w.grownBy w' (some p):=by
 have hpl:=xg_ hp;have c0:=xa_ hb 0;have c1:=xa_ hb 1;have d0:=xa_ hp 0;have f0:=xc_ hp 0;simp at c0 c1 d0;go_enter Tryz.func158,Tryz.ntmps158;go_wp2;go_region_held3 (fun w'=>w'.cell? ⟨b,0,none⟩=some (.int .i64 i0)∧w'.cell? ⟨b,1,none⟩=some (.int .i64 i1)) (refine⟨?_,?_⟩ <;> (exact k3_)) (first|(go_at_call 119;refine(xn_ _ _).mono ?_;rintro e w' ⟨rfl,rfl⟩))
 go_wp2_with (go_at_call 120;refine(xx_ _ _).mono ?_;rintro e w' ⟨rfl,rfl⟩)
 all_goals go_ret
 all_goals refine⟨rfl,?_,?_,?_⟩
 · repeat(with_reducible refine(xe_ _ _).trans ?_)
   exact xj_ (by simp) _
 · repeat(with_reducible refine(xe_ _ _).trans ?_)
   refine(xh_ (pl_ hpl) _).trans ?_;repeat(with_reducible refine(xe_ _ _).trans ?_)
   apply Eq.trans
   ·repeat(first|with_reducible exact hp|apply xk_)
   ·simp
 ·exact kg_
theorem ave_ (p b T:Nat) (i0 i1 now:Int) (w:World) (hp:w.heap[p]?=some (.cells #[.bool true] T)) (hb:w.heap[b]?=some (.cells #[.int .i64 i0,.int .i64 i1] 3)) (hne:p≠b) (h0:(i0 != 0)=false) (h1:(i1 != 0)=true) :
 Calls Tryz.prog 158 #[.pointer (some ⟨p,0,none⟩),.slice (some ⟨b,0,none⟩) 2 2,.int .i64 now] w fun e w'=>e=.returned (.slice (some ⟨w.heap.size,0,none⟩) 1 1)∧w'.heap[w.heap.size]?=some (.cells #[.int .i64 0] 3)∧w'.heap[p]?=some (.cells #[.bool false] T)∧w.grownBy w' (some p):=by
 have hpl:=xg_ hp;have c0:=xa_ hb 0;have c1:=xa_ hb 1;have d0:=xa_ hp 0;have f0:=xc_ hp 0;simp at c0 c1 d0;go_enter Tryz.func158,Tryz.ntmps158;go_wp2;go_region_held3 (fun w'=>w'.cell? ⟨b,0,none⟩=some (.int .i64 i0)∧w'.cell? ⟨b,1,none⟩=some (.int .i64 i1)) (refine⟨?_,?_⟩ <;> (exact k3_)) (first|(go_at_call 119;refine(xn_ _ _).mono ?_;rintro e w' ⟨rfl,rfl⟩))
 go_wp2_with (go_at_call 120;refine(xx_ _ _).mono ?_;rintro e w' ⟨rfl,rfl⟩)
 all_goals go_ret
 all_goals refine⟨rfl,?_,?_,?_⟩
 · repeat(with_reducible refine(xe_ _ _).trans ?_)
   exact xj_ (by simp) _
 · repeat(with_reducible refine(xe_ _ _).trans ?_)
   refine(xh_ (pl_ hpl) _).trans ?_;repeat(with_reducible refine(xe_ _ _).trans ?_)
   apply Eq.trans
   ·repeat(first|with_reducible exact hp|apply xk_)
   ·simp
 ·exact kg_
theorem avf_ (p b T:Nat) (i0 i1 now:Int) (w:World) (hp:w.heap[p]?=some (.cells #[.bool false] T)) (hb:w.heap[b]?=some (.cells #[.int .i64 i0,.int .i64 i1] 3)) (hne:p≠b) (h0:(i0 != 0)=false) (h1:(i1 != 0)=true) :
 Calls Tryz.prog 158 #[.pointer (some ⟨p,0,none⟩),.slice (some ⟨b,0,none⟩) 2 2,.int .i64 now] w fun e w'=>e=.returned (.slice (some ⟨w.heap.size,0,none⟩) 1 1)∧w'.heap[w.heap.size]?=some (.cells #[.int .i64 0] 3)∧w'.heap[p]?=some (.cells #[.bool false] T)∧w.grownBy w' (some p):=by
 have hpl:=xg_ hp;have c0:=xa_ hb 0;have c1:=xa_ hb 1;have d0:=xa_ hp 0;have f0:=xc_ hp 0;simp at c0 c1 d0;go_enter Tryz.func158,Tryz.ntmps158;go_wp2;go_region_held3 (fun w'=>w'.cell? ⟨b,0,none⟩=some (.int .i64 i0)∧w'.cell? ⟨b,1,none⟩=some (.int .i64 i1)) (refine⟨?_,?_⟩ <;> (exact k3_)) (first|(go_at_call 119;refine(xn_ _ _).mono ?_;rintro e w' ⟨rfl,rfl⟩))
 go_wp2_with (go_at_call 120;refine(xx_ _ _).mono ?_;rintro e w' ⟨rfl,rfl⟩)
 all_goals go_ret
 all_goals refine⟨rfl,?_,?_,?_⟩
 · repeat(with_reducible refine(xe_ _ _).trans ?_)
   exact xj_ (by simp) _
 · repeat(with_reducible refine(xe_ _ _).trans ?_)
   refine(xh_ (pl_ hpl) _).trans ?_;repeat(with_reducible refine(xe_ _ _).trans ?_)
   apply Eq.trans
   ·repeat(first|with_reducible exact hp|apply xk_)
   ·simp
 ·exact kg_
theorem avg_ (p b T:Nat) (i0 i1 now:Int) (w:World) (hp:w.heap[p]?=some (.cells #[.bool true] T)) (hb:w.heap[b]?=some (.cells #[.int .i64 i0,.int .i64 i1] 3)) (hne:p≠b) (h0:(i0 != 0)=false) (h1:(i1 != 0)=false) :
 Calls Tryz.prog 158 #[.pointer (some ⟨p,0,none⟩),.slice (some ⟨b,0,none⟩) 2 2,.int .i64 now] w fun e w'=>e=.returned (.slice (some ⟨w.heap.size,0,none⟩) 1 1)∧w'.heap[w.heap.size]?=some (.cells #[.int .i64 1] 3)∧w'.heap[p]?=some (.cells #[.bool true] T)∧w.grownBy w' (some p):=by
 have hpl:=xg_ hp;have c0:=xa_ hb 0;have c1:=xa_ hb 1;have d0:=xa_ hp 0;have f0:=xc_ hp 0;simp at c0 c1 d0;go_enter Tryz.func158,Tryz.ntmps158;go_wp2;go_region_held3 (fun w'=>w'.cell? ⟨b,0,none⟩=some (.int .i64 i0)∧w'.cell? ⟨b,1,none⟩=some (.int .i64 i1)) (refine⟨?_,?_⟩ <;> (exact k3_)) (first|(go_at_call 119;refine(xn_ _ _).mono ?_;rintro e w' ⟨rfl,rfl⟩))
 go_wp2_with (go_at_call 120;refine(xx_ _ _).mono ?_;rintro e w' ⟨rfl,rfl⟩)
 all_goals go_ret
 all_goals refine⟨rfl,?_,?_,?_⟩
 · repeat(with_reducible refine(xe_ _ _).trans ?_)
   exact xj_ (by simp) _
 · repeat(with_reducible refine(xe_ _ _).trans ?_)
   refine(xh_ (pl_ hpl) _).trans ?_;repeat(with_reducible refine(xe_ _ _).trans ?_)
   apply Eq.trans
   ·repeat(first|with_reducible exact hp|apply xk_)
   ·simp
 ·exact kg_
theorem avh_ (p b T:Nat) (i0 i1 now:Int) (w:World) (hp:w.heap[p]?=some (.cells #[.bool false] T)) (hb:w.heap[b]?=some (.cells #[.int .i64 i0,.int .i64 i1] 3)) (hne:p≠b) (h0:(i0 != 0)=false) (h1:(i1 != 0)=false) :
 Calls Tryz.prog 158 #[.pointer (some ⟨p,0,none⟩),.slice (some ⟨b,0,none⟩) 2 2,.int .i64 now] w fun e w'=>e=.returned (.slice (some ⟨w.heap.size,0,none⟩) 1 1)∧w'.heap[w.heap.size]?=some (.cells #[.int .i64 0] 3)∧w'.heap[p]?=some (.cells #[.bool false] T)∧w.grownBy w' (some p):=by
 have hpl:=xg_ hp;have c0:=xa_ hb 0;have c1:=xa_ hb 1;have d0:=xa_ hp 0;have f0:=xc_ hp 0;simp at c0 c1 d0;go_enter Tryz.func158,Tryz.ntmps158;go_wp2;go_region_held3 (fun w'=>w'.cell? ⟨b,0,none⟩=some (.int .i64 i0)∧w'.cell? ⟨b,1,none⟩=some (.int .i64 i1)) (refine⟨?_,?_⟩ <;> (exact k3_)) (first|(go_at_call 119;refine(xn_ _ _).mono ?_;rintro e w' ⟨rfl,rfl⟩))
 go_wp2_with (go_at_call 120;refine(xx_ _ _).mono ?_;rintro e w' ⟨rfl,rfl⟩)
 all_goals go_ret
 all_goals refine⟨rfl,?_,?_,?_⟩
 · repeat(with_reducible refine(xe_ _ _).trans ?_)
   exact xj_ (by simp) _
 · repeat(with_reducible refine(xe_ _ _).trans ?_)
   refine(xh_ (pl_ hpl) _).trans ?_;repeat(with_reducible refine(xe_ _ _).trans ?_)
   apply Eq.trans
   ·repeat(first|with_reducible exact hp|apply xk_)
   ·simp
 ·exact kg_
end Go.Proofs.YtcgbfhpmkpglkaaGreatDoor.Bl
