/- Texts put together: BlH2, BlL1, BlH4, BlH6, BlL4. -/
import Derived.Test.YtcgbfhpmkpglkaaGreatDoorQ16
import Derived.Test.YtcgbfhpmkpglkaaGreatDoorQ17
set_option linter.unusedVariables false
set_option linter.unusedSimpArgs false
set_option maxHeartbeats 8000000
namespace Go.Proofs.YtcgbfhpmkpglkaaGreatDoor.Bl
open Go.RowKit
attribute [local go_sem ↓] Go.wp_at_zero Go.wp_at_succ
theorem amu_ (p:Nat) (s a pt now:Int) (w:World) (d0:w.cell? ⟨p,0,none⟩=some (.bool true)) (f0:w.frozen? ⟨p,0,none⟩=false) (d1:w.cell? ⟨p,1,none⟩=some (.int .i64 s)) (f1:w.frozen? ⟨p,1,none⟩=false) (d2:w.cell? ⟨p,2,none⟩=some (.bool true)) (f2:w.frozen? ⟨p,2,none⟩=false) (d3:w.cell? ⟨p,3,none⟩=some (.int .i64 a)) (f3:w.frozen? ⟨p,3,none⟩=false) (hs0:0≤s) (hs1:s≤4294967295) (hn0:0≤now) (hn1:now≤4294967295) (ho:decide (pt≤xz_ now s)=true) :
 Calls Tryz.prog 128 #[.pointer (some ⟨p,0,none⟩),.int .i64 pt,.int .i64 now] w fun e w'=>e=.returned (.tuple #[])∧w'=((((w.setCell ⟨p,3,none⟩ (.int .i64 (min (xz_ now s) pt))).setCell ⟨p,2,none⟩ (.bool false)).setCell ⟨p,0,none⟩ (.bool false)).setCell ⟨p,1,none⟩ (.int .i64 0)):=by
 obtain⟨g,hg⟩:∃ g,xz_ now s=g:=⟨_,rfl⟩;rw[hg] at ho ⊢;obtain⟨t,ht⟩:∃ t,min g pt=t:=⟨_,rfl⟩;rw[ht];go_enter Tryz.func128,Tryz.ntmps128;go_wp2_with (first|(go_at_call 123;refine(zn_ p s _ _ (.int .i64 a) _ ?_ ?_ ?_ hs0 hs1 hn0 hn1).mono ?_;(exact k3_);(exact k3_);(exact k4_);rintro e w' ⟨rfl,rfl⟩)|(go_at_call 129;refine(vu_ p _ (.bool false) (.int .i64 s) _ ?_ ?_ ?_ ?_).mono ?_;(exact k3_);(exact k3_);(exact k4_);(exact k4_);rintro e w' ⟨rfl,rfl⟩)|(go_at_call 118;refine(qf_ p (.bool true) (.int .i64 s) _ ?_ ?_ ?_ ?_).mono ?_;(exact k3_);(exact k3_);(exact k4_);(exact k4_);rintro e w' ⟨rfl,rfl⟩))
 go_end0;exact⟨rfl,rfl⟩
theorem amv_ (p:Nat) (s a pt now:Int) (w:World) (d0:w.cell? ⟨p,0,none⟩=some (.bool true)) (f0:w.frozen? ⟨p,0,none⟩=false) (d1:w.cell? ⟨p,1,none⟩=some (.int .i64 s)) (f1:w.frozen? ⟨p,1,none⟩=false) (d2:w.cell? ⟨p,2,none⟩=some (.bool true)) (f2:w.frozen? ⟨p,2,none⟩=false) (d3:w.cell? ⟨p,3,none⟩=some (.int .i64 a)) (f3:w.frozen? ⟨p,3,none⟩=false) (hs0:0≤s) (hs1:s≤4294967295) (hn0:0≤now) (hn1:now≤4294967295) (ho:decide (pt≤xz_ now s)=false) :
 Calls Tryz.prog 128 #[.pointer (some ⟨p,0,none⟩),.int .i64 pt,.int .i64 now] w fun e w'=>e=.returned (.tuple #[])∧w'=(w.setCell ⟨p,3,none⟩ (.int .i64 (min (xz_ now s) pt))):=by
 obtain⟨g,hg⟩:∃ g,xz_ now s=g:=⟨_,rfl⟩;rw[hg] at ho ⊢;obtain⟨t,ht⟩:∃ t,min g pt=t:=⟨_,rfl⟩;rw[ht];go_enter Tryz.func128,Tryz.ntmps128;go_wp2_with (first|(go_at_call 123;refine(zn_ p s _ _ (.int .i64 a) _ ?_ ?_ ?_ hs0 hs1 hn0 hn1).mono ?_;(exact k3_);(exact k3_);(exact k4_);rintro e w' ⟨rfl,rfl⟩)|(go_at_call 129;refine(vu_ p _ (.bool false) (.int .i64 s) _ ?_ ?_ ?_ ?_).mono ?_;(exact k3_);(exact k3_);(exact k4_);(exact k4_);rintro e w' ⟨rfl,rfl⟩)|(go_at_call 118;refine(qf_ p (.bool true) (.int .i64 s) _ ?_ ?_ ?_ ?_).mono ?_;(exact k3_);(exact k3_);(exact k4_);(exact k4_);rintro e w' ⟨rfl,rfl⟩))
 go_end0;exact⟨rfl,rfl⟩
theorem amw_ (p:Nat) (s a pt now:Int) (w:World) (d0:w.cell? ⟨p,0,none⟩=some (.bool false)) (f0:w.frozen? ⟨p,0,none⟩=false) (d1:w.cell? ⟨p,1,none⟩=some (.int .i64 s)) (f1:w.frozen? ⟨p,1,none⟩=false) (d2:w.cell? ⟨p,2,none⟩=some (.bool true)) (f2:w.frozen? ⟨p,2,none⟩=false) (d3:w.cell? ⟨p,3,none⟩=some (.int .i64 a)) (f3:w.frozen? ⟨p,3,none⟩=false) (hn0:0≤now) (hn1:now≤4294967295) (ho:decide (pt≤xz_ now now)=true) :
 Calls Tryz.prog 128 #[.pointer (some ⟨p,0,none⟩),.int .i64 pt,.int .i64 now] w fun e w'=>e=.returned (.tuple #[])∧w'=((((((w.setCell ⟨p,0,none⟩ (.bool true)).setCell ⟨p,1,none⟩ (.int .i64 now)).setCell ⟨p,3,none⟩ (.int .i64 (min (xz_ now now) pt))).setCell ⟨p,2,none⟩ (.bool false)).setCell ⟨p,0,none⟩ (.bool false)).setCell ⟨p,1,none⟩ (.int .i64 0)):=by
 obtain⟨g,hg⟩:∃ g,xz_ now now=g:=⟨_,rfl⟩;rw[hg] at ho ⊢;obtain⟨t,ht⟩:∃ t,min g pt=t:=⟨_,rfl⟩;rw[ht];go_enter Tryz.func128,Tryz.ntmps128;go_wp2_with (first|(go_at_call 123;refine(zn_ p now _ _ (.int .i64 a) _ ?_ ?_ ?_ hn0 hn1 hn0 hn1).mono ?_;(exact k3_);(exact k3_);(exact k4_);rintro e w' ⟨rfl,rfl⟩)|(go_at_call 129;refine(vu_ p _ (.bool false) (.int .i64 s) _ ?_ ?_ ?_ ?_).mono ?_;(exact k3_);(exact k3_);(exact k4_);(exact k4_);rintro e w' ⟨rfl,rfl⟩)|(go_at_call 118;refine(qf_ p (.bool true) (.int .i64 now) _ ?_ ?_ ?_ ?_).mono ?_;(exact k3_);(exact k3_);(exact k4_);(exact k4_);rintro e w' ⟨rfl,rfl⟩))
 go_end0;exact⟨rfl,rfl⟩
theorem amx_ (p:Nat) (s a pt now:Int) (w:World) (d0:w.cell? ⟨p,0,none⟩=some (.bool false)) (f0:w.frozen? ⟨p,0,none⟩=false) (d1:w.cell? ⟨p,1,none⟩=some (.int .i64 s)) (f1:w.frozen? ⟨p,1,none⟩=false) (d2:w.cell? ⟨p,2,none⟩=some (.bool true)) (f2:w.frozen? ⟨p,2,none⟩=false) (d3:w.cell? ⟨p,3,none⟩=some (.int .i64 a)) (f3:w.frozen? ⟨p,3,none⟩=false) (hn0:0≤now) (hn1:now≤4294967295) (ho:decide (pt≤xz_ now now)=false) :
 Calls Tryz.prog 128 #[.pointer (some ⟨p,0,none⟩),.int .i64 pt,.int .i64 now] w fun e w'=>e=.returned (.tuple #[])∧w'=(((w.setCell ⟨p,0,none⟩ (.bool true)).setCell ⟨p,1,none⟩ (.int .i64 now)).setCell ⟨p,3,none⟩ (.int .i64 (min (xz_ now now) pt))):=by
 obtain⟨g,hg⟩:∃ g,xz_ now now=g:=⟨_,rfl⟩;rw[hg] at ho ⊢;obtain⟨t,ht⟩:∃ t,min g pt=t:=⟨_,rfl⟩;rw[ht];go_enter Tryz.func128,Tryz.ntmps128;go_wp2_with (first|(go_at_call 123;refine(zn_ p now _ _ (.int .i64 a) _ ?_ ?_ ?_ hn0 hn1 hn0 hn1).mono ?_;(exact k3_);(exact k3_);(exact k4_);rintro e w' ⟨rfl,rfl⟩)|(go_at_call 129;refine(vu_ p _ (.bool false) (.int .i64 s) _ ?_ ?_ ?_ ?_).mono ?_;(exact k3_);(exact k3_);(exact k4_);(exact k4_);rintro e w' ⟨rfl,rfl⟩)|(go_at_call 118;refine(qf_ p (.bool true) (.int .i64 now) _ ?_ ?_ ?_ ?_).mono ?_;(exact k3_);(exact k3_);(exact k4_);(exact k4_);rintro e w' ⟨rfl,rfl⟩))
 go_end0;exact⟨rfl,rfl⟩
theorem awh_ (p b T:Nat) (r m:Bool) (s a i0 pt now:Int) (w:World) (hp:w.heap[p]?=some (.cells #[.bool r,.int .i64 s,.bool m,.int .i64 a] T)) (hb:w.heap[b]?=some (.cells #[.int .i64 i0,.int .i64 pt] 3)) (hne:p≠b) (h0:(i0 != 0)=true) :
 Calls Tryz.prog 127 #[.pointer (some ⟨p,0,none⟩),.slice (some ⟨b,0,none⟩) 2 2,.int .i64 now] w fun e w'=>e=.returned (.slice (some ⟨w.heap.size,0,none⟩) 2 2)∧w'.heap[w.heap.size]?=some (.cells #[.int .i64 1,.int .i64 0] 3)∧w'.heap[p]?=some (.cells #[.bool false,.int .i64 0,.bool true,.int .i64 0] T)∧w.grownBy w' (some p):=by
 have hpl:=xg_ hp;have c0:=xa_ hb 0;have c1:=xa_ hb 1;have d0:=xa_ hp 0;have f0:=xc_ hp 0;have d1:=xa_ hp 1;have f1:=xc_ hp 1;have d2:=xa_ hp 2;have f2:=xc_ hp 2;have d3:=xa_ hp 3;have f3:=xc_ hp 3;simp at c0 c1 d0 d1 d2 d3;go_enter Tryz.func127,Tryz.ntmps127;go_wp2_with (go_at_call 119;refine(xn_ _ _).mono ?_;rintro e w' ⟨rfl,rfl⟩)
 go_region_held3 (fun w'=>w'.cell? ⟨p,2,none⟩=some (.bool true)) ((exact k3_)) (first|(go_at_call 122;refine(y5_ p _ 0 _ ?_).mono ?_;(exact k3_);rintro e w' ⟨rfl,rfl⟩))
 go_wp2;all_goals go_ret
 all_goals refine⟨rfl,?_,?_,?_⟩
 · repeat(with_reducible refine(xe_ _ _).trans ?_)
   exact xj_ (by simp) _
 · repeat(with_reducible refine(xe_ _ _).trans ?_)
   refine(xh_ (pl_ hpl) _).trans ?_;repeat(with_reducible refine(xe_ _ _).trans ?_)
   apply Eq.trans
   ·repeat(first|with_reducible exact hp|apply xk_)
   ·simp
 ·exact kg_
theorem awi_ (p b T:Nat) (r:Bool) (s a i0 pt now:Int) (w:World) (hp:w.heap[p]?=some (.cells #[.bool r,.int .i64 s,.bool false,.int .i64 a] T)) (hb:w.heap[b]?=some (.cells #[.int .i64 i0,.int .i64 pt] 3)) (hne:p≠b) (h0:(i0 != 0)=false) :
 Calls Tryz.prog 127 #[.pointer (some ⟨p,0,none⟩),.slice (some ⟨b,0,none⟩) 2 2,.int .i64 now] w fun e w'=>e=.returned (.slice (some ⟨w.heap.size,0,none⟩) 2 2)∧w'.heap[w.heap.size]?=some (.cells #[.int .i64 0,.int .i64 a] 3)∧w'.heap[p]?=some (.cells #[.bool r,.int .i64 s,.bool false,.int .i64 a] T)∧w.grownBy w' (some p):=by
 have hpl:=xg_ hp;have c0:=xa_ hb 0;have c1:=xa_ hb 1;have d0:=xa_ hp 0;have f0:=xc_ hp 0;have d1:=xa_ hp 1;have f1:=xc_ hp 1;have d2:=xa_ hp 2;have f2:=xc_ hp 2;have d3:=xa_ hp 3;have f3:=xc_ hp 3;simp at c0 c1 d0 d1 d2 d3;go_enter Tryz.func127,Tryz.ntmps127;go_wp2_with (go_at_call 119;refine(xn_ _ _).mono ?_;rintro e w' ⟨rfl,rfl⟩)
 go_region_held3 (fun w'=>w'.cell? ⟨p,2,none⟩=some (.bool false)) ((exact k3_)) (first|(go_at_call 122;refine(y5_ p _ a _ ?_).mono ?_;(exact k3_);rintro e w' ⟨rfl,rfl⟩))
 go_wp2;all_goals go_ret
 all_goals refine⟨rfl,?_,?_,?_⟩
 · repeat(with_reducible refine(xe_ _ _).trans ?_)
   exact xj_ (by simp) _
 · repeat(with_reducible refine(xe_ _ _).trans ?_)
   refine(xh_ (pl_ hpl) _).trans ?_;repeat(with_reducible refine(xe_ _ _).trans ?_)
   apply Eq.trans
   ·repeat(first|with_reducible exact hp|apply xk_)
   ·simp
 ·exact kg_
theorem auw_ (p b T:Nat) (s a i0 pt now:Int) (w:World) (hp:w.heap[p]?=some (.cells #[.bool true,.int .i64 s,.bool true,.int .i64 a] T)) (hb:w.heap[b]?=some (.cells #[.int .i64 i0,.int .i64 pt] 3)) (hne:p≠b) (h0:(i0 != 0)=false) (hs0:0≤s) (hs1:s≤4294967295) (hn0:0≤now) (hn1:now≤4294967295) (ho:decide (pt≤xz_ now s)=true) :
 Calls Tryz.prog 127 #[.pointer (some ⟨p,0,none⟩),.slice (some ⟨b,0,none⟩) 2 2,.int .i64 now] w fun e w'=>e=.returned (.slice (some ⟨w.heap.size,0,none⟩) 2 2)∧w'.heap[w.heap.size]?=some (.cells #[.int .i64 0,.int .i64 (min (xz_ now s) pt)] 3)∧w'.heap[p]?=some (.cells #[.bool false,.int .i64 0,.bool false,.int .i64 (min (xz_ now s) pt)] T)∧w.grownBy w' (some p):=by
 have hpl:=xg_ hp;have c0:=xa_ hb 0;have c1:=xa_ hb 1;have d0:=xa_ hp 0;have f0:=xc_ hp 0;have d1:=xa_ hp 1;have f1:=xc_ hp 1;have d2:=xa_ hp 2;have f2:=xc_ hp 2;have d3:=xa_ hp 3;have f3:=xc_ hp 3;simp at c0 c1 d0 d1 d2 d3;obtain⟨t,ht⟩:∃ t,min (xz_ now s) pt=t:=⟨_,rfl⟩;rw[ht];go_enter Tryz.func127,Tryz.ntmps127;go_wp2_with (first|(go_at_call 119;refine(xn_ _ _).mono ?_;rintro e w' ⟨rfl,rfl⟩)|(go_at_call 128;refine(amu_ p s a _ _ _ ?_ ?_ ?_ ?_ ?_ ?_ ?_ ?_ hs0 hs1 hn0 hn1 ?_).mono ?_;(exact k3_);(exact k4_);(exact k3_);(exact k4_);(exact k3_);(exact k4_);(exact k3_);(exact k4_);(exact ho);rintro e w' ⟨rfl,rfl⟩))
 go_region_held3 (fun w'=>w'.cell? ⟨p,2,none⟩=some (.bool false)) ((exact k3_)) (first|(go_at_call 122;refine(y5_ p _ t _ ?_).mono ?_;(exact k3_);rintro e w' ⟨rfl,rfl⟩))
 go_wp2;all_goals go_ret
 all_goals refine⟨rfl,?_,?_,?_⟩
 · repeat(with_reducible refine(xe_ _ _).trans ?_)
   exact xj_ (by simp) _
 · repeat(with_reducible refine(xe_ _ _).trans ?_)
   refine(xh_ (pl_ hpl) _).trans ?_;repeat(with_reducible refine(xe_ _ _).trans ?_)
   apply Eq.trans
   ·repeat(first|with_reducible exact hp|apply xk_)
   ·simp
 ·exact kg_
theorem aux_ (p b T:Nat) (s a i0 pt now:Int) (w:World) (hp:w.heap[p]?=some (.cells #[.bool true,.int .i64 s,.bool true,.int .i64 a] T)) (hb:w.heap[b]?=some (.cells #[.int .i64 i0,.int .i64 pt] 3)) (hne:p≠b) (h0:(i0 != 0)=false) (hs0:0≤s) (hs1:s≤4294967295) (hn0:0≤now) (hn1:now≤4294967295) (ho:decide (pt≤xz_ now s)=false) :
 Calls Tryz.prog 127 #[.pointer (some ⟨p,0,none⟩),.slice (some ⟨b,0,none⟩) 2 2,.int .i64 now] w fun e w'=>e=.returned (.slice (some ⟨w.heap.size,0,none⟩) 2 2)∧w'.heap[w.heap.size]?=some (.cells #[.int .i64 1,.int .i64 (min (xz_ now s) pt)] 3)∧w'.heap[p]?=some (.cells #[.bool true,.int .i64 s,.bool true,.int .i64 (min (xz_ now s) pt)] T)∧w.grownBy w' (some p):=by
 have hpl:=xg_ hp;have c0:=xa_ hb 0;have c1:=xa_ hb 1;have d0:=xa_ hp 0;have f0:=xc_ hp 0;have d1:=xa_ hp 1;have f1:=xc_ hp 1;have d2:=xa_ hp 2;have f2:=xc_ hp 2;have d3:=xa_ hp 3;have f3:=xc_ hp 3;simp at c0 c1 d0 d1 d2 d3;obtain⟨t,ht⟩:∃ t,min (xz_ now s) pt=t:=⟨_,rfl⟩;rw[ht];go_enter Tryz.func127,Tryz.ntmps127;go_wp2_with (first|(go_at_call 119;refine(xn_ _ _).mono ?_;rintro e w' ⟨rfl,rfl⟩)|(go_at_call 128;refine(amv_ p s a _ _ _ ?_ ?_ ?_ ?_ ?_ ?_ ?_ ?_ hs0 hs1 hn0 hn1 ?_).mono ?_;(exact k3_);(exact k4_);(exact k3_);(exact k4_);(exact k3_);(exact k4_);(exact k3_);(exact k4_);(exact ho);rintro e w' ⟨rfl,rfl⟩))
 go_region_held3 (fun w'=>w'.cell? ⟨p,2,none⟩=some (.bool true)) ((exact k3_)) (first|(go_at_call 122;refine(y5_ p _ t _ ?_).mono ?_;(exact k3_);rintro e w' ⟨rfl,rfl⟩))
 go_wp2;all_goals go_ret
 all_goals refine⟨rfl,?_,?_,?_⟩
 · repeat(with_reducible refine(xe_ _ _).trans ?_)
   exact xj_ (by simp) _
 · repeat(with_reducible refine(xe_ _ _).trans ?_)
   refine(xh_ (pl_ hpl) _).trans ?_;repeat(with_reducible refine(xe_ _ _).trans ?_)
   apply Eq.trans
   ·repeat(first|with_reducible exact hp|apply xk_)
   ·simp
 ·exact kg_
theorem auy_ (p b T:Nat) (s a i0 pt now:Int) (w:World) (hp:w.heap[p]?=some (.cells #[.bool false,.int .i64 s,.bool true,.int .i64 a] T)) (hb:w.heap[b]?=some (.cells #[.int .i64 i0,.int .i64 pt] 3)) (hne:p≠b) (h0:(i0 != 0)=false) (hn0:0≤now) (hn1:now≤4294967295) (ho:decide (pt≤xz_ now now)=true) :
 Calls Tryz.prog 127 #[.pointer (some ⟨p,0,none⟩),.slice (some ⟨b,0,none⟩) 2 2,.int .i64 now] w fun e w'=>e=.returned (.slice (some ⟨w.heap.size,0,none⟩) 2 2)∧w'.heap[w.heap.size]?=some (.cells #[.int .i64 0,.int .i64 (min (xz_ now now) pt)] 3)∧w'.heap[p]?=some (.cells #[.bool false,.int .i64 0,.bool false,.int .i64 (min (xz_ now now) pt)] T)∧w.grownBy w' (some p):=by
 have hpl:=xg_ hp;have c0:=xa_ hb 0;have c1:=xa_ hb 1;have d0:=xa_ hp 0;have f0:=xc_ hp 0;have d1:=xa_ hp 1;have f1:=xc_ hp 1;have d2:=xa_ hp 2;have f2:=xc_ hp 2;have d3:=xa_ hp 3;have f3:=xc_ hp 3;simp at c0 c1 d0 d1 d2 d3;obtain⟨t,ht⟩:∃ t,min (xz_ now now) pt=t:=⟨_,rfl⟩;rw[ht];go_enter Tryz.func127,Tryz.ntmps127;go_wp2_with (first|(go_at_call 119;refine(xn_ _ _).mono ?_;rintro e w' ⟨rfl,rfl⟩)|(go_at_call 128;refine(amw_ p s a _ _ _ ?_ ?_ ?_ ?_ ?_ ?_ ?_ ?_ hn0 hn1 ?_).mono ?_;(exact k3_);(exact k4_);(exact k3_);(exact k4_);(exact k3_);(exact k4_);(exact k3_);(exact k4_);(exact ho);rintro e w' ⟨rfl,rfl⟩))
 go_region_held3 (fun w'=>w'.cell? ⟨p,2,none⟩=some (.bool false)) ((exact k3_)) (first|(go_at_call 122;refine(y5_ p _ t _ ?_).mono ?_;(exact k3_);rintro e w' ⟨rfl,rfl⟩))
 go_wp2;all_goals go_ret
 all_goals refine⟨rfl,?_,?_,?_⟩
 · repeat(with_reducible refine(xe_ _ _).trans ?_)
   exact xj_ (by simp) _
 · repeat(with_reducible refine(xe_ _ _).trans ?_)
   refine(xh_ (pl_ hpl) _).trans ?_;repeat(with_reducible refine(xe_ _ _).trans ?_)
   apply Eq.trans
   ·repeat(first|with_reducible exact hp|apply xk_)
   ·simp
 ·exact kg_
theorem auz_ (p b T:Nat) (s a i0 pt now:Int) (w:World) (hp:w.heap[p]?=some (.cells #[.bool false,.int .i64 s,.bool true,.int .i64 a] T)) (hb:w.heap[b]?=some (.cells #[.int .i64 i0,.int .i64 pt] 3)) (hne:p≠b) (h0:(i0 != 0)=false) (hn0:0≤now) (hn1:now≤4294967295) (ho:decide (pt≤xz_ now now)=false) :
 Calls Tryz.prog 127 #[.pointer (some ⟨p,0,none⟩),.slice (some ⟨b,0,none⟩) 2 2,.int .i64 now] w fun e w'=>e=.returned (.slice (some ⟨w.heap.size,0,none⟩) 2 2)∧w'.heap[w.heap.size]?=some (.cells #[.int .i64 1,.int .i64 (min (xz_ now now) pt)] 3)∧w'.heap[p]?=some (.cells #[.bool true,.int .i64 now,.bool true,.int .i64 (min (xz_ now now) pt)] T)∧w.grownBy w' (some p):=by
 have hpl:=xg_ hp;have c0:=xa_ hb 0;have c1:=xa_ hb 1;have d0:=xa_ hp 0;have f0:=xc_ hp 0;have d1:=xa_ hp 1;have f1:=xc_ hp 1;have d2:=xa_ hp 2;have f2:=xc_ hp 2;have d3:=xa_ hp 3;have f3:=xc_ hp 3;simp at c0 c1 d0 d1 d2 d3;obtain⟨t,ht⟩:∃ t,min (xz_ now now) pt=t:=⟨_,rfl⟩;rw[ht];go_enter Tryz.func127,Tryz.ntmps127;go_wp2_with (first|(go_at_call 119;refine(xn_ _ _).mono ?_;rintro e w' ⟨rfl,rfl⟩)|(go_at_call 128;refine(amx_ p s a _ _ _ ?_ ?_ ?_ ?_ ?_ ?_ ?_ ?_ hn0 hn1 ?_).mono ?_;(exact k3_);(exact k4_);(exact k3_);(exact k4_);(exact k3_);(exact k4_);(exact k3_);(exact k4_);(exact ho);rintro e w' ⟨rfl,rfl⟩))
 go_region_held3 (fun w'=>w'.cell? ⟨p,2,none⟩=some (.bool true)) ((exact k3_)) (first|(go_at_call 122;refine(y5_ p _ t _ ?_).mono ?_;(exact k3_);rintro e w' ⟨rfl,rfl⟩))
 go_wp2;all_goals go_ret
 all_goals refine⟨rfl,?_,?_,?_⟩
 · repeat(with_reducible refine(xe_ _ _).trans ?_)
   exact xj_ (by simp) _
 · repeat(with_reducible refine(xe_ _ _).trans ?_)
   refine(xh_ (pl_ hpl) _).trans ?_;repeat(with_reducible refine(xe_ _ _).trans ?_)
   apply Eq.trans
   ·repeat(first|with_reducible exact hp|apply xk_)
   ·simp
 ·exact kg_
end Go.Proofs.YtcgbfhpmkpglkaaGreatDoor.Bl
namespace Go.Proofs.YtcgbfhpmkpglkaaGreatDoor.Bl
open Go.RowKit
theorem aj8_ (p b T:Nat) (l:List Int) (w:World) (hp:w.heap[p]?=some (.cells #[.bool false,.int .i64 0,.bool false,.int .i64 0] T)) (hb:w.heap[b]?=some (.cells (xi_ (xm_ [1,5,1,5] l)) 3)) (hne:p≠b) :
 Calls Tryz.prog 114 #[.pointer (some ⟨p,0,none⟩),.slice (some ⟨b,0,none⟩) 4 4] w fun e w'=>e=.returned (.tuple #[])∧w'.heap[p]?=some (.cells (A4 (xm_ [1,5,1,5] l)) T)∧w.grownBy w' (some p):=by
 obtain⟨a0,a1,a2,a3,e⟩:=abj_ 1 5 1 5 l;rw[e] at hb ⊢;exact ajl_ p b T 3 _ _ _ _ _ _ _ _ w hp hb hne
theorem aj9_ (p T:Nat) (n0 n1 n2 n3:Int) (h0:n0=0∨n0=1) (h2:n2=0∨n2=1) (w:World) (hp:w.heap[p]?=some (.cells (A4 [n0,n1,n2,n3]) T)) :
 Calls Tryz.prog 115 #[.pointer (some ⟨p,0,none⟩)] w fun e w'=>e=.returned (.slice (some ⟨w.heap.size,0,none⟩) 4 4)∧w'.heap[w.heap.size]?=some (.cells (xi_ [n0,n1,n2,n3]) 3)∧w.grownBy w' none:=by
 have h:=ajm_ p T n1 n3 (n0 != 0) (n2 != 0) w hp;rw[aae_ h0,aae_ h2] at h;exact h
theorem apk_ (p b T:Nat) (x0 x1 x2 x3 i0 i1 now:Int) (h_x0:x0=0∨x0=1) (l_x1:0≤x1) (u_x1:x1≤4294967295) (h_x2:x2=0∨x2=1) (l_x3:0≤x3) (u_x3:x3≤4294967295) (h_i0:i0=0∨i0=1) (l_i1:0≤i1) (u_i1:i1≤4294967295) (l_now:0≤now) (u_now:now≤4294967295) (w:World)
 (hp:w.heap[p]?=some (.cells (A4 [x0,x1,x2,x3]) T)) (hb:w.heap[b]?=some (.cells (xi_ [i0,i1]) 3)) (hne:p≠b) :
 Calls Tryz.prog 117 #[.pointer (some ⟨p,0,none⟩),.slice (some ⟨b,0,none⟩) 2 2,.int .i64 now] w fun e w'=>e=.returned (.slice (some ⟨w.heap.size,0,none⟩) 2 2)∧w'.heap[w.heap.size]?=some (.cells (xi_ (jy_ [x0,x1,x2,x3] [i0,i1] now).2) 3)∧w'.heap[p]?=some (.cells (A4 (jy_ [x0,x1,x2,x3] [i0,i1] now).1) T)∧w.grownBy w' (some p):=by
 rcases h_i0 with rfl|rfl
 ·exact(av5_ p b T (x0 != 0) (x2 != 0) x1 x3 0 i1 now w hp hb hne rfl).mono fun e w' ⟨a1,a2,a3,a4⟩=>⟨a1,a2,a3,a4⟩
 · rcases h_x0 with rfl|rfl
   ·exact(av8_ p b T (x2 != 0) x1 x3 1 i1 now w hp hb hne rfl l_now u_now).mono fun e w' ⟨a1,a2,a3,a4⟩=>⟨a1,a2,a3.trans (by simp[jy_,A4,aln_]),a4⟩
   · rcases h_x2 with rfl|rfl
     ·exact(av7_ p b T x1 x3 1 i1 now w hp hb hne rfl l_x1 u_x1 l_now u_now).mono fun e w' ⟨a1,a2,a3,a4⟩=>⟨a1,a2,a3.trans (by simp[jy_,A4,aln_]),a4⟩
     ·exact(av6_ p b T x1 x3 1 i1 now w hp hb hne rfl).mono fun e w' ⟨a1,a2,a3,a4⟩=>⟨a1,a2,a3,a4⟩
theorem apl_ (x0 x1 x2 x3 i0 i1 now:Int) (h_x0:x0=0∨x0=1) (h_x2:x2=0∨x2=1) (h_i0:i0=0∨i0=1) :
 ∃ n0 n1 n2 n3,(jy_ [x0,x1,x2,x3] [i0,i1] now).1=[n0,n1,n2,n3]∧(n0=0∨n0=1)∧(n2=0∨n2=1):=by
 rcases h_x0 with rfl|rfl <;> rcases h_x2 with rfl|rfl <;> rcases h_i0 with rfl|rfl <;> exact⟨_,_,_,_,rfl,by simp,by first|exact asx_ _|simp⟩
theorem am6_:ur_ zu_ 4 2 [1,5,1,5] [1,5] jy_:=by
 intro vs vi l li now w hr hri;obtain⟨a0,a1,a2,a3,e⟩:=abj_ 1 5 1 5 l;obtain⟨c0,c1,e'⟩:=qy_ 1 5 li;have hst:∀(p b:Nat) (w:World),w.heap[p]?=some (.cells (A4 (xm_ [1,5,1,5] l)) 147)→w.heap[b]?=some (.cells (xi_ (xm_ [1,5] li)) 3)→p≠b→Calls Tryz.prog 117 #[.pointer (some ⟨p,0,none⟩),.slice (some ⟨b,0,none⟩) 2 2,.int .i64 (xd_ 5 now)] w fun e w'=>e=.returned (.slice (some ⟨w.heap.size,0,none⟩) 2 2)∧w'.heap[w.heap.size]?=some (.cells (xi_ (jy_ (xm_ [1,5,1,5] l) (xm_ [1,5] li) (xd_ 5 now)).2) 3)∧w'.heap[p]?=some (.cells (A4 (jy_ (xm_ [1,5,1,5] l) (xm_ [1,5] li) (xd_ 5 now)).1) 147)∧w.grownBy w' (some p):=by
  intro p b w hp hb hne;rw[e] at hp ⊢;rw[e'] at hb ⊢;exact apk_ p b 147 _ _ _ _ _ _ _ (ye_ a0) (yo_ a1).1 (yo_ a1).2 (ye_ a2) (yo_ a3).1 (yo_ a3).2 (ye_ c0) (yo_ c1).1 (yo_ c1).2 (yo_ now).1 (yo_ now).2 w hp hb hne
 have hsv:∀(p:Nat) (w:World),w.heap[p]?=some (.cells (A4 (jy_ (xm_ [1,5,1,5] l) (xm_ [1,5] li) (xd_ 5 now)).1) 147)→Calls Tryz.prog 115 #[.pointer (some ⟨p,0,none⟩)] w fun e w'=>e=.returned (.slice (some ⟨w.heap.size,0,none⟩) 4 4)∧w'.heap[w.heap.size]?=some (.cells (xi_ (jy_ (xm_ [1,5,1,5] l) (xm_ [1,5] li) (xd_ 5 now)).1) 3)∧w.grownBy w' none:=by
  intro p w hp;rw[e,e'] at hp ⊢;obtain⟨n0,n1,n2,n3,hf,h0,h2⟩:=apl_ (xd_ 1 a0) (xd_ 5 a1) (xd_ 1 a2) (xd_ 5 a3) (xd_ 1 c0) (xd_ 5 c1) (xd_ 5 now) (ye_ a0) (ye_ a2) (ye_ c0);rw[hf] at hp ⊢;exact aj9_ p 147 n0 n1 n2 n3 h0 h2 w hp
 exact qx_ zu_ 143 147 116 114 117 115 #[.bool false,.int .i64 0,.bool false,.int .i64 0] tonI tonO tonS A4 jy_ vs vi l li now w (by decide) (by decide) ae3_
  (fun _ _=>by kernel_rfl) (fun _ _=>by kernel_rfl) (fun _ _=>by kernel_rfl) (fun _ _=>by kernel_rfl) (fun _ _=>by kernel_rfl) (fun _ _=>by kernel_rfl)
  (fun _ _=>by kernel_rfl) (fun _ _=>by kernel_rfl) (fun _ _=>by kernel_rfl) (fun _ _=>by kernel_rfl)
  aex_ (fun p b w hp hb hne=>aj8_ p b 147 l w hp hb hne) hst hsv hr hri
theorem apm_ (p b T:Nat) (x0 x1 x2 x3 i0 i1 now:Int) (h_x0:x0=0∨x0=1) (l_x1:0≤x1) (u_x1:x1≤4294967295) (h_x2:x2=0∨x2=1) (l_x3:0≤x3) (u_x3:x3≤4294967295) (h_i0:i0=0∨i0=1) (l_i1:0≤i1) (u_i1:i1≤4294967295) (l_now:0≤now) (u_now:now≤4294967295) (w:World)
 (hp:w.heap[p]?=some (.cells (A4 [x0,x1,x2,x3]) T)) (hb:w.heap[b]?=some (.cells (xi_ [i0,i1]) 3)) (hne:p≠b) :
 Calls Tryz.prog 127 #[.pointer (some ⟨p,0,none⟩),.slice (some ⟨b,0,none⟩) 2 2,.int .i64 now] w fun e w'=>e=.returned (.slice (some ⟨w.heap.size,0,none⟩) 2 2)∧w'.heap[w.heap.size]?=some (.cells (xi_ (qv_ [x0,x1,x2,x3] [i0,i1] now).2) 3)∧w'.heap[p]?=some (.cells (A4 (qv_ [x0,x1,x2,x3] [i0,i1] now).1) T)∧w.grownBy w' (some p):=by
 rcases h_i0 with rfl|rfl
 · rcases h_x2 with rfl|rfl
   ·refine(awi_ p b T (x0 != 0) x1 x3 0 i1 now w hp hb hne rfl).mono fun e w' ⟨a1,a2,a3,a4⟩=>⟨a1,a2,a3,a4⟩
   · rcases h_x0 with rfl|rfl
     · by_cases ho:i1≤xz_ now now
       ·exact(auy_ p b T x1 x3 0 i1 now w hp hb hne rfl l_now u_now (by simpa using ho)).mono fun e w' ⟨a1,a2,a3,a4⟩=>⟨a1,a2.trans (by simp[qv_,xi_,ho]),a3.trans (by simp[qv_,A4,ho]),a4⟩
       ·exact(auz_ p b T x1 x3 0 i1 now w hp hb hne rfl l_now u_now (by simpa using ho)).mono fun e w' ⟨a1,a2,a3,a4⟩=>⟨a1,a2.trans (by simp[qv_,xi_,ho]),a3.trans (by simp[qv_,A4,ho]),a4⟩
     · by_cases ho:i1≤xz_ now x1
       ·exact(auw_ p b T x1 x3 0 i1 now w hp hb hne rfl l_x1 u_x1 l_now u_now (by simpa using ho)).mono fun e w' ⟨a1,a2,a3,a4⟩=>⟨a1,a2.trans (by simp[qv_,xi_,ho]),a3.trans (by simp[qv_,A4,ho]),a4⟩
       ·exact(aux_ p b T x1 x3 0 i1 now w hp hb hne rfl l_x1 u_x1 l_now u_now (by simpa using ho)).mono fun e w' ⟨a1,a2,a3,a4⟩=>⟨a1,a2.trans (by simp[qv_,xi_,ho]),a3.trans (by simp[qv_,A4,ho]),a4⟩
 ·exact(awh_ p b T (x0 != 0) (x2 != 0) x1 x3 1 i1 now w hp hb hne rfl).mono fun e w' ⟨a1,a2,a3,a4⟩=>⟨a1,a2,a3,a4⟩
theorem apn_ (x0 x1 x2 x3 i0 i1 now:Int) (h_x0:x0=0∨x0=1) (h_x2:x2=0∨x2=1) (h_i0:i0=0∨i0=1) :
 ∃ n0 n1 n2 n3,(qv_ [x0,x1,x2,x3] [i0,i1] now).1=[n0,n1,n2,n3]∧(n0=0∨n0=1)∧(n2=0∨n2=1):=by
 rcases h_i0 with rfl|rfl
 · rcases h_x2 with rfl|rfl
   ·exact⟨_,_,_,_,rfl,h_x0,by simp⟩
   · by_cases ho:i1≤xz_ now (if x0=0 then now else x1)
     ·exact⟨0,0,0,min (xz_ now (if x0=0 then now else x1)) i1,by simp[qv_,ho],by simp,by simp⟩
     ·exact⟨1,if x0=0 then now else x1,1,min (xz_ now (if x0=0 then now else x1)) i1,by simp[qv_,ho],by simp,by simp⟩
 ·exact⟨_,_,_,_,rfl,by simp,by simp⟩
theorem am7_:ur_ zv_ 4 2 [1,5,1,5] [1,5] qv_:=by
 intro vs vi l li now w hr hri;obtain⟨a0,a1,a2,a3,e⟩:=abj_ 1 5 1 5 l;obtain⟨c0,c1,e'⟩:=qy_ 1 5 li;have hst:∀(p b:Nat) (w:World),w.heap[p]?=some (.cells (A4 (xm_ [1,5,1,5] l)) 149)→w.heap[b]?=some (.cells (xi_ (xm_ [1,5] li)) 3)→p≠b→Calls Tryz.prog 127 #[.pointer (some ⟨p,0,none⟩),.slice (some ⟨b,0,none⟩) 2 2,.int .i64 (xd_ 5 now)] w fun e w'=>e=.returned (.slice (some ⟨w.heap.size,0,none⟩) 2 2)∧w'.heap[w.heap.size]?=some (.cells (xi_ (qv_ (xm_ [1,5,1,5] l) (xm_ [1,5] li) (xd_ 5 now)).2) 3)∧w'.heap[p]?=some (.cells (A4 (qv_ (xm_ [1,5,1,5] l) (xm_ [1,5] li) (xd_ 5 now)).1) 149)∧w.grownBy w' (some p):=by
  intro p b w hp hb hne;rw[e] at hp ⊢;rw[e'] at hb ⊢;exact apm_ p b 149 _ _ _ _ _ _ _ (ye_ a0) (yo_ a1).1 (yo_ a1).2 (ye_ a2) (yo_ a3).1 (yo_ a3).2 (ye_ c0) (yo_ c1).1 (yo_ c1).2 (yo_ now).1 (yo_ now).2 w hp hb hne
 have hsv:∀(p:Nat) (w:World),w.heap[p]?=some (.cells (A4 (qv_ (xm_ [1,5,1,5] l) (xm_ [1,5] li) (xd_ 5 now)).1) 149)→Calls Tryz.prog 115 #[.pointer (some ⟨p,0,none⟩)] w fun e w'=>e=.returned (.slice (some ⟨w.heap.size,0,none⟩) 4 4)∧w'.heap[w.heap.size]?=some (.cells (xi_ (qv_ (xm_ [1,5,1,5] l) (xm_ [1,5] li) (xd_ 5 now)).1) 3)∧w.grownBy w' none:=by
  intro p w hp;rw[e,e'] at hp ⊢;obtain⟨n0,n1,n2,n3,hf,h0,h2⟩:=apn_ (xd_ 1 a0) (xd_ 5 a1) (xd_ 1 a2) (xd_ 5 a3) (xd_ 1 c0) (xd_ 5 c1) (xd_ 5 now) (ye_ a0) (ye_ a2) (ye_ c0);rw[hf] at hp ⊢;exact aj9_ p 149 n0 n1 n2 n3 h0 h2 w hp
 exact qx_ zv_ 148 149 126 114 127 115 #[.bool false,.int .i64 0,.bool false,.int .i64 0] tofI tofO tofS A4 qv_ vs vi l li now w (by decide) (by decide) ae4_
  (fun _ _=>by kernel_rfl) (fun _ _=>by kernel_rfl) (fun _ _=>by kernel_rfl) (fun _ _=>by kernel_rfl) (fun _ _=>by kernel_rfl) (fun _ _=>by kernel_rfl)
  (fun _ _=>by kernel_rfl) (fun _ _=>by kernel_rfl) (fun _ _=>by kernel_rfl) (fun _ _=>by kernel_rfl)
  aey_ (fun p b w hp hb hne=>aj8_ p b 149 l w hp hb hne) hst hsv hr hri
theorem asy_ (p b T:Nat) (x0 x1 x2 x3 i0 i1 now:Int) (h_x0:x0=0∨x0=1) (l_x1:0≤x1) (u_x1:x1≤4294967295) (h_x2:x2=0∨x2=1) (l_x3:0≤x3) (u_x3:x3≤4294967295) (h_i0:i0=0∨i0=1) (l_i1:0≤i1) (u_i1:i1≤4294967295) (l_now:0≤now) (u_now:now≤4294967295) (w:World)
 (hp:w.heap[p]?=some (.cells (A4 [x0,x1,x2,x3]) T)) (hb:w.heap[b]?=some (.cells (xi_ [i0,i1]) 3)) (hne:p≠b) :
 Calls Tryz.prog 131 #[.pointer (some ⟨p,0,none⟩),.slice (some ⟨b,0,none⟩) 2 2,.int .i64 now] w fun e w'=>e=.returned (.slice (some ⟨w.heap.size,0,none⟩) 2 2)∧w'.heap[w.heap.size]?=some (.cells (xi_ (tpF [x0,x1,x2,x3] [i0,i1] now).2) 3)∧w'.heap[p]?=some (.cells (A4 (tpF [x0,x1,x2,x3] [i0,i1] now).1) T)∧w.grownBy w' (some p):=by
 rcases h_x0 with rfl|rfl
 · rcases h_i0 with rfl|rfl
   ·exact(asw_ p b T (x2 != 0) x1 x3 0 i1 now w hp hb hne rfl).mono fun e w' ⟨a1,a2,a3,a4⟩=>⟨a1,a2,a3,a4⟩
   · rcases h_x2 with rfl|rfl
     · by_cases ho:i1≤xz_ now now
       ·exact(awj_ p b T x1 x3 1 i1 now w hp hb hne rfl l_now u_now (by simpa using ho)).mono fun e w' ⟨a1,a2,a3,a4⟩=>⟨a1,a2.trans (by simp[tpF,qg_,xi_,ho]),a3.trans (by simp[tpF,qg_,A4,ho]),a4⟩
       ·exact(awk_ p b T x1 x3 1 i1 now w hp hb hne rfl l_now u_now (by simpa using ho)).mono fun e w' ⟨a1,a2,a3,a4⟩=>⟨a1,a2.trans (by simp[tpF,qg_,xi_,ho]),a3.trans (by simp[tpF,qg_,A4,ho]),a4⟩
     ·exact(asv_ p b T x1 x3 1 i1 now w hp hb hne rfl).mono fun e w' ⟨a1,a2,a3,a4⟩=>⟨a1,a2,a3,a4⟩
 · rcases h_i0 with rfl|rfl <;> rcases h_x2 with rfl|rfl
   · by_cases ho:i1≤xz_ now x1
     ·exact(ast_ p b T x1 x3 0 i1 now w hp hb hne rfl l_x1 u_x1 l_now u_now (by simpa using ho)).mono fun e w' ⟨a1,a2,a3,a4⟩=>⟨a1,a2.trans (by simp[tpF,qg_,xi_,ho]),a3.trans (by simp[tpF,qg_,A4,ho]),a4⟩
     ·exact(asu_ p b T x1 x3 0 i1 now w hp hb hne rfl l_x1 u_x1 l_now u_now (by simpa using ho)).mono fun e w' ⟨a1,a2,a3,a4⟩=>⟨a1,a2.trans (by simp[tpF,qg_,xi_,ho]),a3.trans (by simp[tpF,qg_,A4,ho]),a4⟩
   · by_cases ho:i1≤xz_ now x1
     ·exact(asr_ p b T x1 x3 0 i1 now w hp hb hne rfl l_x1 u_x1 l_now u_now (by simpa using ho)).mono fun e w' ⟨a1,a2,a3,a4⟩=>⟨a1,a2.trans (by simp[tpF,qg_,xi_,ho]),a3.trans (by simp[tpF,qg_,A4,ho]),a4⟩
     ·exact(ass_ p b T x1 x3 0 i1 now w hp hb hne rfl l_x1 u_x1 l_now u_now (by simpa using ho)).mono fun e w' ⟨a1,a2,a3,a4⟩=>⟨a1,a2.trans (by simp[tpF,qg_,xi_,ho]),a3.trans (by simp[tpF,qg_,A4,ho]),a4⟩
   · by_cases ho:i1≤xz_ now x1
     ·exact(asp_ p b T x1 x3 1 i1 now w hp hb hne rfl l_x1 u_x1 l_now u_now (by simpa using ho)).mono fun e w' ⟨a1,a2,a3,a4⟩=>⟨a1,a2.trans (by simp[tpF,qg_,xi_,ho]),a3.trans (by simp[tpF,qg_,A4,ho]),a4⟩
     ·exact(asq_ p b T x1 x3 1 i1 now w hp hb hne rfl l_x1 u_x1 l_now u_now (by simpa using ho)).mono fun e w' ⟨a1,a2,a3,a4⟩=>⟨a1,a2.trans (by simp[tpF,qg_,xi_,ho]),a3.trans (by simp[tpF,qg_,A4,ho]),a4⟩
   · by_cases ho:i1≤xz_ now x1
     ·exact(asn_ p b T x1 x3 1 i1 now w hp hb hne rfl l_x1 u_x1 l_now u_now (by simpa using ho)).mono fun e w' ⟨a1,a2,a3,a4⟩=>⟨a1,a2.trans (by simp[tpF,qg_,xi_,ho]),a3.trans (by simp[tpF,qg_,A4,ho]),a4⟩
     ·exact(aso_ p b T x1 x3 1 i1 now w hp hb hne rfl l_x1 u_x1 l_now u_now (by simpa using ho)).mono fun e w' ⟨a1,a2,a3,a4⟩=>⟨a1,a2.trans (by simp[tpF,qg_,xi_,ho]),a3.trans (by simp[tpF,qg_,A4,ho]),a4⟩
theorem asz_ (x0 x1 x2 x3 i0 i1 now:Int) (h_x0:x0=0∨x0=1) (h_x2:x2=0∨x2=1) (h_i0:i0=0∨i0=1) :
 ∃ n0 n1 n2 n3,(tpF [x0,x1,x2,x3] [i0,i1] now).1=[n0,n1,n2,n3]∧(n0=0∨n0=1)∧(n2=0∨n2=1):=by
 unfold tpF qg_;simp only[];repeat' split
 all_goals exact⟨_,_,_,_,rfl,by simp,by first|assumption|simp⟩
theorem apo_:ur_ qu_ 4 2 [1,5,1,5] [1,5] tpF:=by
 intro vs vi l li now w hr hri;obtain⟨a0,a1,a2,a3,e⟩:=abj_ 1 5 1 5 l;obtain⟨c0,c1,e'⟩:=qy_ 1 5 li;have hst:∀(p b:Nat) (w:World),w.heap[p]?=some (.cells (A4 (xm_ [1,5,1,5] l)) 151)→w.heap[b]?=some (.cells (xi_ (xm_ [1,5] li)) 3)→p≠b→Calls Tryz.prog 131 #[.pointer (some ⟨p,0,none⟩),.slice (some ⟨b,0,none⟩) 2 2,.int .i64 (xd_ 5 now)] w fun e w'=>e=.returned (.slice (some ⟨w.heap.size,0,none⟩) 2 2)∧w'.heap[w.heap.size]?=some (.cells (xi_ (tpF (xm_ [1,5,1,5] l) (xm_ [1,5] li) (xd_ 5 now)).2) 3)∧w'.heap[p]?=some (.cells (A4 (tpF (xm_ [1,5,1,5] l) (xm_ [1,5] li) (xd_ 5 now)).1) 151)∧w.grownBy w' (some p):=by
  intro p b w hp hb hne;rw[e] at hp ⊢;rw[e'] at hb ⊢;exact asy_ p b 151 _ _ _ _ _ _ _ (ye_ a0) (yo_ a1).1 (yo_ a1).2 (ye_ a2) (yo_ a3).1 (yo_ a3).2 (ye_ c0) (yo_ c1).1 (yo_ c1).2 (yo_ now).1 (yo_ now).2 w hp hb hne
 have hsv:∀(p:Nat) (w:World),w.heap[p]?=some (.cells (A4 (tpF (xm_ [1,5,1,5] l) (xm_ [1,5] li) (xd_ 5 now)).1) 151)→Calls Tryz.prog 115 #[.pointer (some ⟨p,0,none⟩)] w fun e w'=>e=.returned (.slice (some ⟨w.heap.size,0,none⟩) 4 4)∧w'.heap[w.heap.size]?=some (.cells (xi_ (tpF (xm_ [1,5,1,5] l) (xm_ [1,5] li) (xd_ 5 now)).1) 3)∧w.grownBy w' none:=by
  intro p w hp;rw[e,e'] at hp ⊢;obtain⟨n0,n1,n2,n3,hf,h0,h2⟩:=asz_ (xd_ 1 a0) (xd_ 5 a1) (xd_ 1 a2) (xd_ 5 a3) (xd_ 1 c0) (xd_ 5 c1) (xd_ 5 now) (ye_ a0) (ye_ a2) (ye_ c0);rw[hf] at hp ⊢;exact aj9_ p 151 n0 n1 n2 n3 h0 h2 w hp
 exact qx_ qu_ 150 151 130 114 131 115 #[.bool false,.int .i64 0,.bool false,.int .i64 0] tpI tpO tpS A4 tpF vs vi l li now w (by decide) (by decide) ahu_
  (fun _ _=>by kernel_rfl) (fun _ _=>by kernel_rfl) (fun _ _=>by kernel_rfl) (fun _ _=>by kernel_rfl) (fun _ _=>by kernel_rfl) (fun _ _=>by kernel_rfl)
  (fun _ _=>by kernel_rfl) (fun _ _=>by kernel_rfl) (fun _ _=>by kernel_rfl) (fun _ _=>by kernel_rfl)
  ahl_ (fun p b w hp hb hne=>aj8_ p b 151 l w hp hb hne) hst hsv hr hri
end Go.Proofs.YtcgbfhpmkpglkaaGreatDoor.Bl
namespace Go.Proofs.YtcgbfhpmkpglkaaGreatDoor.Bl
open Go.RowKit
attribute [local go_sem ↓] Go.wp_at_zero Go.wp_at_succ
theorem vw_ (p:Nat) (x P u:Bool) (w:World) (d0:w.cell? ⟨p,0,none⟩=some (.bool P)) (f0:w.frozen? ⟨p,0,none⟩=false) (hu:(x && !P)=u) :
 Calls Tryz.prog 133 #[.pointer (some ⟨p,0,none⟩),.bool x] w fun e w'=>e=.returned (.bool u)∧w'=w.setCell ⟨p,0,none⟩ (.bool x):=by
 subst hu;cases x <;> cases P;all_goals
  go_enter Tryz.func133,Tryz.ntmps133;go_wp2;go_ret;exact⟨rfl,rfl⟩
theorem as4_ (p b T:Nat) (P u:Bool) (n i0 i1 pv now:Int) (w:World) (hp:w.heap[p]?=some (.cells #[.bool P,.int .i64 n] T)) (hb:w.heap[b]?=some (.cells #[.int .i64 i0,.int .i64 i1,.int .i64 pv] 3)) (hne:p≠b) (h1:(i1 != 0)=true) (hu:((i0 != 0) && !P)=u) (hc0 : -32768≤n) (hc1:n≤32767) :
 Calls Tryz.prog 136 #[.pointer (some ⟨p,0,none⟩),.slice (some ⟨b,0,none⟩) 3 3,.int .i64 now] w fun e w'=>e=.returned (.slice (some ⟨w.heap.size,0,none⟩) 2 2)∧w'.heap[w.heap.size]?=some (.cells #[.int .i64 (x1_ (decide (pv≤0))),.int .i64 0] 3)∧w'.heap[p]?=some (.cells #[.bool (i0 != 0),.int .i64 0] T)∧w.grownBy w' (some p):=by
 have hpl:=xg_ hp;have c0:=xa_ hb 0;have c1:=xa_ hb 1;have c2:=xa_ hb 2;have d0:=xa_ hp 0;have f0:=xc_ hp 0;have d1:=xa_ hp 1;have f1:=xc_ hp 1;simp at c0 c1 c2 d0 d1;obtain⟨q,hq⟩:∃ q,decide (pv≤0)=q:=⟨_,rfl⟩;rw[hq];go_enter Tryz.func136,Tryz.ntmps136;go_wp2;go_region_held3 (fun w'=>w'.cell? ⟨b,0,none⟩=some (.int .i64 i0)∧w'.cell? ⟨b,1,none⟩=some (.int .i64 i1)∧w'.cell? ⟨b,2,none⟩=some (.int .i64 pv)) (refine⟨?_,?_,?_⟩ <;> (exact k3_)) (first|(go_at_call 119;refine(xn_ _ _).mono ?_;rintro e w' ⟨rfl,rfl⟩)|(go_at_call 133;refine(vw_ p _ P u _ ?_ ?_ ?_).mono ?_;(exact k3_);(exact k4_);(exact hu);rintro e w' ⟨rfl,rfl⟩))
 go_wp2_with (go_at_call 138;refine(y9_ n _ hc0 hc1).mono ?_;rintro e w' ⟨rfl,rfl⟩)
 go_region_held3 (fun w'=>w'.cell? ⟨p,1,none⟩=some (.int .i64 0)) ((exact k3_)) (first|(go_at_call 120;refine(xx_ _ _).mono ?_;rintro e w' ⟨rfl,rfl⟩))
 go_wp2;all_goals go_ret
 all_goals refine⟨rfl,?_,?_,?_⟩
 · repeat(with_reducible refine(xe_ _ _).trans ?_)
   exact xj_ (by simp) _
 · repeat(with_reducible refine(xe_ _ _).trans ?_)
   refine(xh_ (pl_ hpl) _).trans ?_;repeat(with_reducible refine(xe_ _ _).trans ?_)
   apply Eq.trans
   ·repeat(first|with_reducible exact hp|apply xk_)
   ·simp
 ·exact kg_
theorem avk_ (p b T:Nat) (P:Bool) (n i0 i1 pv now:Int) (w:World) (hp:w.heap[p]?=some (.cells #[.bool P,.int .i64 n] T)) (hb:w.heap[b]?=some (.cells #[.int .i64 i0,.int .i64 i1,.int .i64 pv] 3)) (hne:p≠b) (h1:(i1 != 0)=false) (hu:((i0 != 0) && !P)=true) (hc0 : -32768≤n) (hc1:n≤32767) :
 Calls Tryz.prog 136 #[.pointer (some ⟨p,0,none⟩),.slice (some ⟨b,0,none⟩) 3 3,.int .i64 now] w fun e w'=>e=.returned (.slice (some ⟨w.heap.size,0,none⟩) 2 2)∧w'.heap[w.heap.size]?=some (.cells #[.int .i64 (x1_ (decide (pv≤(qk_ n)))),.int .i64 (qk_ n)] 3)∧w'.heap[p]?=some (.cells #[.bool (i0 != 0),.int .i64 (qk_ n)] T)∧w.grownBy w' (some p):=by
 have hpl:=xg_ hp;have c0:=xa_ hb 0;have c1:=xa_ hb 1;have c2:=xa_ hb 2;have d0:=xa_ hp 0;have f0:=xc_ hp 0;have d1:=xa_ hp 1;have f1:=xc_ hp 1;simp at c0 c1 c2 d0 d1;obtain⟨k,hk⟩:∃ k,qk_ n=k:=⟨_,rfl⟩;rw[hk];obtain⟨q,hq⟩:∃ q,decide (pv≤k)=q:=⟨_,rfl⟩;rw[hq];go_enter Tryz.func136,Tryz.ntmps136;go_wp2;go_region_held3 (fun w'=>w'.cell? ⟨b,0,none⟩=some (.int .i64 i0)∧w'.cell? ⟨b,1,none⟩=some (.int .i64 i1)∧w'.cell? ⟨b,2,none⟩=some (.int .i64 pv)) (refine⟨?_,?_,?_⟩ <;> (exact k3_)) (first|(go_at_call 119;refine(xn_ _ _).mono ?_;rintro e w' ⟨rfl,rfl⟩)|(go_at_call 133;refine(vw_ p _ P true _ ?_ ?_ ?_).mono ?_;(exact k3_);(exact k4_);(exact hu);rintro e w' ⟨rfl,rfl⟩))
 go_wp2_with (go_at_call 138;refine(y9_ n _ hc0 hc1).mono ?_;rintro e w' ⟨rfl,rfl⟩)
 go_region_held3 (fun w'=>w'.cell? ⟨p,1,none⟩=some (.int .i64 k)) ((exact k3_)) (first|(go_at_call 120;refine(xx_ _ _).mono ?_;rintro e w' ⟨rfl,rfl⟩))
 go_wp2;all_goals go_ret
 all_goals refine⟨rfl,?_,?_,?_⟩
 · repeat(with_reducible refine(xe_ _ _).trans ?_)
   exact xj_ (by simp) _
 · repeat(with_reducible refine(xe_ _ _).trans ?_)
   refine(xh_ (pl_ hpl) _).trans ?_;repeat(with_reducible refine(xe_ _ _).trans ?_)
   apply Eq.trans
   ·repeat(first|with_reducible exact hp|apply xk_)
   ·simp
 ·exact kg_
theorem ap1_ (p b T:Nat) (P:Bool) (n i0 i1 pv now:Int) (w:World) (hp:w.heap[p]?=some (.cells #[.bool P,.int .i64 n] T)) (hb:w.heap[b]?=some (.cells #[.int .i64 i0,.int .i64 i1,.int .i64 pv] 3)) (hne:p≠b) (h1:(i1 != 0)=false) (hu:((i0 != 0) && !P)=false) (hc0 : -32768≤n) (hc1:n≤32767) :
 Calls Tryz.prog 136 #[.pointer (some ⟨p,0,none⟩),.slice (some ⟨b,0,none⟩) 3 3,.int .i64 now] w fun e w'=>e=.returned (.slice (some ⟨w.heap.size,0,none⟩) 2 2)∧w'.heap[w.heap.size]?=some (.cells #[.int .i64 (x1_ (decide (pv≤n))),.int .i64 n] 3)∧w'.heap[p]?=some (.cells #[.bool (i0 != 0),.int .i64 n] T)∧w.grownBy w' (some p):=by
 have hpl:=xg_ hp;have c0:=xa_ hb 0;have c1:=xa_ hb 1;have c2:=xa_ hb 2;have d0:=xa_ hp 0;have f0:=xc_ hp 0;have d1:=xa_ hp 1;have f1:=xc_ hp 1;simp at c0 c1 c2 d0 d1;obtain⟨q,hq⟩:∃ q,decide (pv≤n)=q:=⟨_,rfl⟩;rw[hq];go_enter Tryz.func136,Tryz.ntmps136;go_wp2;go_region_held3 (fun w'=>w'.cell? ⟨b,0,none⟩=some (.int .i64 i0)∧w'.cell? ⟨b,1,none⟩=some (.int .i64 i1)∧w'.cell? ⟨b,2,none⟩=some (.int .i64 pv)) (refine⟨?_,?_,?_⟩ <;> (exact k3_)) (first|(go_at_call 119;refine(xn_ _ _).mono ?_;rintro e w' ⟨rfl,rfl⟩)|(go_at_call 133;refine(vw_ p _ P false _ ?_ ?_ ?_).mono ?_;(exact k3_);(exact k4_);(exact hu);rintro e w' ⟨rfl,rfl⟩))
 go_wp2_with (go_at_call 138;refine(y9_ n _ hc0 hc1).mono ?_;rintro e w' ⟨rfl,rfl⟩)
 go_region_held3 (fun w'=>w'.cell? ⟨p,1,none⟩=some (.int .i64 n)) ((exact k3_)) (first|(go_at_call 120;refine(xx_ _ _).mono ?_;rintro e w' ⟨rfl,rfl⟩))
 go_wp2;all_goals go_ret
 all_goals refine⟨rfl,?_,?_,?_⟩
 · repeat(with_reducible refine(xe_ _ _).trans ?_)
   exact xj_ (by simp) _
 · repeat(with_reducible refine(xe_ _ _).trans ?_)
   refine(xh_ (pl_ hpl) _).trans ?_;repeat(with_reducible refine(xe_ _ _).trans ?_)
   apply Eq.trans
   ·repeat(first|with_reducible exact hp|apply xk_)
   ·simp
 ·exact kg_
theorem as5_ (p b T:Nat) (P u:Bool) (n i0 i1 pv now:Int) (w:World) (hp:w.heap[p]?=some (.cells #[.bool P,.int .i64 n] T)) (hb:w.heap[b]?=some (.cells #[.int .i64 i0,.int .i64 i1,.int .i64 pv] 3)) (hne:p≠b) (h1:(i1 != 0)=true) (hu:((i0 != 0) && !P)=u) (hc0 : -32768≤n) (hc1:n≤32767) :
 Calls Tryz.prog 141 #[.pointer (some ⟨p,0,none⟩),.slice (some ⟨b,0,none⟩) 3 3,.int .i64 now] w fun e w'=>e=.returned (.slice (some ⟨w.heap.size,0,none⟩) 2 2)∧w'.heap[w.heap.size]?=some (.cells #[.int .i64 (x1_ (decide (pv≤0))),.int .i64 pv] 3)∧w'.heap[p]?=some (.cells #[.bool (i0 != 0),.int .i64 pv] T)∧w.grownBy w' (some p):=by
 have hpl:=xg_ hp;have c0:=xa_ hb 0;have c1:=xa_ hb 1;have c2:=xa_ hb 2;have d0:=xa_ hp 0;have f0:=xc_ hp 0;have d1:=xa_ hp 1;have f1:=xc_ hp 1;simp at c0 c1 c2 d0 d1;obtain⟨q,hq⟩:∃ q,decide (pv≤0)=q:=⟨_,rfl⟩;rw[hq];go_enter Tryz.func141,Tryz.ntmps141;go_wp2;go_region_held3 (fun w'=>w'.cell? ⟨b,0,none⟩=some (.int .i64 i0)∧w'.cell? ⟨b,1,none⟩=some (.int .i64 i1)∧w'.cell? ⟨b,2,none⟩=some (.int .i64 pv)) (refine⟨?_,?_,?_⟩ <;> (exact k3_)) (first|(go_at_call 119;refine(xn_ _ _).mono ?_;rintro e w' ⟨rfl,rfl⟩)|(go_at_call 133;refine(vw_ p _ P u _ ?_ ?_ ?_).mono ?_;(exact k3_);(exact k4_);(exact hu);rintro e w' ⟨rfl,rfl⟩))
 go_wp2_with (go_at_call 142;refine(za_ n _ hc0 hc1).mono ?_;rintro e w' ⟨rfl,rfl⟩)
 go_region_held3 (fun w'=>w'.cell? ⟨p,1,none⟩=some (.int .i64 pv)) ((exact k3_)) (first|(go_at_call 120;refine(xx_ _ _).mono ?_;rintro e w' ⟨rfl,rfl⟩))
 go_wp2;all_goals go_ret
 all_goals refine⟨rfl,?_,?_,?_⟩
 · repeat(with_reducible refine(xe_ _ _).trans ?_)
   exact xj_ (by simp) _
 · repeat(with_reducible refine(xe_ _ _).trans ?_)
   refine(xh_ (pl_ hpl) _).trans ?_;repeat(with_reducible refine(xe_ _ _).trans ?_)
   apply Eq.trans
   ·repeat(first|with_reducible exact hp|apply xk_)
   ·simp
 ·exact kg_
theorem avl_ (p b T:Nat) (P:Bool) (n i0 i1 pv now:Int) (w:World) (hp:w.heap[p]?=some (.cells #[.bool P,.int .i64 n] T)) (hb:w.heap[b]?=some (.cells #[.int .i64 i0,.int .i64 i1,.int .i64 pv] 3)) (hne:p≠b) (h1:(i1 != 0)=false) (hu:((i0 != 0) && !P)=true) (hc0 : -32768≤n) (hc1:n≤32767) :
 Calls Tryz.prog 141 #[.pointer (some ⟨p,0,none⟩),.slice (some ⟨b,0,none⟩) 3 3,.int .i64 now] w fun e w'=>e=.returned (.slice (some ⟨w.heap.size,0,none⟩) 2 2)∧w'.heap[w.heap.size]?=some (.cells #[.int .i64 (x1_ (decide ((ql_ n)≤0))),.int .i64 (ql_ n)] 3)∧w'.heap[p]?=some (.cells #[.bool (i0 != 0),.int .i64 (ql_ n)] T)∧w.grownBy w' (some p):=by
 have hpl:=xg_ hp;have c0:=xa_ hb 0;have c1:=xa_ hb 1;have c2:=xa_ hb 2;have d0:=xa_ hp 0;have f0:=xc_ hp 0;have d1:=xa_ hp 1;have f1:=xc_ hp 1;simp at c0 c1 c2 d0 d1;obtain⟨k,hk⟩:∃ k,ql_ n=k:=⟨_,rfl⟩;rw[hk];obtain⟨q,hq⟩:∃ q,decide (k≤0)=q:=⟨_,rfl⟩;rw[hq];go_enter Tryz.func141,Tryz.ntmps141;go_wp2;go_region_held3 (fun w'=>w'.cell? ⟨b,0,none⟩=some (.int .i64 i0)∧w'.cell? ⟨b,1,none⟩=some (.int .i64 i1)∧w'.cell? ⟨b,2,none⟩=some (.int .i64 pv)) (refine⟨?_,?_,?_⟩ <;> (exact k3_)) (first|(go_at_call 119;refine(xn_ _ _).mono ?_;rintro e w' ⟨rfl,rfl⟩)|(go_at_call 133;refine(vw_ p _ P true _ ?_ ?_ ?_).mono ?_;(exact k3_);(exact k4_);(exact hu);rintro e w' ⟨rfl,rfl⟩))
 go_wp2_with (go_at_call 142;refine(za_ n _ hc0 hc1).mono ?_;rintro e w' ⟨rfl,rfl⟩)
 go_region_held3 (fun w'=>w'.cell? ⟨p,1,none⟩=some (.int .i64 k)) ((exact k3_)) (first|(go_at_call 120;refine(xx_ _ _).mono ?_;rintro e w' ⟨rfl,rfl⟩))
 go_wp2;all_goals go_ret
 all_goals refine⟨rfl,?_,?_,?_⟩
 · repeat(with_reducible refine(xe_ _ _).trans ?_)
   exact xj_ (by simp) _
 · repeat(with_reducible refine(xe_ _ _).trans ?_)
   refine(xh_ (pl_ hpl) _).trans ?_;repeat(with_reducible refine(xe_ _ _).trans ?_)
   apply Eq.trans
   ·repeat(first|with_reducible exact hp|apply xk_)
   ·simp
 ·exact kg_
theorem ap2_ (p b T:Nat) (P:Bool) (n i0 i1 pv now:Int) (w:World) (hp:w.heap[p]?=some (.cells #[.bool P,.int .i64 n] T)) (hb:w.heap[b]?=some (.cells #[.int .i64 i0,.int .i64 i1,.int .i64 pv] 3)) (hne:p≠b) (h1:(i1 != 0)=false) (hu:((i0 != 0) && !P)=false) (hc0 : -32768≤n) (hc1:n≤32767) :
 Calls Tryz.prog 141 #[.pointer (some ⟨p,0,none⟩),.slice (some ⟨b,0,none⟩) 3 3,.int .i64 now] w fun e w'=>e=.returned (.slice (some ⟨w.heap.size,0,none⟩) 2 2)∧w'.heap[w.heap.size]?=some (.cells #[.int .i64 (x1_ (decide (n≤0))),.int .i64 n] 3)∧w'.heap[p]?=some (.cells #[.bool (i0 != 0),.int .i64 n] T)∧w.grownBy w' (some p):=by
 have hpl:=xg_ hp;have c0:=xa_ hb 0;have c1:=xa_ hb 1;have c2:=xa_ hb 2;have d0:=xa_ hp 0;have f0:=xc_ hp 0;have d1:=xa_ hp 1;have f1:=xc_ hp 1;simp at c0 c1 c2 d0 d1;obtain⟨q,hq⟩:∃ q,decide (n≤0)=q:=⟨_,rfl⟩;rw[hq];go_enter Tryz.func141,Tryz.ntmps141;go_wp2;go_region_held3 (fun w'=>w'.cell? ⟨b,0,none⟩=some (.int .i64 i0)∧w'.cell? ⟨b,1,none⟩=some (.int .i64 i1)∧w'.cell? ⟨b,2,none⟩=some (.int .i64 pv)) (refine⟨?_,?_,?_⟩ <;> (exact k3_)) (first|(go_at_call 119;refine(xn_ _ _).mono ?_;rintro e w' ⟨rfl,rfl⟩)|(go_at_call 133;refine(vw_ p _ P false _ ?_ ?_ ?_).mono ?_;(exact k3_);(exact k4_);(exact hu);rintro e w' ⟨rfl,rfl⟩))
 go_wp2_with (go_at_call 142;refine(za_ n _ hc0 hc1).mono ?_;rintro e w' ⟨rfl,rfl⟩)
 go_region_held3 (fun w'=>w'.cell? ⟨p,1,none⟩=some (.int .i64 n)) ((exact k3_)) (first|(go_at_call 120;refine(xx_ _ _).mono ?_;rintro e w' ⟨rfl,rfl⟩))
 go_wp2;all_goals go_ret
 all_goals refine⟨rfl,?_,?_,?_⟩
 · repeat(with_reducible refine(xe_ _ _).trans ?_)
   exact xj_ (by simp) _
 · repeat(with_reducible refine(xe_ _ _).trans ?_)
   refine(xh_ (pl_ hpl) _).trans ?_;repeat(with_reducible refine(xe_ _ _).trans ?_)
   apply Eq.trans
   ·repeat(first|with_reducible exact hp|apply xk_)
   ·simp
 ·exact kg_
theorem aru_ (p b T:Nat) (on:Bool) (x hi lo now:Int) (w:World) (hp:w.heap[p]?=some (.cells #[.bool on] T)) (hb:w.heap[b]?=some (.cells #[.int .i64 x,.int .i64 hi,.int .i64 lo] 3)) (hne:p≠b) (h0:hi≤x) :
 Calls Tryz.prog 164 #[.pointer (some ⟨p,0,none⟩),.slice (some ⟨b,0,none⟩) 3 3,.int .i64 now] w fun e w'=>e=.returned (.slice (some ⟨w.heap.size,0,none⟩) 1 1)∧w'.heap[w.heap.size]?=some (.cells #[.int .i64 1] 3)∧w'.heap[p]?=some (.cells #[.bool true] T)∧w.grownBy w' (some p):=by
 have hpl:=xg_ hp;have c0:=xa_ hb 0;have c1:=xa_ hb 1;have c2:=xa_ hb 2;have d0:=xa_ hp 0;have f0:=xc_ hp 0;simp at c0 c1 c2 d0;go_enter Tryz.func164,Tryz.ntmps164;go_wp2;go_region_held3 (fun w'=>w'.cell? ⟨b,0,none⟩=some (.int .i64 x)∧w'.cell? ⟨b,1,none⟩=some (.int .i64 hi)∧w'.cell? ⟨b,2,none⟩=some (.int .i64 lo)) (refine⟨?_,?_,?_⟩ <;> (exact k3_)) (fail)
 go_wp2_with (go_at_call 120;refine(xx_ _ _).mono ?_;rintro e w' ⟨rfl,rfl⟩)
 all_goals go_ret
 all_goals refine⟨rfl,?_,?_,?_⟩
 · repeat(with_reducible refine(xe_ _ _).trans ?_)
   exact xj_ (by simp) _
 · repeat(with_reducible refine(xe_ _ _).trans ?_)
   refine(xh_ (pl_ hpl) _).trans ?_;repeat(with_reducible refine(xe_ _ _).trans ?_)
   apply Eq.trans
   ·repeat(first|with_reducible exact hp|apply xk_)
   ·simp
 ·exact kg_
theorem aop_ (p b T:Nat) (on:Bool) (x hi lo now:Int) (w:World) (hp:w.heap[p]?=some (.cells #[.bool on] T)) (hb:w.heap[b]?=some (.cells #[.int .i64 x,.int .i64 hi,.int .i64 lo] 3)) (hne:p≠b) (h0:¬hi≤x) (h1:x≤lo) :
 Calls Tryz.prog 164 #[.pointer (some ⟨p,0,none⟩),.slice (some ⟨b,0,none⟩) 3 3,.int .i64 now] w fun e w'=>e=.returned (.slice (some ⟨w.heap.size,0,none⟩) 1 1)∧w'.heap[w.heap.size]?=some (.cells #[.int .i64 0] 3)∧w'.heap[p]?=some (.cells #[.bool false] T)∧w.grownBy w' (some p):=by
 have hpl:=xg_ hp;have c0:=xa_ hb 0;have c1:=xa_ hb 1;have c2:=xa_ hb 2;have d0:=xa_ hp 0;have f0:=xc_ hp 0;simp at c0 c1 c2 d0;go_enter Tryz.func164,Tryz.ntmps164;go_wp2;go_region_held3 (fun w'=>w'.cell? ⟨b,0,none⟩=some (.int .i64 x)∧w'.cell? ⟨b,1,none⟩=some (.int .i64 hi)∧w'.cell? ⟨b,2,none⟩=some (.int .i64 lo)) (refine⟨?_,?_,?_⟩ <;> (exact k3_)) (fail)
 go_wp2_with (go_at_call 120;refine(xx_ _ _).mono ?_;rintro e w' ⟨rfl,rfl⟩)
 all_goals go_ret
 all_goals refine⟨rfl,?_,?_,?_⟩
 · repeat(with_reducible refine(xe_ _ _).trans ?_)
   exact xj_ (by simp) _
 · repeat(with_reducible refine(xe_ _ _).trans ?_)
   refine(xh_ (pl_ hpl) _).trans ?_;repeat(with_reducible refine(xe_ _ _).trans ?_)
   apply Eq.trans
   ·repeat(first|with_reducible exact hp|apply xk_)
   ·simp
 ·exact kg_
theorem aue_ (p b T:Nat) (x hi lo now:Int) (w:World) (hp:w.heap[p]?=some (.cells #[.bool true] T)) (hb:w.heap[b]?=some (.cells #[.int .i64 x,.int .i64 hi,.int .i64 lo] 3)) (hne:p≠b) (h0:¬hi≤x) (h1:¬x≤lo) :
 Calls Tryz.prog 164 #[.pointer (some ⟨p,0,none⟩),.slice (some ⟨b,0,none⟩) 3 3,.int .i64 now] w fun e w'=>e=.returned (.slice (some ⟨w.heap.size,0,none⟩) 1 1)∧w'.heap[w.heap.size]?=some (.cells #[.int .i64 1] 3)∧w'.heap[p]?=some (.cells #[.bool true] T)∧w.grownBy w' (some p):=by
 have hpl:=xg_ hp;have c0:=xa_ hb 0;have c1:=xa_ hb 1;have c2:=xa_ hb 2;have d0:=xa_ hp 0;have f0:=xc_ hp 0;simp at c0 c1 c2 d0;go_enter Tryz.func164,Tryz.ntmps164;go_wp2;go_region_held3 (fun w'=>w'.cell? ⟨b,0,none⟩=some (.int .i64 x)∧w'.cell? ⟨b,1,none⟩=some (.int .i64 hi)∧w'.cell? ⟨b,2,none⟩=some (.int .i64 lo)) (refine⟨?_,?_,?_⟩ <;> (exact k3_)) (fail)
 go_wp2_with (go_at_call 120;refine(xx_ _ _).mono ?_;rintro e w' ⟨rfl,rfl⟩)
 all_goals go_ret
 all_goals refine⟨rfl,?_,?_,?_⟩
 · repeat(with_reducible refine(xe_ _ _).trans ?_)
   exact xj_ (by simp) _
 · repeat(with_reducible refine(xe_ _ _).trans ?_)
   refine(xh_ (pl_ hpl) _).trans ?_;repeat(with_reducible refine(xe_ _ _).trans ?_)
   apply Eq.trans
   ·repeat(first|with_reducible exact hp|apply xk_)
   ·simp
 ·exact kg_
theorem auf_ (p b T:Nat) (x hi lo now:Int) (w:World) (hp:w.heap[p]?=some (.cells #[.bool false] T)) (hb:w.heap[b]?=some (.cells #[.int .i64 x,.int .i64 hi,.int .i64 lo] 3)) (hne:p≠b) (h0:¬hi≤x) (h1:¬x≤lo) :
 Calls Tryz.prog 164 #[.pointer (some ⟨p,0,none⟩),.slice (some ⟨b,0,none⟩) 3 3,.int .i64 now] w fun e w'=>e=.returned (.slice (some ⟨w.heap.size,0,none⟩) 1 1)∧w'.heap[w.heap.size]?=some (.cells #[.int .i64 0] 3)∧w'.heap[p]?=some (.cells #[.bool false] T)∧w.grownBy w' (some p):=by
 have hpl:=xg_ hp;have c0:=xa_ hb 0;have c1:=xa_ hb 1;have c2:=xa_ hb 2;have d0:=xa_ hp 0;have f0:=xc_ hp 0;simp at c0 c1 c2 d0;go_enter Tryz.func164,Tryz.ntmps164;go_wp2;go_region_held3 (fun w'=>w'.cell? ⟨b,0,none⟩=some (.int .i64 x)∧w'.cell? ⟨b,1,none⟩=some (.int .i64 hi)∧w'.cell? ⟨b,2,none⟩=some (.int .i64 lo)) (refine⟨?_,?_,?_⟩ <;> (exact k3_)) (fail)
 go_wp2_with (go_at_call 120;refine(xx_ _ _).mono ?_;rintro e w' ⟨rfl,rfl⟩)
 all_goals go_ret
 all_goals refine⟨rfl,?_,?_,?_⟩
 · repeat(with_reducible refine(xe_ _ _).trans ?_)
   exact xj_ (by simp) _
 · repeat(with_reducible refine(xe_ _ _).trans ?_)
   refine(xh_ (pl_ hpl) _).trans ?_;repeat(with_reducible refine(xe_ _ _).trans ?_)
   apply Eq.trans
   ·repeat(first|with_reducible exact hp|apply xk_)
   ·simp
 ·exact kg_
theorem arv_ (p b T:Nat) (x k a now:Int) (w:World) (hp:w.heap[p]?=some (.cells #[.int .i64 a] T)) (hb:w.heap[b]?=some (.cells #[.int .i64 x,.int .i64 k] 3)) (hne:p≠b) (hx0 : -32768≤x) (hx1:x≤32767) (ha0 : -32768≤a) (ha1:a≤32767) (hk0 : -32768≤k) (hk1:k≤32767) (h0:k<0) (h1:0≤x - a) :
 Calls Tryz.prog 162 #[.pointer (some ⟨p,0,none⟩),.slice (some ⟨b,0,none⟩) 2 2,.int .i64 now] w fun e w'=>e=.returned (.slice (some ⟨w.heap.size,0,none⟩) 1 1)∧w'.heap[w.heap.size]?=some (.cells #[.int .i64 a] 3)∧w'.heap[p]?=some (.cells #[.int .i64 a] T)∧w.grownBy w' (some p):=by
 have hpl:=xg_ hp;have c0:=xa_ hb 0;have c1:=xa_ hb 1;have d0:=xa_ hp 0;have f0:=xc_ hp 0;simp at c0 c1 d0;go_enter Tryz.func162,Tryz.ntmps162;go_wp2;go_region_held3 (fun w'=>w'.cell? ⟨b,0,none⟩=some (.int .i64 x)∧w'.cell? ⟨b,1,none⟩=some (.int .i64 k)) (refine⟨?_,?_⟩ <;> (exact k3_)) (fail)
 go_wp2;go_region
 all_goals go_wp2
 all_goals go_ret
 all_goals exact⟨rfl,
  by
   repeat(with_reducible refine(xe_ _ _).trans ?_)
   refine(xj_ (by simp) _).trans ?_;first|rfl|(simp;done)|(simp;omega),
  by
   repeat(with_reducible refine(xe_ _ _).trans ?_)
   refine(xh_ (pl_ hpl) _).trans ?_;repeat(with_reducible refine(xe_ _ _).trans ?_)
   apply Eq.trans
   ·repeat(first|with_reducible exact hp|apply xk_)
   ·first|(simp;done)|(simp;omega),
  by
   exact kg_⟩
theorem arw_ (p b T:Nat) (x k a now:Int) (w:World) (hp:w.heap[p]?=some (.cells #[.int .i64 a] T)) (hb:w.heap[b]?=some (.cells #[.int .i64 x,.int .i64 k] 3)) (hne:p≠b) (hx0 : -32768≤x) (hx1:x≤32767) (ha0 : -32768≤a) (ha1:a≤32767) (hk0 : -32768≤k) (hk1:k≤32767) (h0:k<0) (h1:x - a<0) :
 Calls Tryz.prog 162 #[.pointer (some ⟨p,0,none⟩),.slice (some ⟨b,0,none⟩) 2 2,.int .i64 now] w fun e w'=>e=.returned (.slice (some ⟨w.heap.size,0,none⟩) 1 1)∧w'.heap[w.heap.size]?=some (.cells #[.int .i64 a] 3)∧w'.heap[p]?=some (.cells #[.int .i64 a] T)∧w.grownBy w' (some p):=by
 have hpl:=xg_ hp;have c0:=xa_ hb 0;have c1:=xa_ hb 1;have d0:=xa_ hp 0;have f0:=xc_ hp 0;simp at c0 c1 d0;go_enter Tryz.func162,Tryz.ntmps162;go_wp2;go_region_held3 (fun w'=>w'.cell? ⟨b,0,none⟩=some (.int .i64 x)∧w'.cell? ⟨b,1,none⟩=some (.int .i64 k)) (refine⟨?_,?_⟩ <;> (exact k3_)) (fail)
 go_wp2;go_region
 all_goals go_wp2
 all_goals go_ret
 all_goals exact⟨rfl,
  by
   repeat(with_reducible refine(xe_ _ _).trans ?_)
   refine(xj_ (by simp) _).trans ?_;first|rfl|(simp;done)|(simp;omega),
  by
   repeat(with_reducible refine(xe_ _ _).trans ?_)
   refine(xh_ (pl_ hpl) _).trans ?_;repeat(with_reducible refine(xe_ _ _).trans ?_)
   apply Eq.trans
   ·repeat(first|with_reducible exact hp|apply xk_)
   ·first|(simp;done)|(simp;omega),
  by
   exact kg_⟩
theorem arx_ (p b T:Nat) (x k a now:Int) (w:World) (hp:w.heap[p]?=some (.cells #[.int .i64 a] T)) (hb:w.heap[b]?=some (.cells #[.int .i64 x,.int .i64 k] 3)) (hne:p≠b) (hx0 : -32768≤x) (hx1:x≤32767) (ha0 : -32768≤a) (ha1:a≤32767) (hk0 : -32768≤k) (hk1:k≤32767) (h0:0≤k) (h1:x - a < -k) :
 Calls Tryz.prog 162 #[.pointer (some ⟨p,0,none⟩),.slice (some ⟨b,0,none⟩) 2 2,.int .i64 now] w fun e w'=>e=.returned (.slice (some ⟨w.heap.size,0,none⟩) 1 1)∧w'.heap[w.heap.size]?=some (.cells #[.int .i64 (a - k)] 3)∧w'.heap[p]?=some (.cells #[.int .i64 (a - k)] T)∧w.grownBy w' (some p):=by
 have hpl:=xg_ hp;have c0:=xa_ hb 0;have c1:=xa_ hb 1;have d0:=xa_ hp 0;have f0:=xc_ hp 0;simp at c0 c1 d0;go_enter Tryz.func162,Tryz.ntmps162;go_wp2;go_region_held3 (fun w'=>w'.cell? ⟨b,0,none⟩=some (.int .i64 x)∧w'.cell? ⟨b,1,none⟩=some (.int .i64 k)) (refine⟨?_,?_⟩ <;> (exact k3_)) (fail)
 go_wp2;go_region
 all_goals go_wp2
 all_goals go_ret
 all_goals exact⟨rfl,
  by
   repeat(with_reducible refine(xe_ _ _).trans ?_)
   refine(xj_ (by simp) _).trans ?_;first|rfl|(simp;done)|(simp;omega),
  by
   repeat(with_reducible refine(xe_ _ _).trans ?_)
   refine(xh_ (pl_ hpl) _).trans ?_;repeat(with_reducible refine(xe_ _ _).trans ?_)
   apply Eq.trans
   ·repeat(first|with_reducible exact hp|apply xk_)
   ·first|(simp;done)|(simp;omega),
  by
   exact kg_⟩
theorem aoq_ (p b T:Nat) (x k a now:Int) (w:World) (hp:w.heap[p]?=some (.cells #[.int .i64 a] T)) (hb:w.heap[b]?=some (.cells #[.int .i64 x,.int .i64 k] 3)) (hne:p≠b) (hx0 : -32768≤x) (hx1:x≤32767) (ha0 : -32768≤a) (ha1:a≤32767) (hk0 : -32768≤k) (hk1:k≤32767) (h0:0≤k) (h1 : -k≤x - a) (h2:x - a≤k) :
 Calls Tryz.prog 162 #[.pointer (some ⟨p,0,none⟩),.slice (some ⟨b,0,none⟩) 2 2,.int .i64 now] w fun e w'=>e=.returned (.slice (some ⟨w.heap.size,0,none⟩) 1 1)∧w'.heap[w.heap.size]?=some (.cells #[.int .i64 x] 3)∧w'.heap[p]?=some (.cells #[.int .i64 x] T)∧w.grownBy w' (some p):=by
 have hpl:=xg_ hp;have c0:=xa_ hb 0;have c1:=xa_ hb 1;have d0:=xa_ hp 0;have f0:=xc_ hp 0;simp at c0 c1 d0;go_enter Tryz.func162,Tryz.ntmps162;go_wp2;go_region_held3 (fun w'=>w'.cell? ⟨b,0,none⟩=some (.int .i64 x)∧w'.cell? ⟨b,1,none⟩=some (.int .i64 k)) (refine⟨?_,?_⟩ <;> (exact k3_)) (fail)
 go_wp2;go_region
 all_goals go_wp2
 all_goals go_ret
 all_goals exact⟨rfl,
  by
   repeat(with_reducible refine(xe_ _ _).trans ?_)
   refine(xj_ (by simp) _).trans ?_;first|rfl|(simp;done)|(simp;omega),
  by
   repeat(with_reducible refine(xe_ _ _).trans ?_)
   refine(xh_ (pl_ hpl) _).trans ?_;repeat(with_reducible refine(xe_ _ _).trans ?_)
   apply Eq.trans
   ·repeat(first|with_reducible exact hp|apply xk_)
   ·first|(simp;done)|(simp;omega),
  by
   exact kg_⟩
theorem ary_ (p b T:Nat) (x k a now:Int) (w:World) (hp:w.heap[p]?=some (.cells #[.int .i64 a] T)) (hb:w.heap[b]?=some (.cells #[.int .i64 x,.int .i64 k] 3)) (hne:p≠b) (hx0 : -32768≤x) (hx1:x≤32767) (ha0 : -32768≤a) (ha1:a≤32767) (hk0 : -32768≤k) (hk1:k≤32767) (h0:0≤k) (h1 : -k≤x - a) (h2:k<x - a) :
 Calls Tryz.prog 162 #[.pointer (some ⟨p,0,none⟩),.slice (some ⟨b,0,none⟩) 2 2,.int .i64 now] w fun e w'=>e=.returned (.slice (some ⟨w.heap.size,0,none⟩) 1 1)∧w'.heap[w.heap.size]?=some (.cells #[.int .i64 (a+k)] 3)∧w'.heap[p]?=some (.cells #[.int .i64 (a+k)] T)∧w.grownBy w' (some p):=by
 have hpl:=xg_ hp;have c0:=xa_ hb 0;have c1:=xa_ hb 1;have d0:=xa_ hp 0;have f0:=xc_ hp 0;simp at c0 c1 d0;go_enter Tryz.func162,Tryz.ntmps162;go_wp2;go_region_held3 (fun w'=>w'.cell? ⟨b,0,none⟩=some (.int .i64 x)∧w'.cell? ⟨b,1,none⟩=some (.int .i64 k)) (refine⟨?_,?_⟩ <;> (exact k3_)) (fail)
 go_wp2;go_region
 all_goals go_wp2
 all_goals go_ret
 all_goals exact⟨rfl,
  by
   repeat(with_reducible refine(xe_ _ _).trans ?_)
   refine(xj_ (by simp) _).trans ?_;first|rfl|(simp;done)|(simp;omega),
  by
   repeat(with_reducible refine(xe_ _ _).trans ?_)
   refine(xh_ (pl_ hpl) _).trans ?_;repeat(with_reducible refine(xe_ _ _).trans ?_)
   apply Eq.trans
   ·repeat(first|with_reducible exact hp|apply xk_)
   ·first|(simp;done)|(simp;omega),
  by
   exact kg_⟩
end Go.Proofs.YtcgbfhpmkpglkaaGreatDoor.Bl
namespace Go.Proofs.YtcgbfhpmkpglkaaGreatDoor.Bl
open Go.RowKit
theorem apx_ (p b T:Nat) (l:List Int) (w:World) (hp:w.heap[p]?=some (.cells #[.bool false] T)) (hb:w.heap[b]?=some (.cells (xi_ (xm_ [1] l)) 3)) (hne:p≠b) :
 Calls Tryz.prog 147 #[.pointer (some ⟨p,0,none⟩),.slice (some ⟨b,0,none⟩) 1 1] w fun e w'=>e=.returned (.tuple #[])∧w'.heap[p]?=some (.cells (A1 (xm_ [1] l)) T)∧w.grownBy w' (some p):=by
 obtain⟨a0,e⟩:=qp_ 1 l;rw[e] at hb ⊢;exact amd_ p b T 3 _ _ w hp hb hne
theorem apy_ (p T:Nat) (n0:Int) (h0:n0=0∨n0=1) (w:World) (hp:w.heap[p]?=some (.cells (A1 [n0]) T)) :
 Calls Tryz.prog 148 #[.pointer (some ⟨p,0,none⟩)] w fun e w'=>e=.returned (.slice (some ⟨w.heap.size,0,none⟩) 1 1)∧w'.heap[w.heap.size]?=some (.cells (xi_ [n0]) 3)∧w.grownBy w' none:=by
 have h:=ame_ p T  (n0 != 0) w hp;rw[aae_ h0] at h;exact h
theorem akb_ (p b T:Nat) (l:List Int) (w:World) (hp:w.heap[p]?=some (.cells #[.bool false] T)) (hb:w.heap[b]?=some (.cells (xi_ (xm_ [1] l)) 3)) (hne:p≠b) :
 Calls Tryz.prog 152 #[.pointer (some ⟨p,0,none⟩),.slice (some ⟨b,0,none⟩) 1 1] w fun e w'=>e=.returned (.tuple #[])∧w'.heap[p]?=some (.cells (A1 (xm_ [1] l)) T)∧w.grownBy w' (some p):=by
 obtain⟨a0,e⟩:=qp_ 1 l;rw[e] at hb ⊢;exact ajn_ p b T 3 _ _ w hp hb hne
theorem akc_ (p T:Nat) (n0:Int) (h0:n0=0∨n0=1) (w:World) (hp:w.heap[p]?=some (.cells (A1 [n0]) T)) :
 Calls Tryz.prog 153 #[.pointer (some ⟨p,0,none⟩)] w fun e w'=>e=.returned (.slice (some ⟨w.heap.size,0,none⟩) 1 1)∧w'.heap[w.heap.size]?=some (.cells (xi_ [n0]) 3)∧w.grownBy w' none:=by
 have h:=ajo_ p T  (n0 != 0) w hp;rw[aae_ h0] at h;exact h
theorem avi_ (p b T:Nat) (l:List Int) (w:World) (hp:w.heap[p]?=some (.cells #[.int .i64 0] T)) (hb:w.heap[b]?=some (.cells (xi_ (xm_ [2] l)) 3)) (hne:p≠b) :
 Calls Tryz.prog 159 #[.pointer (some ⟨p,0,none⟩),.slice (some ⟨b,0,none⟩) 1 1] w fun e w'=>e=.returned (.tuple #[])∧w'.heap[p]?=some (.cells (A1i (xm_ [2] l)) T)∧w.grownBy w' (some p):=by
 obtain⟨a0,e⟩:=qp_ 2 l;rw[e] at hb ⊢;exact amf_ p b T 3 _ _ w hp hb hne
theorem avj_ (p T:Nat) (n0:Int)  (w:World) (hp:w.heap[p]?=some (.cells (A1i [n0]) T)) :
 Calls Tryz.prog 160 #[.pointer (some ⟨p,0,none⟩)] w fun e w'=>e=.returned (.slice (some ⟨w.heap.size,0,none⟩) 1 1)∧w'.heap[w.heap.size]?=some (.cells (xi_ [n0]) 3)∧w.grownBy w' none:=by
 have h:=amg_ p T n0  w hp;skip
 exact h
theorem akd_ (p b T:Nat) (x0 i0 now:Int) (h_x0:x0=0∨x0=1) (h_i0:i0=0∨i0=1) (l_now:0≤now) (u_now:now≤4294967295) (w:World)
 (hp:w.heap[p]?=some (.cells (A1 [x0]) T)) (hb:w.heap[b]?=some (.cells (xi_ [i0]) 3)) (hne:p≠b) :
 Calls Tryz.prog 150 #[.pointer (some ⟨p,0,none⟩),.slice (some ⟨b,0,none⟩) 1 1,.int .i64 now] w fun e w'=>e=.returned (.slice (some ⟨w.heap.size,0,none⟩) 1 1)∧w'.heap[w.heap.size]?=some (.cells (xi_ (qi_ [x0] [i0] now).2) 3)∧w'.heap[p]?=some (.cells (A1 (qi_ [x0] [i0] now).1) T)∧w.grownBy w' (some p):=by
 rcases h_i0 with rfl|rfl <;> rcases h_x0 with rfl|rfl
 ·exact(aps_ p b T 0 now w hp hb hne rfl).mono fun e w' ⟨a1,a2,a3,a4⟩=>⟨a1,a2,a3,a4⟩
 ·exact(apr_ p b T 0 now w hp hb hne rfl).mono fun e w' ⟨a1,a2,a3,a4⟩=>⟨a1,a2,a3,a4⟩
 ·exact(apq_ p b T 1 now w hp hb hne rfl).mono fun e w' ⟨a1,a2,a3,a4⟩=>⟨a1,a2,a3,a4⟩
 ·exact(app_ p b T 1 now w hp hb hne rfl).mono fun e w' ⟨a1,a2,a3,a4⟩=>⟨a1,a2,a3,a4⟩
theorem ake_ (x0 i0 now:Int) (h_x0:x0=0∨x0=1) (h_i0:i0=0∨i0=1) :
 ∃ n0,(qi_ [x0] [i0] now).1=[n0]∧(n0=0∨n0=1):=by
 exact⟨_,rfl,h_i0⟩
theorem aio_:ur_ zb_ 1 1 [1] [1] qi_:=by
 intro vs vi l li now w hr hri;obtain⟨a0,e⟩:=qp_ 1 l;obtain⟨c0,e'⟩:=qp_ 1 li;have hst:∀(p b:Nat) (w:World),w.heap[p]?=some (.cells (A1 (xm_ [1] l)) 166)→w.heap[b]?=some (.cells (xi_ (xm_ [1] li)) 3)→p≠b→Calls Tryz.prog 150 #[.pointer (some ⟨p,0,none⟩),.slice (some ⟨b,0,none⟩) 1 1,.int .i64 (xd_ 5 now)] w fun e w'=>e=.returned (.slice (some ⟨w.heap.size,0,none⟩) 1 1)∧w'.heap[w.heap.size]?=some (.cells (xi_ (qi_ (xm_ [1] l) (xm_ [1] li) (xd_ 5 now)).2) 3)∧w'.heap[p]?=some (.cells (A1 (qi_ (xm_ [1] l) (xm_ [1] li) (xd_ 5 now)).1) 166)∧w.grownBy w' (some p):=by
  intro p b w hp hb hne;rw[e] at hp ⊢;rw[e'] at hb ⊢;exact akd_ p b 166 _ _ _ (ye_ a0) (ye_ c0) (yo_ now).1 (yo_ now).2 w hp hb hne
 have hsv:∀(p:Nat) (w:World),w.heap[p]?=some (.cells (A1 (qi_ (xm_ [1] l) (xm_ [1] li) (xd_ 5 now)).1) 166)→Calls Tryz.prog 148 #[.pointer (some ⟨p,0,none⟩)] w fun e w'=>e=.returned (.slice (some ⟨w.heap.size,0,none⟩) 1 1)∧w'.heap[w.heap.size]?=some (.cells (xi_ (qi_ (xm_ [1] l) (xm_ [1] li) (xd_ 5 now)).1) 3)∧w.grownBy w' none:=by
  intro p w hp;rw[e,e'] at hp ⊢;obtain⟨n0,hf,h0⟩:=ake_ (xd_ 1 a0) (xd_ 1 c0) (xd_ 5 now) (ye_ a0) (ye_ c0);rw[hf] at hp ⊢;exact apy_ p 166 n0 h0 w hp
 exact qx_ zb_ 162 166 149 147 150 148 #[.bool false] kd_ aar_ k7_ A1 qi_ vs vi l li now w (by decide) (by decide) acv_
  (fun _ _=>by kernel_rfl) (fun _ _=>by kernel_rfl) (fun _ _=>by kernel_rfl) (fun _ _=>by kernel_rfl) (fun _ _=>by kernel_rfl) (fun _ _=>by kernel_rfl)
  (fun _ _=>by kernel_rfl) (fun _ _=>by kernel_rfl) (fun _ _=>by kernel_rfl) (fun _ _=>by kernel_rfl)
  u7_ (fun p b w hp hb hne=>apx_ p b 166 l w hp hb hne) hst hsv hr hri
theorem akf_ (p b T:Nat) (x0 i0 now:Int) (h_x0:x0=0∨x0=1) (h_i0:i0=0∨i0=1) (l_now:0≤now) (u_now:now≤4294967295) (w:World)
 (hp:w.heap[p]?=some (.cells (A1 [x0]) T)) (hb:w.heap[b]?=some (.cells (xi_ [i0]) 3)) (hne:p≠b) :
 Calls Tryz.prog 151 #[.pointer (some ⟨p,0,none⟩),.slice (some ⟨b,0,none⟩) 1 1,.int .i64 now] w fun e w'=>e=.returned (.slice (some ⟨w.heap.size,0,none⟩) 1 1)∧w'.heap[w.heap.size]?=some (.cells (xi_ (qj_ [x0] [i0] now).2) 3)∧w'.heap[p]?=some (.cells (A1 (qj_ [x0] [i0] now).1) T)∧w.grownBy w' (some p):=by
 rcases h_i0 with rfl|rfl <;> rcases h_x0 with rfl|rfl
 ·exact(apw_ p b T 0 now w hp hb hne rfl).mono fun e w' ⟨a1,a2,a3,a4⟩=>⟨a1,a2,a3,a4⟩
 ·exact(apv_ p b T 0 now w hp hb hne rfl).mono fun e w' ⟨a1,a2,a3,a4⟩=>⟨a1,a2,a3,a4⟩
 ·exact(apu_ p b T 1 now w hp hb hne rfl).mono fun e w' ⟨a1,a2,a3,a4⟩=>⟨a1,a2,a3,a4⟩
 ·exact(apt_ p b T 1 now w hp hb hne rfl).mono fun e w' ⟨a1,a2,a3,a4⟩=>⟨a1,a2,a3,a4⟩
theorem akg_ (x0 i0 now:Int) (h_x0:x0=0∨x0=1) (h_i0:i0=0∨i0=1) :
 ∃ n0,(qj_ [x0] [i0] now).1=[n0]∧(n0=0∨n0=1):=by
 exact⟨_,rfl,h_i0⟩
theorem aip_:ur_ zc_ 1 1 [1] [1] qj_:=by
 intro vs vi l li now w hr hri;obtain⟨a0,e⟩:=qp_ 1 l;obtain⟨c0,e'⟩:=qp_ 1 li;have hst:∀(p b:Nat) (w:World),w.heap[p]?=some (.cells (A1 (xm_ [1] l)) 168)→w.heap[b]?=some (.cells (xi_ (xm_ [1] li)) 3)→p≠b→Calls Tryz.prog 151 #[.pointer (some ⟨p,0,none⟩),.slice (some ⟨b,0,none⟩) 1 1,.int .i64 (xd_ 5 now)] w fun e w'=>e=.returned (.slice (some ⟨w.heap.size,0,none⟩) 1 1)∧w'.heap[w.heap.size]?=some (.cells (xi_ (qj_ (xm_ [1] l) (xm_ [1] li) (xd_ 5 now)).2) 3)∧w'.heap[p]?=some (.cells (A1 (qj_ (xm_ [1] l) (xm_ [1] li) (xd_ 5 now)).1) 168)∧w.grownBy w' (some p):=by
  intro p b w hp hb hne;rw[e] at hp ⊢;rw[e'] at hb ⊢;exact akf_ p b 168 _ _ _ (ye_ a0) (ye_ c0) (yo_ now).1 (yo_ now).2 w hp hb hne
 have hsv:∀(p:Nat) (w:World),w.heap[p]?=some (.cells (A1 (qj_ (xm_ [1] l) (xm_ [1] li) (xd_ 5 now)).1) 168)→Calls Tryz.prog 148 #[.pointer (some ⟨p,0,none⟩)] w fun e w'=>e=.returned (.slice (some ⟨w.heap.size,0,none⟩) 1 1)∧w'.heap[w.heap.size]?=some (.cells (xi_ (qj_ (xm_ [1] l) (xm_ [1] li) (xd_ 5 now)).1) 3)∧w.grownBy w' none:=by
  intro p w hp;rw[e,e'] at hp ⊢;obtain⟨n0,hf,h0⟩:=akg_ (xd_ 1 a0) (xd_ 1 c0) (xd_ 5 now) (ye_ a0) (ye_ c0);rw[hf] at hp ⊢;exact apy_ p 168 n0 h0 w hp
 exact qx_ zc_ 167 168 149 147 151 148 #[.bool false] kd_ aar_ k7_ A1 qj_ vs vi l li now w (by decide) (by decide) acw_
  (fun _ _=>by kernel_rfl) (fun _ _=>by kernel_rfl) (fun _ _=>by kernel_rfl) (fun _ _=>by kernel_rfl) (fun _ _=>by kernel_rfl) (fun _ _=>by kernel_rfl)
  (fun _ _=>by kernel_rfl) (fun _ _=>by kernel_rfl) (fun _ _=>by kernel_rfl) (fun _ _=>by kernel_rfl)
  u7_ (fun p b w hp hb hne=>apx_ p b 168 l w hp hb hne) hst hsv hr hri
theorem as0_ (p b T:Nat) (x0 i0 i1 now:Int) (h_x0:x0=0∨x0=1) (h_i0:i0=0∨i0=1) (h_i1:i1=0∨i1=1) (l_now:0≤now) (u_now:now≤4294967295) (w:World)
 (hp:w.heap[p]?=some (.cells (A1 [x0]) T)) (hb:w.heap[b]?=some (.cells (xi_ [i0,i1]) 3)) (hne:p≠b) :
 Calls Tryz.prog 155 #[.pointer (some ⟨p,0,none⟩),.slice (some ⟨b,0,none⟩) 2 2,.int .i64 now] w fun e w'=>e=.returned (.slice (some ⟨w.heap.size,0,none⟩) 1 1)∧w'.heap[w.heap.size]?=some (.cells (xi_ (srF [x0] [i0,i1] now).2) 3)∧w'.heap[p]?=some (.cells (A1 (srF [x0] [i0,i1] now).1) T)∧w.grownBy w' (some p):=by
 rcases h_i0 with rfl|rfl <;> rcases h_i1 with rfl|rfl <;> rcases h_x0 with rfl|rfl
 ·exact(au9_ p b T 0 0 now w hp hb hne rfl rfl).mono fun e w' ⟨a1,a2,a3,a4⟩=>⟨a1,a2,a3,a4⟩
 ·exact(au8_ p b T 0 0 now w hp hb hne rfl rfl).mono fun e w' ⟨a1,a2,a3,a4⟩=>⟨a1,a2,a3,a4⟩
 ·exact(au7_ p b T 0 1 now w hp hb hne rfl rfl).mono fun e w' ⟨a1,a2,a3,a4⟩=>⟨a1,a2,a3,a4⟩
 ·exact(au6_ p b T 0 1 now w hp hb hne rfl rfl).mono fun e w' ⟨a1,a2,a3,a4⟩=>⟨a1,a2,a3,a4⟩
 ·exact(au5_ p b T 1 0 now w hp hb hne rfl rfl).mono fun e w' ⟨a1,a2,a3,a4⟩=>⟨a1,a2,a3,a4⟩
 ·exact(au4_ p b T 1 0 now w hp hb hne rfl rfl).mono fun e w' ⟨a1,a2,a3,a4⟩=>⟨a1,a2,a3,a4⟩
 ·exact(au3_ p b T 1 1 now w hp hb hne rfl rfl).mono fun e w' ⟨a1,a2,a3,a4⟩=>⟨a1,a2,a3,a4⟩
 ·exact(au2_ p b T 1 1 now w hp hb hne rfl rfl).mono fun e w' ⟨a1,a2,a3,a4⟩=>⟨a1,a2,a3,a4⟩
theorem as1_ (x0 i0 i1 now:Int) (h_x0:x0=0∨x0=1) (h_i0:i0=0∨i0=1) (h_i1:i1=0∨i1=1) :
 ∃ n0,(srF [x0] [i0,i1] now).1=[n0]∧(n0=0∨n0=1):=by
 refine⟨_,rfl,?_⟩;unfold srN;repeat' split
 all_goals simp
theorem apz_:ur_ q7_ 1 1 [1] [1,1] srF:=by
 intro vs vi l li now w hr hri;obtain⟨a0,e⟩:=qp_ 1 l;obtain⟨c0,c1,e'⟩:=qy_ 1 1 li;have hst:∀(p b:Nat) (w:World),w.heap[p]?=some (.cells (A1 (xm_ [1] l)) 173)→w.heap[b]?=some (.cells (xi_ (xm_ [1,1] li)) 3)→p≠b→Calls Tryz.prog 155 #[.pointer (some ⟨p,0,none⟩),.slice (some ⟨b,0,none⟩) 2 2,.int .i64 (xd_ 5 now)] w fun e w'=>e=.returned (.slice (some ⟨w.heap.size,0,none⟩) 1 1)∧w'.heap[w.heap.size]?=some (.cells (xi_ (srF (xm_ [1] l) (xm_ [1,1] li) (xd_ 5 now)).2) 3)∧w'.heap[p]?=some (.cells (A1 (srF (xm_ [1] l) (xm_ [1,1] li) (xd_ 5 now)).1) 173)∧w.grownBy w' (some p):=by
  intro p b w hp hb hne;rw[e] at hp ⊢;rw[e'] at hb ⊢;exact as0_ p b 173 _ _ _ _ (ye_ a0) (ye_ c0) (ye_ c1) (yo_ now).1 (yo_ now).2 w hp hb hne
 have hsv:∀(p:Nat) (w:World),w.heap[p]?=some (.cells (A1 (srF (xm_ [1] l) (xm_ [1,1] li) (xd_ 5 now)).1) 173)→Calls Tryz.prog 153 #[.pointer (some ⟨p,0,none⟩)] w fun e w'=>e=.returned (.slice (some ⟨w.heap.size,0,none⟩) 1 1)∧w'.heap[w.heap.size]?=some (.cells (xi_ (srF (xm_ [1] l) (xm_ [1,1] li) (xd_ 5 now)).1) 3)∧w.grownBy w' none:=by
  intro p w hp;rw[e,e'] at hp ⊢;obtain⟨n0,hf,h0⟩:=as1_ (xd_ 1 a0) (xd_ 1 c0) (xd_ 1 c1) (xd_ 5 now) (ye_ a0) (ye_ c0) (ye_ c1);rw[hf] at hp ⊢;exact akc_ p 173 n0 h0 w hp
 exact qx_ q7_ 169 173 154 152 155 153 #[.bool false] srI srO srS A1 srF vs vi l li now w (by decide) (by decide) ahv_
  (fun _ _=>by kernel_rfl) (fun _ _=>by kernel_rfl) (fun _ _=>by kernel_rfl) (fun _ _=>by kernel_rfl) (fun _ _=>by kernel_rfl) (fun _ _=>by kernel_rfl)
  (fun _ _=>by kernel_rfl) (fun _ _=>by kernel_rfl) (fun _ _=>by kernel_rfl) (fun _ _=>by kernel_rfl)
  ahm_ (fun p b w hp hb hne=>akb_ p b 173 l w hp hb hne) hst hsv hr hri
theorem as2_ (p b T:Nat) (x0 i0 i1 now:Int) (h_x0:x0=0∨x0=1) (h_i0:i0=0∨i0=1) (h_i1:i1=0∨i1=1) (l_now:0≤now) (u_now:now≤4294967295) (w:World)
 (hp:w.heap[p]?=some (.cells (A1 [x0]) T)) (hb:w.heap[b]?=some (.cells (xi_ [i0,i1]) 3)) (hne:p≠b) :
 Calls Tryz.prog 158 #[.pointer (some ⟨p,0,none⟩),.slice (some ⟨b,0,none⟩) 2 2,.int .i64 now] w fun e w'=>e=.returned (.slice (some ⟨w.heap.size,0,none⟩) 1 1)∧w'.heap[w.heap.size]?=some (.cells (xi_ (rsF [x0] [i0,i1] now).2) 3)∧w'.heap[p]?=some (.cells (A1 (rsF [x0] [i0,i1] now).1) T)∧w.grownBy w' (some p):=by
 rcases h_i0 with rfl|rfl <;> rcases h_i1 with rfl|rfl <;> rcases h_x0 with rfl|rfl
 ·exact(avh_ p b T 0 0 now w hp hb hne rfl rfl).mono fun e w' ⟨a1,a2,a3,a4⟩=>⟨a1,a2,a3,a4⟩
 ·exact(avg_ p b T 0 0 now w hp hb hne rfl rfl).mono fun e w' ⟨a1,a2,a3,a4⟩=>⟨a1,a2,a3,a4⟩
 ·exact(avf_ p b T 0 1 now w hp hb hne rfl rfl).mono fun e w' ⟨a1,a2,a3,a4⟩=>⟨a1,a2,a3,a4⟩
 ·exact(ave_ p b T 0 1 now w hp hb hne rfl rfl).mono fun e w' ⟨a1,a2,a3,a4⟩=>⟨a1,a2,a3,a4⟩
 ·exact(avd_ p b T 1 0 now w hp hb hne rfl rfl).mono fun e w' ⟨a1,a2,a3,a4⟩=>⟨a1,a2,a3,a4⟩
 ·exact(avc_ p b T 1 0 now w hp hb hne rfl rfl).mono fun e w' ⟨a1,a2,a3,a4⟩=>⟨a1,a2,a3,a4⟩
 ·exact(avb_ p b T 1 1 now w hp hb hne rfl rfl).mono fun e w' ⟨a1,a2,a3,a4⟩=>⟨a1,a2,a3,a4⟩
 ·exact(ava_ p b T 1 1 now w hp hb hne rfl rfl).mono fun e w' ⟨a1,a2,a3,a4⟩=>⟨a1,a2,a3,a4⟩
theorem as3_ (x0 i0 i1 now:Int) (h_x0:x0=0∨x0=1) (h_i0:i0=0∨i0=1) (h_i1:i1=0∨i1=1) :
 ∃ n0,(rsF [x0] [i0,i1] now).1=[n0]∧(n0=0∨n0=1):=by
 refine⟨_,rfl,?_⟩;unfold rsN;repeat' split
 all_goals simp
theorem ap0_:ur_ q8_ 1 1 [1] [1,1] rsF:=by
 intro vs vi l li now w hr hri;obtain⟨a0,e⟩:=qp_ 1 l;obtain⟨c0,c1,e'⟩:=qy_ 1 1 li;have hst:∀(p b:Nat) (w:World),w.heap[p]?=some (.cells (A1 (xm_ [1] l)) 175)→w.heap[b]?=some (.cells (xi_ (xm_ [1,1] li)) 3)→p≠b→Calls Tryz.prog 158 #[.pointer (some ⟨p,0,none⟩),.slice (some ⟨b,0,none⟩) 2 2,.int .i64 (xd_ 5 now)] w fun e w'=>e=.returned (.slice (some ⟨w.heap.size,0,none⟩) 1 1)∧w'.heap[w.heap.size]?=some (.cells (xi_ (rsF (xm_ [1] l) (xm_ [1,1] li) (xd_ 5 now)).2) 3)∧w'.heap[p]?=some (.cells (A1 (rsF (xm_ [1] l) (xm_ [1,1] li) (xd_ 5 now)).1) 175)∧w.grownBy w' (some p):=by
  intro p b w hp hb hne;rw[e] at hp ⊢;rw[e'] at hb ⊢;exact as2_ p b 175 _ _ _ _ (ye_ a0) (ye_ c0) (ye_ c1) (yo_ now).1 (yo_ now).2 w hp hb hne
 have hsv:∀(p:Nat) (w:World),w.heap[p]?=some (.cells (A1 (rsF (xm_ [1] l) (xm_ [1,1] li) (xd_ 5 now)).1) 175)→Calls Tryz.prog 153 #[.pointer (some ⟨p,0,none⟩)] w fun e w'=>e=.returned (.slice (some ⟨w.heap.size,0,none⟩) 1 1)∧w'.heap[w.heap.size]?=some (.cells (xi_ (rsF (xm_ [1] l) (xm_ [1,1] li) (xd_ 5 now)).1) 3)∧w.grownBy w' none:=by
  intro p w hp;rw[e,e'] at hp ⊢;obtain⟨n0,hf,h0⟩:=as3_ (xd_ 1 a0) (xd_ 1 c0) (xd_ 1 c1) (xd_ 5 now) (ye_ a0) (ye_ c0) (ye_ c1);rw[hf] at hp ⊢;exact akc_ p 175 n0 h0 w hp
 exact qx_ q8_ 174 175 157 152 158 153 #[.bool false] rsI rsO rsS A1 rsF vs vi l li now w (by decide) (by decide) ahw_
  (fun _ _=>by kernel_rfl) (fun _ _=>by kernel_rfl) (fun _ _=>by kernel_rfl) (fun _ _=>by kernel_rfl) (fun _ _=>by kernel_rfl) (fun _ _=>by kernel_rfl)
  (fun _ _=>by kernel_rfl) (fun _ _=>by kernel_rfl) (fun _ _=>by kernel_rfl) (fun _ _=>by kernel_rfl)
  ahn_ (fun p b w hp hb hne=>akb_ p b 175 l w hp hb hne) hst hsv hr hri
theorem ana_ (p b T:Nat) (x0 i0 i1 now:Int) (l_x0 : -32768≤x0) (u_x0:x0≤32767) (l_i0 : -32768≤i0) (u_i0:i0≤32767) (l_i1 : -32768≤i1) (u_i1:i1≤32767) (l_now:0≤now) (u_now:now≤4294967295) (w:World)
 (hp:w.heap[p]?=some (.cells (A1i [x0]) T)) (hb:w.heap[b]?=some (.cells (xi_ [i0,i1]) 3)) (hne:p≠b) :
 Calls Tryz.prog 162 #[.pointer (some ⟨p,0,none⟩),.slice (some ⟨b,0,none⟩) 2 2,.int .i64 now] w fun e w'=>e=.returned (.slice (some ⟨w.heap.size,0,none⟩) 1 1)∧w'.heap[w.heap.size]?=some (.cells (xi_ (zl_ [x0] [i0,i1] now).2) 3)∧w'.heap[p]?=some (.cells (A1i (zl_ [x0] [i0,i1] now).1) T)∧w.grownBy w' (some p):=by
 by_cases h0:i1<0
 · have hN:y2_ x0 i0 i1=x0:=(by unfold y2_;rw[if_pos h0]);by_cases h1:0≤i0 - x0
   ·exact(arv_ p b T i0 i1 x0 now w hp hb hne l_i0 u_i0 l_x0 u_x0 l_i1 u_i1 h0 h1).mono fun e w' ⟨a1,a2,a3,a4⟩=>⟨a1,a2.trans (by simp[zl_,xi_,hN]),a3.trans (by simp[zl_,A1i,hN]),a4⟩
   ·exact(arw_ p b T i0 i1 x0 now w hp hb hne l_i0 u_i0 l_x0 u_x0 l_i1 u_i1 h0 (by omega)).mono fun e w' ⟨a1,a2,a3,a4⟩=>⟨a1,a2.trans (by simp[zl_,xi_,hN]),a3.trans (by simp[zl_,A1i,hN]),a4⟩
 · by_cases h1:i0 - x0 < -i1
   ·have hN:y2_ x0 i0 i1=x0 - i1:=(by unfold y2_;rw[if_neg h0,if_pos h1]);exact(arx_ p b T i0 i1 x0 now w hp hb hne l_i0 u_i0 l_x0 u_x0 l_i1 u_i1 (by omega) h1).mono fun e w' ⟨a1,a2,a3,a4⟩=>⟨a1,a2.trans (by simp[zl_,xi_,hN]),a3.trans (by simp[zl_,A1i,hN]),a4⟩
   · by_cases h2:i0 - x0≤i1
     ·have hN:y2_ x0 i0 i1=i0:=(by unfold y2_;rw[if_neg h0,if_neg h1,if_pos h2]);exact(aoq_ p b T i0 i1 x0 now w hp hb hne l_i0 u_i0 l_x0 u_x0 l_i1 u_i1 (by omega) (by omega) h2).mono fun e w' ⟨a1,a2,a3,a4⟩=>⟨a1,a2.trans (by simp[zl_,xi_,hN]),a3.trans (by simp[zl_,A1i,hN]),a4⟩
     ·have hN:y2_ x0 i0 i1=x0+i1:=(by unfold y2_;rw[if_neg h0,if_neg h1,if_neg h2]);exact(ary_ p b T i0 i1 x0 now w hp hb hne l_i0 u_i0 l_x0 u_x0 l_i1 u_i1 (by omega) (by omega) (by omega)).mono fun e w' ⟨a1,a2,a3,a4⟩=>⟨a1,a2.trans (by simp[zl_,xi_,hN]),a3.trans (by simp[zl_,A1i,hN]),a4⟩
theorem anb_ (x0 i0 i1 now:Int)  :
 ∃ n0,(zl_ [x0] [i0,i1] now).1=[n0]:=by
 exact⟨_,rfl⟩
theorem akh_:ur_ zo_ 1 1 [2] [2,2] zl_:=by
 intro vs vi l li now w hr hri;obtain⟨a0,e⟩:=qp_ 2 l;obtain⟨c0,c1,e'⟩:=qy_ 2 2 li;have hst:∀(p b:Nat) (w:World),w.heap[p]?=some (.cells (A1i (xm_ [2] l)) 178)→w.heap[b]?=some (.cells (xi_ (xm_ [2,2] li)) 3)→p≠b→Calls Tryz.prog 162 #[.pointer (some ⟨p,0,none⟩),.slice (some ⟨b,0,none⟩) 2 2,.int .i64 (xd_ 5 now)] w fun e w'=>e=.returned (.slice (some ⟨w.heap.size,0,none⟩) 1 1)∧w'.heap[w.heap.size]?=some (.cells (xi_ (zl_ (xm_ [2] l) (xm_ [2,2] li) (xd_ 5 now)).2) 3)∧w'.heap[p]?=some (.cells (A1i (zl_ (xm_ [2] l) (xm_ [2,2] li) (xd_ 5 now)).1) 178)∧w.grownBy w' (some p):=by
  intro p b w hp hb hne;rw[e] at hp ⊢;rw[e'] at hb ⊢;exact ana_ p b 178 _ _ _ _ (q6_ a0).1 (q6_ a0).2 (q6_ c0).1 (q6_ c0).2 (q6_ c1).1 (q6_ c1).2 (yo_ now).1 (yo_ now).2 w hp hb hne
 have hsv:∀(p:Nat) (w:World),w.heap[p]?=some (.cells (A1i (zl_ (xm_ [2] l) (xm_ [2,2] li) (xd_ 5 now)).1) 178)→Calls Tryz.prog 160 #[.pointer (some ⟨p,0,none⟩)] w fun e w'=>e=.returned (.slice (some ⟨w.heap.size,0,none⟩) 1 1)∧w'.heap[w.heap.size]?=some (.cells (xi_ (zl_ (xm_ [2] l) (xm_ [2,2] li) (xd_ 5 now)).1) 3)∧w.grownBy w' none:=by
  intro p w hp;rw[e,e'] at hp ⊢;obtain⟨n0,hf⟩:=anb_ (xd_ 2 a0) (xd_ 2 c0) (xd_ 2 c1) (xd_ 5 now);rw[hf] at hp ⊢;exact avj_ p 178 n0  w hp
 exact qx_ zo_ 176 178 161 159 162 160 #[.int .i64 0] up_ aev_ aai_ A1i zl_ vs vi l li now w (by decide) (by decide) ady_
  (fun _ _=>by kernel_rfl) (fun _ _=>by kernel_rfl) (fun _ _=>by kernel_rfl) (fun _ _=>by kernel_rfl) (fun _ _=>by kernel_rfl) (fun _ _=>by kernel_rfl)
  (fun _ _=>by kernel_rfl) (fun _ _=>by kernel_rfl) (fun _ _=>by kernel_rfl) (fun _ _=>by kernel_rfl)
  adv_ (fun p b w hp hb hne=>avi_ p b 178 l w hp hb hne) hst hsv hr hri
theorem anc_ (p b T:Nat) (x0 i0 i1 i2 now:Int) (h_x0:x0=0∨x0=1) (l_i0 : -32768≤i0) (u_i0:i0≤32767) (l_i1 : -32768≤i1) (u_i1:i1≤32767) (l_i2 : -32768≤i2) (u_i2:i2≤32767) (l_now:0≤now) (u_now:now≤4294967295) (w:World)
 (hp:w.heap[p]?=some (.cells (A1 [x0]) T)) (hb:w.heap[b]?=some (.cells (xi_ [i0,i1,i2]) 3)) (hne:p≠b) :
 Calls Tryz.prog 164 #[.pointer (some ⟨p,0,none⟩),.slice (some ⟨b,0,none⟩) 3 3,.int .i64 now] w fun e w'=>e=.returned (.slice (some ⟨w.heap.size,0,none⟩) 1 1)∧w'.heap[w.heap.size]?=some (.cells (xi_ (qh_ [x0] [i0,i1,i2] now).2) 3)∧w'.heap[p]?=some (.cells (A1 (qh_ [x0] [i0,i1,i2] now).1) T)∧w.grownBy w' (some p):=by
 by_cases h0:i1≤i0
 ·have hN:zr_ x0 i0 i1 i2=1:=(by unfold zr_;rw[if_pos h0]);exact(aru_ p b T (x0 != 0) i0 i1 i2 now w hp hb hne h0).mono fun e w' ⟨a1,a2,a3,a4⟩=>⟨a1,a2.trans (by simp[qh_,xi_,hN]),a3.trans (by simp[qh_,A1,hN]),a4⟩
 · by_cases h1:i0≤i2
   ·have hN:zr_ x0 i0 i1 i2=0:=(by unfold zr_;rw[if_neg h0,if_pos h1]);exact(aop_ p b T (x0 != 0) i0 i1 i2 now w hp hb hne h0 h1).mono fun e w' ⟨a1,a2,a3,a4⟩=>⟨a1,a2.trans (by simp[qh_,xi_,hN]),a3.trans (by simp[qh_,A1,hN]),a4⟩
   · have hN:zr_ x0 i0 i1 i2=x0:=(by unfold zr_;rw[if_neg h0,if_neg h1]);rcases h_x0 with rfl|rfl
     ·exact(auf_ p b T i0 i1 i2 now w hp hb hne h0 h1).mono fun e w' ⟨a1,a2,a3,a4⟩=>⟨a1,a2.trans (by simp[qh_,xi_,hN]),a3.trans (by simp[qh_,A1,hN]),a4⟩
     ·exact(aue_ p b T i0 i1 i2 now w hp hb hne h0 h1).mono fun e w' ⟨a1,a2,a3,a4⟩=>⟨a1,a2.trans (by simp[qh_,xi_,hN]),a3.trans (by simp[qh_,A1,hN]),a4⟩
theorem and_ (x0 i0 i1 i2 now:Int) (h_x0:x0=0∨x0=1) :
 ∃ n0,(qh_ [x0] [i0,i1,i2] now).1=[n0]∧(n0=0∨n0=1):=by
 refine⟨_,rfl,?_⟩;unfold zr_;repeat' split
 all_goals first|exact h_x0|simp
theorem aki_:ur_ zp_ 1 1 [1] [2,2,2] qh_:=by
 intro vs vi l li now w hr hri;obtain⟨a0,e⟩:=qp_ 1 l;obtain⟨c0,c1,c2,e'⟩:=uq_ 2 2 2 li;have hst:∀(p b:Nat) (w:World),w.heap[p]?=some (.cells (A1 (xm_ [1] l)) 180)→w.heap[b]?=some (.cells (xi_ (xm_ [2,2,2] li)) 3)→p≠b→Calls Tryz.prog 164 #[.pointer (some ⟨p,0,none⟩),.slice (some ⟨b,0,none⟩) 3 3,.int .i64 (xd_ 5 now)] w fun e w'=>e=.returned (.slice (some ⟨w.heap.size,0,none⟩) 1 1)∧w'.heap[w.heap.size]?=some (.cells (xi_ (qh_ (xm_ [1] l) (xm_ [2,2,2] li) (xd_ 5 now)).2) 3)∧w'.heap[p]?=some (.cells (A1 (qh_ (xm_ [1] l) (xm_ [2,2,2] li) (xd_ 5 now)).1) 180)∧w.grownBy w' (some p):=by
  intro p b w hp hb hne;rw[e] at hp ⊢;rw[e'] at hb ⊢;exact anc_ p b 180 _ _ _ _ _ (ye_ a0) (q6_ c0).1 (q6_ c0).2 (q6_ c1).1 (q6_ c1).2 (q6_ c2).1 (q6_ c2).2 (yo_ now).1 (yo_ now).2 w hp hb hne
 have hsv:∀(p:Nat) (w:World),w.heap[p]?=some (.cells (A1 (qh_ (xm_ [1] l) (xm_ [2,2,2] li) (xd_ 5 now)).1) 180)→Calls Tryz.prog 153 #[.pointer (some ⟨p,0,none⟩)] w fun e w'=>e=.returned (.slice (some ⟨w.heap.size,0,none⟩) 1 1)∧w'.heap[w.heap.size]?=some (.cells (xi_ (qh_ (xm_ [1] l) (xm_ [2,2,2] li) (xd_ 5 now)).1) 3)∧w.grownBy w' none:=by
  intro p w hp;rw[e,e'] at hp ⊢;obtain⟨n0,hf,h0⟩:=and_ (xd_ 1 a0) (xd_ 2 c0) (xd_ 2 c1) (xd_ 2 c2) (xd_ 5 now) (ye_ a0);rw[hf] at hp ⊢;exact akc_ p 180 n0 h0 w hp
 exact qx_ zp_ 179 180 163 152 164 153 #[.bool false] abi_ aew_ ab0_ A1 qh_ vs vi l li now w (by decide) (by decide) adz_
  (fun _ _=>by kernel_rfl) (fun _ _=>by kernel_rfl) (fun _ _=>by kernel_rfl) (fun _ _=>by kernel_rfl) (fun _ _=>by kernel_rfl) (fun _ _=>by kernel_rfl)
  (fun _ _=>by kernel_rfl) (fun _ _=>by kernel_rfl) (fun _ _=>by kernel_rfl) (fun _ _=>by kernel_rfl)
  adw_ (fun p b w hp hb hne=>akb_ p b 180 l w hp hb hne) hst hsv hr hri
end Go.Proofs.YtcgbfhpmkpglkaaGreatDoor.Bl
