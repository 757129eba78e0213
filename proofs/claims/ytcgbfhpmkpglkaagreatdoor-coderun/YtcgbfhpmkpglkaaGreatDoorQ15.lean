/- Texts put together: BlD, BlF0, BlF1, BlF2, BlF3, BlF4, BlF5, BlJ, BlK, BlG, BlHk, BlH1. -/
import Derived.Test.YtcgbfhpmkpglkaaGreatDoorQ04
import Derived.Test.YtcgbfhpmkpglkaaGreatDoorQ03
set_option linter.unusedVariables false
set_option linter.unusedSimpArgs false
set_option maxHeartbeats 8000000
namespace Go.Proofs.YtcgbfhpmkpglkaaGreatDoor.Bl
open Go.RowKit
theorem xj_ {w:World} {k:Nat} (h:k=w.heap.size) (o:Obj):(w.alloc o).heap[k]?=some o:=by
 subst h;exact heap_alloc_new w o
theorem xh_ {w:World} {k:Nat} (h:k<w.heap.size) (o:Obj):(w.alloc o).heap[k]?=w.heap[k]?:=Below.heap_alloc _ _ _ h
theorem xe_ (w:World) (k:Nat):w.drew.heap[k]?=w.heap[k]?:=rfl
theorem jh_ {W:World} {a:Addr} {v:Value} (h:W.cell? a=some v):W.drew.cell? a=some v:=h
theorem ajp_ {W:World} {o:Obj} {k i:Nat} {v:Value} (hk:k<W.heap.size) (h:W.cell? ⟨k,i,none⟩=some v):(W.alloc o).cell? ⟨k,i,none⟩=some v:=by
 rw[World.cell?_alloc_past _ _ _ hk];exact h
theorem aud_ {W:World} {cs:Array Value} {T:TypeId} {k i:Nat} {v:Value} (hk:k=W.heap.size) (h:cs[i]?=some v):(W.alloc (.cells cs T)).cell? ⟨k,i,none⟩=some v:=by
 rw[World.cell?_alloc_at _ _ _ _ hk];exact h
theorem k5_ {P:Prop} (h:P:=by repeat(first|assumption|with_reducible refine jh_ ?_|refine ajp_ (by first|omega|(simp;omega)|simp) ?_)):P:=h
theorem k6_ {P:Prop} (h:P:=by repeat(first|assumption|with_reducible refine jh_ ?_|exact aud_ (by first|rfl|simp) rfl|refine ajp_ (by first|omega|(simp;omega)|simp) ?_)):P:=h
end Go.Proofs.YtcgbfhpmkpglkaaGreatDoor.Bl
namespace Go.Proofs.YtcgbfhpmkpglkaaGreatDoor.Bl
open Go.RowKit
attribute [local go_sem ↓] Go.wp_at_zero Go.wp_at_succ
theorem aon_ (w:World):(Instr.makeSlice 25 (.int .i64 1) (.int .i64 1)).run Tryz.prog w=.ok (.slice (some ⟨w.heap.size,0,none⟩) 1 1) (w.alloc (.cells #[.int .i64 0] 3)):=by kernel_rfl
theorem ajq_ (v0:Option Addr) (a:Option Addr) (len cap:Nat) (w:World) (hne:((len:Int)==1)=false) :
 Calls Tryz.prog 87 #[.slice v0 1 1,.slice a len cap] w fun e w'=>e=.returned (.slice (some ⟨w.heap.size,0,none⟩) 1 1)∧w'.heap[w.heap.size]?=some (.cells #[.int .i64 0] 3)∧w.grownBy w' none:=by
 have hmk:=aon_;go_enter Tryz.func87,Tryz.ntmps87;go_wp2;go_ret;exact⟨rfl,heap_alloc_new _ _,xb_ gz_ _⟩
theorem aho_ (g b off cap:Nat) (s0:ByteArray) (k0 x0:Int) (w:World) (hg:w.heap[g]?=some (.cells #[.string s0,.int .i64 k0] 113))
 (c0:w.cell? ⟨b,off+0,none⟩=some (.int .i64 x0)) :
 Calls Tryz.prog 87 #[.slice (some ⟨g,0,none⟩) 1 1,.slice (some ⟨b,off,none⟩) 1 cap] w fun e w'=>e=.returned (.slice (some ⟨w.heap.size,0,none⟩) 1 1)∧w'.heap[w.heap.size]?=some (.cells #[.int .i64 (xd_ k0 x0)] 3)∧w.grownBy w' none:=by
 have hmk:=aon_;have hgl:=xg_ hg;have hbl:b<w.heap.size:=World.block_lt_of_cell? w _ c0;have g0:=xa_ hg 0;have g1:=xa_ hg 1;simp at g0 g1;clear hg;simp only[Nat.add_zero] at c0;go_enter Tryz.func87,Tryz.ntmps87;go_wp2;refine wp_loop_rounds 2 ?_;rw[rounds_succ];go_wp2;go_region_held3 (fun w'=>w'.cell? ⟨b,off,none⟩=some (.int .i64 x0)∧w'.cell? ⟨w.heap.size+1,1,none⟩=some (.int .i64 k0)) (refine⟨?_,?_⟩ <;> (exact k6_)) (first|(go_at_call 71;refine(ys_ _ _ _).mono ?_;rintro e w' ⟨rfl,rfl⟩))
 go_wp2;rw[rounds_succ];go_wp2;go_ret;refine⟨rfl,?_,xf_ (xb_ (xb_ gz_ _) _)⟩;rw[xe_];repeat(first|exact xj_ (by simp) _|refine(xh_ (by simp) _).trans ?_)
theorem aor_ (w:World):(Instr.makeSlice 25 (.int .i64 2) (.int .i64 2)).run Tryz.prog w=.ok (.slice (some ⟨w.heap.size,0,none⟩) 2 2) (w.alloc (.cells #[.int .i64 0,.int .i64 0] 3)):=by kernel_rfl
theorem ajs_ (v0:Option Addr) (a:Option Addr) (len cap:Nat) (w:World) (hne:((len:Int)==2)=false) :
 Calls Tryz.prog 87 #[.slice v0 2 2,.slice a len cap] w fun e w'=>e=.returned (.slice (some ⟨w.heap.size,0,none⟩) 2 2)∧w'.heap[w.heap.size]?=some (.cells #[.int .i64 0,.int .i64 0] 3)∧w.grownBy w' none:=by
 have hmk:=aor_;go_enter Tryz.func87,Tryz.ntmps87;go_wp2;go_ret;exact⟨rfl,heap_alloc_new _ _,xb_ gz_ _⟩
theorem ahq_ (g b off cap:Nat) (s0 s1:ByteArray) (k0 k1 x0 x1:Int) (w:World) (hg:w.heap[g]?=some (.cells #[.string s0,.int .i64 k0,.string s1,.int .i64 k1] 113))
 (c0:w.cell? ⟨b,off+0,none⟩=some (.int .i64 x0)) (c1:w.cell? ⟨b,off+1,none⟩=some (.int .i64 x1)) :
 Calls Tryz.prog 87 #[.slice (some ⟨g,0,none⟩) 2 2,.slice (some ⟨b,off,none⟩) 2 cap] w fun e w'=>e=.returned (.slice (some ⟨w.heap.size,0,none⟩) 2 2)∧w'.heap[w.heap.size]?=some (.cells #[.int .i64 (xd_ k0 x0),.int .i64 (xd_ k1 x1)] 3)∧w.grownBy w' none:=by
 have hmk:=aor_;have hgl:=xg_ hg;have hbl:b<w.heap.size:=World.block_lt_of_cell? w _ c0;have hgl1:g<w.heap.size+1:=(by omega);have hbl1:b<w.heap.size+1:=(by omega);have hgl2:g<w.heap.size+1+1:=(by omega);have hbl2:b<w.heap.size+1+1:=(by omega);have hwl1:w.heap.size<w.heap.size+1:=(by omega);have hwl2:w.heap.size<w.heap.size+1+1:=(by omega);have g0:=xa_ hg 0;have g1:=xa_ hg 1;have g2:=xa_ hg 2;have g3:=xa_ hg 3;simp at g0 g1 g2 g3;clear hg;simp only[Nat.add_zero] at c0;go_enter Tryz.func87,Tryz.ntmps87;go_wp2;refine wp_loop_rounds 3 ?_;rw[rounds_succ];go_wp2;go_region_held3 (fun w'=>w'.cell? ⟨b,off,none⟩=some (.int .i64 x0)∧w'.cell? ⟨w.heap.size+1,1,none⟩=some (.int .i64 k0)) (refine⟨?_,?_⟩ <;> (exact k6_)) (first|(go_at_call 71;refine(ys_ _ _ _).mono ?_;rintro e w' ⟨rfl,rfl⟩))
 go_wp2;rw[rounds_succ];go_wp2;go_region_held3 (fun w'=>w'.cell? ⟨b,off+1,none⟩=some (.int .i64 x1)∧w'.cell? ⟨w.heap.size+2,1,none⟩=some (.int .i64 k1)) (refine⟨?_,?_⟩ <;> (exact k6_)) (first|(go_at_call 71;refine(ys_ _ _ _).mono ?_;rintro e w' ⟨rfl,rfl⟩))
 go_wp2;rw[rounds_succ];go_wp2;go_ret;refine⟨rfl,?_,xf_ (xf_ (xb_ (xb_ (xb_ gz_ _) _) _))⟩;rw[xe_,xe_];repeat(first|exact xj_ rfl _|refine(xh_ (by first|omega|(simp;done)|(simp;omega)) _).trans ?_)
theorem aoo_ (w:World):(Instr.makeSlice 25 (.int .i64 3) (.int .i64 3)).run Tryz.prog w=.ok (.slice (some ⟨w.heap.size,0,none⟩) 3 3) (w.alloc (.cells #[.int .i64 0,.int .i64 0,.int .i64 0] 3)):=by kernel_rfl
theorem ajr_ (v0:Option Addr) (a:Option Addr) (len cap:Nat) (w:World) (hne:((len:Int)==3)=false) :
 Calls Tryz.prog 87 #[.slice v0 3 3,.slice a len cap] w fun e w'=>e=.returned (.slice (some ⟨w.heap.size,0,none⟩) 3 3)∧w'.heap[w.heap.size]?=some (.cells #[.int .i64 0,.int .i64 0,.int .i64 0] 3)∧w.grownBy w' none:=by
 have hmk:=aoo_;go_enter Tryz.func87,Tryz.ntmps87;go_wp2;go_ret;exact⟨rfl,heap_alloc_new _ _,xb_ gz_ _⟩
theorem ahp_ (g b off cap:Nat) (s0 s1 s2:ByteArray) (k0 k1 k2 x0 x1 x2:Int) (w:World) (hg:w.heap[g]?=some (.cells #[.string s0,.int .i64 k0,.string s1,.int .i64 k1,.string s2,.int .i64 k2] 113))
 (c0:w.cell? ⟨b,off+0,none⟩=some (.int .i64 x0)) (c1:w.cell? ⟨b,off+1,none⟩=some (.int .i64 x1)) (c2:w.cell? ⟨b,off+2,none⟩=some (.int .i64 x2)) :
 Calls Tryz.prog 87 #[.slice (some ⟨g,0,none⟩) 3 3,.slice (some ⟨b,off,none⟩) 3 cap] w fun e w'=>e=.returned (.slice (some ⟨w.heap.size,0,none⟩) 3 3)∧w'.heap[w.heap.size]?=some (.cells #[.int .i64 (xd_ k0 x0),.int .i64 (xd_ k1 x1),.int .i64 (xd_ k2 x2)] 3)∧w.grownBy w' none:=by
 have hmk:=aoo_;have hgl:=xg_ hg;have hbl:b<w.heap.size:=World.block_lt_of_cell? w _ c0;have hgl1:g<w.heap.size+1:=(by omega);have hbl1:b<w.heap.size+1:=(by omega);have hgl2:g<w.heap.size+1+1:=(by omega);have hbl2:b<w.heap.size+1+1:=(by omega);have hgl3:g<w.heap.size+1+1+1:=(by omega);have hbl3:b<w.heap.size+1+1+1:=(by omega);have hwl1:w.heap.size<w.heap.size+1:=(by omega);have hwl2:w.heap.size<w.heap.size+1+1:=(by omega);have hwl3:w.heap.size<w.heap.size+1+1+1:=(by omega);have g0:=xa_ hg 0;have g1:=xa_ hg 1;have g2:=xa_ hg 2;have g3:=xa_ hg 3;have g4:=xa_ hg 4;have g5:=xa_ hg 5;simp at g0 g1 g2 g3 g4 g5;clear hg;simp only[Nat.add_zero] at c0;go_enter Tryz.func87,Tryz.ntmps87;go_wp2;refine wp_loop_rounds 4 ?_;rw[rounds_succ];go_wp2;go_region_held3 (fun w'=>w'.cell? ⟨b,off,none⟩=some (.int .i64 x0)∧w'.cell? ⟨w.heap.size+1,1,none⟩=some (.int .i64 k0)) (refine⟨?_,?_⟩ <;> (exact k6_)) (first|(go_at_call 71;refine(ys_ _ _ _).mono ?_;rintro e w' ⟨rfl,rfl⟩))
 go_wp2;rw[rounds_succ];go_wp2;go_region_held3 (fun w'=>w'.cell? ⟨b,off+1,none⟩=some (.int .i64 x1)∧w'.cell? ⟨w.heap.size+2,1,none⟩=some (.int .i64 k1)) (refine⟨?_,?_⟩ <;> (exact k6_)) (first|(go_at_call 71;refine(ys_ _ _ _).mono ?_;rintro e w' ⟨rfl,rfl⟩))
 go_wp2;rw[rounds_succ];go_wp2;go_region_held3 (fun w'=>w'.cell? ⟨b,off+2,none⟩=some (.int .i64 x2)∧w'.cell? ⟨w.heap.size+3,1,none⟩=some (.int .i64 k2)) (refine⟨?_,?_⟩ <;> (exact k6_)) (first|(go_at_call 71;refine(ys_ _ _ _).mono ?_;rintro e w' ⟨rfl,rfl⟩))
 go_wp2;rw[rounds_succ];go_wp2;go_ret;refine⟨rfl,?_,xf_ (xf_ (xf_ (xb_ (xb_ (xb_ (xb_ gz_ _) _) _) _)))⟩;rw[xe_,xe_,xe_];repeat(first|exact xj_ rfl _|refine(xh_ (by first|omega|(simp;done)|(simp;omega)) _).trans ?_)
theorem aos_ (w:World):(Instr.makeSlice 25 (.int .i64 4) (.int .i64 4)).run Tryz.prog w=.ok (.slice (some ⟨w.heap.size,0,none⟩) 4 4) (w.alloc (.cells #[.int .i64 0,.int .i64 0,.int .i64 0,.int .i64 0] 3)):=by kernel_rfl
theorem ajt_ (v0:Option Addr) (a:Option Addr) (len cap:Nat) (w:World) (hne:((len:Int)==4)=false) :
 Calls Tryz.prog 87 #[.slice v0 4 4,.slice a len cap] w fun e w'=>e=.returned (.slice (some ⟨w.heap.size,0,none⟩) 4 4)∧w'.heap[w.heap.size]?=some (.cells #[.int .i64 0,.int .i64 0,.int .i64 0,.int .i64 0] 3)∧w.grownBy w' none:=by
 have hmk:=aos_;go_enter Tryz.func87,Tryz.ntmps87;go_wp2;go_ret;exact⟨rfl,heap_alloc_new _ _,xb_ gz_ _⟩
theorem ahr_ (g b off cap:Nat) (s0 s1 s2 s3:ByteArray) (k0 k1 k2 k3 x0 x1 x2 x3:Int) (w:World) (hg:w.heap[g]?=some (.cells #[.string s0,.int .i64 k0,.string s1,.int .i64 k1,.string s2,.int .i64 k2,.string s3,.int .i64 k3] 113))
 (c0:w.cell? ⟨b,off+0,none⟩=some (.int .i64 x0)) (c1:w.cell? ⟨b,off+1,none⟩=some (.int .i64 x1)) (c2:w.cell? ⟨b,off+2,none⟩=some (.int .i64 x2)) (c3:w.cell? ⟨b,off+3,none⟩=some (.int .i64 x3)) :
 Calls Tryz.prog 87 #[.slice (some ⟨g,0,none⟩) 4 4,.slice (some ⟨b,off,none⟩) 4 cap] w fun e w'=>e=.returned (.slice (some ⟨w.heap.size,0,none⟩) 4 4)∧w'.heap[w.heap.size]?=some (.cells #[.int .i64 (xd_ k0 x0),.int .i64 (xd_ k1 x1),.int .i64 (xd_ k2 x2),.int .i64 (xd_ k3 x3)] 3)∧w.grownBy w' none:=by
 have hmk:=aos_;have hgl:=xg_ hg;have hbl:b<w.heap.size:=World.block_lt_of_cell? w _ c0;have hgl1:g<w.heap.size+1:=(by omega);have hbl1:b<w.heap.size+1:=(by omega);have hgl2:g<w.heap.size+1+1:=(by omega);have hbl2:b<w.heap.size+1+1:=(by omega);have hgl3:g<w.heap.size+1+1+1:=(by omega);have hbl3:b<w.heap.size+1+1+1:=(by omega);have hgl4:g<w.heap.size+1+1+1+1:=(by omega);have hbl4:b<w.heap.size+1+1+1+1:=(by omega);have hwl1:w.heap.size<w.heap.size+1:=(by omega);have hwl2:w.heap.size<w.heap.size+1+1:=(by omega);have hwl3:w.heap.size<w.heap.size+1+1+1:=(by omega);have hwl4:w.heap.size<w.heap.size+1+1+1+1:=(by omega);have g0:=xa_ hg 0;have g1:=xa_ hg 1;have g2:=xa_ hg 2;have g3:=xa_ hg 3;have g4:=xa_ hg 4;have g5:=xa_ hg 5;have g6:=xa_ hg 6;have g7:=xa_ hg 7;simp at g0 g1 g2 g3 g4 g5 g6 g7;clear hg;simp only[Nat.add_zero] at c0;go_enter Tryz.func87,Tryz.ntmps87;go_wp2;refine wp_loop_rounds 5 ?_;rw[rounds_succ];go_wp2;go_region_held3 (fun w'=>w'.cell? ⟨b,off,none⟩=some (.int .i64 x0)∧w'.cell? ⟨w.heap.size+1,1,none⟩=some (.int .i64 k0)) (refine⟨?_,?_⟩ <;> (exact k6_)) (first|(go_at_call 71;refine(ys_ _ _ _).mono ?_;rintro e w' ⟨rfl,rfl⟩))
 go_wp2;rw[rounds_succ];go_wp2;go_region_held3 (fun w'=>w'.cell? ⟨b,off+1,none⟩=some (.int .i64 x1)∧w'.cell? ⟨w.heap.size+2,1,none⟩=some (.int .i64 k1)) (refine⟨?_,?_⟩ <;> (exact k6_)) (first|(go_at_call 71;refine(ys_ _ _ _).mono ?_;rintro e w' ⟨rfl,rfl⟩))
 go_wp2;rw[rounds_succ];go_wp2;go_region_held3 (fun w'=>w'.cell? ⟨b,off+2,none⟩=some (.int .i64 x2)∧w'.cell? ⟨w.heap.size+3,1,none⟩=some (.int .i64 k2)) (refine⟨?_,?_⟩ <;> (exact k6_)) (first|(go_at_call 71;refine(ys_ _ _ _).mono ?_;rintro e w' ⟨rfl,rfl⟩))
 go_wp2;rw[rounds_succ];go_wp2;go_region_held3 (fun w'=>w'.cell? ⟨b,off+3,none⟩=some (.int .i64 x3)∧w'.cell? ⟨w.heap.size+4,1,none⟩=some (.int .i64 k3)) (refine⟨?_,?_⟩ <;> (exact k6_)) (first|(go_at_call 71;refine(ys_ _ _ _).mono ?_;rintro e w' ⟨rfl,rfl⟩))
 go_wp2;rw[rounds_succ];go_wp2;go_ret;refine⟨rfl,?_,xf_ (xf_ (xf_ (xf_ (xb_ (xb_ (xb_ (xb_ (xb_ gz_ _) _) _) _) _))))⟩;rw[xe_,xe_,xe_,xe_];repeat(first|exact xj_ rfl _|refine(xh_ (by first|omega|(simp;done)|(simp;omega)) _).trans ?_)
theorem aot_ (w:World):(Instr.makeSlice 25 (.int .i64 5) (.int .i64 5)).run Tryz.prog w=.ok (.slice (some ⟨w.heap.size,0,none⟩) 5 5) (w.alloc (.cells #[.int .i64 0,.int .i64 0,.int .i64 0,.int .i64 0,.int .i64 0] 3)):=by kernel_rfl
theorem aju_ (v0:Option Addr) (a:Option Addr) (len cap:Nat) (w:World) (hne:((len:Int)==5)=false) :
 Calls Tryz.prog 87 #[.slice v0 5 5,.slice a len cap] w fun e w'=>e=.returned (.slice (some ⟨w.heap.size,0,none⟩) 5 5)∧w'.heap[w.heap.size]?=some (.cells #[.int .i64 0,.int .i64 0,.int .i64 0,.int .i64 0,.int .i64 0] 3)∧w.grownBy w' none:=by
 have hmk:=aot_;go_enter Tryz.func87,Tryz.ntmps87;go_wp2;go_ret;exact⟨rfl,heap_alloc_new _ _,xb_ gz_ _⟩
theorem ahs_ (g b off cap:Nat) (s0 s1 s2 s3 s4:ByteArray) (k0 k1 k2 k3 k4 x0 x1 x2 x3 x4:Int) (w:World) (hg:w.heap[g]?=some (.cells #[.string s0,.int .i64 k0,.string s1,.int .i64 k1,.string s2,.int .i64 k2,.string s3,.int .i64 k3,.string s4,.int .i64 k4] 113))
 (c0:w.cell? ⟨b,off+0,none⟩=some (.int .i64 x0)) (c1:w.cell? ⟨b,off+1,none⟩=some (.int .i64 x1)) (c2:w.cell? ⟨b,off+2,none⟩=some (.int .i64 x2)) (c3:w.cell? ⟨b,off+3,none⟩=some (.int .i64 x3)) (c4:w.cell? ⟨b,off+4,none⟩=some (.int .i64 x4)) :
 Calls Tryz.prog 87 #[.slice (some ⟨g,0,none⟩) 5 5,.slice (some ⟨b,off,none⟩) 5 cap] w fun e w'=>e=.returned (.slice (some ⟨w.heap.size,0,none⟩) 5 5)∧w'.heap[w.heap.size]?=some (.cells #[.int .i64 (xd_ k0 x0),.int .i64 (xd_ k1 x1),.int .i64 (xd_ k2 x2),.int .i64 (xd_ k3 x3),.int .i64 (xd_ k4 x4)] 3)∧w.grownBy w' none:=by
 have hmk:=aot_;have hgl:=xg_ hg;have hbl:b<w.heap.size:=World.block_lt_of_cell? w _ c0;have hgl1:g<w.heap.size+1:=(by omega);have hbl1:b<w.heap.size+1:=(by omega);have hgl2:g<w.heap.size+1+1:=(by omega);have hbl2:b<w.heap.size+1+1:=(by omega);have hgl3:g<w.heap.size+1+1+1:=(by omega);have hbl3:b<w.heap.size+1+1+1:=(by omega);have hgl4:g<w.heap.size+1+1+1+1:=(by omega);have hbl4:b<w.heap.size+1+1+1+1:=(by omega);have hgl5:g<w.heap.size+1+1+1+1+1:=(by omega);have hbl5:b<w.heap.size+1+1+1+1+1:=(by omega);have hwl1:w.heap.size<w.heap.size+1:=(by omega);have hwl2:w.heap.size<w.heap.size+1+1:=(by omega);have hwl3:w.heap.size<w.heap.size+1+1+1:=(by omega);have hwl4:w.heap.size<w.heap.size+1+1+1+1:=(by omega);have hwl5:w.heap.size<w.heap.size+1+1+1+1+1:=(by omega);have g0:=xa_ hg 0;have g1:=xa_ hg 1;have g2:=xa_ hg 2;have g3:=xa_ hg 3;have g4:=xa_ hg 4;have g5:=xa_ hg 5;have g6:=xa_ hg 6;have g7:=xa_ hg 7;have g8:=xa_ hg 8;have g9:=xa_ hg 9;simp at g0 g1 g2 g3 g4 g5 g6 g7 g8 g9;clear hg;simp only[Nat.add_zero] at c0;go_enter Tryz.func87,Tryz.ntmps87;go_wp2;refine wp_loop_rounds 6 ?_;rw[rounds_succ];go_wp2;go_region_held3 (fun w'=>w'.cell? ⟨b,off,none⟩=some (.int .i64 x0)∧w'.cell? ⟨w.heap.size+1,1,none⟩=some (.int .i64 k0)) (refine⟨?_,?_⟩ <;> (exact k6_)) (first|(go_at_call 71;refine(ys_ _ _ _).mono ?_;rintro e w' ⟨rfl,rfl⟩))
 go_wp2;rw[rounds_succ];go_wp2;go_region_held3 (fun w'=>w'.cell? ⟨b,off+1,none⟩=some (.int .i64 x1)∧w'.cell? ⟨w.heap.size+2,1,none⟩=some (.int .i64 k1)) (refine⟨?_,?_⟩ <;> (exact k6_)) (first|(go_at_call 71;refine(ys_ _ _ _).mono ?_;rintro e w' ⟨rfl,rfl⟩))
 go_wp2;rw[rounds_succ];go_wp2;go_region_held3 (fun w'=>w'.cell? ⟨b,off+2,none⟩=some (.int .i64 x2)∧w'.cell? ⟨w.heap.size+3,1,none⟩=some (.int .i64 k2)) (refine⟨?_,?_⟩ <;> (exact k6_)) (first|(go_at_call 71;refine(ys_ _ _ _).mono ?_;rintro e w' ⟨rfl,rfl⟩))
 go_wp2;rw[rounds_succ];go_wp2;go_region_held3 (fun w'=>w'.cell? ⟨b,off+3,none⟩=some (.int .i64 x3)∧w'.cell? ⟨w.heap.size+4,1,none⟩=some (.int .i64 k3)) (refine⟨?_,?_⟩ <;> (exact k6_)) (first|(go_at_call 71;refine(ys_ _ _ _).mono ?_;rintro e w' ⟨rfl,rfl⟩))
 go_wp2;rw[rounds_succ];go_wp2;go_region_held3 (fun w'=>w'.cell? ⟨b,off+4,none⟩=some (.int .i64 x4)∧w'.cell? ⟨w.heap.size+5,1,none⟩=some (.int .i64 k4)) (refine⟨?_,?_⟩ <;> (exact k6_)) (first|(go_at_call 71;refine(ys_ _ _ _).mono ?_;rintro e w' ⟨rfl,rfl⟩))
 go_wp2;rw[rounds_succ];go_wp2;go_ret;refine⟨rfl,?_,xf_ (xf_ (xf_ (xf_ (xf_ (xb_ (xb_ (xb_ (xb_ (xb_ (xb_ gz_ _) _) _) _) _) _)))))⟩;rw[xe_,xe_,xe_,xe_,xe_];repeat(first|exact xj_ rfl _|refine(xh_ (by first|omega|(simp;done)|(simp;omega)) _).trans ?_)
end Go.Proofs.YtcgbfhpmkpglkaaGreatDoor.Bl
namespace Go.Proofs.YtcgbfhpmkpglkaaGreatDoor.Bl
open Go.RowKit
def rd (w:World) (v:Value) (l:List Int):Prop:=
 ∃ a cap,v=.slice a l.length cap∧(l=[]∨∃ b off,a=some ⟨b,off,none⟩∧∀ i,i<l.length→w.cell? ⟨b,off+i,none⟩=some (.int .i64 (l.getD i 0)))
def yb_ (I:List (ByteArray×Int)):List Int:=I.map (·.2)
def xm_ (ks l:List Int):List Int:=if l.length=ks.length then List.zipWith xd_ ks l else List.replicate ks.length 0
def xi_ (l:List Int):Array Value:=(l.map (Value.int .i64)).toArray
def ab1_ (n:Nat) (L:List Int) (w:World) (e:Ending) (w':World):Prop:=
 e=.returned (.slice (some ⟨w.heap.size,0,none⟩) n n)∧w'.heap[w.heap.size]?=some (.cells (xi_ L) 3)∧w.grownBy w' none
theorem an2_ {w:World} {v:Value} {l:List Int} (h:rd w v l) (hl:0<l.length):∃ b off cap,v=.slice (some ⟨b,off,none⟩) l.length cap∧∀ i,i<l.length→w.cell? ⟨b,off+i,none⟩=some (.int .i64 (l.getD i 0)):=by
 obtain⟨a,cap,rfl,h|⟨b,off,rfl,hc⟩⟩:=h
 ·subst h;simp at hl
 ·exact⟨b,off,cap,rfl,hc⟩
theorem aht_ {ks l:List Int} (h:l.length≠ks.length):xm_ ks l=List.replicate ks.length 0:=by simp[xm_,h]
theorem aas_ (I:List (ByteArray×Int)) (hI:I.length=1∨I.length=2∨I.length=3∨I.length=4∨I.length=5) (g:Nat) (v:Value) (l:List Int) (w:World) (hg:w.heap[g]?=some (.cells (ks_ I) 113)) (hr:rd w v l) :
 Calls Tryz.prog 87 #[.slice (some ⟨g,0,none⟩) I.length I.length,v] w (ab1_ I.length (xm_ (yb_ I) l) w):=by
 by_cases hl:l.length=I.length
 · obtain⟨b,off,cap,rfl,hc⟩:=an2_ hr (by omega);rcases hI with h|h|h|h|h
   · match I,h,l,hl with
     | [(s0,k0)],_,[x0],_=>exact aho_ g b off cap s0 k0 x0 w hg (hc 0 (by simp))
   · match I,h,l,hl with
     | [(s0,k0),(s1,k1)],_,[x0,x1],_=>exact ahq_ g b off cap s0 s1 k0 k1 x0 x1 w hg (hc 0 (by simp)) (hc 1 (by simp))
   · match I,h,l,hl with
     | [(s0,k0),(s1,k1),(s2,k2)],_,[x0,x1,x2],_=>exact ahp_ g b off cap s0 s1 s2 k0 k1 k2 x0 x1 x2 w hg (hc 0 (by simp)) (hc 1 (by simp)) (hc 2 (by simp))
   · match I,h,l,hl with
     | [(s0,k0),(s1,k1),(s2,k2),(s3,k3)],_,[x0,x1,x2,x3],_=>exact ahr_ g b off cap s0 s1 s2 s3 k0 k1 k2 k3 x0 x1 x2 x3 w hg (hc 0 (by simp)) (hc 1 (by simp)) (hc 2 (by simp)) (hc 3 (by simp))
   · match I,h,l,hl with
     | [(s0,k0),(s1,k1),(s2,k2),(s3,k3),(s4,k4)],_,[x0,x1,x2,x3,x4],_=>exact ahs_ g b off cap s0 s1 s2 s3 s4 k0 k1 k2 k3 k4 x0 x1 x2 x3 x4 w hg (hc 0 (by simp)) (hc 1 (by simp)) (hc 2 (by simp)) (hc 3 (by simp)) (hc 4 (by simp))
 · rw[aht_ (by simpa[yb_] using hl)];obtain⟨a,cap,rfl,_⟩:=hr;have hk:(yb_ I).length=I.length:=(by simp[yb_]);rw[hk];rcases hI with h|h|h|h|h <;> rw[h]
   ·exact ajq_ _ _ _ _ _ (by simp;omega)
   ·exact ajs_ _ _ _ _ _ (by simp;omega)
   ·exact ajr_ _ _ _ _ _ (by simp;omega)
   ·exact ajt_ _ _ _ _ _ (by simp;omega)
   ·exact aju_ _ _ _ _ _ (by simp;omega)
end Go.Proofs.YtcgbfhpmkpglkaaGreatDoor.Bl
namespace Go.Proofs.YtcgbfhpmkpglkaaGreatDoor.Bl
open Go.RowKit
attribute [local go_sem ↓] Go.wp_at_zero Go.wp_at_succ
theorem kept {w w':World} {k:Nat} {o:Obj} (hg:w.grownBy w' none) (h:w.heap[k]?=some o):w'.heap[k]?=some o:=(hg.block k (xg_ h) (by simp)).trans h
theorem j7_ {w w':World} {k p:Nat} {o:Obj} (hg:w.grownBy w' (some p)) (h:w.heap[k]?=some o) (hne:k≠p):w'.heap[k]?=some o:=(hg.block k (xg_ h) (by simpa using hne)).trans h
theorem ae2_ (k n:Int) (w:World):Calls Tryz.prog 71 #[.int .i64 k,.int .i64 n] w fun e w'=>e=.returned (.int .i64 (xd_ k n))∧w=w':=(ys_ k n w).mono fun _ _ h=>⟨h.1,h.2.symm⟩
theorem xo_ {w w':World} {v:Value} {l:List Int} (h:rd w v l) (hg:w.grownBy w' none):rd w' v l:=by
 obtain⟨a,cap,rfl,h|⟨b,off,rfl,hc⟩⟩:=h
 ·exact⟨a,cap,rfl,.inl h⟩
 ·exact⟨_,cap,rfl,.inr ⟨b,off,rfl,fun i hi=>hg.cell (hc i hi) (by simp)⟩⟩
theorem qx_ (nm:ByteArray) (P T fS fL fT fV:Nat) (z:Array Value) (I O S:List (ByteArray×Int)) (A:List Int→Array Value) (F:List Int→List Int→Int→List Int×List Int) (vs vi:Value) (l li:List Int) (now:Int) (w:World)
 (hI:I.length=1∨I.length=2∨I.length=3∨I.length=4∨I.length=5) (hS:S.length=1∨S.length=2∨S.length=3∨S.length=4∨S.length=5)
 (hnamed:∀ w,Calls Tryz.prog 86 #[.string nm] w fun e w'=>e=.returned (.tuple #[.iface P (.pointer (some ⟨w.heap.size,0,none⟩)),.bool true])∧w'=w.alloc (.cells z T))
 (hmS:∀ (p:Nat) (w:World),(method 309 P (.pointer (some ⟨p,0,none⟩)) "plantwright/blocks.shape").run Tryz.prog w=.ok (fS,.pointer (some ⟨p,0,none⟩)) w)
 (hmL:∀ (p:Nat) (w:World),(method 309 P (.pointer (some ⟨p,0,none⟩)) "plantwright/blocks.load").run Tryz.prog w=.ok (fL,.pointer (some ⟨p,0,none⟩)) w)
 (hmT:∀ (p:Nat) (w:World),(method 309 P (.pointer (some ⟨p,0,none⟩)) "plantwright/blocks.step").run Tryz.prog w=.ok (fT,.pointer (some ⟨p,0,none⟩)) w)
 (hmV:∀ (p:Nat) (w:World),(method 309 P (.pointer (some ⟨p,0,none⟩)) "plantwright/blocks.save").run Tryz.prog w=.ok (fV,.pointer (some ⟨p,0,none⟩)) w)
 (hnL:∀ (p:Nat) (w:World),(nilAhead 309 P (.pointer (some ⟨p,0,none⟩)) "plantwright/blocks.load").run Tryz.prog w=.ok (some false) w)
 (hnT:∀ (p:Nat) (w:World),(nilAhead 309 P (.pointer (some ⟨p,0,none⟩)) "plantwright/blocks.step").run Tryz.prog w=.ok (some false) w)
 (hcS:∀(args:Array Value) (w:World),(callFunc fS args).run Tryz.prog w=.ok (.enter fS args) w)
 (hcL:∀(args:Array Value) (w:World),(callFunc fL args).run Tryz.prog w=.ok (.enter fL args) w)
 (hcT:∀(args:Array Value) (w:World),(callFunc fT args).run Tryz.prog w=.ok (.enter fT args) w)
 (hcV:∀(args:Array Value) (w:World),(callFunc fV args).run Tryz.prog w=.ok (.enter fV args) w)
 (hshape:∀(p:Nat) (w:World),Calls Tryz.prog fS #[.pointer (some ⟨p,0,none⟩)] w fun e w'=>∃ v,e=.returned v∧Shp w w' v I O S∧w.grownBy w' none)
 (hload:∀(p b:Nat) (w:World),w.heap[p]?=some (.cells z T)→w.heap[b]?=some (.cells (xi_ (xm_ (yb_ S) l)) 3)→p≠b→Calls Tryz.prog fL #[.pointer (some ⟨p,0,none⟩),.slice (some ⟨b,0,none⟩) S.length S.length] w fun e w'=>e=.returned (.tuple #[])∧w'.heap[p]?=some (.cells (A (xm_ (yb_ S) l)) T)∧w.grownBy w' (some p))
 (hstep:∀(p b:Nat) (w:World),w.heap[p]?=some (.cells (A (xm_ (yb_ S) l)) T)→w.heap[b]?=some (.cells (xi_ (xm_ (yb_ I) li)) 3)→p≠b→Calls Tryz.prog fT #[.pointer (some ⟨p,0,none⟩),.slice (some ⟨b,0,none⟩) I.length I.length,.int .i64 (xd_ 5 now)] w fun e w'=>e=.returned (.slice (some ⟨w.heap.size,0,none⟩) O.length O.length)∧w'.heap[w.heap.size]?=some (.cells (xi_ (F (xm_ (yb_ S) l) (xm_ (yb_ I) li) (xd_ 5 now)).2) 3)∧w'.heap[p]?=some (.cells (A (F (xm_ (yb_ S) l) (xm_ (yb_ I) li) (xd_ 5 now)).1) T)∧w.grownBy w' (some p))
 (hsave:∀(p:Nat) (w:World),w.heap[p]?=some (.cells (A (F (xm_ (yb_ S) l) (xm_ (yb_ I) li) (xd_ 5 now)).1) T)→Calls Tryz.prog fV #[.pointer (some ⟨p,0,none⟩)] w fun e w'=>e=.returned (.slice (some ⟨w.heap.size,0,none⟩) S.length S.length)∧w'.heap[w.heap.size]?=some (.cells (xi_ (F (xm_ (yb_ S) l) (xm_ (yb_ I) li) (xd_ 5 now)).1) 3)∧w.grownBy w' none)
 (hr:rd w vs l) (hri:rd w vi li) :
 Calls Tryz.prog 73 #[.string nm,vs,vi,.int .i64 now] w fun e w'=>∃ c1 c2,e=.returned (.tuple #[.slice (some ⟨c1,0,none⟩) S.length S.length,.slice (some ⟨c2,0,none⟩) O.length O.length])∧w.heap.size≤c1∧w.heap.size≤c2∧c1≠c2∧w'.heap[c1]?=some (.cells (xi_ (F (xm_ (yb_ S) l) (xm_ (yb_ I) li) (xd_ 5 now)).1) 3)∧w'.heap[c2]?=some (.cells (xi_ (F (xm_ (yb_ S) l) (xm_ (yb_ I) li) (xd_ 5 now)).2) 3)∧w.grownBy w' none:=by
 go_enter Tryz.func73,Tryz.ntmps73;go_wp2_with (go_at_call 86;refine(hnamed _).mono ?_;rintro e w' ⟨rfl,rfl⟩)
 refine(hshape _ _).mono ?_;rintro e w1 ⟨v,rfl,⟨b1,b2,b3,rfl,hb1,hb2,hb3,n12,n13,n23,hB1,hB2,hB3⟩,hg1⟩;simp at hb1 hb3;have hp1:w1.heap[w.heap.size]?=some (.cells z T):=kept hg1 (heap_alloc_new _ _);have hgw:w.grownBy w1 none:=(xb_ (World.grownBy.refl w none) _).trans hg1;have hpl:w.heap.size<w1.heap.size:=xg_ hp1;have hl1:=xg_ hB1;have hl3:=xg_ hB3;have hp2:(w1.alloc (Obj.cells #[.slice (some ⟨b1,0,none⟩) I.length I.length,.slice (some ⟨b2,0,none⟩) O.length O.length,.slice (some ⟨b3,0,none⟩) S.length S.length] 100)).heap[w.heap.size]?=some (.cells z T):=(xh_ hpl _).trans hp1;have hX:(w1.alloc (Obj.cells #[.slice (some ⟨b1,0,none⟩) I.length I.length,.slice (some ⟨b2,0,none⟩) O.length O.length,.slice (some ⟨b3,0,none⟩) S.length S.length] 100)).heap[w1.heap.size]?=some (.cells #[.slice (some ⟨b1,0,none⟩) I.length I.length,.slice (some ⟨b2,0,none⟩) O.length O.length,.slice (some ⟨b3,0,none⟩) S.length S.length] 100):=heap_alloc_new _ _;have hY1:(w1.alloc (Obj.cells #[.slice (some ⟨b1,0,none⟩) I.length I.length,.slice (some ⟨b2,0,none⟩) O.length O.length,.slice (some ⟨b3,0,none⟩) S.length S.length] 100)).heap[b1]?=some (.cells (ks_ I) 113):=(xh_ hl1 _).trans hB1;have hY3:(w1.alloc (Obj.cells #[.slice (some ⟨b1,0,none⟩) I.length I.length,.slice (some ⟨b2,0,none⟩) O.length O.length,.slice (some ⟨b3,0,none⟩) S.length S.length] 100)).heap[b3]?=some (.cells (ks_ S) 113):=(xh_ hl3 _).trans hB3
 have hgx:w.grownBy (w1.alloc (Obj.cells #[.slice (some ⟨b1,0,none⟩) I.length I.length,.slice (some ⟨b2,0,none⟩) O.length O.length,.slice (some ⟨b3,0,none⟩) S.length S.length] 100)) none:=xb_ hgw _;have hc2:=xa_ hX 2;simp only[List.getElem?_toArray,List.getElem?_cons_succ,List.getElem?_cons_zero] at hc2;go_wp2;go_region_held3 (fun w'=>w'.cell? ⟨w1.heap.size,2,none⟩=some (.slice (some ⟨b3,0,none⟩) S.length S.length)) (((repeat with_reducible refine jh_ ?_);assumption))
  (first
    | (go_at_call 87;go_must (refine(aas_ S hS b3 vs l _ ?_ ?_).mono ?_);(exact hY3);go_must (exact xo_ hr (xf_ hgx));go_must (rintro e w2 ⟨rfl,hW2,hg2⟩);have hc3:=xa_ (kept hg2 ((xe_ _ _).trans hX)) 2;go_must (simp only[List.getElem?_toArray,List.getElem?_cons_succ,List.getElem?_cons_zero] at hc3))
    | (with_reducible refine(hload _ _ _ ?_ ?_ ?_).mono ?_;(exact kept hg2 ((xe_ _ _).trans hp2));(exact Eq.trans (congrArg (fun k=>w2.heap[k]?) (by simp)) hW2);(omega);rintro e w3 ⟨rfl,hp3,hg3⟩;have hX3:=j7_ hg3 (kept hg2 ((xe_ _ _).trans hX)) (by omega);have hc4:=xa_ hX3 2;simp only[List.getElem?_toArray,List.getElem?_cons_succ,List.getElem?_cons_zero] at hc4))
 · have hg13:w.grownBy w3 none:=((xf_ hgx).trans hg2).andThen hg3 (fun j hj=>by simp at hj;omega);have hY13:=j7_ hg3 (kept hg2 ((xe_ _ _).trans hY1)) (by omega);have hx3:=xg_ hX3;have hc5:=xa_ hX3 0;simp only[List.getElem?_toArray,List.getElem?_cons_zero] at hc5;clear hc2 hc3 hc4 hW2 hY3 hX hp2 hY1;go_wp2;go_region_held3 (fun w'=>w'.cell? ⟨w1.heap.size,0,none⟩=some (.slice (some ⟨b1,0,none⟩) I.length I.length)) (((repeat with_reducible refine jh_ ?_);assumption))
    (first
      | (go_at_call 87;go_must (refine(aas_ I hI b1 vi li _ ?_ ?_).mono ?_);(exact(xe_ _ _).trans hY13);(exact xo_ hri (xf_ hg13));(rintro e w4 ⟨rfl,hW4,hg4⟩);have hc6:=xa_ (kept hg4 ((xe_ _ _).trans hX3)) 0;go_must (simp only[List.getElem?_toArray,List.getElem?_cons_zero] at hc6))
      | (go_at_call 71;refine(ae2_ _ _ _).mono ?_;rintro e w' ⟨rfl,rfl⟩)
      | (with_reducible refine(hstep _ _ _ ?_ ?_ ?_).mono ?_;(exact kept hg4 ((xe_ _ _).trans hp3));(exact Eq.trans (congrArg (fun k=>w4.heap[k]?) (by simp)) hW4);(omega);rintro e w5 ⟨rfl,hO5,hp5,hg5⟩;have hX5:=j7_ hg5 (kept hg4 ((xe_ _ _).trans hX3)) (by omega);have hc7:=xa_ hX5 0;simp only[List.getElem?_toArray,List.getElem?_cons_zero] at hc7))
   all_goals go_wp2
   all_goals
    refine(hsave _ _ hp5).mono ?_;rintro e w6 ⟨rfl,hS6,hg6⟩;have hg15:w.grownBy w5 none:=((xf_ hg13).trans hg4).andThen hg5 (fun j hj=>by simp at hj;omega);have s4:w.heap.size≤w4.heap.size:=((xf_ hg13).trans hg4).size;have s5:=xg_ hO5;go_wp2;go_ret2;exact⟨_,_,rfl,by omega,by omega,by omega,hS6,kept hg6 hO5,hg15.trans hg6⟩
 · have hg13:w.grownBy w3 none:=((xf_ hgx).trans hg2).andThen hg3 (fun j hj=>by simp at hj;omega);have hY13:=j7_ hg3 (kept hg2 ((xe_ _ _).trans hY1)) (by omega);have hx3:=xg_ hX3;have hc5:=xa_ hX3 0;simp only[List.getElem?_toArray,List.getElem?_cons_zero] at hc5;clear hc2 hc3 hc4 hW2 hY3 hX hp2 hY1;go_wp2;go_region_held3 (fun w'=>w'.cell? ⟨w1.heap.size,0,none⟩=some (.slice (some ⟨b1,0,none⟩) I.length I.length)) (((repeat with_reducible refine jh_ ?_);assumption))
    (first
      | (go_at_call 87;go_must (refine(aas_ I hI b1 vi li _ ?_ ?_).mono ?_);(exact(xe_ _ _).trans hY13);(exact xo_ hri (xf_ hg13));(rintro e w4 ⟨rfl,hW4,hg4⟩);have hc6:=xa_ (kept hg4 ((xe_ _ _).trans hX3)) 0;go_must (simp only[List.getElem?_toArray,List.getElem?_cons_zero] at hc6))
      | (go_at_call 71;refine(ae2_ _ _ _).mono ?_;rintro e w' ⟨rfl,rfl⟩)
      | (with_reducible refine(hstep _ _ _ ?_ ?_ ?_).mono ?_;(exact kept hg4 ((xe_ _ _).trans hp3));(exact Eq.trans (congrArg (fun k=>w4.heap[k]?) (by simp)) hW4);(omega);rintro e w5 ⟨rfl,hO5,hp5,hg5⟩;have hX5:=j7_ hg5 (kept hg4 ((xe_ _ _).trans hX3)) (by omega);have hc7:=xa_ hX5 0;simp only[List.getElem?_toArray,List.getElem?_cons_zero] at hc7))
   all_goals go_wp2
   all_goals
    refine(hsave _ _ hp5).mono ?_;rintro e w6 ⟨rfl,hS6,hg6⟩;have hg15:w.grownBy w5 none:=((xf_ hg13).trans hg4).andThen hg5 (fun j hj=>by simp at hj;omega);have s4:w.heap.size≤w4.heap.size:=((xf_ hg13).trans hg4).size;have s5:=xg_ hO5;go_wp2;go_ret2;exact⟨_,_,rfl,by omega,by omega,by omega,hS6,kept hg6 hO5,hg15.trans hg6⟩
theorem vu_ (p:Nat) (n:Int) (u0 u1:Value) (w:World) (d0:w.cell? ⟨p,0,none⟩=some u0) (d1:w.cell? ⟨p,1,none⟩=some u1) (f0:w.frozen? ⟨p,0,none⟩=false) (f1:w.frozen? ⟨p,1,none⟩=false) :
 Calls Tryz.prog 129 #[.pointer (some ⟨p,0,none⟩),.int .i64 n] w fun e w'=>e=.returned (.tuple #[])∧w'=(w.setCell ⟨p,0,none⟩ (.bool true)).setCell ⟨p,1,none⟩ (.int .i64 n):=by
 go_enter Tryz.func129,Tryz.ntmps129;go_wp2;go_end0;exact⟨rfl,rfl⟩
theorem qf_ (p:Nat) (u0 u1:Value) (w:World) (d0:w.cell? ⟨p,0,none⟩=some u0) (d1:w.cell? ⟨p,1,none⟩=some u1) (f0:w.frozen? ⟨p,0,none⟩=false) (f1:w.frozen? ⟨p,1,none⟩=false) :
 Calls Tryz.prog 118 #[.pointer (some ⟨p,0,none⟩)] w fun e w'=>e=.returned (.tuple #[])∧w'=(w.setCell ⟨p,0,none⟩ (.bool false)).setCell ⟨p,1,none⟩ (.int .i64 0):=by
 go_enter Tryz.func118,Tryz.ntmps118;go_wp2;go_end0;exact⟨rfl,rfl⟩
def xz_ (now since:Int):Int:=xd_ 5 (now - since)
theorem zn_ (p:Nat) (s pt now:Int) (u3:Value) (w:World) (d1:w.cell? ⟨p,1,none⟩=some (.int .i64 s)) (d3:w.cell? ⟨p,3,none⟩=some u3) (f3:w.frozen? ⟨p,3,none⟩=false)
 (hs0:0≤s) (hs1:s≤4294967295) (hn0:0≤now) (hn1:now≤4294967295) :
 Calls Tryz.prog 123 #[.pointer (some ⟨p,0,none⟩),.int .i64 pt,.int .i64 now] w fun e w'=>e=.returned (.bool (decide (pt≤xz_ now s)))∧w'=w.setCell ⟨p,3,none⟩ (.int .i64 (min (xz_ now s) pt)):=by
 obtain⟨g,hg⟩:∃ g,xz_ now s=g:=⟨_,rfl⟩;have hg':xd_ 5 (now - s)=g:=hg;rw[hg];clear hg;by_cases h:pt≤g
 · have e1:decide (pt≤g)=true:=(by simpa using h);have HM:Hid (min g pt=pt):=(by show min g pt=pt;omega);rw[e1,HM.out];go_enter Tryz.func123,Tryz.ntmps123;go_wp2_with (go_at_call 71;refine(ys_ _ _ _).mono ?_;rintro e w' ⟨rfl,rfl⟩)
   all_goals go_ret
   all_goals refine⟨rfl,?_⟩
   all_goals(first|rfl|(have e:g=pt:=by omega);rw[e])
 · have e1:decide (pt≤g)=false:=(by simpa using h);have HM:Hid (min g pt=g):=(by show min g pt=g;omega);rw[e1,HM.out];go_enter Tryz.func123,Tryz.ntmps123;go_wp2_with (go_at_call 71;refine(ys_ _ _ _).mono ?_;rintro e w' ⟨rfl,rfl⟩)
   all_goals go_ret
   all_goals refine⟨rfl,?_⟩
   all_goals(first|rfl|(have e:g=pt:=by omega);rw[e])
theorem y5_ (p:Nat) (q:Bool) (a:Int) (w:World) (d3:w.cell? ⟨p,3,none⟩=some (.int .i64 a)) :
 Calls Tryz.prog 122 #[.pointer (some ⟨p,0,none⟩),.bool q] w fun e w'=>e=.returned (.slice (some ⟨w.heap.size,0,none⟩) 2 2)∧w'=(w.alloc (.cells #[.int .i64 (x1_ q),.int .i64 a] 3)).drew:=by
 have hlt:p<w.heap.size:=World.block_lt_of_cell? w _ d3;go_enter Tryz.func122,Tryz.ntmps122;go_wp2;go_region_held3 (fun w'=>w'.cell? ⟨p,3,none⟩=some (.int .i64 a)) (go_keep) (first|(go_at_call 120;refine(xx_ _ _).mono ?_;rintro e w' ⟨rfl,rfl⟩))
 all_goals go_wp2
 all_goals go_ret
 all_goals exact⟨rfl,rfl⟩
end Go.Proofs.YtcgbfhpmkpglkaaGreatDoor.Bl
namespace Go.Proofs.YtcgbfhpmkpglkaaGreatDoor.Bl
open Go.RowKit
theorem k3_ {P:Prop} (h:P:=by ((repeat (first | with_reducible refine jh_ ?_ | with_reducible refine ajp_ (by first | with_reducible assumption | (simp;assumption)) ?_));(first | go_cell_look | (simp [*];done) | go_cell))):P:=h
theorem k4_ {P:Prop} (h:P:=by (first | (simp [*];done) | (go_simp;done))):P:=h
theorem kg_ {P:Prop} (h:P:=by (repeat (first | with_reducible exact World.grownBy.refl _ _ | with_reducible apply x3_ | with_reducible apply xb_ | with_reducible apply xf_))):P:=h
end Go.Proofs.YtcgbfhpmkpglkaaGreatDoor.Bl
namespace Go.Proofs.YtcgbfhpmkpglkaaGreatDoor.Bl
open Go.RowKit
attribute [local go_sem ↓] Go.wp_at_zero Go.wp_at_succ
theorem av5_ (p b T:Nat) (r m:Bool) (s a i0 pt now:Int) (w:World) (hp:w.heap[p]?=some (.cells #[.bool r,.int .i64 s,.bool m,.int .i64 a] T)) (hb:w.heap[b]?=some (.cells #[.int .i64 i0,.int .i64 pt] 3)) (hne:p≠b) (h0:(i0 != 0)=false) :
 Calls Tryz.prog 117 #[.pointer (some ⟨p,0,none⟩),.slice (some ⟨b,0,none⟩) 2 2,.int .i64 now] w fun e w'=>e=.returned (.slice (some ⟨w.heap.size,0,none⟩) 2 2)∧w'.heap[w.heap.size]?=some (.cells #[.int .i64 0,.int .i64 0] 3)∧w'.heap[p]?=some (.cells #[.bool false,.int .i64 0,.bool false,.int .i64 0] T)∧w.grownBy w' (some p):=by
 have hpl:=xg_ hp;have c0:=xa_ hb 0;have c1:=xa_ hb 1;have d0:=xa_ hp 0;have f0:=xc_ hp 0;have d1:=xa_ hp 1;have f1:=xc_ hp 1;have d2:=xa_ hp 2;have f2:=xc_ hp 2;have d3:=xa_ hp 3;have f3:=xc_ hp 3;simp at c0 c1 d0 d1 d2 d3;go_enter Tryz.func117,Tryz.ntmps117;go_wp2_with (first|(go_at_call 119;refine(xn_ _ _).mono ?_;rintro e w' ⟨rfl,rfl⟩)|(go_at_call 122;refine(y5_ p _ 0 _ ?_).mono ?_;(exact k3_);rintro e w' ⟨rfl,rfl⟩))
 all_goals go_ret
 all_goals refine⟨rfl,?_,?_,?_⟩
 · repeat(with_reducible refine(xe_ _ _).trans ?_)
   exact xj_ (by simp) _
 · repeat(with_reducible refine(xe_ _ _).trans ?_)
   refine(xh_ (pl_ hpl) _).trans ?_;repeat(with_reducible refine(xe_ _ _).trans ?_)
   apply Eq.trans
   ·repeat(first|with_reducible exact hp|apply xk_)
   ·simp
 ·exact kg_
theorem av6_ (p b T:Nat) (s a i0 pt now:Int) (w:World) (hp:w.heap[p]?=some (.cells #[.bool true,.int .i64 s,.bool true,.int .i64 a] T)) (hb:w.heap[b]?=some (.cells #[.int .i64 i0,.int .i64 pt] 3)) (hne:p≠b) (h0:(i0 != 0)=true) :
 Calls Tryz.prog 117 #[.pointer (some ⟨p,0,none⟩),.slice (some ⟨b,0,none⟩) 2 2,.int .i64 now] w fun e w'=>e=.returned (.slice (some ⟨w.heap.size,0,none⟩) 2 2)∧w'.heap[w.heap.size]?=some (.cells #[.int .i64 1,.int .i64 a] 3)∧w'.heap[p]?=some (.cells #[.bool true,.int .i64 s,.bool true,.int .i64 a] T)∧w.grownBy w' (some p):=by
 have hpl:=xg_ hp;have c0:=xa_ hb 0;have c1:=xa_ hb 1;have d0:=xa_ hp 0;have f0:=xc_ hp 0;have d1:=xa_ hp 1;have f1:=xc_ hp 1;have d2:=xa_ hp 2;have f2:=xc_ hp 2;have d3:=xa_ hp 3;have f3:=xc_ hp 3;simp at c0 c1 d0 d1 d2 d3;go_enter Tryz.func117,Tryz.ntmps117;go_wp2_with (go_at_call 119;refine(xn_ _ _).mono ?_;rintro e w' ⟨rfl,rfl⟩)
 go_region_held3 (fun w'=>w'.cell? ⟨p,2,none⟩=some (.bool true)) ((exact k3_)) (first|(go_at_call 122;refine(y5_ p _ a _ ?_).mono ?_;(exact k3_);rintro e w' ⟨rfl,rfl⟩))
 go_wp2;all_goals go_ret
 all_goals refine⟨rfl,?_,?_,?_⟩
 · repeat(with_reducible refine(xe_ _ _).trans ?_)
   exact xj_ (by simp) _
 · repeat(with_reducible refine(xe_ _ _).trans ?_)
   refine(xh_ (pl_ hpl) _).trans ?_;repeat(with_reducible refine(xe_ _ _).trans ?_)
   apply Eq.trans
   ·repeat(first|with_reducible exact hp|apply xk_)
   ·simp
 ·exact kg_
theorem av7_ (p b T:Nat) (s a i0 pt now:Int) (w:World) (hp:w.heap[p]?=some (.cells #[.bool true,.int .i64 s,.bool false,.int .i64 a] T)) (hb:w.heap[b]?=some (.cells #[.int .i64 i0,.int .i64 pt] 3)) (hne:p≠b) (h0:(i0 != 0)=true) (hs0:0≤s) (hs1:s≤4294967295) (hn0:0≤now) (hn1:now≤4294967295) :
 Calls Tryz.prog 117 #[.pointer (some ⟨p,0,none⟩),.slice (some ⟨b,0,none⟩) 2 2,.int .i64 now] w fun e w'=>e=.returned (.slice (some ⟨w.heap.size,0,none⟩) 2 2)∧w'.heap[w.heap.size]?=some (.cells #[.int .i64 (x1_ (decide (pt≤xz_ now s))),.int .i64 (min (xz_ now s) pt)] 3)∧w'.heap[p]?=some (.cells #[.bool true,.int .i64 s,.bool (decide (pt≤xz_ now s)),.int .i64 (min (xz_ now s) pt)] T)∧w.grownBy w' (some p):=by
 have hpl:=xg_ hp;have c0:=xa_ hb 0;have c1:=xa_ hb 1;have d0:=xa_ hp 0;have f0:=xc_ hp 0;have d1:=xa_ hp 1;have f1:=xc_ hp 1;have d2:=xa_ hp 2;have f2:=xc_ hp 2;have d3:=xa_ hp 3;have f3:=xc_ hp 3;simp at c0 c1 d0 d1 d2 d3;obtain⟨g,hg⟩:∃ g,xz_ now s=g:=⟨_,rfl⟩;rw[hg];obtain⟨q,hq⟩:∃ q,decide (pt≤g)=q:=⟨_,rfl⟩;obtain⟨t,ht⟩:∃ t,min g pt=t:=⟨_,rfl⟩;rw[hq,ht];go_enter Tryz.func117,Tryz.ntmps117;go_wp2_with (go_at_call 119;refine(xn_ _ _).mono ?_;rintro e w' ⟨rfl,rfl⟩)
 go_region_held3 (fun w'=>w'.cell? ⟨b,1,none⟩=some (.int .i64 pt)) ((exact k3_)) (first|(go_at_call 123;refine(zn_ p s _ _ (.int .i64 a) _ ?_ ?_ ?_ hs0 hs1 hn0 hn1).mono ?_;(exact k3_);(exact k3_);(exact k4_);rintro e w' ⟨rfl,rfl⟩))
 go_wp2;go_region_held3 (fun w'=>w'.cell? ⟨p,2,none⟩=some (.bool q)) ((exact k3_)) (first|(go_at_call 122;refine(y5_ p _ t _ ?_).mono ?_;(exact k3_);rintro e w' ⟨rfl,rfl⟩))
 go_wp2;all_goals go_ret
 all_goals refine⟨rfl,?_,?_,?_⟩
 · repeat(with_reducible refine(xe_ _ _).trans ?_)
   exact xj_ (by simp) _
 · repeat(with_reducible refine(xe_ _ _).trans ?_)
   refine(xh_ (pl_ hpl) _).trans ?_;repeat(with_reducible refine(xe_ _ _).trans ?_)
   apply Eq.trans
   ·repeat(first|with_reducible exact hp|apply xk_)
   ·simp
 ·exact kg_
theorem av8_ (p b T:Nat) (m:Bool) (s a i0 pt now:Int) (w:World) (hp:w.heap[p]?=some (.cells #[.bool false,.int .i64 s,.bool m,.int .i64 a] T)) (hb:w.heap[b]?=some (.cells #[.int .i64 i0,.int .i64 pt] 3)) (hne:p≠b) (h0:(i0 != 0)=true) (hn0:0≤now) (hn1:now≤4294967295) :
 Calls Tryz.prog 117 #[.pointer (some ⟨p,0,none⟩),.slice (some ⟨b,0,none⟩) 2 2,.int .i64 now] w fun e w'=>e=.returned (.slice (some ⟨w.heap.size,0,none⟩) 2 2)∧w'.heap[w.heap.size]?=some (.cells #[.int .i64 (x1_ (decide (pt≤xz_ now now))),.int .i64 (min (xz_ now now) pt)] 3)∧w'.heap[p]?=some (.cells #[.bool true,.int .i64 now,.bool (decide (pt≤xz_ now now)),.int .i64 (min (xz_ now now) pt)] T)∧w.grownBy w' (some p):=by
 have hpl:=xg_ hp;have c0:=xa_ hb 0;have c1:=xa_ hb 1;have d0:=xa_ hp 0;have f0:=xc_ hp 0;have d1:=xa_ hp 1;have f1:=xc_ hp 1;have d2:=xa_ hp 2;have f2:=xc_ hp 2;have d3:=xa_ hp 3;have f3:=xc_ hp 3;simp at c0 c1 d0 d1 d2 d3;obtain⟨g,hg⟩:∃ g,xz_ now now=g:=⟨_,rfl⟩;rw[hg];obtain⟨q,hq⟩:∃ q,decide (pt≤g)=q:=⟨_,rfl⟩;obtain⟨t,ht⟩:∃ t,min g pt=t:=⟨_,rfl⟩;rw[hq,ht];go_enter Tryz.func117,Tryz.ntmps117;go_wp2_with (go_at_call 119;refine(xn_ _ _).mono ?_;rintro e w' ⟨rfl,rfl⟩)
 go_region_held3 (fun w'=>w'.cell? ⟨b,1,none⟩=some (.int .i64 pt)) ((exact k3_)) (first|(go_at_call 123;refine(zn_ p now _ _ (.int .i64 0) _ ?_ ?_ ?_ hn0 hn1 hn0 hn1).mono ?_;(exact k3_);(exact k3_);(exact k4_);rintro e w' ⟨rfl,rfl⟩))
 go_wp2;go_region_held3 (fun w'=>w'.cell? ⟨p,2,none⟩=some (.bool q)) ((exact k3_)) (first|(go_at_call 122;refine(y5_ p _ t _ ?_).mono ?_;(exact k3_);rintro e w' ⟨rfl,rfl⟩))
 go_wp2;all_goals go_ret
 all_goals refine⟨rfl,?_,?_,?_⟩
 · repeat(with_reducible refine(xe_ _ _).trans ?_)
   exact xj_ (by simp) _
 · repeat(with_reducible refine(xe_ _ _).trans ?_)
   refine(xh_ (pl_ hpl) _).trans ?_;repeat(with_reducible refine(xe_ _ _).trans ?_)
   apply Eq.trans
   ·repeat(first|with_reducible exact hp|apply xk_)
   ·simp
 ·exact kg_
end Go.Proofs.YtcgbfhpmkpglkaaGreatDoor.Bl
