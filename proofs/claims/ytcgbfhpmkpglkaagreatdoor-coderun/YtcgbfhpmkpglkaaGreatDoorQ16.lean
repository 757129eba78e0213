/- Texts put together: BlI, BlH3, BlM, BlS1, BlT1. -/
import Derived.Test.YtcgbfhpmkpglkaaGreatDoorQ15
import Derived.Test.YtcgbfhpmkpglkaaGreatDoorQ05
set_option linter.unusedVariables false
set_option linter.unusedSimpArgs false
set_option maxHeartbeats 8000000
namespace Go.Proofs.YtcgbfhpmkpglkaaGreatDoor.Bl
open Go.RowKit
def A4:List Int→Array Value
 | [a,b,c,d]=>#[.bool (a != 0),.int .i64 b,.bool (c != 0),.int .i64 d]
 | _=>#[]
def A2:List Int→Array Value
 | [a,b]=>#[.bool (a != 0),.int .i64 b]
 | _=>#[]
def A3:List Int→Array Value
 | [a,b,c]=>#[.bool (a != 0),.bool (b != 0),.int .i64 c]
 | _=>#[]
def A1:List Int→Array Value
 | [a]=>#[.bool (a != 0)]
 | _=>#[]
def A1i:List Int→Array Value
 | [a]=>#[.int .i64 a]
 | _=>#[]
def jy_:List Int→List Int→Int→List Int×List Int
 | [r,s,m,a],[i,pt],now=>
  if i=0 then([0,0,0,0],[0,0])
  else if r=0 then([1,now,x1_ (decide (pt≤xz_ now now)),min (xz_ now now) pt],[x1_ (decide (pt≤xz_ now now)),min (xz_ now now) pt])
  else if m=0 then([1,s,x1_ (decide (pt≤xz_ now s)),min (xz_ now s) pt],[x1_ (decide (pt≤xz_ now s)),min (xz_ now s) pt])
  else([1,s,1,a],[1,a])
 | _,_,_=>([],[])
def qg_ (on now s pt:Int):List Int×List Int:=
 if pt≤xz_ now s then([0,0,on,min (xz_ now s) pt],[0,min (xz_ now s) pt]) else([1,s,on,min (xz_ now s) pt],[1,min (xz_ now s) pt])
def qv_:List Int→List Int→Int→List Int×List Int
 | [r,s,m,a],[i,pt],now=>
  if i=0 then
   if m=0 then([r,s,0,a],[0,a])
   else if pt≤xz_ now (if r=0 then now else s) then([0,0,0,min (xz_ now (if r=0 then now else s)) pt],[0,min (xz_ now (if r=0 then now else s)) pt])
   else([1,if r=0 then now else s,1,min (xz_ now (if r=0 then now else s)) pt],[1,min (xz_ now (if r=0 then now else s)) pt])
  else([0,0,1,0],[1,0])
 | _,_,_=>([],[])
def tpF:List Int→List Int→Int→List Int×List Int
 | [r,s,m,a],[i,pt],now=>
  if r=0 then
   if i=0 then([0,s,0,0],[0,0])
   else if m=0 then qg_ 1 now now pt
   else([0,s,1,a],[0,a])
  else qg_ i now s pt
 | _,_,_=>([],[])
def qr_:List Int→List Int→Int→List Int×List Int
 | [p,n],[c,r,pv],_=>
  if r=0 then
   if c=0 then([c,n],[x1_ (decide (pv≤n)),n])
   else if p=0 then([c,qk_ n],[x1_ (decide (pv≤qk_ n)),qk_ n])
   else([c,n],[x1_ (decide (pv≤n)),n])
  else([c,0],[x1_ (decide (pv≤0)),0])
 | _,_,_=>([],[])
def qs_:List Int→List Int→Int→List Int×List Int
 | [p,n],[c,r,pv],_=>
  if r=0 then
   if c=0 then([c,n],[x1_ (decide (n≤0)),n])
   else if p=0 then([c,ql_ n],[x1_ (decide (ql_ n≤0)),ql_ n])
   else([c,n],[x1_ (decide (n≤0)),n])
  else([c,pv],[x1_ (decide (pv≤0)),pv])
 | _,_,_=>([],[])
def udN (u d n cu cd:Int):Int:=
 if cu=0 then(if cd=0 then n else if d=0 then ql_ n else n)
 else if u=0 then(if cd=0 then qk_ n else if d=0 then n else qk_ n)
 else(if cd=0 then n else if d=0 then ql_ n else n)
def yn_:List Int→List Int→Int→List Int×List Int
 | [u,d,n],[cu,cd,r,ld,pv],_=>
  if r=0 then
   if ld=0 then([cu,cd,udN u d n cu cd],[x1_ (decide (pv≤udN u d n cu cd)),x1_ (decide (udN u d n cu cd≤0)),udN u d n cu cd])
   else([cu,cd,pv],[1,x1_ (decide (pv≤0)),pv])
  else([cu,cd,0],[x1_ (decide (pv≤0)),1,0])
 | _,_,_=>([],[])
def qi_:List Int→List Int→Int→List Int×List Int
 | [p],[c],_=>([c],[if c=0 then 0 else if p=0 then 1 else 0])
 | _,_,_=>([],[])
def qj_:List Int→List Int→Int→List Int×List Int
 | [p],[c],_=>([c],[if c=0 then(if p=0 then 0 else 1) else 0])
 | _,_,_=>([],[])
def srN (o s r:Int):Int:=if s=0 then(if o=0 then 0 else if r=0 then 1 else 0) else 1
def srF:List Int→List Int→Int→List Int×List Int
 | [o],[s,r],_=>([srN o s r],[srN o s r])
 | _,_,_=>([],[])
def rsN (o s r:Int):Int:=if r=0 then(if s=0 then(if o=0 then 0 else 1) else 1) else 0
def rsF:List Int→List Int→Int→List Int×List Int
 | [o],[s,r],_=>([rsN o s r],[rsN o s r])
 | _,_,_=>([],[])
def y2_ (a x k:Int):Int:=if k<0 then a else if x - a < -k then a - k else if x - a≤k then x else a+k
def zl_:List Int→List Int→Int→List Int×List Int
 | [a],[x,k],_=>([y2_ a x k],[y2_ a x k])
 | _,_,_=>([],[])
def zr_ (o x hi lo:Int):Int:=if hi≤x then 1 else if x≤lo then 0 else o
def qh_:List Int→List Int→Int→List Int×List Int
 | [o],[x,hi,lo],_=>([zr_ o x hi lo],[zr_ o x hi lo])
 | _,_,_=>([],[])
theorem jb_ (k:Int):xd_ k 0=0:=by unfold xd_;repeat' split;all_goals omega
theorem qp_ (k0:Int) (l:List Int):∃ a,xm_ [k0] l=[xd_ k0 a]:=by
 unfold xm_;by_cases h:l.length=[k0].length
 · rw[if_pos h];match l,h with
   | [a],_=>exact⟨a,rfl⟩
 ·rw[if_neg h];exact⟨0,by simp[jb_]⟩
theorem qy_ (k0 k1:Int) (l:List Int):∃ a b,xm_ [k0,k1] l=[xd_ k0 a,xd_ k1 b]:=by
 unfold xm_;by_cases h:l.length=[k0,k1].length
 · rw[if_pos h];match l,h with
   | [a,b],_=>exact⟨a,b,rfl⟩
 ·rw[if_neg h];exact⟨0,0,by simp[jb_,List.replicate]⟩
theorem uq_ (k0 k1 k2:Int) (l:List Int):∃ a b c,xm_ [k0,k1,k2] l=[xd_ k0 a,xd_ k1 b,xd_ k2 c]:=by
 unfold xm_;by_cases h:l.length=[k0,k1,k2].length
 · rw[if_pos h];match l,h with
   | [a,b,c],_=>exact⟨a,b,c,rfl⟩
 ·rw[if_neg h];exact⟨0,0,0,by simp[jb_,List.replicate]⟩
theorem abj_ (k0 k1 k2 k3:Int) (l:List Int):∃ a b c d,xm_ [k0,k1,k2,k3] l=[xd_ k0 a,xd_ k1 b,xd_ k2 c,xd_ k3 d]:=by
 unfold xm_;by_cases h:l.length=[k0,k1,k2,k3].length
 · rw[if_pos h];match l,h with
   | [a,b,c,d],_=>exact⟨a,b,c,d,rfl⟩
 ·rw[if_neg h];exact⟨0,0,0,0,by simp[jb_,List.replicate]⟩
theorem apj_ (k0 k1 k2 k3 k4:Int) (l:List Int):∃ a b c d e,xm_ [k0,k1,k2,k3,k4] l=[xd_ k0 a,xd_ k1 b,xd_ k2 c,xd_ k3 d,xd_ k4 e]:=by
 unfold xm_;by_cases h:l.length=[k0,k1,k2,k3,k4].length
 · rw[if_pos h];match l,h with
   | [a,b,c,d,e],_=>exact⟨a,b,c,d,e,rfl⟩
 ·rw[if_neg h];exact⟨0,0,0,0,0,by simp[jb_,List.replicate]⟩
theorem ye_ (a:Int):xd_ 1 a=0∨xd_ 1 a=1:=by rw[uc_];omega
theorem q6_ (a:Int) : -32768≤xd_ 2 a∧xd_ 2 a≤32767:=by rw[ve_];omega
theorem yo_ (a:Int):0≤xd_ 5 a∧xd_ 5 a≤4294967295:=by rw[aci_];omega
def zf_ (n m:Nat) (R:List Int×List Int) (w:World) (e:Ending) (w':World):Prop:=
 ∃ c1 c2,e=.returned (.tuple #[.slice (some ⟨c1,0,none⟩) n n,.slice (some ⟨c2,0,none⟩) m m])∧w.heap.size≤c1∧w.heap.size≤c2∧c1≠c2∧w'.heap[c1]?=some (.cells (xi_ R.1) 3)∧w'.heap[c2]?=some (.cells (xi_ R.2) 3)∧w.grownBy w' none
def ur_ (nm:ByteArray) (n m:Nat) (kS kI:List Int) (F:List Int→List Int→Int→List Int×List Int):Prop:=
 ∀(vs vi:Value) (l li:List Int) (now:Int) (w:World),rd w vs l→rd w vi li→Calls Tryz.prog 73 #[.string nm,vs,vi,.int .i64 now] w (zf_ n m (F (xm_ kS l) (xm_ kI li) (xd_ 5 now)) w)
theorem aln_ (b:Bool):(x1_ b != 0)=b:=by cases b <;> rfl
theorem aae_ {x:Int} (h:x=0∨x=1):x1_ (x != 0)=x:=by rcases h with rfl|rfl <;> rfl
theorem asx_ (b:Bool):x1_ b=0∨x1_ b=1:=by cases b <;> simp[x1_]
end Go.Proofs.YtcgbfhpmkpglkaaGreatDoor.Bl
namespace Go.Proofs.YtcgbfhpmkpglkaaGreatDoor.Bl
open Go.RowKit
attribute [local go_sem ↓] Go.wp_at_zero Go.wp_at_succ
theorem asn_ (p b T:Nat) (s a i0 pt now:Int) (w:World) (hp:w.heap[p]?=some (.cells #[.bool true,.int .i64 s,.bool true,.int .i64 a] T)) (hb:w.heap[b]?=some (.cells #[.int .i64 i0,.int .i64 pt] 3)) (hne:p≠b) (h0:(i0 != 0)=true) (hs0:0≤s) (hs1:s≤4294967295) (hn0:0≤now) (hn1:now≤4294967295) (ho:decide (pt≤xz_ now s)=true) :
 Calls Tryz.prog 131 #[.pointer (some ⟨p,0,none⟩),.slice (some ⟨b,0,none⟩) 2 2,.int .i64 now] w fun e w'=>e=.returned (.slice (some ⟨w.heap.size,0,none⟩) 2 2)∧w'.heap[w.heap.size]?=some (.cells #[.int .i64 0,.int .i64 (min (xz_ now s) pt)] 3)∧w'.heap[p]?=some (.cells #[.bool false,.int .i64 0,.bool true,.int .i64 (min (xz_ now s) pt)] T)∧w.grownBy w' (some p):=by
 have hpl:=xg_ hp;have c0:=xa_ hb 0;have c1:=xa_ hb 1;have d0:=xa_ hp 0;have f0:=xc_ hp 0;have d1:=xa_ hp 1;have f1:=xc_ hp 1;have d2:=xa_ hp 2;have f2:=xc_ hp 2;have d3:=xa_ hp 3;have f3:=xc_ hp 3;simp at c0 c1 d0 d1 d2 d3;obtain⟨g,hg⟩:∃ g,xz_ now s=g:=⟨_,rfl⟩;rw[hg] at ho ⊢;obtain⟨t,ht⟩:∃ t,min g pt=t:=⟨_,rfl⟩;rw[ht];go_enter Tryz.func131,Tryz.ntmps131;go_wp2_with (go_at_call 119;refine(xn_ _ _).mono ?_;rintro e w' ⟨rfl,rfl⟩)
 go_region_held3 (fun w'=>w'.cell? ⟨b,1,none⟩=some (.int .i64 pt)) ((exact k3_)) (first|(go_at_call 123;refine(zn_ p s _ _ (.int .i64 a) _ ?_ ?_ ?_ hs0 hs1 hn0 hn1).mono ?_;(exact k3_);(exact k3_);(exact k4_);rintro e w' ⟨rfl,rfl⟩))
 go_wp2_with (go_at_call 118;refine(qf_ p (.bool true) (.int .i64 s) _ ?_ ?_ ?_ ?_).mono ?_;(exact k3_);(exact k3_);(exact k4_);(exact k4_);rintro e w' ⟨rfl,rfl⟩)
 go_region_held3 (fun w'=>w'.cell? ⟨p,0,none⟩=some (.bool false)) ((exact k3_)) (first|(go_at_call 122;refine(y5_ p _ t _ ?_).mono ?_;(exact k3_);rintro e w' ⟨rfl,rfl⟩))
 go_wp2;all_goals go_ret
 all_goals refine⟨rfl,?_,?_,?_⟩
 · repeat(with_reducible refine(xe_ _ _).trans ?_)
   exact xj_ (by simp) _
 · repeat(with_reducible refine(xe_ _ _).trans ?_)
   refine(xh_ (pl_ hpl) _).trans ?_;repeat(with_reducible refine(xe_ _ _).trans ?_)
   apply Eq.trans
   ·repeat(first|with_reducible exact hp|apply xk_)
   ·simp
 ·exact kg_
theorem aso_ (p b T:Nat) (s a i0 pt now:Int) (w:World) (hp:w.heap[p]?=some (.cells #[.bool true,.int .i64 s,.bool true,.int .i64 a] T)) (hb:w.heap[b]?=some (.cells #[.int .i64 i0,.int .i64 pt] 3)) (hne:p≠b) (h0:(i0 != 0)=true) (hs0:0≤s) (hs1:s≤4294967295) (hn0:0≤now) (hn1:now≤4294967295) (ho:decide (pt≤xz_ now s)=false) :
 Calls Tryz.prog 131 #[.pointer (some ⟨p,0,none⟩),.slice (some ⟨b,0,none⟩) 2 2,.int .i64 now] w fun e w'=>e=.returned (.slice (some ⟨w.heap.size,0,none⟩) 2 2)∧w'.heap[w.heap.size]?=some (.cells #[.int .i64 1,.int .i64 (min (xz_ now s) pt)] 3)∧w'.heap[p]?=some (.cells #[.bool true,.int .i64 s,.bool true,.int .i64 (min (xz_ now s) pt)] T)∧w.grownBy w' (some p):=by
 have hpl:=xg_ hp;have c0:=xa_ hb 0;have c1:=xa_ hb 1;have d0:=xa_ hp 0;have f0:=xc_ hp 0;have d1:=xa_ hp 1;have f1:=xc_ hp 1;have d2:=xa_ hp 2;have f2:=xc_ hp 2;have d3:=xa_ hp 3;have f3:=xc_ hp 3;simp at c0 c1 d0 d1 d2 d3;obtain⟨g,hg⟩:∃ g,xz_ now s=g:=⟨_,rfl⟩;rw[hg] at ho ⊢;obtain⟨t,ht⟩:∃ t,min g pt=t:=⟨_,rfl⟩;rw[ht];go_enter Tryz.func131,Tryz.ntmps131;go_wp2_with (go_at_call 119;refine(xn_ _ _).mono ?_;rintro e w' ⟨rfl,rfl⟩)
 go_region_held3 (fun w'=>w'.cell? ⟨b,1,none⟩=some (.int .i64 pt)) ((exact k3_)) (first|(go_at_call 123;refine(zn_ p s _ _ (.int .i64 a) _ ?_ ?_ ?_ hs0 hs1 hn0 hn1).mono ?_;(exact k3_);(exact k3_);(exact k4_);rintro e w' ⟨rfl,rfl⟩))
 go_wp2_with (go_at_call 118;refine(qf_ p (.bool true) (.int .i64 s) _ ?_ ?_ ?_ ?_).mono ?_;(exact k3_);(exact k3_);(exact k4_);(exact k4_);rintro e w' ⟨rfl,rfl⟩)
 go_region_held3 (fun w'=>w'.cell? ⟨p,0,none⟩=some (.bool true)) ((exact k3_)) (first|(go_at_call 122;refine(y5_ p _ t _ ?_).mono ?_;(exact k3_);rintro e w' ⟨rfl,rfl⟩))
 go_wp2;all_goals go_ret
 all_goals refine⟨rfl,?_,?_,?_⟩
 · repeat(with_reducible refine(xe_ _ _).trans ?_)
   exact xj_ (by simp) _
 · repeat(with_reducible refine(xe_ _ _).trans ?_)
   refine(xh_ (pl_ hpl) _).trans ?_;repeat(with_reducible refine(xe_ _ _).trans ?_)
   apply Eq.trans
   ·repeat(first|with_reducible exact hp|apply xk_)
   ·simp
 ·exact kg_
theorem asp_ (p b T:Nat) (s a i0 pt now:Int) (w:World) (hp:w.heap[p]?=some (.cells #[.bool true,.int .i64 s,.bool false,.int .i64 a] T)) (hb:w.heap[b]?=some (.cells #[.int .i64 i0,.int .i64 pt] 3)) (hne:p≠b) (h0:(i0 != 0)=true) (hs0:0≤s) (hs1:s≤4294967295) (hn0:0≤now) (hn1:now≤4294967295) (ho:decide (pt≤xz_ now s)=true) :
 Calls Tryz.prog 131 #[.pointer (some ⟨p,0,none⟩),.slice (some ⟨b,0,none⟩) 2 2,.int .i64 now] w fun e w'=>e=.returned (.slice (some ⟨w.heap.size,0,none⟩) 2 2)∧w'.heap[w.heap.size]?=some (.cells #[.int .i64 0,.int .i64 (min (xz_ now s) pt)] 3)∧w'.heap[p]?=some (.cells #[.bool false,.int .i64 0,.bool true,.int .i64 (min (xz_ now s) pt)] T)∧w.grownBy w' (some p):=by
 have hpl:=xg_ hp;have c0:=xa_ hb 0;have c1:=xa_ hb 1;have d0:=xa_ hp 0;have f0:=xc_ hp 0;have d1:=xa_ hp 1;have f1:=xc_ hp 1;have d2:=xa_ hp 2;have f2:=xc_ hp 2;have d3:=xa_ hp 3;have f3:=xc_ hp 3;simp at c0 c1 d0 d1 d2 d3;obtain⟨g,hg⟩:∃ g,xz_ now s=g:=⟨_,rfl⟩;rw[hg] at ho ⊢;obtain⟨t,ht⟩:∃ t,min g pt=t:=⟨_,rfl⟩;rw[ht];go_enter Tryz.func131,Tryz.ntmps131;go_wp2_with (go_at_call 119;refine(xn_ _ _).mono ?_;rintro e w' ⟨rfl,rfl⟩)
 go_region_held3 (fun w'=>w'.cell? ⟨b,1,none⟩=some (.int .i64 pt)) ((exact k3_)) (first|(go_at_call 123;refine(zn_ p s _ _ (.int .i64 a) _ ?_ ?_ ?_ hs0 hs1 hn0 hn1).mono ?_;(exact k3_);(exact k3_);(exact k4_);rintro e w' ⟨rfl,rfl⟩))
 go_wp2_with (go_at_call 118;refine(qf_ p (.bool true) (.int .i64 s) _ ?_ ?_ ?_ ?_).mono ?_;(exact k3_);(exact k3_);(exact k4_);(exact k4_);rintro e w' ⟨rfl,rfl⟩)
 go_region_held3 (fun w'=>w'.cell? ⟨p,0,none⟩=some (.bool false)) ((exact k3_)) (first|(go_at_call 122;refine(y5_ p _ t _ ?_).mono ?_;(exact k3_);rintro e w' ⟨rfl,rfl⟩))
 go_wp2;all_goals go_ret
 all_goals refine⟨rfl,?_,?_,?_⟩
 · repeat(with_reducible refine(xe_ _ _).trans ?_)
   exact xj_ (by simp) _
 · repeat(with_reducible refine(xe_ _ _).trans ?_)
   refine(xh_ (pl_ hpl) _).trans ?_;repeat(with_reducible refine(xe_ _ _).trans ?_)
   apply Eq.trans
   ·repeat(first|with_reducible exact hp|apply xk_)
   ·simp
 ·exact kg_
theorem asq_ (p b T:Nat) (s a i0 pt now:Int) (w:World) (hp:w.heap[p]?=some (.cells #[.bool true,.int .i64 s,.bool false,.int .i64 a] T)) (hb:w.heap[b]?=some (.cells #[.int .i64 i0,.int .i64 pt] 3)) (hne:p≠b) (h0:(i0 != 0)=true) (hs0:0≤s) (hs1:s≤4294967295) (hn0:0≤now) (hn1:now≤4294967295) (ho:decide (pt≤xz_ now s)=false) :
 Calls Tryz.prog 131 #[.pointer (some ⟨p,0,none⟩),.slice (some ⟨b,0,none⟩) 2 2,.int .i64 now] w fun e w'=>e=.returned (.slice (some ⟨w.heap.size,0,none⟩) 2 2)∧w'.heap[w.heap.size]?=some (.cells #[.int .i64 1,.int .i64 (min (xz_ now s) pt)] 3)∧w'.heap[p]?=some (.cells #[.bool true,.int .i64 s,.bool true,.int .i64 (min (xz_ now s) pt)] T)∧w.grownBy w' (some p):=by
 have hpl:=xg_ hp;have c0:=xa_ hb 0;have c1:=xa_ hb 1;have d0:=xa_ hp 0;have f0:=xc_ hp 0;have d1:=xa_ hp 1;have f1:=xc_ hp 1;have d2:=xa_ hp 2;have f2:=xc_ hp 2;have d3:=xa_ hp 3;have f3:=xc_ hp 3;simp at c0 c1 d0 d1 d2 d3;obtain⟨g,hg⟩:∃ g,xz_ now s=g:=⟨_,rfl⟩;rw[hg] at ho ⊢;obtain⟨t,ht⟩:∃ t,min g pt=t:=⟨_,rfl⟩;rw[ht];go_enter Tryz.func131,Tryz.ntmps131;go_wp2_with (go_at_call 119;refine(xn_ _ _).mono ?_;rintro e w' ⟨rfl,rfl⟩)
 go_region_held3 (fun w'=>w'.cell? ⟨b,1,none⟩=some (.int .i64 pt)) ((exact k3_)) (first|(go_at_call 123;refine(zn_ p s _ _ (.int .i64 a) _ ?_ ?_ ?_ hs0 hs1 hn0 hn1).mono ?_;(exact k3_);(exact k3_);(exact k4_);rintro e w' ⟨rfl,rfl⟩))
 go_wp2_with (go_at_call 118;refine(qf_ p (.bool true) (.int .i64 s) _ ?_ ?_ ?_ ?_).mono ?_;(exact k3_);(exact k3_);(exact k4_);(exact k4_);rintro e w' ⟨rfl,rfl⟩)
 go_region_held3 (fun w'=>w'.cell? ⟨p,0,none⟩=some (.bool true)) ((exact k3_)) (first|(go_at_call 122;refine(y5_ p _ t _ ?_).mono ?_;(exact k3_);rintro e w' ⟨rfl,rfl⟩))
 go_wp2;all_goals go_ret
 all_goals refine⟨rfl,?_,?_,?_⟩
 · repeat(with_reducible refine(xe_ _ _).trans ?_)
   exact xj_ (by simp) _
 · repeat(with_reducible refine(xe_ _ _).trans ?_)
   refine(xh_ (pl_ hpl) _).trans ?_;repeat(with_reducible refine(xe_ _ _).trans ?_)
   apply Eq.trans
   ·repeat(first|with_reducible exact hp|apply xk_)
   ·simp
 ·exact kg_
theorem asr_ (p b T:Nat) (s a i0 pt now:Int) (w:World) (hp:w.heap[p]?=some (.cells #[.bool true,.int .i64 s,.bool true,.int .i64 a] T)) (hb:w.heap[b]?=some (.cells #[.int .i64 i0,.int .i64 pt] 3)) (hne:p≠b) (h0:(i0 != 0)=false) (hs0:0≤s) (hs1:s≤4294967295) (hn0:0≤now) (hn1:now≤4294967295) (ho:decide (pt≤xz_ now s)=true) :
 Calls Tryz.prog 131 #[.pointer (some ⟨p,0,none⟩),.slice (some ⟨b,0,none⟩) 2 2,.int .i64 now] w fun e w'=>e=.returned (.slice (some ⟨w.heap.size,0,none⟩) 2 2)∧w'.heap[w.heap.size]?=some (.cells #[.int .i64 0,.int .i64 (min (xz_ now s) pt)] 3)∧w'.heap[p]?=some (.cells #[.bool false,.int .i64 0,.bool false,.int .i64 (min (xz_ now s) pt)] T)∧w.grownBy w' (some p):=by
 have hpl:=xg_ hp;have c0:=xa_ hb 0;have c1:=xa_ hb 1;have d0:=xa_ hp 0;have f0:=xc_ hp 0;have d1:=xa_ hp 1;have f1:=xc_ hp 1;have d2:=xa_ hp 2;have f2:=xc_ hp 2;have d3:=xa_ hp 3;have f3:=xc_ hp 3;simp at c0 c1 d0 d1 d2 d3;obtain⟨g,hg⟩:∃ g,xz_ now s=g:=⟨_,rfl⟩;rw[hg] at ho ⊢;obtain⟨t,ht⟩:∃ t,min g pt=t:=⟨_,rfl⟩;rw[ht];go_enter Tryz.func131,Tryz.ntmps131;go_wp2_with (go_at_call 119;refine(xn_ _ _).mono ?_;rintro e w' ⟨rfl,rfl⟩)
 go_region_held3 (fun w'=>w'.cell? ⟨b,1,none⟩=some (.int .i64 pt)) ((exact k3_)) (first|(go_at_call 123;refine(zn_ p s _ _ (.int .i64 a) _ ?_ ?_ ?_ hs0 hs1 hn0 hn1).mono ?_;(exact k3_);(exact k3_);(exact k4_);rintro e w' ⟨rfl,rfl⟩))
 go_wp2_with (go_at_call 118;refine(qf_ p (.bool true) (.int .i64 s) _ ?_ ?_ ?_ ?_).mono ?_;(exact k3_);(exact k3_);(exact k4_);(exact k4_);rintro e w' ⟨rfl,rfl⟩)
 go_region_held3 (fun w'=>w'.cell? ⟨p,0,none⟩=some (.bool false)) ((exact k3_)) (first|(go_at_call 122;refine(y5_ p _ t _ ?_).mono ?_;(exact k3_);rintro e w' ⟨rfl,rfl⟩))
 go_wp2;all_goals go_ret
 all_goals refine⟨rfl,?_,?_,?_⟩
 · repeat(with_reducible refine(xe_ _ _).trans ?_)
   exact xj_ (by simp) _
 · repeat(with_reducible refine(xe_ _ _).trans ?_)
   refine(xh_ (pl_ hpl) _).trans ?_;repeat(with_reducible refine(xe_ _ _).trans ?_)
   apply Eq.trans
   ·repeat(first|with_reducible exact hp|apply xk_)
   ·simp
 ·exact kg_
theorem ass_ (p b T:Nat) (s a i0 pt now:Int) (w:World) (hp:w.heap[p]?=some (.cells #[.bool true,.int .i64 s,.bool true,.int .i64 a] T)) (hb:w.heap[b]?=some (.cells #[.int .i64 i0,.int .i64 pt] 3)) (hne:p≠b) (h0:(i0 != 0)=false) (hs0:0≤s) (hs1:s≤4294967295) (hn0:0≤now) (hn1:now≤4294967295) (ho:decide (pt≤xz_ now s)=false) :
 Calls Tryz.prog 131 #[.pointer (some ⟨p,0,none⟩),.slice (some ⟨b,0,none⟩) 2 2,.int .i64 now] w fun e w'=>e=.returned (.slice (some ⟨w.heap.size,0,none⟩) 2 2)∧w'.heap[w.heap.size]?=some (.cells #[.int .i64 1,.int .i64 (min (xz_ now s) pt)] 3)∧w'.heap[p]?=some (.cells #[.bool true,.int .i64 s,.bool false,.int .i64 (min (xz_ now s) pt)] T)∧w.grownBy w' (some p):=by
 have hpl:=xg_ hp;have c0:=xa_ hb 0;have c1:=xa_ hb 1;have d0:=xa_ hp 0;have f0:=xc_ hp 0;have d1:=xa_ hp 1;have f1:=xc_ hp 1;have d2:=xa_ hp 2;have f2:=xc_ hp 2;have d3:=xa_ hp 3;have f3:=xc_ hp 3;simp at c0 c1 d0 d1 d2 d3;obtain⟨g,hg⟩:∃ g,xz_ now s=g:=⟨_,rfl⟩;rw[hg] at ho ⊢;obtain⟨t,ht⟩:∃ t,min g pt=t:=⟨_,rfl⟩;rw[ht];go_enter Tryz.func131,Tryz.ntmps131;go_wp2_with (go_at_call 119;refine(xn_ _ _).mono ?_;rintro e w' ⟨rfl,rfl⟩)
 go_region_held3 (fun w'=>w'.cell? ⟨b,1,none⟩=some (.int .i64 pt)) ((exact k3_)) (first|(go_at_call 123;refine(zn_ p s _ _ (.int .i64 a) _ ?_ ?_ ?_ hs0 hs1 hn0 hn1).mono ?_;(exact k3_);(exact k3_);(exact k4_);rintro e w' ⟨rfl,rfl⟩))
 go_wp2_with (go_at_call 118;refine(qf_ p (.bool true) (.int .i64 s) _ ?_ ?_ ?_ ?_).mono ?_;(exact k3_);(exact k3_);(exact k4_);(exact k4_);rintro e w' ⟨rfl,rfl⟩)
 go_region_held3 (fun w'=>w'.cell? ⟨p,0,none⟩=some (.bool true)) ((exact k3_)) (first|(go_at_call 122;refine(y5_ p _ t _ ?_).mono ?_;(exact k3_);rintro e w' ⟨rfl,rfl⟩))
 go_wp2;all_goals go_ret
 all_goals refine⟨rfl,?_,?_,?_⟩
 · repeat(with_reducible refine(xe_ _ _).trans ?_)
   exact xj_ (by simp) _
 · repeat(with_reducible refine(xe_ _ _).trans ?_)
   refine(xh_ (pl_ hpl) _).trans ?_;repeat(with_reducible refine(xe_ _ _).trans ?_)
   apply Eq.trans
   ·repeat(first|with_reducible exact hp|apply xk_)
   ·simp
 ·exact kg_
theorem ast_ (p b T:Nat) (s a i0 pt now:Int) (w:World) (hp:w.heap[p]?=some (.cells #[.bool true,.int .i64 s,.bool false,.int .i64 a] T)) (hb:w.heap[b]?=some (.cells #[.int .i64 i0,.int .i64 pt] 3)) (hne:p≠b) (h0:(i0 != 0)=false) (hs0:0≤s) (hs1:s≤4294967295) (hn0:0≤now) (hn1:now≤4294967295) (ho:decide (pt≤xz_ now s)=true) :
 Calls Tryz.prog 131 #[.pointer (some ⟨p,0,none⟩),.slice (some ⟨b,0,none⟩) 2 2,.int .i64 now] w fun e w'=>e=.returned (.slice (some ⟨w.heap.size,0,none⟩) 2 2)∧w'.heap[w.heap.size]?=some (.cells #[.int .i64 0,.int .i64 (min (xz_ now s) pt)] 3)∧w'.heap[p]?=some (.cells #[.bool false,.int .i64 0,.bool false,.int .i64 (min (xz_ now s) pt)] T)∧w.grownBy w' (some p):=by
 have hpl:=xg_ hp;have c0:=xa_ hb 0;have c1:=xa_ hb 1;have d0:=xa_ hp 0;have f0:=xc_ hp 0;have d1:=xa_ hp 1;have f1:=xc_ hp 1;have d2:=xa_ hp 2;have f2:=xc_ hp 2;have d3:=xa_ hp 3;have f3:=xc_ hp 3;simp at c0 c1 d0 d1 d2 d3;obtain⟨g,hg⟩:∃ g,xz_ now s=g:=⟨_,rfl⟩;rw[hg] at ho ⊢;obtain⟨t,ht⟩:∃ t,min g pt=t:=⟨_,rfl⟩;rw[ht];go_enter Tryz.func131,Tryz.ntmps131;go_wp2_with (go_at_call 119;refine(xn_ _ _).mono ?_;rintro e w' ⟨rfl,rfl⟩)
 go_region_held3 (fun w'=>w'.cell? ⟨b,1,none⟩=some (.int .i64 pt)) ((exact k3_)) (first|(go_at_call 123;refine(zn_ p s _ _ (.int .i64 a) _ ?_ ?_ ?_ hs0 hs1 hn0 hn1).mono ?_;(exact k3_);(exact k3_);(exact k4_);rintro e w' ⟨rfl,rfl⟩))
 go_wp2_with (go_at_call 118;refine(qf_ p (.bool true) (.int .i64 s) _ ?_ ?_ ?_ ?_).mono ?_;(exact k3_);(exact k3_);(exact k4_);(exact k4_);rintro e w' ⟨rfl,rfl⟩)
 go_region_held3 (fun w'=>w'.cell? ⟨p,0,none⟩=some (.bool false)) ((exact k3_)) (first|(go_at_call 122;refine(y5_ p _ t _ ?_).mono ?_;(exact k3_);rintro e w' ⟨rfl,rfl⟩))
 go_wp2;all_goals go_ret
 all_goals refine⟨rfl,?_,?_,?_⟩
 · repeat(with_reducible refine(xe_ _ _).trans ?_)
   exact xj_ (by simp) _
 · repeat(with_reducible refine(xe_ _ _).trans ?_)
   refine(xh_ (pl_ hpl) _).trans ?_;repeat(with_reducible refine(xe_ _ _).trans ?_)
   apply Eq.trans
   ·repeat(first|with_reducible exact hp|apply xk_)
   ·simp
 ·exact kg_
theorem asu_ (p b T:Nat) (s a i0 pt now:Int) (w:World) (hp:w.heap[p]?=some (.cells #[.bool true,.int .i64 s,.bool false,.int .i64 a] T)) (hb:w.heap[b]?=some (.cells #[.int .i64 i0,.int .i64 pt] 3)) (hne:p≠b) (h0:(i0 != 0)=false) (hs0:0≤s) (hs1:s≤4294967295) (hn0:0≤now) (hn1:now≤4294967295) (ho:decide (pt≤xz_ now s)=false) :
 Calls Tryz.prog 131 #[.pointer (some ⟨p,0,none⟩),.slice (some ⟨b,0,none⟩) 2 2,.int .i64 now] w fun e w'=>e=.returned (.slice (some ⟨w.heap.size,0,none⟩) 2 2)∧w'.heap[w.heap.size]?=some (.cells #[.int .i64 1,.int .i64 (min (xz_ now s) pt)] 3)∧w'.heap[p]?=some (.cells #[.bool true,.int .i64 s,.bool false,.int .i64 (min (xz_ now s) pt)] T)∧w.grownBy w' (some p):=by
 have hpl:=xg_ hp;have c0:=xa_ hb 0;have c1:=xa_ hb 1;have d0:=xa_ hp 0;have f0:=xc_ hp 0;have d1:=xa_ hp 1;have f1:=xc_ hp 1;have d2:=xa_ hp 2;have f2:=xc_ hp 2;have d3:=xa_ hp 3;have f3:=xc_ hp 3;simp at c0 c1 d0 d1 d2 d3;obtain⟨g,hg⟩:∃ g,xz_ now s=g:=⟨_,rfl⟩;rw[hg] at ho ⊢;obtain⟨t,ht⟩:∃ t,min g pt=t:=⟨_,rfl⟩;rw[ht];go_enter Tryz.func131,Tryz.ntmps131;go_wp2_with (go_at_call 119;refine(xn_ _ _).mono ?_;rintro e w' ⟨rfl,rfl⟩)
 go_region_held3 (fun w'=>w'.cell? ⟨b,1,none⟩=some (.int .i64 pt)) ((exact k3_)) (first|(go_at_call 123;refine(zn_ p s _ _ (.int .i64 a) _ ?_ ?_ ?_ hs0 hs1 hn0 hn1).mono ?_;(exact k3_);(exact k3_);(exact k4_);rintro e w' ⟨rfl,rfl⟩))
 go_wp2_with (go_at_call 118;refine(qf_ p (.bool true) (.int .i64 s) _ ?_ ?_ ?_ ?_).mono ?_;(exact k3_);(exact k3_);(exact k4_);(exact k4_);rintro e w' ⟨rfl,rfl⟩)
 go_region_held3 (fun w'=>w'.cell? ⟨p,0,none⟩=some (.bool true)) ((exact k3_)) (first|(go_at_call 122;refine(y5_ p _ t _ ?_).mono ?_;(exact k3_);rintro e w' ⟨rfl,rfl⟩))
 go_wp2;all_goals go_ret
 all_goals refine⟨rfl,?_,?_,?_⟩
 · repeat(with_reducible refine(xe_ _ _).trans ?_)
   exact xj_ (by simp) _
 · repeat(with_reducible refine(xe_ _ _).trans ?_)
   refine(xh_ (pl_ hpl) _).trans ?_;repeat(with_reducible refine(xe_ _ _).trans ?_)
   apply Eq.trans
   ·repeat(first|with_reducible exact hp|apply xk_)
   ·simp
 ·exact kg_
theorem awj_ (p b T:Nat) (s a i0 pt now:Int) (w:World) (hp:w.heap[p]?=some (.cells #[.bool false,.int .i64 s,.bool false,.int .i64 a] T)) (hb:w.heap[b]?=some (.cells #[.int .i64 i0,.int .i64 pt] 3)) (hne:p≠b) (h0:(i0 != 0)=true) (hn0:0≤now) (hn1:now≤4294967295) (ho:decide (pt≤xz_ now now)=true) :
 Calls Tryz.prog 131 #[.pointer (some ⟨p,0,none⟩),.slice (some ⟨b,0,none⟩) 2 2,.int .i64 now] w fun e w'=>e=.returned (.slice (some ⟨w.heap.size,0,none⟩) 2 2)∧w'.heap[w.heap.size]?=some (.cells #[.int .i64 0,.int .i64 (min (xz_ now now) pt)] 3)∧w'.heap[p]?=some (.cells #[.bool false,.int .i64 0,.bool true,.int .i64 (min (xz_ now now) pt)] T)∧w.grownBy w' (some p):=by
 have hpl:=xg_ hp;have c0:=xa_ hb 0;have c1:=xa_ hb 1;have d0:=xa_ hp 0;have f0:=xc_ hp 0;have d1:=xa_ hp 1;have f1:=xc_ hp 1;have d2:=xa_ hp 2;have f2:=xc_ hp 2;have d3:=xa_ hp 3;have f3:=xc_ hp 3;simp at c0 c1 d0 d1 d2 d3;obtain⟨g,hg⟩:∃ g,xz_ now now=g:=⟨_,rfl⟩;rw[hg] at ho ⊢;obtain⟨t,ht⟩:∃ t,min g pt=t:=⟨_,rfl⟩;rw[ht];go_enter Tryz.func131,Tryz.ntmps131;go_wp2_with (first|(go_at_call 119;refine(xn_ _ _).mono ?_;rintro e w' ⟨rfl,rfl⟩)|(go_at_call 129;refine(vu_ p _ (.bool false) (.int .i64 s) _ ?_ ?_ ?_ ?_).mono ?_;(exact k3_);(exact k3_);(exact k4_);(exact k4_);rintro e w' ⟨rfl,rfl⟩))
 go_region_held3 (fun w'=>w'.cell? ⟨b,1,none⟩=some (.int .i64 pt)) ((exact k3_)) (first|(go_at_call 123;refine(zn_ p now _ _ (.int .i64 a) _ ?_ ?_ ?_ hn0 hn1 hn0 hn1).mono ?_;(exact k3_);(exact k3_);(exact k4_);rintro e w' ⟨rfl,rfl⟩))
 go_wp2_with (go_at_call 118;refine(qf_ p (.bool true) (.int .i64 now) _ ?_ ?_ ?_ ?_).mono ?_;(exact k3_);(exact k3_);(exact k4_);(exact k4_);rintro e w' ⟨rfl,rfl⟩)
 go_region_held3 (fun w'=>w'.cell? ⟨p,0,none⟩=some (.bool false)) ((exact k3_)) (first|(go_at_call 122;refine(y5_ p _ t _ ?_).mono ?_;(exact k3_);rintro e w' ⟨rfl,rfl⟩))
 go_wp2;all_goals go_ret
 all_goals refine⟨rfl,?_,?_,?_⟩
 · repeat(with_reducible refine(xe_ _ _).trans ?_)
   exact xj_ (by simp) _
 · repeat(with_reducible refine(xe_ _ _).trans ?_)
   refine(xh_ (pl_ hpl) _).trans ?_;repeat(with_reducible refine(xe_ _ _).trans ?_)
   apply Eq.trans
   ·repeat(first|with_reducible exact hp|apply xk_)
   ·simp
 ·exact kg_
theorem awk_ (p b T:Nat) (s a i0 pt now:Int) (w:World) (hp:w.heap[p]?=some (.cells #[.bool false,.int .i64 s,.bool false,.int .i64 a] T)) (hb:w.heap[b]?=some (.cells #[.int .i64 i0,.int .i64 pt] 3)) (hne:p≠b) (h0:(i0 != 0)=true) (hn0:0≤now) (hn1:now≤4294967295) (ho:decide (pt≤xz_ now now)=false) :
 Calls Tryz.prog 131 #[.pointer (some ⟨p,0,none⟩),.slice (some ⟨b,0,none⟩) 2 2,.int .i64 now] w fun e w'=>e=.returned (.slice (some ⟨w.heap.size,0,none⟩) 2 2)∧w'.heap[w.heap.size]?=some (.cells #[.int .i64 1,.int .i64 (min (xz_ now now) pt)] 3)∧w'.heap[p]?=some (.cells #[.bool true,.int .i64 now,.bool true,.int .i64 (min (xz_ now now) pt)] T)∧w.grownBy w' (some p):=by
 have hpl:=xg_ hp;have c0:=xa_ hb 0;have c1:=xa_ hb 1;have d0:=xa_ hp 0;have f0:=xc_ hp 0;have d1:=xa_ hp 1;have f1:=xc_ hp 1;have d2:=xa_ hp 2;have f2:=xc_ hp 2;have d3:=xa_ hp 3;have f3:=xc_ hp 3;simp at c0 c1 d0 d1 d2 d3;obtain⟨g,hg⟩:∃ g,xz_ now now=g:=⟨_,rfl⟩;rw[hg] at ho ⊢;obtain⟨t,ht⟩:∃ t,min g pt=t:=⟨_,rfl⟩;rw[ht];go_enter Tryz.func131,Tryz.ntmps131;go_wp2_with (first|(go_at_call 119;refine(xn_ _ _).mono ?_;rintro e w' ⟨rfl,rfl⟩)|(go_at_call 129;refine(vu_ p _ (.bool false) (.int .i64 s) _ ?_ ?_ ?_ ?_).mono ?_;(exact k3_);(exact k3_);(exact k4_);(exact k4_);rintro e w' ⟨rfl,rfl⟩))
 go_region_held3 (fun w'=>w'.cell? ⟨b,1,none⟩=some (.int .i64 pt)) ((exact k3_)) (first|(go_at_call 123;refine(zn_ p now _ _ (.int .i64 a) _ ?_ ?_ ?_ hn0 hn1 hn0 hn1).mono ?_;(exact k3_);(exact k3_);(exact k4_);rintro e w' ⟨rfl,rfl⟩))
 go_wp2_with (go_at_call 118;refine(qf_ p (.bool true) (.int .i64 now) _ ?_ ?_ ?_ ?_).mono ?_;(exact k3_);(exact k3_);(exact k4_);(exact k4_);rintro e w' ⟨rfl,rfl⟩)
 go_region_held3 (fun w'=>w'.cell? ⟨p,0,none⟩=some (.bool true)) ((exact k3_)) (first|(go_at_call 122;refine(y5_ p _ t _ ?_).mono ?_;(exact k3_);rintro e w' ⟨rfl,rfl⟩))
 go_wp2;all_goals go_ret
 all_goals refine⟨rfl,?_,?_,?_⟩
 · repeat(with_reducible refine(xe_ _ _).trans ?_)
   exact xj_ (by simp) _
 · repeat(with_reducible refine(xe_ _ _).trans ?_)
   refine(xh_ (pl_ hpl) _).trans ?_;repeat(with_reducible refine(xe_ _ _).trans ?_)
   apply Eq.trans
   ·repeat(first|with_reducible exact hp|apply xk_)
   ·simp
 ·exact kg_
theorem asv_ (p b T:Nat) (s a i0 pt now:Int) (w:World) (hp:w.heap[p]?=some (.cells #[.bool false,.int .i64 s,.bool true,.int .i64 a] T)) (hb:w.heap[b]?=some (.cells #[.int .i64 i0,.int .i64 pt] 3)) (hne:p≠b) (h0:(i0 != 0)=true) :
 Calls Tryz.prog 131 #[.pointer (some ⟨p,0,none⟩),.slice (some ⟨b,0,none⟩) 2 2,.int .i64 now] w fun e w'=>e=.returned (.slice (some ⟨w.heap.size,0,none⟩) 2 2)∧w'.heap[w.heap.size]?=some (.cells #[.int .i64 0,.int .i64 a] 3)∧w'.heap[p]?=some (.cells #[.bool false,.int .i64 s,.bool true,.int .i64 a] T)∧w.grownBy w' (some p):=by
 have hpl:=xg_ hp;have c0:=xa_ hb 0;have c1:=xa_ hb 1;have d0:=xa_ hp 0;have f0:=xc_ hp 0;have d1:=xa_ hp 1;have f1:=xc_ hp 1;have d2:=xa_ hp 2;have f2:=xc_ hp 2;have d3:=xa_ hp 3;have f3:=xc_ hp 3;simp at c0 c1 d0 d1 d2 d3;go_enter Tryz.func131,Tryz.ntmps131;go_wp2_with (go_at_call 119;refine(xn_ _ _).mono ?_;rintro e w' ⟨rfl,rfl⟩)
 go_region_held3 (fun w'=>w'.cell? ⟨p,0,none⟩=some (.bool false)) ((exact k3_)) (first|(go_at_call 122;refine(y5_ p _ a _ ?_).mono ?_;(exact k3_);rintro e w' ⟨rfl,rfl⟩))
 go_wp2;all_goals go_ret
 all_goals refine⟨rfl,?_,?_,?_⟩
 · repeat(with_reducible refine(xe_ _ _).trans ?_)
   exact xj_ (by simp) _
 · repeat(with_reducible refine(xe_ _ _).trans ?_)
   refine(xh_ (pl_ hpl) _).trans ?_;repeat(with_reducible refine(xe_ _ _).trans ?_)
   apply Eq.trans
   ·repeat(first|with_reducible exact hp|apply xk_)
   ·simp
 ·exact kg_
theorem asw_ (p b T:Nat) (m:Bool) (s a i0 pt now:Int) (w:World) (hp:w.heap[p]?=some (.cells #[.bool false,.int .i64 s,.bool m,.int .i64 a] T)) (hb:w.heap[b]?=some (.cells #[.int .i64 i0,.int .i64 pt] 3)) (hne:p≠b) (h0:(i0 != 0)=false) :
 Calls Tryz.prog 131 #[.pointer (some ⟨p,0,none⟩),.slice (some ⟨b,0,none⟩) 2 2,.int .i64 now] w fun e w'=>e=.returned (.slice (some ⟨w.heap.size,0,none⟩) 2 2)∧w'.heap[w.heap.size]?=some (.cells #[.int .i64 0,.int .i64 0] 3)∧w'.heap[p]?=some (.cells #[.bool false,.int .i64 s,.bool false,.int .i64 0] T)∧w.grownBy w' (some p):=by
 have hpl:=xg_ hp;have c0:=xa_ hb 0;have c1:=xa_ hb 1;have d0:=xa_ hp 0;have f0:=xc_ hp 0;have d1:=xa_ hp 1;have f1:=xc_ hp 1;have d2:=xa_ hp 2;have f2:=xc_ hp 2;have d3:=xa_ hp 3;have f3:=xc_ hp 3;simp at c0 c1 d0 d1 d2 d3;go_enter Tryz.func131,Tryz.ntmps131;go_wp2_with (go_at_call 119;refine(xn_ _ _).mono ?_;rintro e w' ⟨rfl,rfl⟩)
 go_region_held3 (fun w'=>w'.cell? ⟨p,0,none⟩=some (.bool false)) ((exact k3_)) (first|(go_at_call 122;refine(y5_ p _ 0 _ ?_).mono ?_;(exact k3_);rintro e w' ⟨rfl,rfl⟩))
 go_wp2;all_goals go_ret
 all_goals refine⟨rfl,?_,?_,?_⟩
 · repeat(with_reducible refine(xe_ _ _).trans ?_)
   exact xj_ (by simp) _
 · repeat(with_reducible refine(xe_ _ _).trans ?_)
   refine(xh_ (pl_ hpl) _).trans ?_;repeat(with_reducible refine(xe_ _ _).trans ?_)
   apply Eq.trans
   ·repeat(first|with_reducible exact hp|apply xk_)
   ·simp
 ·exact kg_
end Go.Proofs.YtcgbfhpmkpglkaaGreatDoor.Bl
namespace Go.Proofs.YtcgbfhpmkpglkaaGreatDoor.Bl
open Go.RowKit
theorem yc_ {w W:World} {p:Nat} (h:w.grownBy W none) (hp:w.heap.size≤p) (i:Nat) (v:Value):w.grownBy (W.setCell ⟨p,i,none⟩ v) none:=
 ⟨h.os,h.tape,h.output,by simpa using h.size,fun k hk hne=>by rw[Below.heap_setCell _ _ _ _ (by simp;omega)];exact h.block k hk hne⟩
end Go.Proofs.YtcgbfhpmkpglkaaGreatDoor.Bl
namespace Go.Proofs.YtcgbfhpmkpglkaaGreatDoor.Bl
open Go.RowKit
attribute [local go_sem ↓] Go.wp_at_zero Go.wp_at_succ
theorem aug_ {w:World} {c:Nat} {l:List (ByteArray×Int)} (h:w.heap[c]?=some (.cells (ks_ l) 113)) (k:Nat) (hk:k<l.length) :
 w.cell? ⟨c,k*2,none⟩=some (.string (l[k]).1)∧w.cell? ⟨c,k*2+1,none⟩=some (.int .i64 (l[k]).2):=by
 rw[xa_ h,xa_ h];unfold ks_;simp only[List.getElem?_toArray];clear h;induction l generalizing k with
 | nil=>simp at hk
 | cons x l ih=>
  cases k with
  | zero=>simp
  | succ k=>
   have:=ih k (by simpa using hk);simp only[List.flatMap_cons,List.cons_append,List.nil_append,List.getElem_cons_succ];rw[show(k+1)*2=k*2+1+1 by omega];simpa using this
def ShpAt (w:World) (b1 b2 b3:Nat) (I O S:List (ByteArray×Int)):Prop:=w.heap[b1]?=some (.cells (ks_ I) 113)∧w.heap[b2]?=some (.cells (ks_ O) 113)∧w.heap[b3]?=some (.cells (ks_ S) 113)
theorem ShpAt.kept {w w':World} {b1 b2 b3:Nat} {I O S:List (ByteArray×Int)} (h:ShpAt w b1 b2 b3 I O S) (hg:w.grownBy w' none):ShpAt w' b1 b2 b3 I O S:=⟨YtcgbfhpmkpglkaaGreatDoor.Bl.kept hg h.1,YtcgbfhpmkpglkaaGreatDoor.Bl.kept hg h.2.1,YtcgbfhpmkpglkaaGreatDoor.Bl.kept hg h.2.2⟩
theorem xq_ (k n:Int) (w:World):Calls Tryz.prog 42 #[.int .i64 k,.int .i64 n] w fun e w'=>e=.returned (.int .i64 (xd_ k n))∧w=w':=(ya_ k n w).mono fun _ _ h=>⟨h.1,h.2.symm⟩
theorem ade_ {W:World} {b i j p:Nat} {v x:Value} (hne:b≠p) (h:W.cell? ⟨b,j,none⟩=some v):(W.setCell ⟨p,i,none⟩ x).cell? ⟨b,j,none⟩=some v:=by
 rw[← h];exact World.cell?_of_block (Below.heap_setCell _ _ _ _ (by simpa using hne))
def ajv_ (n:Nat):Prop:=∀ w:World,(Instr.makeSlice 25 (.int .i64 n) (.int .i64 n)).run Tryz.prog w=.ok (.slice (some ⟨w.heap.size,0,none⟩) n n) (w.alloc (.cells (xi_ (List.replicate n 0)) 3))
theorem aou_ {n:Nat} (h:n=1∨n=2∨n=3∨n=4∨n=5):ajv_ n:=by
 rcases h with rfl|rfl|rfl|rfl|rfl
 ·exact aon_
 ·exact aor_
 ·exact aoo_
 ·exact aos_
 ·exact aot_
theorem yp_ (l:List Int) (k:Nat) (x:Int):(xi_ l).setIfInBounds k (.int .i64 x)=xi_ (l.set k x):=by
 unfold xi_;simp[List.map_set]
theorem amh_ (I:List (ByteArray×Int)) (hI:I.length=1∨I.length=2∨I.length=3∨I.length=4∨I.length=5) (g b off cap:Nat) (l:List Int) (w:World) (hg:w.heap[g]?=some (.cells (ks_ I) 113)) (hl:l.length=I.length)
 (hc:∀ i,i<l.length→w.cell? ⟨b,off+i,none⟩=some (.int .i64 (l.getD i 0))) :
 Calls Tryz.prog 65 #[.slice (some ⟨b,off,none⟩) l.length cap,.slice (some ⟨g,0,none⟩) I.length I.length] w (ab1_ I.length (xm_ (yb_ I) l) w):=by
 have HG:=hd_ hg;have HC:=hd_ hc;have hmk:=aou_ hI;unfold ajv_ at hmk;have n1:g≠w.heap.size:=(by have:=xg_ hg;omega);have n2:b≠w.heap.size:=(by have:=World.block_lt_of_cell? w _ (hc 0 (by omega));simp at this;omega);obtain⟨n,hn⟩:∃ n,I.length=n:=⟨_,rfl⟩;have HN:=hd_ hn;have HL:Hid (l.length=n):=hl.trans hn;rw[hl,hn];rw[hn] at hmk hI;clear hg hc hl hn;go_enter Tryz.func65,Tryz.ntmps65;go_wp2;go_loopg [6] n (fun gk s6 wx=>∃(k:Nat) (ar:List Int),s6=.int .i64 k∧k≤n∧gk=n - k∧wx.heap[w.heap.size]?=some (.cells (xi_ ar) 3)∧ar.length=n∧(∀ i,i<k→ar.getD i 0=xd_ ((yb_ I).getD i 0) (l.getD i 0))∧w.grownBy wx none)
 case atStart=>exact⟨0,_,rfl,Nat.zero_le _,by omega,heap_alloc_new _ _,by simp,by omega,xb_ gz_ _⟩
 case round=>
  obtain⟨k,ar,rfl,hk,hgk,har,hal,hat,hgr⟩:=hrel;have HGK:=hd_ hgk;have HA:=hd_ har;have HT:=hd_ hat;clear hgk hat;by_cases hlt:k<n
  · have hkI:k<I.length:=(by rw[HN.out];exact hlt);have hkl:k<l.length:=(by rw[HL.out];exact hlt);have q0:=(aug_ (kept hgr HG.out) k hkI).2;have q1:=hgr.cell (HC.out k hkl) (by simp);have hkk:(yb_ I).getD k 0=(I[k]).2:=(by simp[yb_,hkI]);obtain⟨kk,hkk'⟩:∃ z,(I[k]).2=z:=⟨_,rfl⟩;obtain⟨x,hx⟩:∃ z,l.getD k 0=z:=⟨_,rfl⟩;rw[hkk'] at q0;rw[hx] at q1;have HK:Hid ((yb_ I).getD k 0=kk):=hkk.trans hkk';have HX:=hd_ hx;clear hkk hkk' hx;have q2:wr.cell? ⟨w.heap.size,k,none⟩=some (.int .i64 (ar.getD k 0)):=(by rw[xa_ har];simp[xi_,show k<ar.length by omega]);have f2:=xc_ har k;clear har;have i1:(0:Int)≤(k:Int):=(by omega);have i2:(k:Int)<(n:Int):=(by omega);go_wp2;go_region_held3 (fun w'=>w'.cell? ⟨g,k*2+1,none⟩=some (.int .i64 kk)∧w'.cell? ⟨b,off+k,none⟩=some (.int .i64 x)) (refine⟨?_,?_⟩ <;> (repeat(first|assumption|with_reducible refine jh_ ?_|with_reducible refine ade_ (by assumption) ?_))) (first|(go_at_call 42;refine(xq_ _ _ _).mono ?_;rintro e w' ⟨rfl,rfl⟩))
    go_wp2;have hgl:=HGK.out;go_roundg (n - (k+1))
    all_goals first|omega|(refine⟨k+1,ar.set k (xd_ kk x),by go_num,by omega,by omega,?_,by simp[hal],?_,?_⟩)
    ·rw[xe_,xk_ HA.out,yp_]
    · intro i hi;by_cases e:i=k
      ·subst e;rw[HK.out,HX.out];simp[hal,hlt]
      ·have:=HT.out i (by omega);rw[← this];simp[List.getD,List.getElem?_set,show ¬k=i by omega]
    ·exact xf_ (yc_ hgr (Nat.le_refl _) _ _)
  · have hk':¬((k:Int)<(n:Int)):=(by omega);have hkn:k=n:=(by omega);go_wp2;go_ret;refine⟨rfl,?_,hgr⟩;rw[HA.out];have e:ar=xm_ (yb_ I) l:=by
     have e1:(yb_ I).length=n:=(by simp[yb_];exact HN.out);unfold xm_;rw[if_pos (by rw[e1];exact HL.out)];refine List.ext_getElem (by simp[e1,HL.out,hal]) fun i h1 h2=>?_;have:=HT.out i (by omega);have h3:i<(yb_ I).length:=(by rw[e1];omega);have h4:i<l.length:=(by rw[HL.out];omega);simp[h1,h3,h4] at this;simpa using this
    rw[e]
theorem aov_ (I:List (ByteArray×Int)) (hI:I.length=1∨I.length=2∨I.length=3∨I.length=4∨I.length=5) (a:Option Addr) (g len cap:Nat) (w:World) (hl:len≠I.length) :
 Calls Tryz.prog 65 #[.slice a len cap,.slice (some ⟨g,0,none⟩) I.length I.length] w (ab1_ I.length (List.replicate I.length 0) w):=by
 have hmk:=aou_ hI;unfold ajv_ at hmk;obtain⟨n,hn⟩:∃ n,I.length=n:=⟨_,rfl⟩;rw[hn] at hmk hI hl ⊢;clear hn;have hl':((len:Int)==(n:Int))=false:=(by simp;omega);go_enter Tryz.func65,Tryz.ntmps65;go_wp2;go_loopg [6] n (fun gk s6 wx=>∃(k:Nat),s6=.int .i64 k∧k≤n∧gk=n - k∧wx.heap[w.heap.size]?=some (.cells (xi_ (List.replicate n 0)) 3)∧w.grownBy wx none)
 case atStart=>exact⟨0,rfl,Nat.zero_le _,by omega,heap_alloc_new _ _,xb_ gz_ _⟩
 case round=>
  obtain⟨k,rfl,hk,hgk,har,hgr⟩:=hrel;have HGK:=hd_ hgk;clear hgk;by_cases hlt:k<n
  · have i2:(k:Int)<(n:Int):=(by omega);go_wp2;have hgl:=HGK.out;go_roundg (n - (k+1))
    all_goals first|omega|exact⟨k+1,by go_num,by omega,by omega,har,hgr⟩
  ·have hk':¬((k:Int)<(n:Int)):=(by omega);go_wp2;go_ret;exact⟨rfl,har,hgr⟩
theorem xp_ (I:List (ByteArray×Int)) (hI:I.length=1∨I.length=2∨I.length=3∨I.length=4∨I.length=5) (g:Nat) (v:Value) (l:List Int) (w:World) (hg:w.heap[g]?=some (.cells (ks_ I) 113)) (hr:rd w v l) :
 Calls Tryz.prog 65 #[v,.slice (some ⟨g,0,none⟩) I.length I.length] w (ab1_ I.length (xm_ (yb_ I) l) w):=by
 by_cases hl:l.length=I.length
 ·obtain⟨b,off,cap,rfl,hc⟩:=an2_ hr (by omega);exact amh_ I hI g b off cap l w hg hl hc
 ·obtain⟨a,cap,rfl,_⟩:=hr;have e:(yb_ I).length=I.length:=(by simp[yb_]);rw[aht_ (by rw[e];exact hl),e];exact aov_ I hI a g l.length cap w hl
end Go.Proofs.YtcgbfhpmkpglkaaGreatDoor.Bl
