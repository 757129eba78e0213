/- Texts put together: K1, K2. -/
import Derived.Test.YtcgbfhpmkpglkaaGreatDoorQ01
import Derived.Test.YtcgbfhpmkpglkaaGreatDoorRows
set_option linter.unusedVariables false
set_option linter.unusedSimpArgs false
set_option maxHeartbeats 8000000
namespace Go.Proofs.YtcgbfhpmkpglkaaGreatDoor
open Go.RowKit
theorem xs_ {k:IntKind} {a b:Int} (h:a=b):Ending.returned (.int k a)=.returned (.int k b):=by rw[h]
theorem xr_ {a b:Bool} (h:a=b):Ending.returned (.bool a)=.returned (.bool b):=by rw[h]
def isK (k:Int):Bool:=decide (1≤k) && decide (k≤5)
theorem ju_ (k:Int) (w:World) :
 Calls Tryz.prog 91 #[.int .i64 k] w fun e w'=>e=.returned (.bool (isK k))∧w'=w:=by
 by_cases h1:1≤k
 · by_cases h2:k≤5
   ·go_enter Tryz.func91,Tryz.ntmps91;go_wp2;go_ret;exact⟨xr_ (by simp[isK,h1,h2]),rfl⟩
   ·go_enter Tryz.func91,Tryz.ntmps91;go_wp2;go_ret;exact⟨xr_ (by simp[isK,h1,h2]),rfl⟩
 ·go_enter Tryz.func91,Tryz.ntmps91;go_wp2;go_ret;exact⟨xr_ (by simp[isK];omega),rfl⟩
def yu_ (op k:Int):Bool:=
 if op==3 ||op==4 ||op==5 ||op==22 ||op==23 then(k==2 ||k==3)
 else if op==1 ||op==2 then((k==2 ||k==3) ||k==5)
 else if op==11 ||op==12 ||op==13 ||op==14 ||op==19 ||op==20 then(((k==2 ||k==3) ||k==5) ||k==4)
 else if op==6 ||op==7 ||op==8 ||op==21 then(k==1 ||k==4)
 else if op==15 ||op==16 ||op==17 ||op==18 then k==4
 else if op==9 ||op==10 then isK k
 else false
theorem qm_ (op k:Int) (w:World) :
 Calls Tryz.prog 82 #[.int .i64 op,.int .i64 k] w fun e w'=>e=.returned (.bool (yu_ op k))∧w'=w:=by
 by_cases c2:(k==2)=true
 · go_enter Tryz.func82,Tryz.ntmps82;go_wp2_with (go_at_call 91;refine(ju_ _ _).mono ?_;rintro e w' ⟨rfl,rfl⟩)
   all_goals go_ret
   all_goals exact⟨xr_ (by simp[yu_, *]),rfl⟩
 · have c2:(k==2)=false:=(by simpa using c2);by_cases c3:(k==3)=true
   · go_enter Tryz.func82,Tryz.ntmps82;go_wp2_with (go_at_call 91;refine(ju_ _ _).mono ?_;rintro e w' ⟨rfl,rfl⟩)
     all_goals go_ret
     all_goals exact⟨xr_ (by simp[yu_, *]),rfl⟩
   · have c3:(k==3)=false:=(by simpa using c3);go_enter Tryz.func82,Tryz.ntmps82;go_wp2_with (go_at_call 91;refine(ju_ _ _).mono ?_;rintro e w' ⟨rfl,rfl⟩)
     all_goals go_ret
     all_goals exact⟨xr_ (by simp[yu_, *]),rfl⟩
def qt_ (op:Int):Bool:=decide (9≤op) && decide (op≤14)
theorem zt_ (op:Int) (w:World) :
 Calls Tryz.prog 92 #[.int .i64 op] w fun e w'=>e=.returned (.bool (qt_ op))∧w'=w:=by
 by_cases h1:9≤op
 · go_enter Tryz.func92,Tryz.ntmps92;go_wp2;all_goals go_ret
   all_goals exact⟨xr_ (by simp[qt_];omega),rfl⟩
 · go_enter Tryz.func92,Tryz.ntmps92;go_wp2;all_goals go_ret
   all_goals exact⟨xr_ (by simp[qt_];omega),rfl⟩
def yd_ (op k:Int):Int:=if yu_ op k=true then(if qt_ op=true then 1 else k) else 0
theorem u1_ (op k:Int) (w:World) :
 Calls Tryz.prog 83 #[.int .i64 op,.int .i64 k] w fun e w'=>e=.returned (.int .i64 (yd_ op k))∧w'=w:=by
 by_cases h1:yu_ op k=true
 · by_cases h2:qt_ op=true
   · go_enter Tryz.func83,Tryz.ntmps83;go_wp2_with (first|(go_at_call 82;refine(qm_ _ _ _).mono ?_;rintro e w' ⟨rfl,rfl⟩)|(go_at_call 92;refine(zt_ _ _).mono ?_;rintro e w' ⟨rfl,rfl⟩))
     go_ret;exact⟨xs_ (by simp[yd_,h1,h2]),rfl⟩
   · have h2:qt_ op=false:=(by simpa using h2);go_enter Tryz.func83,Tryz.ntmps83;go_wp2_with (first|(go_at_call 82;refine(qm_ _ _ _).mono ?_;rintro e w' ⟨rfl,rfl⟩)|(go_at_call 92;refine(zt_ _ _).mono ?_;rintro e w' ⟨rfl,rfl⟩))
     go_ret;exact⟨xs_ (by simp[yd_,h1,h2]),rfl⟩
 · have h1:yu_ op k=false:=(by simpa using h1);go_enter Tryz.func83,Tryz.ntmps83;go_wp2_with (first|(go_at_call 82;refine(qm_ _ _ _).mono ?_;rintro e w' ⟨rfl,rfl⟩)|(go_at_call 92;refine(zt_ _ _).mono ?_;rintro e w' ⟨rfl,rfl⟩))
   go_ret;exact⟨xs_ (by simp[yd_,h1]),rfl⟩
def xt_ (op k:Int):Int:=
 if yu_ op k=true then(if op==21 ||op==22 ||op==23 then 0 else if op==15 ||op==16 ||op==17 ||op==18 then 2 else k) else 0
theorem jv_ (op k:Int) (w:World) :
 Calls Tryz.prog 81 #[.int .i64 op,.int .i64 k] w fun e w'=>e=.returned (.int .i64 (xt_ op k))∧w'=w:=by
 by_cases h1:yu_ op k=true
 · go_enter Tryz.func81,Tryz.ntmps81;go_wp2_with (go_at_call 82;refine(qm_ _ _ _).mono ?_;rintro e w' ⟨rfl,rfl⟩)
   all_goals go_ret
   all_goals exact⟨xs_ (by simp[xt_, *]),rfl⟩
 · have h1:yu_ op k=false:=(by simpa using h1);go_enter Tryz.func81,Tryz.ntmps81;go_wp2_with (go_at_call 82;refine(qm_ _ _ _).mono ?_;rintro e w' ⟨rfl,rfl⟩)
   go_ret;exact⟨xs_ (by simp[xt_,h1]),rfl⟩
def shB (op:Int):Bool:=op==15 ||op==16 ||op==17 ||op==18
theorem u3_ {op k:Int} (h:yu_ op k=true) (hs:shB op=true):xt_ op k=2:=by
 simp[shB] at hs;rcases hs with((rfl|rfl)|rfl)|rfl
 all_goals simp[xt_,h]
theorem ae1_ (k:Int):k=1∨k=2∨k=3∨k=4∨k=5∨(k≠1∧k≠2∧k≠3∧k≠4∧k≠5):=by omega
theorem ops (op:Int):op=1∨op=2∨op=3∨op=4∨op=5∨op=6∨op=7∨op=8∨op=9∨op=10∨op=11∨op=12∨op=13∨op=14∨op=15∨op=16∨op=17∨op=18∨op=19∨op=20∨op=21∨op=22∨op=23∨(op<1∨23<op):=by omega
theorem vv_ {op:Int} (k:Int) (h:op<1∨23<op):yu_ op k=false:=by
 unfold yu_;have e:∀ n:Int,1≤n→n≤23→(op==n)=false:=fun n a b=>by simp;omega
 simp[e]
theorem acm_ {op k:Int} (h:isK k=false):yd_ op k=0:=by
 have e:∀ n:Int,1≤n→n≤5→(k==n)=false:=fun n a b=>by simp[isK] at h;simp;omega
 have hh:yu_ op k=false:=by
  simp[yu_,h,e]
 simp[yd_,hh]
theorem xw_ (op k:Int) (w:World) :
 Calls Tryz.prog 37 #[.int .i64 op,.int .i64 k] w fun e w'=>e=.returned (.int .i64 (yd_ op k))∧w'=w:=by
 rcases ops op with rfl|rfl|rfl|rfl|rfl|rfl|rfl|rfl|rfl|rfl|rfl|rfl|rfl|rfl|rfl|rfl|rfl|rfl|rfl|rfl|rfl|rfl|rfl|h
 case inr.inr.inr.inr.inr.inr.inr.inr.inr.inr.inr.inr.inr.inr.inr.inr.inr.inr.inr.inr.inr.inr.inr=>
  have HR:Hid (yd_ op k=0):=by
   show yd_ op k=0
   simp[yd_,vv_ k h]
  have f:∀ n:Int,1≤n→n≤23→(op==n)=false:=fun n a b=>by simp;omega
  have g1:=f 1 (by decide) (by decide);have g2:=f 2 (by decide) (by decide);have g3:=f 3 (by decide) (by decide);have g4:=f 4 (by decide) (by decide);have g5:=f 5 (by decide) (by decide);have g6:=f 6 (by decide) (by decide);have g7:=f 7 (by decide) (by decide);have g8:=f 8 (by decide) (by decide);have g9:=f 9 (by decide) (by decide);have g10:=f 10 (by decide) (by decide);have g19:=f 19 (by decide) (by decide);have g20:=f 20 (by decide) (by decide);have g21:=f 21 (by decide) (by decide);have g22:=f 22 (by decide) (by decide);have g23:=f 23 (by decide) (by decide);clear f;rcases h with h|h
  ·go_enter Tryz.func37,Tryz.ntmps37;go_wp2;go_ret;exact⟨by simp;exact HR.out.symm,rfl⟩
  ·go_enter Tryz.func37,Tryz.ntmps37;go_wp2;go_ret;exact⟨by simp;exact HR.out.symm,rfl⟩
 all_goals
  go_enter Tryz.func37,Tryz.ntmps37;go_wp2
 all_goals go_ret
 all_goals refine⟨?_,rfl⟩
 all_goals simp
 all_goals try simp only[beq_iff_eq,beq_eq_false_iff_ne,ne_eq] at *
 all_goals rcases ae1_ k with rfl|rfl|rfl|rfl|rfl|h
 all_goals first|omega|decide|rw[acm_ (by simp[isK];omega)]
theorem kt_ (op k:Int):yd_ op k=0↔yu_ op k=false:=by
 constructor
 · intro h;by_cases hh:yu_ op k=true
   · exfalso;simp only[yd_,hh,if_true] at h;split at h
     ·omega
     ·subst h;have e:isK 0=false:=(by decide);simp[yu_,e] at hh
   ·simpa using hh
 ·intro h;simp[yd_,h]
theorem afx_ {op k:Int} (h:yu_ op k=true) (ho:21≤op):xt_ op k=0:=by
 have h3:op=21∨op=22∨op=23:=by
  by_cases h4:23<op
  ·rw[vv_ k (.inr h4)] at h;cases h
  ·omega
 simp only[xt_,h,if_true];rcases h3 with rfl|rfl|rfl <;> rfl
theorem x2_ (op k:Int) (w:World) :
 Calls Tryz.prog 26 #[.int .i64 op,.int .i64 k] w fun e w'=>e=.returned (.int .i64 (xt_ op k))∧w'=w:=by
 by_cases hh:yu_ op k=true
 · have hz:(yd_ op k==0)=false:=by
    have:=(kt_ op k);simp only[hh] at this;simp at this;simpa using this
   by_cases h1:21≤op
   · have HS:Hid (xt_ op k=0):=afx_ hh h1;clear hh;go_enter Tryz.func26,Tryz.ntmps26;go_wp2_with (go_at_call 37;refine(xw_ _ _ _).mono ?_;rintro e w' ⟨rfl,rfl⟩)
     go_ret;exact⟨xs_ HS.out.symm,rfl⟩
   · have h2:op<21:=(by omega);clear h1;by_cases h3:15≤op
     · by_cases h4:op≤18
       · have HS:Hid (xt_ op k=2):=u3_ hh (by simp[shB];omega);clear hh;go_enter Tryz.func26,Tryz.ntmps26;go_wp2_with (go_at_call 37;refine(xw_ _ _ _).mono ?_;rintro e w' ⟨rfl,rfl⟩)
         go_ret;exact⟨xs_ HS.out.symm,rfl⟩
       · have h5:18<op:=(by omega);have HS:Hid (xt_ op k=k):=by
          show xt_ op k=k
          have h6:op=19∨op=20:=(by omega);simp only[xt_,hh,if_true];rcases h6 with rfl|rfl <;> rfl
         clear hh h4;go_enter Tryz.func26,Tryz.ntmps26;go_wp2_with (go_at_call 37;refine(xw_ _ _ _).mono ?_;rintro e w' ⟨rfl,rfl⟩)
         go_ret;exact⟨xs_ HS.out.symm,rfl⟩
     · have h5:op<15:=(by omega);have HS:Hid (xt_ op k=k):=by
        show xt_ op k=k
        have f:∀ n:Int,15≤n→(op==n)=false:=fun n a=>by simp;omega
        simp[xt_,hh,f]
       clear hh h3;go_enter Tryz.func26,Tryz.ntmps26;go_wp2_with (go_at_call 37;refine(xw_ _ _ _).mono ?_;rintro e w' ⟨rfl,rfl⟩)
       go_ret;exact⟨xs_ HS.out.symm,rfl⟩
 · have hh:yu_ op k=false:=(by simpa using hh);have hz:(yd_ op k==0)=true:=by
    have:=(kt_ op k).2 hh;simp[this]
   have HS:Hid (xt_ op k=0):=by
    show xt_ op k=0
    simp[xt_,hh]
   clear hh;go_enter Tryz.func26,Tryz.ntmps26;go_wp2_with (go_at_call 37;refine(xw_ _ _ _).mono ?_;rintro e w' ⟨rfl,rfl⟩)
   go_ret;exact⟨xs_ HS.out.symm,rfl⟩
end Go.Proofs.YtcgbfhpmkpglkaaGreatDoor
