/- Texts put together: Tb, Ma. -/
import Derived.Test.YtcoglmaiahpooaaGreatDoorQ02
import Derived.Test.YtcoglmaiahpooaaGreatDoorQ03
set_option linter.unusedVariables false
set_option linter.unusedSimpArgs false
set_option maxHeartbeats 8000000
namespace Go.Proofs.YtcoglmaiahpooaaGreatDoor
open Go.RowKit
attribute [local go_sem ↓] Go.wp_at_zero Go.wp_at_succ
theorem qt_ {k:IntKind} {a b:Int} (h:a=b):Ending.returned (.int k a)=.returned (.int k b):=by rw[h]
theorem xw_ {a b:Bool} (h:a=b):Ending.returned (.bool a)=.returned (.bool b):=by rw[h]
theorem afn_ {f:Func} {k:Tmp} {T:TypeId} (hr:f.results=#[.cell k T]) (tmps:Array Value) (W:World) (q:Nat) (cs:Array Value) (hk:tmps.getD k undef=.pointer (some ⟨q,0,none⟩)) (hl:(loadVar T ⟨q,0,none⟩).run Tryz.prog W=.ok (.agg cs) W):(results f tmps).run Tryz.prog W=.ok (.agg cs) W:=by
 have h6':tmps[k]?.getD undef=.pointer (some ⟨q,0,none⟩):=(by simpa using hk);simp[results,hr];rw[h6'];simp[asAddr,hl,Result.andThen]
theorem xt_ {w W:World} {r:Option Nat} (h:w.grownBy W r) (n:Nat):w.grownBy (W.drewN n) r:=⟨h.os,h.tape,h.output,h.size,h.block⟩
abbrev xs_ (W:World) (b:Bool):Ending→World→Prop:=fun e w'=>e=.returned (.bool b)∧W.grownBy w' none
theorem yh_ {s:ByteArray} {i:Nat} (hi:i<s.size):s.data.toList.drop i=(s[i]'hi)::s.data.toList.drop (i+1):=by
 rw[List.drop_eq_getElem_cons (by simpa using hi)];rfl
theorem zi_ {s:ByteArray} {i:Nat} (hi:¬i<s.size):s.data.toList.drop i=[]:=List.drop_eq_nil_of_le (by show s.data.size≤i;have:s.data.size=s.size:=rfl;omega)
theorem abp_ {s:ByteArray} (h:s.size=0):s=⟨#[]⟩:=by
 obtain⟨⟨l⟩⟩:=s;cases l with
 | nil=>rfl
 | cons a l=>simp[ByteArray.size] at h
theorem zj_ (s:ByteArray):s.toList=s.data.toList:=by
 have key:∀(n i:Nat) (r:List UInt8),s.size - i≤n→ByteArray.toList.loop s i r=r.reverse++s.data.toList.drop i:=by
  intro n;induction n with
  | zero=>
   intro i r h;rw[ByteArray.toList.loop,if_neg (by omega),zi_ (by omega),List.append_nil]
  | succ n ih=>
   intro i r h;rw[ByteArray.toList.loop];split
   · rename_i hi;rw[ih (i+1) _ (by omega),yh_ hi];simp;show s.data[i]! = s.data[i]
     exact getElem!_pos s.data i hi
   ·rename_i hi;rw[zi_ hi,List.append_nil]
 have:=key s.size 0 [] (by omega);simpa[ByteArray.toList] using this
theorem afo_ {s:ByteArray} (h:s.size≠0):(s.toList==[])=false:=by
 rw[zj_];have:s.data.toList.length=s.size:=rfl
 cases hh:s.data.toList with
 | nil=>rw[hh] at this;simp at this;omega
 | cons a l=>rfl
theorem jj_ (c:Int) (w:World):Calls Tryz.prog 116 #[.int .u8 c] w fun e w'=>e=.returned (.bool (dgI c))∧w=w':=by
 by_cases h1:48≤c
 ·by_cases h2:c≤57;all_goals(go_enter Tryz.func116,Tryz.ntmps116;go_wp2;go_ret;exact⟨xw_ (by simp[dgI,h1,h2]),rfl⟩)
 ·go_enter Tryz.func116,Tryz.ntmps116;go_wp2;go_ret;exact⟨xw_ (by simp[dgI];omega),rfl⟩
theorem ul_ (c:Int) (w:World):Calls Tryz.prog 117 #[.int .u8 c] w fun e w'=>e=.returned (.bool (ltI c))∧w=w':=by
 have key:∀(a1 a2 a3 a4 a5:Bool),decide (97≤c)=a1→decide (c≤122)=a2→decide (65≤c)=a3→decide (c≤90)=a4→decide (c=95)=a5→Calls Tryz.prog 117 #[.int .u8 c] w fun e w'=>e=.returned (.bool (a1 && a2 ||a3 && a4 ||a5))∧w=w':=by
  intro a1 a2 a3 a4 a5 h1 h2 h3 h4 h5;have h5':(c==95)=a5:=(by rw[← h5];rfl);cases a1 <;> cases a2 <;> cases a3 <;> cases a4 <;> cases a5;all_goals simp only[decide_eq_true_eq,decide_eq_false_iff_not] at h1 h2 h3 h4
  all_goals clear h5
  all_goals go_enter Tryz.func117,Tryz.ntmps117
  all_goals go_wp2
  all_goals go_ret
  all_goals exact⟨rfl,rfl⟩
 exact key _ _ _ _ _ rfl rfl rfl rfl rfl
theorem aaw_ (c:Int) (w:World):Calls Tryz.prog 49 #[.int .u8 c] w fun e w'=>e=.returned (.bool (dgI c))∧w=w':=by
 by_cases h1:48≤c
 ·by_cases h2:c≤57;all_goals(go_enter Tryz.func49,Tryz.ntmps49;go_wp2;go_ret;exact⟨xw_ (by simp[dgI,h1,h2]),rfl⟩)
 ·go_enter Tryz.func49,Tryz.ntmps49;go_wp2;go_ret;exact⟨xw_ (by simp[dgI];omega),rfl⟩
theorem um_ (c:Int) (w:World):Calls Tryz.prog 50 #[.int .u8 c] w fun e w'=>e=.returned (.bool (ltI c))∧w=w':=by
 have key:∀(a1 a2 a3 a4 a5:Bool),decide (97≤c)=a1→decide (c≤122)=a2→decide (65≤c)=a3→decide (c≤90)=a4→decide (c=95)=a5→Calls Tryz.prog 50 #[.int .u8 c] w fun e w'=>e=.returned (.bool (a1 && a2 ||a3 && a4 ||a5))∧w=w':=by
  intro a1 a2 a3 a4 a5 h1 h2 h3 h4 h5;have h5':(c==95)=a5:=(by rw[← h5];rfl);cases a1 <;> cases a2 <;> cases a3 <;> cases a4 <;> cases a5;all_goals simp only[decide_eq_true_eq,decide_eq_false_iff_not] at h1 h2 h3 h4
  all_goals clear h5
  all_goals go_enter Tryz.func50,Tryz.ntmps50
  all_goals go_wp2
  all_goals go_ret
  all_goals exact⟨rfl,rfl⟩
 exact key _ _ _ _ _ rfl rfl rfl rfl rfl
end Go.Proofs.YtcoglmaiahpooaaGreatDoor
