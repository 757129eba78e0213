/- Texts put together: F5. -/
import Derived.Test.YtcgbfhpmkpglkaaGreatDoorQ43
import Derived.Deep.DeepCutAuto
set_option linter.unusedVariables false
set_option linter.unusedSimpArgs false
set_option maxHeartbeats 8000000
namespace Go.Proofs.YtcgbfhpmkpglkaaGreatDoor
open Go.RowKit
attribute [local go_sem ↓] Go.wp_at_zero Go.wp_at_succ
set_option maxRecDepth 10000 in
theorem aja_ (a b c:Int) (h12:¬(1≤a∧a≤12)) (l:List (Int×Nat)) (fn n i u:Nat) (psv:Value) (w:World) (hC:CdAt w psv u l fn n i ⟨18,a,b,c⟩) (hf:fn≤1000000000000) (hn:n≤1000000000000) (hu:u≤1000000000000) (hm:∀ j,(l.getD j (0,0)).2≤1000000000000) :
 Calls Tryz.prog 20 #[psv,.int .i64 u,.int .i64 i] w fun e w'=>e=.returned (.bool (okD l fn n i ⟨18,a,b,c⟩))∧w.grownBy w' none:=by
 obtain⟨⟨b',off,np,cap,fa,fc,tb,toff,tc,rfl,hun,p2,p4,hin,q0,q1,q2,q3,hll,hah⟩⟩:=hC;dsimp only at q0 q1 q2 q3;have i1:(0:Int)≤(u:Int):=(by omega);have i2:(u:Int)<(np:Int):=(by omega);have i3:(0:Int)≤(i:Int):=(by omega);have i4:(i:Int)<(n:Int):=(by omega);have P2:∀ ob,(w.alloc ob).cell? ⟨b',off+u*5+2,none⟩=some (.slice fa fn fc):=fun ob=>(gr1 w ob).cell p2 (by simp);have P4:∀ ob,(w.alloc ob).cell? ⟨b',off+u*5+4,none⟩=some (.slice (some ⟨tb,toff,none⟩) n tc):=fun ob=>(gr1 w ob).cell p4 (by simp);clear p2;clear hah hll hm;by_cases hc:c=0
 case neg=>
  have HV:=hd_ (by simp[okD,hc]:okD l fn n i ⟨18,a,b,c⟩=false);rw[HV.out];have hc2:(c==0)=false:=(by simpa using hc);go_enter Tryz.func20,Tryz.ntmps20;go_wp2;go_ret;refine⟨?_,gr1 _ _⟩;simp
 subst hc
 ·
  have HV:=hd_ (by simp[okD];omega:okD l fn n i ⟨18,a,b,0⟩=false);rw[HV.out];obtain⟨m,hm⟩:∃ m:Int,m=0:=⟨0,rfl⟩;have cS:∀ w',w.grownBy w' none→w'.cell? ⟨w.heap.size,1,none⟩=some (.int .i64 a)→w'.cell? ⟨w.heap.size,2,none⟩=some (.int .i64 b)→Calls Tryz.prog 39 #[.int .i64 a] w' fun e w2=>e=.returned (.int .i64 m)∧w2.cell? ⟨w.heap.size,1,none⟩=some (.int .i64 a)∧w2.cell? ⟨w.heap.size,2,none⟩=some (.int .i64 b)∧w.grownBy w2 none:=fun w' hg k1 k2=>(afz_ a w' (by omega)).mono fun e w2 h=>⟨by rw[hm];exact h.1,h.2.cell k1 (by simp),h.2.cell k2 (by simp),hg.trans h.2⟩;have hdm:decide (0<m)=false:=(by rw[hm];rfl);clear hm;go_enter Tryz.func20,Tryz.ntmps20;go_upto_region 48 with(fail);go_cut [6] (fun s6 wx=>s6=.bool false∧w.grownBy wx none)
  case first=>
   first|go_region_with (first|(go_at_call 39;refine(cS _ (xf_ (gr1 _ _)) (by go_keep) (by go_keep)).mono ?_;rintro e w1 ⟨rfl,k1,k2,hg1⟩))|fail
   all_goals(go_wp2_with fail)
   all_goals go_meet
   all_goals first|exact⟨rfl,hg1⟩|exact⟨by simp,hg1⟩
  case rest=>
   obtain⟨rfl,hg⟩:=hcut;go_wp2;go_ret;exact⟨rfl,hg⟩
end Go.Proofs.YtcgbfhpmkpglkaaGreatDoor
