/- PROVED: whatever the unit (where it is of bulk at most 1048576), source.May and source.Show answer as the document's own May and ShowUnit do, and leave what they are given alone. Conditions: the package-level variables that the row lists hold what the program's and the library's text lays (the card ties that). -/
import Derived.Test.YtcoglmaiahpooaaGreatDoorQ47
import Derived.Test.YtcoglmaiahpooaaGreatDoorQ54
import Derived.Test.YtcoglmaiahpooaaGreatDoorCards
import Derived.Test.YtcoglmaiahpooaaGreatDoorTie
import Derived.Deep.DeepHandedRow
import Derived.JoinedCond
import Derived.HandedShaped
import Derived.LaidLaws
set_option linter.unusedVariables false
set_option linter.unusedSimpArgs false
set_option maxHeartbeats 8000000
namespace Go.Proofs.YtcoglmaiahpooaaGreatDoor
open Go.RowKit
attribute [local go_sem ↓] Go.wp_at_zero Go.wp_at_succ
open Go.ChangeShapes Go.WideShapes Go.ChangeAt Go.Lib Go.Deep
theorem ui_:laidOutB Tryz.prog=true:=by kernel_rfl
theorem ae7_:ownKnob Tryz.prog.godebug=none:=by kernel_rfl
theorem ae8_:∀(l:List PV) (i:Nat) (hi:i<l.length),zt_ l[i]≤(l.map zt_).sum:=qn_ zt_
theorem ten {W:World} {ok:Nat→Prop} (uk ur:Int) (s1:ByteArray) (vs:List PV) (xv:Option Addr) (cv:Nat) (bo:List PS) (xb:Option Addr) (cb:Nat) (ua:Int)
 (h:kdU.S W ok ⟨uk,s1,ur,vs,bo,ua⟩ (.slice xv vs.length cv,.slice xb bo.length cb)) (hc:ju_ ⟨uk,s1,ur,vs,bo,ua⟩≤4000000) :
 ∀ X,W.grownBy X none→Calls Tryz.prog 10 #[.agg #[.int .i64 uk,.string s1,.int .i64 ur,.slice xv vs.length cv,.slice xb bo.length cb,.int .i64 ua]] X (xv_ X (bs (if yx_ ⟨uk,s1,ur,vs,bo,ua⟩=true then shU ⟨uk,s1,ur,vs,bo,ua⟩ else []))):=by
 intro X g;have hb:1+s1.size+(vs.map zt_).sum+ys_ bo≤4000000:=hc;have h1:Li kdV 54 X ok (.slice xv vs.length cv) vs:=(h.1:Li kdV 54 W ok _ vs).gw g;have h2:Li kdS 99 X ok (.slice xb bo.length cb) bo:=(h.2:Li kdS 99 W ok _ bo).gw g;refine ah9_ uk ur s1 vs xv cv bo xb cb ua (fun Y gy=>adg_ uk ur s1 vs xv cv bo xb cb ua (h1.gw gy) (adh_ (h2.gw gy))) h1 (by omega) (fun i hi=>by have:=ae8_ vs i hi;omega) (fun hm=>ah8_ (by omega) hm 2 (by omega) (by omega) (by omega) h2) (fun hm=>by
  have:=aap_ _ hm;omega)
theorem kr_ {H:Type} {enc:TypeId×Value→H} {C:Checked} {os:Os} {f:FuncId} {fn:Func} {s:OpenSpec} {conds:List PathCond} {apart:Bool} {laid:List (String×DataW Unit)} (modest:Bool) (w0:World) (args:Array Value) (hos:w0.os=os)
 (hsh:(w0.forCall (fun _ _=>0) ⟨#[],args,[]⟩).Shaped C.prog)
 (hok:Input.okWideB C.prog (w0.forCall (fun _ _=>0) ⟨#[],args,[]⟩) f ⟨#[],args,[]⟩=true)
 (hrow:s.preRow enc C.prog fn conds apart laid (w0.forCall (fun _ _=>0) ⟨#[],args,[]⟩).memory args) :
 ∃(w:World) (tape:Tape) (i:Input),w.os=os∧(w.forCall tape i).Shaped C.prog∧i.vars=[]∧Input.okWide C.prog (w.forCall tape i) .any w.heap.size f i∧
  s.preRow enc C.prog fn conds apart laid (w.forCall tape i).memory i.args∧({ modest:=modest }:Assume).holds C.prog (lone (Frame.enter C.prog f i.args .normal) [] (w.forCall tape i)):=
 ⟨w0,fun _ _=>0,⟨#[],args,[]⟩,hos,hsh,(Input.okWide_of_okWideB (base:=0) hok).1,(Input.okWide_of_okWideB hok).2,hrow,by
  simp only[Assume.holds];exact⟨by simp,by simp,fun _=>Modest.zero,by simp,by simp⟩⟩
def arg0:Array Value:=#[.agg #[.int .i64 0,.string ⟨#[]⟩,.int .i64 0,.slice none 0 0,.slice none 0 0,.int .i64 0]]
theorem aia_ (os:Os) {H:Type} (enc:TypeId×Value→H):∃ places,DataW.whole enc Tryz.prog ((World.laidAll Tryz.prog os ab9_).forCall (fun _ _=>0) ⟨#[],arg0,[]⟩).memory Tryz.f3.params.toList (Rows.OpenSpec.upto Rows.sourceShowSpec).vars false arg0.toList 8=some ([.agg [.lit (.int .i64 0),.lit (.string []),.lit (.int .i64 0),.nil,.nil,.lit (.int .i64 0)]],[],places):=
 ⟨[],by kernel_rfl⟩
set_option maxRecDepth 100000 in
theorem uj_ (os:Os) (started:os.Started) (H:Type) (enc:TypeId×Value→H) (F:Stop.Interp) :
 ReturnsInHanded {} Tryz.checked os 3 .any ((Rows.OpenSpec.upto Rows.sourceShowSpec).preRow enc Tryz.prog Tryz.f3 Rows.sourceShowUptoRow.domain false Rows.sourceShowUptoRow.laid) (((Rows.OpenSpec.upto Rows.sourceShowSpec).at F).post enc Tryz.prog Tryz.f3 false true false false):=by
 obtain⟨places,hx⟩:=aia_ os enc;refine returnsInHanded_of_row (C:=Tryz.checked) (s:=Rows.OpenSpec.upto Rows.sourceShowSpec) ae7_ started (by kernel_rfl) Tryz.func3
  (kr_ (enc:=enc) (C:=Tryz.checked) false (World.laidAll Tryz.prog os ab9_) arg0 (World.laidAll_os _ _ _) (World.shaped_of_ZipB (by kernel_rfl) (by kernel_rfl)) (by kernel_rfl)
   (OpenSpec.preRow_of_cond 8 hx (by kernel_rfl) (fun k hk=>by cases hk;kernel_rfl) (by kernel_rfl) (by rw[MakeChecks.laidMetH_plain _ _ _ (by kernel_rfl)];exact laidMet_laidAll _ (by kernel_rfl) (by kernel_rfl)))) ?_
 intro W base args ds gs before hval0 hW _ hcond _ hL hsh _;have hval:∀(j:Nat) t v,Tryz.f3.params[j]?=some t→args[j]?=some v→Value.okWide Tryz.prog W .any base t v:=hval0;have hW':=hW;obtain⟨p,q,hA0,hV,rfl,_,_⟩:=hW;have hA:DataW.TrodAll enc Tryz.prog W 0 (fun _=>true) true Tryz.f3.params.toList args.toList ds p:=hA0;rw[Tryz.params3] at hA hval;obtain⟨v0,vs0,d0,ds0,p0,q0,hargs,rfl,rfl,h0,r0⟩:=trodAll_cons hA;obtain⟨rfl,rfl,rfl⟩:=trodAll_nil r0;obtain rfl:args=#[v0]:=(by cases args;simp_all);obtain⟨rfl,rfl⟩:=trodVars_none hV;have hk:decide (Rows.uptoBulkAll ([d0]++[])≤1048576)=true:=hcond _ rfl;have hbk:=of_decide_eq_true hk;simp only[Rows.uptoBulkAll,List.append_nil] at hbk;have k0:=h0;have lt0:∀ x∈p0,x.block<W.heap.size:=(by obtain⟨m,hm⟩:=k0;exact DataW.trod_lt m _ _ _ hm);obtain⟨cs,rfl,hcs⟩:=okWide_struct Tryz.underlying27 (hval 0 27 v0 rfl rfl);obtain⟨fuel,hf⟩:=h0;obtain⟨u,qq,hu,hS,hcu⟩:=ae5_ hf (by omega);have hcs2:cs=(uC u qq).toArray:=by
  have:cs.toList=uC u qq:=hu
  rw[← this]
 subst hcs2;have hcu:ju_ u≤Rows.uptoBulk d0:=hcu;obtain⟨uk,s1,ur,vs,bo,ua⟩:=u;obtain⟨q1,q2⟩:=qq;have hS1:Li kdV 54 W (fun _=>True) q1 vs:=hS.1;have hS2:Li kdS 99 W (fun _=>True) q2 bo:=hS.2;obtain⟨xv,cv,rfl⟩:=hS1.sl;obtain⟨xb,cb,rfl⟩:=hS2.sl;clear hA0 hval0;simp only[List.append_nil] at hW';obtain⟨hT,hP,hVs⟩:=aca_ hL hsh;have hc4:ju_ ⟨uk,s1,ur,vs,bo,ua⟩≤4000000:=(by omega);refine(adj_ hT hP hVs uk ur s1 vs xv cv bo xb cb ua hS hc4 _ rfl (ten uk ur s1 vs xv cv bo xb cb ua hS hc4)).mono fun e W' ⟨he,hg⟩=>?_;subst he;have bel:Below W.heap.size W W':=vt_ hg;exact⟨_,rfl,_,_,_,[],_,[],hW',trodAll_mk1 (shut_bool Tryz.underlying4 _),(trodAll_cons_mk (Below.trod ui_ (by kernel_rfl) (of_decide_eq_true (by kernel_rfl)) k0 bel lt0) trodAll_mk0),rfl,bel.frame _,fun h=>by cases h⟩
theorem uk_:joinedFacts Tryz.pinned.checked.prog 3 Tryz.f3 (Rows.OpenSpec.upto Rows.sourceShowSpec).bare Rows.sourceShowUptoRow=true:=by kernel_rfl
theorem adp_ (os:Os) (started:os.Started) (H:Type) (enc:TypeId×Value→H) (F:Stop.Interp) :
 ReturnsInHanded Rows.sourceShowUptoRow.assume Tryz.pinned.checked os 3 .any (Rows.sourceShowUptoRow.pre enc Tryz.pinned.checked.prog Tryz.f3 (Rows.OpenSpec.upto Rows.sourceShowSpec)) (((Rows.OpenSpec.upto Rows.sourceShowSpec).at F).post enc Tryz.pinned.checked.prog Tryz.f3 Rows.sourceShowUptoRow.apart Rows.sourceShowUptoRow.fresh Rows.sourceShowUptoRow.handsOn Rows.sourceShowUptoRow.again):=by
 rw[OpenClaim.pre_eq_preRow];exact uj_ os started H enc F
theorem abk_:Rows.SourceShowUptoSaid:=
 OpenClaim.holds_of_cond 3 Tryz.f3 rfl rfl rfl rfl rfl rfl rfl ⟨rfl,rfl,rfl,rfl,rfl⟩ rfl rfl rfl rfl rfl (by kernel_rfl) Tryz.func3 uk_
  (of_decide_eq_true (by kernel_rfl)) (by unfold Func.isWrapper;first|(rw[if_pos (by decide +kernel)];kernel_rfl)|(rw[if_neg (by decide +kernel)];exact⟨rfl,rfl⟩))
  (fun os started H enc _ F=>adp_ os started H enc F)
theorem sourceShow_proved:Rows.SourceShowUptoCardSaid:=
 Claim7.holds_tied_plain_at .later [] [.data,.data,.data,.data,.data,.data,.data,.data,.data,.pinned,.pinned] true (true, "22d89db865233c1587b0df6f4f42dcdd823c6d7a1c60f441906a98b8d511da91") true
  abk_ (fun _ h=>by cases h) (by kernel_rfl) (fun _ h=>by cases h) sourceShowUpto_row_tie rfl ⟨rfl,rfl⟩ (by kernel_rfl) rfl
  (fun f fn hf hfn=>by
    obtain rfl:f=3:=Option.some.inj ((show Tryz.prog.funcNamed "plantwright/plantwrightlaw.SourceShow"=some 3 by kernel_rfl).symm.trans hf) |>.symm
    obtain rfl:fn=Tryz.f3:=(Option.some.inj (Tryz.func3.symm.trans hfn)).symm;exact⟨by kernel_rfl,fun j t ht=>by
     rw[Tryz.params3] at ht;have hm:t∈[27]:=(by simpa using Array.mem_of_getElem? ht);have hall:([27].all fun u=>!Tryz.prog.wantsStandIn u)=true:=(by kernel_rfl);exact(show Tryz.prog.wantsStandIn t=false by simpa using List.all_eq_true.1 hall t hm)⟩)
  (by kernel_rfl)
#print axioms sourceShow_proved
end Go.Proofs.YtcoglmaiahpooaaGreatDoor
