/- Texts put together: Za, Ld. -/
import Derived.Test.YtdcoidmbainkmaaGreatDoorQ34
import Derived.Test.YtdcoidmbainkmaaGreatDoorQ25
import Derived.Test.YtdcoidmbainkmaaGreatDoorQ37
import Derived.Test.YtdcoidmbainkmaaGreatDoorQ35
import Derived.Test.YtdcoidmbainkmaaGreatDoorRows
import Derived.PinnedBridge
import Derived.Lib.LaidTab
import Derived.ProofKit
import Derived.Lay
import Derived.LaidOnce
import Derived.SevenTiedAt
import Derived.OpenShut
import Derived.ShutString
import Derived.Shelf.Vars
namespace Go.Proofs.YtdcoidmbainkmaaGreatDoor
theorem par_one:(parP (tokF oneS) oneS).1.length=1∧(parP (tokF oneS) oneS).2.1=0:=by decide +kernel
theorem case_law {V:World} (hR:RnC V) (hIA:IxA V) (m:Int) (hM:V.cell? ⟨6,0,none⟩=some (.int .i64 m)) (hSg:V.heap[5]?=some (.cells sgA 184)) (hU:∀ W,Vs V W→Lib.Utf8Tabs 7 8 W) (hT:Tabs V)
 (s:ByteArray) (ga:Option Addr) (gn gc:Nat) (w:World) (hga:GB w ga gn) (hgn:gn≤9223372036854775807) (hV:Vs V w) (hs:15≤w.heap.size) (hz:s.size≤140737488355328) :
 Calls Tryz.prog 4 #[.string s,.slice ga gn gc] w fun e w'=>e=.returned (.bool true)∧w.grownBy w' none:=
 case_any tokF (fun s hs=>scn_any hR hIA m hM hSg hU s hs) (fun s _=>tok_good s) hT par_one (fun s t h=>tok_case s t h) s ga gn gc w hga hgn hV hs hz
end Go.Proofs.YtdcoidmbainkmaaGreatDoor

namespace Go.Proofs.YtdcoidmbainkmaaGreatDoor
open Go.RowKit Go.Lib Go.Shelf
set_option linter.unusedVariables false
set_option linter.unusedSimpArgs false
def laidL:List (String×DataW Unit):=[("math/bits.deBruijn32tab",Rows.laid_math_bits_deBruijn32tab),("math/bits.deBruijn64tab",Rows.laid_math_bits_deBruijn64tab),("internal/strconv.uint64pow10",Rows.laid_internal_strconv_uint64pow10),("unicode/utf8.acceptRanges",Rows.laid_unicode_utf8_acceptRanges),("strconv.ErrRange",Rows.laid_strconv_ErrRange),("strconv.ErrSyntax",Rows.laid_strconv_ErrSyntax),("plantwright/tokens.signs",Rows.laid_plantwright_tokens_signs),("plantwright/source.unitWords",Rows.laid_plantwright_source_unitWords),("plantwright/source.kindWords",Rows.laid_plantwright_source_kindWords),("plantwright/source.roleWords",Rows.laid_plantwright_source_roleWords),("plantwright/source.opWords",Rows.laid_plantwright_source_opWords),("plantwright/source.opLevels",Rows.laid_plantwright_source_opLevels),("unicode.CaseRanges",Rows.laid_unicode_CaseRanges),("unicode/utf8.first",Rows.laid_unicode_utf8_first)]
theorem words_var {W:World} {name:String} {g:Nat} {t:TypeId} {n:Nat} {ls:List (List UInt8)} (hg:Tryz.prog.globalNamed name=some g) (hty:(Tryz.prog.globals[g]?).map (·.type)=some t)
 (ht:Tryz.prog.underlying t=some (.array n 9)) (hct:Tryz.prog.cellsOf t=n) (h:VarReads Tryz.prog W name (.agg (ls.map fun l=>.lit (.string l)))) :
 W.var? Tryz.prog name=some (ls.map fun l=>Value.string ⟨l.toArray⟩).toArray:=by
 obtain ⟨g',t',cs,fuel,p,hg',ht',hvar,hd⟩:=h;obtain rfl:=Option.some.inj (hg.symm.trans hg');obtain rfl:=Option.some.inj (hty.symm.trans ht');have c9:Tryz.prog.cellsOf 9=1:=(by kernel_rfl);obtain ⟨xs,m,_,hx,hl,hxl,hf⟩:=DataW.trod_array ht hd;have hx1:xs.map (·.1)=ls.map fun l=>(.lit (.string l):DataW Unit):=by
  have:=congrArg Prod.fst hx;simp only [DataW.agg.injEq] at this;exact this.symm
 have hln:ls.length=n:=by
  have:=congrArg List.length hx1;simp at this;omega
 rw [hct] at hl;rw [hvar];refine congrArg some (Array.ext' ?_);apply List.ext_getElem?;intro i;by_cases hi:i<n
 · have h1:=hf i hi;rw [c9,Nat.mul_one] at h1;have hxi:i<xs.length:=(by omega);have hli:i<ls.length:=(by omega);rw [List.getElem?_eq_getElem hxi] at h1;obtain ⟨s,hs1,hs2,_⟩:=DataW.trod_string Tryz.underlying9 h1;have h2:(xs.map (·.1))[i]?=some (.lit (.string s.data.toList)):=(by rw [List.getElem?_map,List.getElem?_eq_getElem hxi,Option.map_some,hs2]);rw [hx1,List.getElem?_map,List.getElem?_eq_getElem hli,Option.map_some] at h2;have h3:ls[i]=s.data.toList:=(by simpa using h2);have h4:cs.toList[i]?=some (.string s):=by
    have h5:(cs.toList.drop i)[0]?=((cs.toList.drop i).take 1)[0]?:=(by simp);rw [hs1] at h5;simpa using h5
   rw [h4,List.getElem?_map,List.getElem?_eq_getElem hli,Option.map_some,h3]
 · rw [List.getElem?_eq_none (by omega),List.getElem?_eq_none (by simp;omega)]
theorem ints_var {W:World} {name:String} {g:Nat} {t e:TypeId} {n:Nat} {k:IntKind} {zs:List Int} (hg:Tryz.prog.globalNamed name=some g) (hty:(Tryz.prog.globals[g]?).map (·.type)=some t)
 (ht:Tryz.prog.underlying t=some (.array n e)) (he:Tryz.prog.underlying e=some (.int k)) (hce:Tryz.prog.cellsOf e=1) (hct:Tryz.prog.cellsOf t=n) (h:VarReads Tryz.prog W name (tabData k zs)) :
 W.var? Tryz.prog name=some (zs.map fun z=>Value.int k z).toArray:=by
 obtain ⟨g',t',cs,fuel,p,hg',ht',hvar,hd⟩:=h;obtain rfl:=Option.some.inj (hg.symm.trans hg');obtain rfl:=Option.some.inj (hty.symm.trans ht');rw [hvar,← cells_of_tab ht he hce hct hd]
theorem row_of {W:World} (hsh:W.ShapedOpen Tryz.prog) {name:String} {g:Nat} {zero cs:Array Value} {t:TypeId} (hg:Tryz.prog.globalNamed name=some g) (hlt:g<Tryz.prog.globals.size)
 (h0:((begin Tryz.prog (fun _ _=>0) default).world.heap[g]?).bind Obj.row?=some (zero,t)) (hv:W.var? Tryz.prog name=some cs):W.heap[g]?=some (.cells cs t):=by
 obtain ⟨cs',hh,_⟩:=hsh.1 g zero t hlt h0;simp only [World.var?,hg,Option.bind_some,hh] at hv;rw [hh,Option.some.inj hv]
theorem iface_of_trod {H:Type} {enc:TypeId×Value→H} {P:Program} {w:World} {base:Nat} {sp:Nat→Bool} {held:Bool} {fuel:Nat} {t:TypeId} {ms:Array (String×TypeId)} {cs:List Value} {nm:String} {d:DataW H} {p:List MemPlace}
 (ht:P.underlying t=some (.interface ms)) (h:DataW.trod enc P w base sp held fuel t cs=some (.iface nm d,p)):∃ te pe,cs=[.iface te pe]:=by
 cases fuel with
 | zero=>simp [DataW.trod] at h
 | succ fuel=>
  unfold DataW.trod at h;rw [ht] at h;simp only at h;split at h <;> simp_all
theorem utf_kept {V W:World} (hU:Lib.Utf8Tabs 7 8 V) (h:Vs V W):Lib.Utf8Tabs 7 8 W:=
 ⟨fun c hc=>h.cell (by decide) (hU.1 c hc),fun i hi=>⟨h.cell (by decide) (hU.2 i hi).1,h.cell (by decide) (hU.2 i hi).2⟩⟩
structure Giv (W:World):Prop where
 tabs:Tabs W
 sg:W.heap[5]?=some (.cells sgA 184)
 u8:Lib.Utf8Tabs 7 8 W
 er:∃ ev,W.cell? ⟨12,0,none⟩=some ev∧(ev=.nilIface∨∃ te pe,ev=.iface te pe)
 mx:∃ m,W.cell? ⟨6,0,none⟩=some (.int .i64 m)
 sz:15≤W.heap.size
set_option maxRecDepth 100000 in
theorem giv_of {W:World} (h:laidMetH Tryz.prog laidL W) (hsh:W.ShapedOpen Tryz.prog):Giv W:=by
 rw [MakeChecks.laidMetH_plain _ _ _ (by kernel_rfl)] at h;refine ⟨⟨?_,?_,?_,?_,?_⟩,?_,?_,?_,?_,?_⟩
 · exact row_of hsh (name:= "plantwright/source.opWords") (zero:=Array.replicate 15 (.string ⟨#[]⟩)) (by kernel_rfl) (of_decide_eq_true (by kernel_rfl)) (by kernel_rfl)
    (words_var (g:=9) (ls:=[[],[43],[45],[42],[47],[109,111,100],[97,110,100],[111,114],[120,111,114],[61],[60,62],[60],[60,61],[62],[62,61]]) (t:=201) (n:=15) (by kernel_rfl) (by kernel_rfl) Tryz.underlying201 (by kernel_rfl)
     (show VarReads Tryz.prog W "plantwright/source.opWords" Rows.laid_plantwright_source_opWords from Lib.laidMet.reads h (.tail _ (.tail _ (.tail _ (.tail _ (.tail _ (.tail _ (.tail _ (.tail _ (.tail _ (.tail _ (.head _)))))))))))))
 · exact row_of hsh (name:= "plantwright/source.opLevels") (zero:=Array.replicate 15 (.int .i64 0)) (by kernel_rfl) (of_decide_eq_true (by kernel_rfl)) (by kernel_rfl)
    (ints_var (g:=3) (zs:=[0,6,6,7,7,7,3,1,2,4,4,5,5,5,5]) (t:=158) (n:=15) (e:=3) (k:=.i64) (by kernel_rfl) (by kernel_rfl) Tryz.underlying158 Tryz.underlying3 (by kernel_rfl) (by kernel_rfl)
     (show VarReads Tryz.prog W "plantwright/source.opLevels" Rows.laid_plantwright_source_opLevels from Lib.laidMet.reads h (.tail _ (.tail _ (.tail _ (.tail _ (.tail _ (.tail _ (.tail _ (.tail _ (.tail _ (.tail _ (.tail _ (.head _))))))))))))))
 · exact row_of hsh (name:= "plantwright/source.kindWords") (zero:=Array.replicate 6 (.string ⟨#[]⟩)) (by kernel_rfl) (of_decide_eq_true (by kernel_rfl)) (by kernel_rfl)
    (words_var (g:=1) (ls:=[[],[98,111,111,108],[105,110,116],[100,105,110,116],[119,111,114,100],[116,105,109,101]]) (t:=124) (n:=6) (by kernel_rfl) (by kernel_rfl) Tryz.underlying124 (by kernel_rfl)
     (show VarReads Tryz.prog W "plantwright/source.kindWords" Rows.laid_plantwright_source_kindWords from Lib.laidMet.reads h (.tail _ (.tail _ (.tail _ (.tail _ (.tail _ (.tail _ (.tail _ (.tail _ (.head _)))))))))))
 · exact row_of hsh (name:= "plantwright/source.roleWords") (zero:=Array.replicate 6 (.string ⟨#[]⟩)) (by kernel_rfl) (of_decide_eq_true (by kernel_rfl)) (by kernel_rfl)
    (words_var (g:=2) (ls:=[[],[118,97,114],[118,97,114,95,105,110,112,117,116],[118,97,114,95,111,117,116,112,117,116],[118,97,114,95,101,120,116,101,114,110,97,108],[118,97,114,32,114,101,116,97,105,110]]) (t:=124) (n:=6) (by kernel_rfl) (by kernel_rfl) Tryz.underlying124 (by kernel_rfl)
     (show VarReads Tryz.prog W "plantwright/source.roleWords" Rows.laid_plantwright_source_roleWords from Lib.laidMet.reads h (.tail _ (.tail _ (.tail _ (.tail _ (.tail _ (.tail _ (.tail _ (.tail _ (.tail _ (.head _))))))))))))
 · exact row_of hsh (name:= "plantwright/source.unitWords") (zero:=Array.replicate 4 (.string ⟨#[]⟩)) (by kernel_rfl) (of_decide_eq_true (by kernel_rfl)) (by kernel_rfl)
    (words_var (g:=0) (ls:=[[],[112,114,111,103,114,97,109],[102,117,110,99,116,105,111,110],[102,117,110,99,116,105,111,110,95,98,108,111,99,107]]) (t:=82) (n:=4) (by kernel_rfl) (by kernel_rfl) Tryz.underlying82 (by kernel_rfl)
     (show VarReads Tryz.prog W "plantwright/source.unitWords" Rows.laid_plantwright_source_unitWords from Lib.laidMet.reads h (.tail _ (.tail _ (.tail _ (.tail _ (.tail _ (.tail _ (.tail _ (.head _))))))))))
 · exact row_of hsh (name:= "plantwright/tokens.signs") (zero:=Array.replicate 22 (.string ⟨#[]⟩)) (by kernel_rfl) (of_decide_eq_true (by kernel_rfl)) (by kernel_rfl)
    (words_var (g:=5) (ls:=[[58,61],[61,62],[46,46],[60,61],[62,61],[60,62],[43],[45],[42],[47],[38],[61],[60],[62],[40],[41],[91],[93],[44],[59],[58],[46]]) (t:=184) (n:=22) (by kernel_rfl) (by kernel_rfl) Tryz.underlying184 (by kernel_rfl)
     (show VarReads Tryz.prog W "plantwright/tokens.signs" Rows.laid_plantwright_tokens_signs from Lib.laidMet.reads h (.tail _ (.tail _ (.tail _ (.tail _ (.tail _ (.tail _ (.head _)))))))))
 · exact utf8Tabs_of_reads (ρ:=Tryz.lays230_ren) { Tryz.lays230 with } ⟨by kernel_rfl,by kernel_rfl,by kernel_rfl,by kernel_rfl,by kernel_rfl,by kernel_rfl,by kernel_rfl⟩
    (Pinned.utf8First_eq▸Lib.laidMet.reads h (.tail _ (.tail _ (.tail _ (.tail _ (.tail _ (.tail _ (.tail _ (.tail _ (.tail _ (.tail _ (.tail _ (.tail _ (.tail _ (.head _)))))))))))))))
    (show VarReads Tryz.prog W "unicode/utf8.acceptRanges" Rows.laid_unicode_utf8_acceptRanges from Lib.laidMet.reads h (.tail _ (.tail _ (.tail _ (.head _)))))
 · obtain ⟨g',t',cs,fuel,p,hg',ht',hvar,hd⟩:=(show VarReads Tryz.prog W "strconv.ErrRange" Rows.laid_strconv_ErrRange from Lib.laidMet.reads h (.tail _ (.tail _ (.tail _ (.tail _ (.head _))))))
   obtain rfl:=Option.some.inj ((show Tryz.prog.globalNamed "strconv.ErrRange"=some 12 by kernel_rfl).symm.trans hg')
   obtain rfl:=Option.some.inj ((show (Tryz.prog.globals[12]?).map (·.type)=some 117 by kernel_rfl).symm.trans ht');obtain ⟨te,pe,hc⟩:=iface_of_trod Tryz.underlying117 hd;refine ⟨.iface te pe,?_,Or.inr ⟨te,pe,rfl⟩⟩;rw [World.var?_cell hg' hvar 0,← Array.getElem?_toList,hc];rfl
 · exact cell_of_shapedOpen_int (g:=6) (t:=3) (zero:=#[.int .i64 0]) hsh (of_decide_eq_true (by kernel_rfl)) (by kernel_rfl) rfl (by kernel_rfl) (by kernel_rfl) Tryz.underlying3
 · obtain ⟨cs,hh,_⟩:=hsh.1 14 (Array.replicate 64 (.int .u8 0)) 267 (of_decide_eq_true (by kernel_rfl)) (by kernel_rfl);have:=(Array.getElem?_eq_some_iff.1 hh).1;omega
end Go.Proofs.YtdcoidmbainkmaaGreatDoor
