/- PROVED: whatever the text and whichever of its letters are made great or small, Parse answers the same fault and the same units. Conditions: the package-level variables that the row lists hold what the program's and the library's text lays (the card ties that). -/
import Derived.Test.YtdcoidmbainkmaaGreatDoorQ38
import Derived.Test.YtdcoidmbainkmaaGreatDoorTie
import Derived.Test.YtdcoidmbainkmaaGreatDoorCards
import Derived.Stop.Joined
import Derived.Deep.Grids
import Derived.HandedShaped
import Derived.SizedLaws
namespace Go.Proofs.YtdcoidmbainkmaaGreatDoor
open Go.ChangeShapes Go.WideShapes Go.ChangeAt Go.RowKit Go.Lib Go.Deep
open Go.ChangeMaps (open_string shut_string)
set_option linter.unusedVariables false
theorem lift_both {H : Type} {enc : TypeId × Value → H} {a : Assume} {C : Checked} {os : Os} {f : FuncId} {fn : Func} {s : ChangeSpec} {conds : List PathCond} {apart fresh handsOn again : Bool} {X : World → Array Value → Prop}
 (hX : ∀ (w w' : World) (args : Array Value),w.heap = w'.heap → X w args → X w' args)
 (own : ownKnob C.prog.godebug = none) (started : os.Started) (noInit : C.prog.inits.idxOf? f = none) (hfn : C.prog.funcs[f]? = some fn)
 (witness : ∃ (w : World) (tape : Tape) (i : Input),w.os = os ∧ (w.forCall tape i).Shaped C.prog ∧ i.vars = [] ∧ Input.okWide C.prog (w.forCall tape i) .any w.heap.size f i ∧
   ((s.pre enc C.prog fn conds apart (w.forCall tape i).memory i.args ∧ X (w.forCall tape i).memory i.args) ∧ sizedMet enc C.prog fn (OpenSpec.ofChange s) apart (w.forCall tape i).memory i.args) ∧ a.holds C.prog (lone (Frame.enter C.prog f i.args .normal) [] (w.forCall tape i)))
 (contract : ∀ (W : World) (base : Nat) (args : Array Value) (ds gs : List (DataW H)) (before : List MemPlace),
   (∀ (j : Nat) t v,fn.params[j]? = some t → args[j]? = some v → Value.okWide C.prog W .any base t v) →
   DataW.Whole enc C.prog fn.params.toList s.vars apart W args.toList ds gs before →
   (DataW.weightsEach C.prog (fn.params.toList ++ s.plain.varTypes C.prog) (ds ++ gs)).all (· ≤ reachBytes) = true → X W args → W.ShapedOpen C.prog →
   Calls C.prog f args W fun e W' => ∃ v,e = .returned v ∧ s.post enc C.prog fn apart fresh handsOn again W args v W') :
 ReturnsInHanded a C os f .any (fun w args => (s.pre enc C.prog fn conds apart w args ∧ X w args) ∧ sizedMet enc C.prog fn (OpenSpec.ofChange s) apart w args) (s.post enc C.prog fn apart fresh handsOn again) := by
 refine returnsInHanded_of_calls own started noInit witness ?_
 intro w tape i _ hsh _ hok hpre hholds
 obtain ⟨_,_,_,fn',hfn',_,_,_,_,hval⟩ := hok
 have e : fn' = fn := Option.some.inj (hfn'.symm.trans hfn)
 subst e
 obtain ⟨⟨⟨ds,gs,before,hw,_⟩,hx⟩,hz⟩ := hpre
 have hw' := DataW.Whole.of_heap (w' := w.forCall tape i) (by rfl) hw
 refine (contract (w.forCall tape i) w.heap.size i.args ds gs before hval hw' (hz.weights hw) (hX _ _ _ (by rfl) hx) hsh).mono fun e W' ⟨v,he,hp⟩ => ?_
 subst he
 exact ChangeSpec.post_blind hp
section
variable {H : Type} {enc : TypeId × Value → H} {w : World}
theorem gb_of {fuel : Nat} {a : Option Addr} {n c t : Nat} {x : DataW H × List MemPlace} (ht : Tryz.prog.underlying t = some (.slice 4)) (h : DataW.trod enc Tryz.prog w 0 (fun _ => true) true fuel t [.slice a n c] = some x) : GB w a n ∧ n ≤ 9223372036854775807 := by
 rcases open_bools ht Tryz.underlying4 (by kernel_rfl) h with ⟨hcs,_⟩ | ⟨g,len,cap,B,hcs,_,hl,hm,_,hcell⟩
 · simp at hcs
   obtain ⟨rfl,rfl,rfl⟩ := hcs
   exact ⟨Or.inl rfl,by omega⟩
 · simp at hcs
   obtain ⟨rfl,rfl,rfl⟩ := hcs
   refine ⟨?_,by unfold maxLen at hm; omega⟩
   by_cases h0 : n = 0
   · exact Or.inl h0
   · obtain ⟨b,off,rfl⟩ := spot_none (hcell 0 (by omega))
     refine Or.inr ⟨b,off,rfl,Lib.lt_of_cell (hcell 0 (by omega)),fun i hi => ⟨B i,?_⟩⟩
     have := hcell i (by omega)
     rwa [addn] at this
end
set_option maxRecDepth 100000 in
theorem sourceCase_lifted (os : Os) (started : os.Started) (H : Type) (enc : TypeId × Value → H) :
 ReturnsInHanded {} Tryz.checked os 4 .any (fun w args => (Rows.sourceCaseSpec.pre enc Tryz.prog Tryz.f4 [] false w args ∧ laidMetH Tryz.prog laidL w) ∧ sizedMet enc Tryz.prog Tryz.f4 (OpenSpec.ofChange Rows.sourceCaseSpec) false w args)
  (Rows.sourceCaseSpec.post enc Tryz.prog Tryz.f4 false true false false) := by
 refine lift_both (C := Tryz.checked) (X := fun w _ => laidMetH Tryz.prog laidL w) (fun _ _ _ hh h => h.of_heap hh) all_own started (by kernel_rfl) Tryz.func4
  (ChangeSpec.witness_shaped (enc := enc) (C := Tryz.checked) (os := os) (X := fun w _ => laidMetH Tryz.prog laidL w) false (World.laidAll Tryz.prog os laidL) #[.string ⟨#[]⟩,.slice none 0 0] 8 (World.laidAll_os _ _ _)
   (World.shaped_of_ZipB (by kernel_rfl) (by kernel_rfl)) (by kernel_rfl) (by kernel_rfl) (by kernel_rfl)
   (by rw [MakeChecks.laidMetH_plain _ _ _ (by kernel_rfl)]; exact laidMet_laidAll _ (by kernel_rfl) (by kernel_rfl))) ?_
 intro W base args ds gs before hval0 hW hsz0 hL hsh
 have hsz : (DataW.weightsEach Tryz.prog (Tryz.f4.params.toList ++ Rows.sourceCaseSpec.plain.varTypes Tryz.prog) (ds ++ gs)).all (· ≤ reachBytes) = true := hsz0
 have hval : ∀ (j : Nat) t v,Tryz.f4.params[j]? = some t → args[j]? = some v → Value.okWide Tryz.prog W .any base t v := hval0
 have hW' := hW
 obtain ⟨p,q,hA0,hV,rfl,_,_⟩ := hW
 have hA : DataW.TrodAll enc Tryz.prog W 0 (fun _ => true) true Tryz.f4.params.toList args.toList ds p := hA0
 rw [Tryz.params4] at hA hval hsz
 obtain ⟨v0,vs0,d0,ds0,p0,q0,hargs,rfl,rfl,h0,r0⟩ := trodAll_cons hA
 obtain ⟨v1,vs1,d1,ds1,p1,q1,rfl,rfl,rfl,h1,r1⟩ := trodAll_cons r0
 obtain ⟨rfl,rfl,rfl⟩ := trodAll_nil r1
 obtain rfl : args = #[v0,v1] := by cases args; simp_all
 obtain ⟨rfl,rfl⟩ := trodVars_none hV
 obtain ⟨s,rfl,rfl,rfl,ws⟩ := open_string Tryz.underlying9 (hval 0 9 v0 rfl rfl) h0
 obtain ⟨a1,n1,c1,rfl⟩ := okWide_slice Tryz.underlying39 (hval 1 39 v1 rfl rfl)
 have k1 := h1
 have lt1 : ∀ x ∈ p1,x.block < W.heap.size := by obtain ⟨m,hm⟩ := k1; exact DataW.trod_lt m _ _ _ hm
 obtain ⟨hgb,hgn⟩ : GB W a1 n1 ∧ n1 ≤ 9223372036854775807 := by
  obtain ⟨fuel,hf⟩ := h1
  exact gb_of Tryz.underlying39 hf
 have hz : s.size ≤ 140737488355328 := by
  have := sized_string hsz (j := 0) rfl rfl
  unfold reachBytes at this
  have hl : s.data.toList.length = s.size := rfl
  omega
 clear hA0 hval0
 simp only [List.append_nil] at hW'
 obtain ⟨hT,hSg,hU,⟨ev,hE,hev⟩,⟨m,hM⟩,hsz15⟩ := giv_of hL hsh
 have hU' : ∀ W',Vs W W' → Lib.Utf8Tabs 7 8 W' := fun W' hW' => utf_kept hU hW'
 refine (case_law (V := W) (rn_c m hM hU' ev hE hev) (ixa_of (ixs_of irh) W) m hM hSg hU' hT s a1 n1 c1 W hgb hgn (fun _ _ => rfl) hsz15 hz).mono fun e W' ⟨he,hg⟩ => ?_
 subst he
 have bel : Below W.heap.size W W' := below_gr hg
 exact ⟨_,rfl,_,_,_,[],_,[],hW',trodAll_mk1 (shut_bool Tryz.underlying4 _),(trodAll_cons_mk (shut_string Tryz.underlying9 ws) (trodAll_cons_mk (Below.trod all_laidOut (by kernel_rfl) (of_decide_eq_true (by kernel_rfl)) k1 bel lt1) trodAll_mk0)),rfl,bel.frame _,fun h => by cases h⟩
theorem sourceCase_over : Rows.SourceCaseSaid :=
 OpenClaim.holds_of_wide 4 Tryz.f4 rfl rfl rfl rfl rfl rfl rfl ⟨rfl,rfl,rfl,rfl,rfl⟩ rfl rfl rfl rfl rfl (by kernel_rfl) Tryz.func4 (by kernel_rfl)
  (of_decide_eq_true (by kernel_rfl)) (by unfold Func.isWrapper; first | (rw [if_pos (by decide +kernel)]; kernel_rfl) | (rw [if_neg (by decide +kernel)]; exact ⟨rfl,rfl⟩))
  (fun os started H enc _ => sourceCase_lifted os started H enc)
theorem sourceCase_proved : Rows.SourceCaseCardSaid :=
 Claim7.holds_tied_plain_at .later [] [.data, .data, .data, .data, .sentinel, .sentinel, .data, .data, .data, .data, .data, .data, .pinned, .pinned] true (true, "fc1fffb7019b1433bf3687935ae8e5dc48d9e8df937147a35fa664bbd5a56839") true
  sourceCase_over (fun _ h => by cases h) (by kernel_rfl) (fun _ h => by cases h) sourceCase_row_tie rfl ⟨rfl,rfl⟩ (by kernel_rfl) rfl
  (fun f fn hf hfn => by
    obtain rfl : f = 4 := Option.some.inj ((show Tryz.prog.funcNamed "plantwright/plantwrightkeep.SourceCase" = some 4 by kernel_rfl).symm.trans hf) |>.symm
    obtain rfl : fn = Tryz.f4 := (Option.some.inj (Tryz.func4.symm.trans hfn)).symm
    exact ⟨by kernel_rfl,fun j t ht => by
     rw [Tryz.params4] at ht
     have hm : t ∈ [9,39] := by simpa using Array.mem_of_getElem? ht
     have hall : ([9,39].all fun u => !Tryz.prog.wantsStandIn u) = true := by kernel_rfl
     exact (show Tryz.prog.wantsStandIn t = false by simpa using List.all_eq_true.1 hall t hm)⟩)
  (by kernel_rfl)
#print axioms sourceCase_proved
end Go.Proofs.YtdcoidmbainkmaaGreatDoor
