/-
  WHAT IS PROVED: the statement Rows.SafetyVotesSaid: whatever the ballots, the delay, the steps and the sensors that tell more, the Go function SafetyVotes returns true and leaves its arguments alone; there are no conditions.
  The frame below is the one that the guide's program writes, with the form's own reach handed on; the walk and the facts ahead of it are mine.
-/
import Derived.Test.YtefekafpmnaeoaaAi
import Derived.Test.YtefekafpmnaeoaaOb
namespace Go.Proofs.Ytefekafpmnaeoaa.safetyVotes
open Go.ChangeShapes Go.WideShapes Go.ChangeAt Go.RowKit Go.Lib
set_option linter.unusedVariables false
set_option linter.unusedSimpArgs false

set_option maxRecDepth 100000 in
theorem lifted (os : Os) (started : os.Started) (H : Type) (enc : TypeId × Value → H) :
    ReturnsInHanded {} Try.checked os 6 .any (Rows.safetyVotesSpec.pre6 enc Try.prog Try.f6 Rows.safetyVotesRow.domain false) (Rows.safetyVotesSpec.post enc Try.prog Try.f6 false true false false) := by
  refine returnsInHanded_of_change_sized (C := Try.checked) all_own started (by kernel_rfl) Try.func6
    (ChangeSpec.witness6 (enc := enc) (C := Try.checked) false ⟨#[], #[.slice none 0 0, .int .i64 0, .slice none 0 0, .slice none 0 0], []⟩ 8 (by kernel_rfl) (by kernel_rfl) (by kernel_rfl) (by kernel_rfl)) ?_
  intro W base args ds gs before hval0 hW hcnd hsz0 _
  have hsz : (DataW.weightsEach Try.prog (Try.f6.params.toList ++ Rows.safetyVotesSpec.plain.varTypes Try.prog) (ds ++ gs)).all (· ≤ reachBytes) = true := hsz0
  have hval : ∀ (j : Nat) t v, Try.f6.params[j]? = some t → args[j]? = some v → Value.okWide Try.prog W .any base t v := hval0
  have hW' := hW
  obtain ⟨p, q, hA0, hV, rfl, hfz, hnd⟩ := hW
  have hA : DataW.TrodAll enc Try.prog W 0 (fun _ => true) true Try.f6.params.toList args.toList ds p := hA0
  rw [Try.params6] at hA hval hsz
  obtain ⟨v0, vs0, d0, ds0, p0, q0, hargs, rfl, rfl, h0, r0⟩ := trodAll_cons hA
  obtain ⟨v1, vs1, d1, ds1, p1, q1, rfl, rfl, rfl, h1, r1⟩ := trodAll_cons r0
  obtain ⟨v2, vs2, d2, ds2, p2, q2, rfl, rfl, rfl, h2, r2⟩ := trodAll_cons r1
  obtain ⟨v3, vs3, d3, ds3, p3, q3, rfl, rfl, rfl, h3, r3⟩ := trodAll_cons r2
  obtain ⟨rfl, rfl, rfl⟩ := trodAll_nil r3
  obtain rfl : args = #[v0, v1, v2, v3] := by cases args; simp_all
  obtain ⟨rfl, rfl⟩ := trodVars_none hV
  have k0 := h0
  have lt0 : ∀ x ∈ p0, x.block < W.heap.size := by obtain ⟨m, hm⟩ := k0; exact DataW.trod_lt m _ _ _ hm
  obtain ⟨a0, len0, cap0, rfl⟩ := okWide_slice Try.underlying42 (hval 0 42 v0 rfl rfl)
  obtain ⟨l0, hT0, hz0, hb0⟩ : ∃ l, rdVs W (.slice a0 len0 cap0) l ∧ (∀ b ∈ l, in64 b.1 ∧ ∀ x ∈ b.2, in64 x) ∧ OkL l := by
    obtain ⟨fuel, hf⟩ := h0
    exact ballots_in hf (fun k hk => by
      have := List.all_eq_true.1 hsz _ (DataW.weights_mem_each (j := 0) (t := 42) (d := d0) rfl rfl k hk)
      simpa using this)
  obtain ⟨n1, rfl, rfl, rfl, w1⟩ := open_int Try.underlying3 (hval 1 3 v1 rfl rfl) h1
  have k2 := h2
  have lt2 : ∀ x ∈ p2, x.block < W.heap.size := by obtain ⟨m, hm⟩ := k2; exact DataW.trod_lt m _ _ _ hm
  obtain ⟨a2, len2, cap2, rfl⟩ := okWide_slice Try.underlying43 (hval 2 43 v2 rfl rfl)
  obtain ⟨l2, hT2, hz2, hb2⟩ : ∃ l, rdTs W (.slice a2 len2 cap2) l ∧ (∀ b ∈ l, (∀ x ∈ b.1, in64 x) ∧ b.1.length ≤ 17592186043904) ∧ l.length ≤ 17592186043904 := by
    obtain ⟨fuel, hf⟩ := h2
    exact tolds_in hf (fun k hk => by
      have := List.all_eq_true.1 hsz _ (DataW.weights_mem_each (j := 2) (t := 43) (d := d2) rfl rfl k hk)
      simpa using this)
  have k3 := h3
  have lt3 : ∀ x ∈ p3, x.block < W.heap.size := by obtain ⟨m, hm⟩ := k3; exact DataW.trod_lt m _ _ _ hm
  obtain ⟨a3, len3, cap3, rfl⟩ := okWide_slice Try.underlying26 (hval 3 26 v3 rfl rfl)
  obtain ⟨l3, hT3, hz3, hb3⟩ : ∃ l, rd W (.slice a3 len3 cap3) l ∧ (∀ x ∈ l, in64 x) ∧ l.length ≤ 17592186043904 := by
    obtain ⟨fuel, hf⟩ := h3
    exact rdW_sized hf (fun k hk => by
      have := List.all_eq_true.1 hsz _ (DataW.weights_mem_each (j := 3) (t := 26) (d := d3) rfl rfl k hk)
      simpa using this)
  clear hA0 hval0
  refine (votesLaw_any l0 n1 l2 l3 _ _ _ W hT0 hT2 hT3 (in_of_wf w1) hz0 hb0 hz2 hb2 hz3 (Nat.le_trans hb3 (by omega))).mono fun e W' ⟨he, hg⟩ => ?_
  subst he
  have bel : Below W.heap.size W W' := below_gr hg
  exact ⟨_, rfl, _, _, _, [], _, [], hW', trodAll_mk1 (shut_bool Try.underlying4 _), (trodAll_cons_mk (Below.trod all_laidOut (by kernel_rfl) (of_decide_eq_true (by kernel_rfl)) k0 bel lt0) (trodAll_cons_mk (shut_int Try.underlying3 w1) (trodAll_cons_mk (Below.trod all_laidOut (by kernel_rfl) (of_decide_eq_true (by kernel_rfl)) k2 bel lt2) (trodAll_cons_mk (Below.trod all_laidOut (by kernel_rfl) (of_decide_eq_true (by kernel_rfl)) k3 bel lt3) trodAll_mk0)))), rfl, bel.frame _, fun h => by cases h⟩

theorem over : Rows.safetyVotesRow.holds Try.pinned (OpenSpec.ofChange Rows.safetyVotesSpec) :=
  OpenClaim.holds_of_wide 6 Try.f6 rfl rfl rfl rfl rfl rfl rfl ⟨rfl, rfl, rfl, rfl, rfl⟩ rfl rfl rfl rfl rfl (by kernel_rfl) Try.func6 (by kernel_rfl)
    (of_decide_eq_true (by kernel_rfl)) (by unfold Func.isWrapper; first | (rw [if_pos (by decide +kernel)]; kernel_rfl) | (rw [if_neg (by decide +kernel)]; exact ⟨rfl, rfl⟩))
    (fun os started H enc _ => lifted os started H enc)
end Go.Proofs.Ytefekafpmnaeoaa.safetyVotes
namespace Go.Proofs.Ytefekafpmnaeoaa
/-- The statement. -/
theorem safetyVotes_proved : Rows.SafetyVotesSaid := safetyVotes.over
#print axioms safetyVotes_proved
end Go.Proofs.Ytefekafpmnaeoaa
