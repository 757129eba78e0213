/-
  WHAT IS PROVED: the statement Rows.ChangeCarrySaid: for whatever units and whatever frame the Go function ChangeCarry returns true and leaves its arguments alone; there are no conditions.
  The frame below is the one that the guide's program writes, with the form's own reach handed on; the walk and the facts ahead of it are mine.
-/
import Derived.Test.YtmkgobmlpmjocaaL
import Derived.Test.YtmkgobmlpmjocaaO
namespace Go.Proofs.Ytmkgobmlpmjocaa.changeCarry
open Go.ChangeShapes Go.WideShapes Go.ChangeAt Go.RowKit Go.Lib
set_option linter.unusedVariables false
set_option linter.unusedSimpArgs false

theorem two_bd {p q : Pr} (h1 : p.fs.length ≤ 17592186043904) (h2 : p.sl.length * 56 ≤ 140737488351232) (h3 : p.tx.length * 32 ≤ 140737488351232) (k1 : q.fs.length ≤ 17592186043904) (k2 : q.sl.length * 56 ≤ 140737488351232) (k3 : q.tx.length * 32 ≤ 140737488351232) : BdP [p, q] := by
  have hh : ∀ i, i < [p, q].length → i = 0 ∨ i = 1 := fun i hi => by simp at hi; omega
  refine ⟨by simp, fun i hi => ?_, fun i hi => ?_, fun i hi => ?_⟩
  · rcases hh i hi with rfl | rfl
    · exact h1
    · exact k1
  · rcases hh i hi with rfl | rfl
    · exact h2
    · exact k2
  · rcases hh i hi with rfl | rfl
    · exact h3
    · exact k3

set_option maxRecDepth 100000 in
theorem lifted (os : Os) (started : os.Started) (H : Type) (enc : TypeId × Value → H) :
    ReturnsInHanded {} Try.checked os 3 .any (Rows.changeCarrySpec.pre6 enc Try.prog Try.f3 Rows.changeCarryRow.domain false) (Rows.changeCarrySpec.post enc Try.prog Try.f3 false true false false) := by
  refine returnsInHanded_of_change_sized (C := Try.checked) all_own started (by kernel_rfl) Try.func3
    (ChangeSpec.witness6 (enc := enc) (C := Try.checked) false ⟨#[], #[.agg #[.int .i64 0, .string ByteArray.empty, .slice none 0 0, .slice none 0 0, .slice none 0 0], .slice none 0 0, .agg #[.int .i64 0, .string ByteArray.empty, .slice none 0 0, .slice none 0 0, .slice none 0 0]], []⟩ 8 (by kernel_rfl) (by kernel_rfl) (by kernel_rfl) (by kernel_rfl)) ?_
  intro W base args ds gs before hval0 hW hcnd hsz0 _
  have hsz : (DataW.weightsEach Try.prog (Try.f3.params.toList ++ Rows.changeCarrySpec.plain.varTypes Try.prog) (ds ++ gs)).all (· ≤ reachBytes) = true := hsz0
  have hval : ∀ (j : Nat) t v, Try.f3.params[j]? = some t → args[j]? = some v → Value.okWide Try.prog W .any base t v := hval0
  have hW' := hW
  obtain ⟨p, q, hA0, hV, rfl, hfz, hnd⟩ := hW
  have hA : DataW.TrodAll enc Try.prog W 0 (fun _ => true) true Try.f3.params.toList args.toList ds p := hA0
  rw [Try.params3] at hA hval hsz
  obtain ⟨v0, vs0, d0, ds0, p0, q0, hargs, rfl, rfl, h0, r0⟩ := trodAll_cons hA
  obtain ⟨v1, vs1, d1, ds1, p1, q1, rfl, rfl, rfl, h1, r1⟩ := trodAll_cons r0
  obtain ⟨v2, vs2, d2, ds2, p2, q2, rfl, rfl, rfl, h2, r2⟩ := trodAll_cons r1
  obtain ⟨rfl, rfl, rfl⟩ := trodAll_nil r2
  obtain rfl : args = #[v0, v1, v2] := by cases args; simp_all
  obtain ⟨rfl, rfl⟩ := trodVars_none hV
  have k0 := h0
  have k1 := h1
  have k2 := h2
  have lt0 : ∀ x ∈ p0, x.block < W.heap.size := by obtain ⟨m, hm⟩ := k0; exact DataW.trod_lt m _ _ _ hm
  have lt1 : ∀ x ∈ p1, x.block < W.heap.size := by obtain ⟨m, hm⟩ := k1; exact DataW.trod_lt m _ _ _ hm
  have lt2 : ∀ x ∈ p2, x.block < W.heap.size := by obtain ⟨m, hm⟩ := k2; exact DataW.trod_lt m _ _ _ hm
  obtain ⟨k, nm, oa, oc, sv, tv, fo, so, to', rfl, ho, hSo, hTo, hwo, b1, b2, b3⟩ := unit_in (hval 0 27 v0 rfl rfl) h0 (fun k hk => by
      have := List.all_eq_true.1 hsz _ (DataW.weights_mem_each (j := 0) (t := 27) (d := d0) rfl rfl k hk)
      simpa using this)
  obtain ⟨k', nm', na, nc, sv', tv', fn, sn, tn, rfl, hn, hSn, hTn, hwn, b4, b5, b6⟩ := unit_in (hval 2 27 v2 rfl rfl) h2 (fun k hk => by
      have := List.all_eq_true.1 hsz _ (DataW.weights_mem_each (j := 2) (t := 27) (d := d2) rfl rfl k hk)
      simpa using this)
  obtain ⟨ra, fr, rc, rfl, hr, hcap, hrb⟩ : ∃ a l cap, v1 = .slice a (List.length l) cap ∧ rd W v1 l ∧ l.length ≤ cap ∧ l.length ≤ 17592186043904 := by
    obtain ⟨fuel, hf⟩ := h1
    have hkv : Value.okWide Try.prog W .any base 23 v1 := hval 1 23 v1 rfl rfl
    have hcv : v1.cells.toList = [v1] := by
      rcases okWide_slice Try.underlying23 hkv with ⟨a, n, c, rfl, _⟩
      rfl
    rw [hcv] at hf
    exact rd_sized hf (fun k hk => by
      have := List.all_eq_true.1 hsz _ (DataW.weights_mem_each (j := 1) (t := 23) (d := d1) rfl rfl k hk)
      simpa using this)
  clear hA0 hval0
  refine (law_any k k' nm nm' ra oa na rc oc nc sv tv sv' tv' fr fo fn so sn to' tn W hr hcap ho hn hSo hSn hTo hTn hwo hwn (two_bd b1 b2 b3 b4 b5 b6) hrb).mono fun e W' ⟨he, hg⟩ => ?_
  subst he
  have bel : Below W.heap.size W W' := below_gr hg
  exact ⟨_, rfl, _, _, _, [], _, [], hW', trodAll_mk1 (shut_bool Try.underlying4 _), (trodAll_cons_mk (Below.trod all_laidOut (by kernel_rfl) (of_decide_eq_true (by kernel_rfl)) k0 bel lt0) (trodAll_cons_mk (Below.trod all_laidOut (by kernel_rfl) (of_decide_eq_true (by kernel_rfl)) k1 bel lt1) (trodAll_cons_mk (Below.trod all_laidOut (by kernel_rfl) (of_decide_eq_true (by kernel_rfl)) k2 bel lt2) trodAll_mk0))), rfl, bel.frame _, fun h => by cases h⟩

theorem over : Rows.changeCarryRow.holds Try.pinned (OpenSpec.ofChange Rows.changeCarrySpec) :=
  OpenClaim.holds_of_wide 3 Try.f3 rfl rfl rfl rfl rfl rfl rfl ⟨rfl, rfl, rfl, rfl, rfl⟩ rfl rfl rfl rfl rfl (by kernel_rfl) Try.func3 (by kernel_rfl)
    (of_decide_eq_true (by kernel_rfl)) (by unfold Func.isWrapper; first | (rw [if_pos (by decide +kernel)]; kernel_rfl) | (rw [if_neg (by decide +kernel)]; exact ⟨rfl, rfl⟩))
    (fun os started H enc _ => lifted os started H enc)
end Go.Proofs.Ytmkgobmlpmjocaa.changeCarry
namespace Go.Proofs.Ytmkgobmlpmjocaa
/-- The statement. -/
theorem changeCarry_proved : Rows.ChangeCarrySaid := changeCarry.over
#print axioms changeCarry_proved
end Go.Proofs.Ytmkgobmlpmjocaa
