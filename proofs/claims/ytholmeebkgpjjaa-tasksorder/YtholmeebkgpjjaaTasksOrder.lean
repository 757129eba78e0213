/-
  WHAT IS PROVED: the statement Rows.TasksOrderSaid: for every list of tasks the Go function TasksOrder returns true and leaves its argument alone; there are no conditions.
  The frame below is the one that the guide's program writes, with the form's own reach handed on (Derived.SizedLaws); the walk and the facts ahead of it are mine.
-/
import Derived.Test.YtholmeebkgpjjaaF2
import Derived.Test.YtholmeebkgpjjaaJ2
import Derived.Test.YtholmeebkgpjjaaQ
namespace Go.Proofs.Ytholmeebkgpjjaa.tasksOrder
open Go.ChangeShapes Go.WideShapes Go.ChangeAt Go.RowKit
attribute [local go_sem ↓] Go.wp_at_zero Go.wp_at_succ
set_option linter.unusedVariables false
set_option linter.unusedSimpArgs false

theorem own : ownKnob Try.prog.godebug = none := by kernel_rfl
theorem laidOut : laidOutB Try.prog = true := by kernel_rfl
theorem ord_len (l : List Tk) : (ordS l).1.length ≤ 16 := by
  by_cases h : (lookS l).1 = 0
  · have hf := (look_fine h).1
    unfold ordS
    rw [if_neg (by simp [h])]
    split
    · simp
    · simp [srt_len]; exact hf
  · rw [ord_look h]; simp
set_option maxHeartbeats 1000000 in
theorem walk (v : Value) (l : List Tk) (w : World) (hv : TsAt w v l) (hb : l.length * 48 ≤ 140737488351232) :
    Calls Try.prog 4 #[v] w fun e w' => e = .returned (.bool true) ∧ Below w.heap.size w w' := by
  obtain ⟨a, cap, rfl, _, _⟩ := id hv
  have hlen := ord_len l
  have cR := refOrder_any l _ w (by unfold maxLen; omega) hv
  have cF : ∀ W x, TsAt W x l → Calls Try.prog 12 #[x] W fun e w' => RespP W w' e (ordS l) := fun W x hx => order_any l x W (by unfold maxLen; omega) hx
  have cL := fun (u : Value) (W : World) (h1 : TsAt W (.slice a l.length cap) l) (h2 : rd W u (ordS l).1) => listOf_12 l _ u (ordS l) W hb h1 hlen h2 cF
  generalize ordS l = R at *
  obtain ⟨r, c, n⟩ := R
  dsimp only at *
  go_enter Try.func4, Try.ntmps4
  go_wp2_with fail
  refine cR.mono ?_
  rintro e w1 ⟨a1, cp1, rfl, ho1, hg1⟩
  dsimp only at ho1 ⊢
  go_wp2_with fail
  refine (cL _ _ (hv.grown (gr_alloc hg1 _)) (ho1.kept (gr_alloc (World.grownBy.refl _ _) _)).rd).mono ?_
  rintro e w2 ⟨rfl, hg2⟩
  go_wp2
  go_ret
  exact ⟨rfl, below_gr (grown_join (gr_alloc hg1 _) hg2 (.inl rfl))⟩

set_option maxRecDepth 100000 in
theorem lifted (os : Os) (started : os.Started) (H : Type) (enc : TypeId × Value → H) :
    ReturnsInHanded {} Try.checked os 4 .any (Rows.tasksOrderSpec.pre6 enc Try.prog Try.f4 Rows.tasksOrderRow.domain false) (Rows.tasksOrderSpec.post enc Try.prog Try.f4 false true false false) := by
  refine returnsInHanded_of_change_sized (C := Try.checked) own started (by kernel_rfl) Try.func4
    (ChangeSpec.witness6 (enc := enc) (C := Try.checked) false ⟨#[], #[.slice none 0 0], []⟩ 8 (by kernel_rfl) (by kernel_rfl) (by kernel_rfl) (by kernel_rfl)) ?_
  intro W base args ds gs before hval0 hW hcnd hsz0 _
  have hsz : (DataW.weightsEach Try.prog (Try.f4.params.toList ++ Rows.tasksOrderSpec.plain.varTypes Try.prog) (ds ++ gs)).all (· ≤ reachBytes) = true := hsz0
  have hval : ∀ (j : Nat) t v, Try.f4.params[j]? = some t → args[j]? = some v → Value.okWide Try.prog W .any base t v := hval0
  have hW' := hW
  obtain ⟨p, q, hA0, hV, rfl, hfz, hnd⟩ := hW
  have hA : DataW.TrodAll enc Try.prog W 0 (fun _ => true) true Try.f4.params.toList args.toList ds p := hA0
  rw [Try.params4] at hA hval hsz
  obtain ⟨v0, vs0, d0, ds0, p0, q0, hargs, rfl, rfl, h0, r0⟩ := trodAll_cons hA
  obtain ⟨rfl, rfl, rfl⟩ := trodAll_nil r0
  obtain rfl : args = #[v0] := by cases args; simp_all
  obtain ⟨rfl, rfl⟩ := trodVars_none hV
  obtain ⟨a0, len0, cap0, rfl⟩ := okWide_slice Try.underlying22 (hval 0 22 v0 rfl rfl)
  have k0 := h0
  have lt0 : ∀ x ∈ p0, x.block < W.heap.size := by obtain ⟨m, hm⟩ := k0; exact DataW.trod_lt m _ _ _ hm
  obtain ⟨l, hT, hb⟩ : ∃ l, TsAt W (.slice a0 len0 cap0) l ∧ l.length * 48 ≤ 140737488351232 := by
    obtain ⟨fuel, hf⟩ := h0
    exact ts_sized hf (fun k hk => by
      have := List.all_eq_true.1 hsz _ (DataW.weights_mem_each (j := 0) (t := 22) (d := d0) rfl rfl k hk)
      simpa using this)
  clear hA0 hval0
  refine (walk _ l W hT hb).mono fun e W' ⟨he, bel⟩ => ?_
  subst he
  exact ⟨_, rfl, _, _, _, [], _, [], hW', trodAll_mk1 (shut_bool Try.underlying4 _), (trodAll_cons_mk (Below.trod laidOut (by kernel_rfl) (of_decide_eq_true (by kernel_rfl)) k0 bel lt0) trodAll_mk0), rfl, bel.frame _, fun h => by cases h⟩

theorem over : Rows.tasksOrderRow.holds Try.pinned (OpenSpec.ofChange Rows.tasksOrderSpec) :=
  OpenClaim.holds_of_wide 4 Try.f4 rfl rfl rfl rfl rfl rfl rfl ⟨rfl, rfl, rfl, rfl, rfl⟩ rfl rfl rfl rfl rfl (by kernel_rfl) Try.func4 (by kernel_rfl)
    (of_decide_eq_true (by kernel_rfl)) (by unfold Func.isWrapper; first | (rw [if_pos (by decide +kernel)]; kernel_rfl) | (rw [if_neg (by decide +kernel)]; exact ⟨rfl, rfl⟩))
    (fun os started H enc _ => lifted os started H enc)

/-- ████ THE STATEMENT ████ -/
theorem proved : Rows.TasksOrderSaid := over
#print axioms proved
end Go.Proofs.Ytholmeebkgpjjaa.tasksOrder
