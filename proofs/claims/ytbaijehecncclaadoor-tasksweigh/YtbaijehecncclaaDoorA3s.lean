/- mayFields, where the order of evaluation is drawn. -/
import Derived.Test.YtbaijehecncclaaDoorA2
namespace Go.Proofs.YtbaijehecncclaaDoor
open Go.RowKit
attribute [local go_sem ↓] Go.wp_at_zero Go.wp_at_succ
set_option linter.unusedVariables false
set_option linter.unusedSimpArgs false

set_option maxRecDepth 10000 in
set_option maxHeartbeats 4000000 in
theorem fields_std (d a b c : Int) (hd : d = 18) (l : List (Int × Nat)) (fn n i o : Nat) (w : World) (hO : Ov w o l fn n) (hf : fn ≤ 1000000000000) (hl : l.length ≤ 1000000000000) (hi : i ≤ 1000000000000) (hn : n ≤ 1000000000000) (hS : Stds w) :
    Calls Tryd.prog 35 #[.pointer (some ⟨o, 0, none⟩), .int .i64 i, .agg #[.int .i64 d, .int .i64 a, .int .i64 b, .int .i64 c]] w fun e w' => e = .returned (.bool (fieldsS l fn n i ⟨d, a, b, c⟩)) ∧ w.grownBy w' none := by
  have HO : ∀ ob, Ov (w.alloc ob) o l fn n := fun ob => hO.grown (gr1 _ _)
  have HH : Hid (∀ ob, Ov (w.alloc ob) o l fn n) := HO
  clear hO HO
  subst hd
  by_cases hc : isW a 1 12 = true
  · have hw : 1 ≤ a ∧ a ≤ 12 := by simpa [isW] using hc
    have HS : Hid (∀ ob, Stds (w.alloc ob)) := fun ob => hS.grown (gr1 _ _)
    have hfld : ∀ (nm : ByteArray) (ki ko m : Int) (w : World), Sem.run Tryd.prog (Instr.field 85 (.agg #[.string nm, .int .i64 ki, .int .i64 ko, .int .i64 m]) 3) w = .ok (.int .i64 m) w := fun _ _ _ _ _ => by kernel_rfl
    have HV : Hid (fieldsS l fn n i ⟨18, a, b, c⟩ = hasW fn b (stdW a)) := (by simp [fieldsS, hc] : fieldsS l fn n i ⟨18, a, b, c⟩ = hasW fn b (stdW a))
    have hp : 0 ≤ stdW a := by unfold stdW; repeat' split
                               all_goals omega
    rw [HV.out]
    clear hS
    generalize hm : stdW a = m at *
    go_enter Tryd.func35, Tryd.ntmps35
    go_wp2
    go_region_held3 (fun w' => w'.cell? ⟨w.heap.size, 1, none⟩ = some (.int .i64 a) ∧ w'.cell? ⟨w.heap.size, 2, none⟩ = some (.int .i64 b) ∧ w.grownBy w' none ∧ Ov w' o l fn n ∧ Stds w') (refine ⟨?_, ?_, ?_, ?_, ?_⟩ <;> first | assumption | (refine hg1.cell ?_ (by simp); go_keep; done) | exact ((HH.out _).grown (gr_drew (World.grownBy.refl _ _))).grown hg1 | exact ((HS.out _).grown (gr_drew (World.grownBy.refl _ _))).grown hg1 | exact (gr_drew (gr1 _ _)).trans hg1 | exact gr_drew (gr1 _ _) | exact (HH.out _).grown (gr_drew (World.grownBy.refl _ _)) | exact (HS.out _).grown (gr_drew (World.grownBy.refl _ _)) | (go_keep; done)) (first | (go_at_call 42; refine (within_any _ _ _ _).mono ?_; rintro e w' ⟨rfl, rfl⟩; rw [hc]) | (go_at_call 46; refine (kit_any _ _ ((HS.out _).grown (gr_drew (World.grownBy.refl _ _))) hw.1 hw.2).mono ?_; rintro e w1 ⟨⟨nm, ki, ko, rfl⟩, hg1⟩; rw [hm]) | (go_at_call 41; refine (hasWords_ov (((HH.out _).grown (gr_drew (World.grownBy.refl _ _))).grown hg1) _ _ (by omega) hf).mono ?_; rintro e w' ⟨rfl, rfl⟩))
    go_wp2
    go_ret
    refine ⟨?_, (gr_drew (gr1 _ _)).trans hg1⟩
    simp
  · have hc' : isW a 1 12 = false := by simpa using hc
    have HV : Hid (fieldsS l fn n i ⟨18, a, b, c⟩ = false) := (by simp [fieldsS, hc'] : fieldsS l fn n i ⟨18, a, b, c⟩ = false)
    rw [HV.out]
    go_enter Tryd.func35, Tryd.ntmps35
    go_wp2
    go_quiet (first | (go_at_call 42; exact Calls.quiet_of_same ((within_any _ _ _ _).mono fun _ _ h => ⟨h.1.trans (ret_bool hc'), h.2.symm⟩)))
    go_wp2
    go_ret
    refine ⟨?_, gr_drewN (gr1 _ _) _⟩
    simp

end Go.Proofs.YtbaijehecncclaaDoor
