/- mayFields, where the order of evaluation is drawn. -/
import Derived.Test.YtbaijehecncclaaDoorA2
namespace Go.Proofs.YtbaijehecncclaaDoor
open Go.RowKit
attribute [local go_sem ↓] Go.wp_at_zero Go.wp_at_succ
set_option linter.unusedVariables false
set_option linter.unusedSimpArgs false

set_option maxHeartbeats 2000000 in
theorem fields_run (d a b c : Int) (hd : d = 17) (l : List (Int × Nat)) (fn n i o : Nat) (w : World) (hO : Ov w o l fn n) (hf : fn ≤ 1000000000000) (hl : l.length ≤ 1000000000000) (hi : i ≤ 1000000000000) (hn : n ≤ 1000000000000) :
    Calls Tryd.prog 35 #[.pointer (some ⟨o, 0, none⟩), .int .i64 i, .agg #[.int .i64 d, .int .i64 a, .int .i64 b, .int .i64 c]] w fun e w' => e = .returned (.bool (fieldsS l fn n i ⟨d, a, b, c⟩)) ∧ w.grownBy w' none := by
  have HO : ∀ ob, Ov (w.alloc ob) o l fn n := fun ob => hO.grown (gr1 _ _)
  have HH : Hid (∀ ob, Ov (w.alloc ob) o l fn n) := HO
  clear hO HO
  subst hd
  by_cases hc : callS l a = true
  · have hw : 0 ≤ a ∧ a ≤ (l.length : Int) - 1 := by simp [callS, isW] at hc; exact hc.1
    obtain ⟨k, rfl⟩ := Int.eq_ofNat_of_zero_le hw.1
    obtain ⟨av, a1, q, cap, rfl, a2⟩ := (HH.out (.cells #[.int .i64 17, .int .i64 k, .int .i64 b, .int .i64 c] 47)).ahead
    rcases a2 with h3 | ⟨b', off, rfl, hcc⟩
    · subst h3; simp at hw; omega
    obtain ⟨c1, fa, fc, c2⟩ := hcc k (by omega)
    have i1 : (0 : Int) ≤ (k : Int) := by omega
    have i2 : (k : Int) < (l.length : Int) := by omega
    have HV : Hid (fieldsS l fn n i ⟨17, k, b, c⟩ = hasW fn b (l.getD k (0, 0)).2) := (by simp [fieldsS, hc] : fieldsS l fn n i ⟨17, k, b, c⟩ = hasW fn b (l.getD k (0, 0)).2)
    rw [HV.out]
    generalize (l.getD k (0, 0)).2 = m at *
    clear hcc c1
    go_enter Tryd.func35, Tryd.ntmps35
    go_wp2
    go_quiet (first | (go_at_call 45; exact Calls.quiet_of_same ((mayCall_ov ((HH.out _).grown (gr_drewN (World.grownBy.refl _ _) _)) _ hl).mono fun _ _ h => ⟨h.1.trans (ret_bool hc), h.2.symm⟩)) | (go_at_call 41; exact Calls.quiet_of_same ((hasWords_ov ((HH.out _).grown (gr_drewN (World.grownBy.refl _ _) _)) _ _ (by omega) hf).mono fun _ _ h => ⟨h.1, h.2.symm⟩)))
    go_wp2
    go_ret
    refine ⟨?_, gr_drewN (gr1 _ _) _⟩
    simp
  · have hc' : callS l a = false := by simpa using hc
    have HV : Hid (fieldsS l fn n i ⟨17, a, b, c⟩ = false) := (by simp [fieldsS, hc'] : fieldsS l fn n i ⟨17, a, b, c⟩ = false)
    rw [HV.out]
    go_enter Tryd.func35, Tryd.ntmps35
    go_wp2
    go_quiet (first | (go_at_call 45; exact Calls.quiet_of_same ((mayCall_ov ((HH.out _).grown (gr_drewN (World.grownBy.refl _ _) _)) _ hl).mono fun _ _ h => ⟨h.1.trans (ret_bool hc'), h.2.symm⟩)))
    go_wp2
    go_ret
    refine ⟨?_, gr_drewN (gr1 _ _) _⟩
    simp

end Go.Proofs.YtbaijehecncclaaDoor
