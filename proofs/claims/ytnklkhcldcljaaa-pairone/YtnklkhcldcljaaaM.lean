/- What a controller makes of its image. -/
import Derived.Test.YtnklkhcldcljaaaF
namespace Go.Proofs.Ytnklkhcldcljaaa
open Go.RowKit
attribute [local go_sem ↓] Go.wp_at_zero Go.wp_at_succ
set_option linter.unusedVariables false
set_option linter.unusedSimpArgs false

def tri (k : Nat) : Nat := k * (k + 1) / 2
def im2 (k : Nat) : List Int := [(k : Int), (tri k : Int)]
theorem tri_succ (k : Nat) : tri (k + 1) = tri k + k + 1 := by
  unfold tri
  have h : (k + 1) * (k + 1 + 1) = k * (k + 1) + 2 * (k + 1) := by
    show (k + 1) * (k + 2) = _
    rw [Nat.mul_add, Nat.mul_comm (k + 1) k, Nat.mul_comm (k + 1) 2]
  rw [h, Nat.add_mul_div_left _ _ (by omega)]
  omega
theorem tri_le {k : Nat} (h : k ≤ 100000) : tri k ≤ 10000100000 ∧ k * (k + 1) ≤ 10000100000 := by
  have := Nat.mul_le_mul h (Nat.succ_le_succ h)
  unfold tri
  simp at this
  omega
theorem i64_id {n : Int} (h0 : -9223372036854775808 ≤ n) (h1 : n ≤ 9223372036854775807) : IntKind.i64.wrap n = n := by rw [IntWalk.i64_left]; unfold wrap64; omega
/-- Two numbers of one's own. -/
def TwP (w w' : World) (e : Ending) (k : Nat) : Prop := ∃ a c, e = .returned (.slice a 2 c) ∧ OwnL w.heap.size w' a c (im2 k) ∧ w.grownBy w' none
theorem own_two (w : World) (x y : Int) : OwnL w.heap.size (w.alloc (.cells #[.int .i64 x, .int .i64 y] 3)) (some ⟨w.heap.size, 0, none⟩) 2 [x, y] :=
  ⟨rfl, .inr ⟨w.heap.size, 2, #[.int .i64 x, .int .i64 y], rfl, Nat.le_refl _, heap_alloc_new w _, by simp, by unfold maxLen; simp, rfl, rfl⟩⟩
set_option maxHeartbeats 1000000 in
theorem summed_any (k : Nat) (w : World) (hk : k ≤ 100000) : Calls Try.prog 27 #[.int .i64 (k : Int)] w fun e w' => TwP w w' e k := by
  obtain ⟨t1, t2⟩ := tri_le hk
  have hm : (k : Int) * ((k : Int) + 1) = ((k * (k + 1) : Nat) : Int) := by simp
  have hT : Hid (tri k = k * (k + 1) / 2) := hidI rfl
  have hI : Hid (im2 k = [(k : Int), (tri k : Int)]) := hidI rfl
  generalize tri k = tk at *
  generalize k * (k + 1) = m at *
  go_enter Try.func27, Try.ntmps27
  go_wp2
  go_ret
  have e : (m : Int) / 2 = (tk : Int) := by rw [hT.out]; simp
  rw [e]
  refine ⟨_, _, rfl, ?_, gr_alloc (World.grownBy.refl _ _) _⟩
  rw [hI.out]
  exact own_two w _ _
set_option maxHeartbeats 1000000 in
theorem after_any (k : Nat) (v : Value) (w : World) (hv : rd w v (im2 k)) (hk : k ≤ 100000) : Calls Try.prog 31 #[v] w fun e w' => TwP w w' e (k + 1) := by
  obtain ⟨t1, t2⟩ := tri_le hk
  obtain ⟨b, off, cap, rfl, hc⟩ := rd_at hv (by simp [im2])
  have q0 : w.cell? ⟨b, off, none⟩ = some (.int .i64 (k : Int)) := hc 0 (by simp [im2])
  have q1 : w.cell? ⟨b, off + 1, none⟩ = some (.int .i64 (tri k : Int)) := hc 1 (by simp [im2])
  have hlen : (im2 k).length = 2 := rfl
  rw [hlen]
  have hI : Hid (im2 (k + 1) = [((k + 1 : Nat) : Int), ((tri k + k + 1 : Nat) : Int)]) := hidI (by unfold im2; rw [tri_succ])
  clear hv hc hlen
  generalize tri k = tk at *
  go_enter Try.func31, Try.ntmps31
  go_wp2
  go_region_held3 (fun X => X.cell? ⟨b, off, none⟩ = some (.int .i64 (k : Int)) ∧ X.cell? ⟨b, off + 1, none⟩ = some (.int .i64 (tk : Int))) (go_keep) (fail)
  go_wp2
  go_ret
  rw [i64_id (n := (k : Int) + 1) (by omega) (by omega), i64_id (n := (tk : Int) + (k : Int)) (by omega) (by omega), i64_id (n := (tk : Int) + (k : Int) + 1) (by omega) (by omega)]
  refine ⟨_, _, rfl, ?_, gr_drew (gr_alloc (World.grownBy.refl _ _) _)⟩
  rw [hI.out]
  have e1 : ((k + 1 : Nat) : Int) = (k : Int) + 1 := by omega
  have e2 : ((tk + k + 1 : Nat) : Int) = (tk : Int) + (k : Int) + 1 := by omega
  rw [e1, e2]
  exact own_keep (own_two w _ _) (gr_drew (World.grownBy.refl _ _))
end Go.Proofs.Ytnklkhcldcljaaa
