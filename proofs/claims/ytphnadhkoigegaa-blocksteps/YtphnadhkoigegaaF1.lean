/- Contract of wrapped, for 1 pins. -/
import Derived.Test.YtphnadhkoigegaaF0
namespace Go.Proofs.Ytphnadhkoigegaa
open Go.RowKit
attribute [local go_sem ↓] Go.wp_at_zero Go.wp_at_succ

theorem make1 (w : World) : (Instr.makeSlice 31 (.int .i64 1) (.int .i64 1)).run Try.prog w = .ok (.slice (some ⟨w.heap.size, 0, none⟩) 1 1) (w.alloc (.cells #[.int .i64 0] 3)) := by kernel_rfl

set_option maxHeartbeats 1000000 in
theorem wrappedNo1 (v0 : Option Addr) (a : Option Addr) (len cap : Nat) (w : World) (hne : ((len : Int) == 1) = false) :
    Calls Try.prog 26 #[.slice v0 1 1, .slice a len cap] w fun e w' => e = .returned (.slice (some ⟨w.heap.size, 0, none⟩) 1 1) ∧ w'.heap[w.heap.size]? = some (.cells #[.int .i64 0] 3) ∧ w.grownBy w' none := by
  have hmk := make1
  go_enter Try.func26, Try.ntmps26
  go_wp2
  go_ret
  exact ⟨rfl, heap_alloc_new _ _, gr_alloc (World.grownBy.refl _ _) _⟩

set_option maxHeartbeats 4000000 in
theorem wrappedYes1 (g b off cap : Nat) (s0 : ByteArray) (k0 x0 : Int) (w : World) (hg : w.heap[g]? = some (.cells #[.string s0, .int .i64 k0] 49))
    (c0 : w.cell? ⟨b, off + 0, none⟩ = some (.int .i64 x0)) :
    Calls Try.prog 26 #[.slice (some ⟨g, 0, none⟩) 1 1, .slice (some ⟨b, off, none⟩) 1 cap] w fun e w' => e = .returned (.slice (some ⟨w.heap.size, 0, none⟩) 1 1) ∧ w'.heap[w.heap.size]? = some (.cells #[.int .i64 (wrapK k0 x0)] 3) ∧ w.grownBy w' none := by
  have hmk := make1
  have hgl := at_lt hg
  have hbl : b < w.heap.size := World.block_lt_of_cell? w _ c0
  have g0 := at_cell hg 0
  have g1 := at_cell hg 1
  simp at g0 g1
  clear hg
  simp only [Nat.add_zero] at c0
  go_enter Try.func26, Try.ntmps26
  go_wp2
  refine wp_loop_rounds 2 ?_
  rw [rounds_succ]
  go_wp2
  go_region_held3 (fun w' => w'.cell? ⟨b, off, none⟩ = some (.int .i64 x0) ∧ w'.cell? ⟨w.heap.size + 1, 1, none⟩ = some (.int .i64 k0)) (refine ⟨?_, ?_⟩ <;> (repeat (first | assumption | with_reducible refine ck_drew ?_ | exact ck_new (by first | rfl | simp) rfl | refine ck_old (by first | omega | (simp; omega) | simp) ?_))) (first | (go_at_call 27; refine (wrap_any _ _ _).mono ?_; rintro e w' ⟨rfl, rfl⟩))
  go_wp2
  rw [rounds_succ]
  go_wp2
  go_ret
  refine ⟨rfl, ?_, gr_drew (gr_alloc (gr_alloc (World.grownBy.refl _ _) _) _)⟩
  rw [hp_drew]
  repeat (first | exact hp_new (by simp) _ | refine (hp_old (by simp) _).trans ?_)
end Go.Proofs.Ytphnadhkoigegaa
