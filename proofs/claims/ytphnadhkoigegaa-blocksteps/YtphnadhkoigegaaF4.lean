/- Contract of wrapped, for 4 pins. -/
import Derived.Test.YtphnadhkoigegaaF0
namespace Go.Proofs.Ytphnadhkoigegaa
open Go.RowKit
attribute [local go_sem ↓] Go.wp_at_zero Go.wp_at_succ

theorem make4 (w : World) : (Instr.makeSlice 31 (.int .i64 4) (.int .i64 4)).run Try.prog w = .ok (.slice (some ⟨w.heap.size, 0, none⟩) 4 4) (w.alloc (.cells #[.int .i64 0, .int .i64 0, .int .i64 0, .int .i64 0] 3)) := by kernel_rfl

set_option maxHeartbeats 1000000 in
theorem wrappedNo4 (v0 : Option Addr) (a : Option Addr) (len cap : Nat) (w : World) (hne : ((len : Int) == 4) = false) :
    Calls Try.prog 26 #[.slice v0 4 4, .slice a len cap] w fun e w' => e = .returned (.slice (some ⟨w.heap.size, 0, none⟩) 4 4) ∧ w'.heap[w.heap.size]? = some (.cells #[.int .i64 0, .int .i64 0, .int .i64 0, .int .i64 0] 3) ∧ w.grownBy w' none := by
  have hmk := make4
  go_enter Try.func26, Try.ntmps26
  go_wp2
  go_ret
  exact ⟨rfl, heap_alloc_new _ _, gr_alloc (World.grownBy.refl _ _) _⟩

set_option maxHeartbeats 4000000 in
theorem wrappedYes4 (g b off cap : Nat) (s0 s1 s2 s3 : ByteArray) (k0 k1 k2 k3 x0 x1 x2 x3 : Int) (w : World) (hg : w.heap[g]? = some (.cells #[.string s0, .int .i64 k0, .string s1, .int .i64 k1, .string s2, .int .i64 k2, .string s3, .int .i64 k3] 49))
    (c0 : w.cell? ⟨b, off + 0, none⟩ = some (.int .i64 x0)) (c1 : w.cell? ⟨b, off + 1, none⟩ = some (.int .i64 x1)) (c2 : w.cell? ⟨b, off + 2, none⟩ = some (.int .i64 x2)) (c3 : w.cell? ⟨b, off + 3, none⟩ = some (.int .i64 x3)) :
    Calls Try.prog 26 #[.slice (some ⟨g, 0, none⟩) 4 4, .slice (some ⟨b, off, none⟩) 4 cap] w fun e w' => e = .returned (.slice (some ⟨w.heap.size, 0, none⟩) 4 4) ∧ w'.heap[w.heap.size]? = some (.cells #[.int .i64 (wrapK k0 x0), .int .i64 (wrapK k1 x1), .int .i64 (wrapK k2 x2), .int .i64 (wrapK k3 x3)] 3) ∧ w.grownBy w' none := by
  have hmk := make4
  have hgl := at_lt hg
  have hbl : b < w.heap.size := World.block_lt_of_cell? w _ c0
  have hgl1 : g < w.heap.size + 1 := by omega
  have hbl1 : b < w.heap.size + 1 := by omega
  have hgl2 : g < w.heap.size + 1 + 1 := by omega
  have hbl2 : b < w.heap.size + 1 + 1 := by omega
  have hgl3 : g < w.heap.size + 1 + 1 + 1 := by omega
  have hbl3 : b < w.heap.size + 1 + 1 + 1 := by omega
  have hgl4 : g < w.heap.size + 1 + 1 + 1 + 1 := by omega
  have hbl4 : b < w.heap.size + 1 + 1 + 1 + 1 := by omega
  have hwl1 : w.heap.size < w.heap.size + 1 := by omega
  have hwl2 : w.heap.size < w.heap.size + 1 + 1 := by omega
  have hwl3 : w.heap.size < w.heap.size + 1 + 1 + 1 := by omega
  have hwl4 : w.heap.size < w.heap.size + 1 + 1 + 1 + 1 := by omega
  have g0 := at_cell hg 0
  have g1 := at_cell hg 1
  have g2 := at_cell hg 2
  have g3 := at_cell hg 3
  have g4 := at_cell hg 4
  have g5 := at_cell hg 5
  have g6 := at_cell hg 6
  have g7 := at_cell hg 7
  simp at g0 g1 g2 g3 g4 g5 g6 g7
  clear hg
  simp only [Nat.add_zero] at c0
  go_enter Try.func26, Try.ntmps26
  go_wp2
  refine wp_loop_rounds 5 ?_
  rw [rounds_succ]
  go_wp2
  go_region_held3 (fun w' => w'.cell? ⟨b, off, none⟩ = some (.int .i64 x0) ∧ w'.cell? ⟨w.heap.size + 1, 1, none⟩ = some (.int .i64 k0)) (refine ⟨?_, ?_⟩ <;> (repeat (first | assumption | with_reducible refine ck_drew ?_ | exact ck_new (by first | rfl | simp) rfl | refine ck_old (by first | omega | (simp; omega) | simp) ?_))) (first | (go_at_call 27; refine (wrap_any _ _ _).mono ?_; rintro e w' ⟨rfl, rfl⟩))
  go_wp2
  rw [rounds_succ]
  go_wp2
  go_region_held3 (fun w' => w'.cell? ⟨b, off + 1, none⟩ = some (.int .i64 x1) ∧ w'.cell? ⟨w.heap.size + 2, 1, none⟩ = some (.int .i64 k1)) (refine ⟨?_, ?_⟩ <;> (repeat (first | assumption | with_reducible refine ck_drew ?_ | exact ck_new (by first | rfl | simp) rfl | refine ck_old (by first | omega | (simp; omega) | simp) ?_))) (first | (go_at_call 27; refine (wrap_any _ _ _).mono ?_; rintro e w' ⟨rfl, rfl⟩))
  go_wp2
  rw [rounds_succ]
  go_wp2
  go_region_held3 (fun w' => w'.cell? ⟨b, off + 2, none⟩ = some (.int .i64 x2) ∧ w'.cell? ⟨w.heap.size + 3, 1, none⟩ = some (.int .i64 k2)) (refine ⟨?_, ?_⟩ <;> (repeat (first | assumption | with_reducible refine ck_drew ?_ | exact ck_new (by first | rfl | simp) rfl | refine ck_old (by first | omega | (simp; omega) | simp) ?_))) (first | (go_at_call 27; refine (wrap_any _ _ _).mono ?_; rintro e w' ⟨rfl, rfl⟩))
  go_wp2
  rw [rounds_succ]
  go_wp2
  go_region_held3 (fun w' => w'.cell? ⟨b, off + 3, none⟩ = some (.int .i64 x3) ∧ w'.cell? ⟨w.heap.size + 4, 1, none⟩ = some (.int .i64 k3)) (refine ⟨?_, ?_⟩ <;> (repeat (first | assumption | with_reducible refine ck_drew ?_ | exact ck_new (by first | rfl | simp) rfl | refine ck_old (by first | omega | (simp; omega) | simp) ?_))) (first | (go_at_call 27; refine (wrap_any _ _ _).mono ?_; rintro e w' ⟨rfl, rfl⟩))
  go_wp2
  rw [rounds_succ]
  go_wp2
  go_ret
  refine ⟨rfl, ?_, gr_drew (gr_drew (gr_drew (gr_drew (gr_alloc (gr_alloc (gr_alloc (gr_alloc (gr_alloc (World.grownBy.refl _ _) _) _) _) _) _))))⟩
  rw [hp_drew, hp_drew, hp_drew, hp_drew]
  repeat (first | exact hp_new rfl _ | refine (hp_old (by first | omega | (simp; done) | (simp; omega)) _).trans ?_)
end Go.Proofs.Ytphnadhkoigegaa
