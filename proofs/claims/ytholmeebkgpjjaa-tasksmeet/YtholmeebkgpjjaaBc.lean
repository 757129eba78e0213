/- The document's example. -/
import Derived.Test.YtholmeebkgpjjaaBb
import Derived.Test.YtholmeebkgpjjaaV
namespace Go.Proofs.Ytholmeebkgpjjaa
open Go.RowKit
attribute [local go_sem ↓] Go.wp_at_zero Go.wp_at_succ
set_option linter.unusedVariables false
set_option linter.unusedSimpArgs false

def l3 : List Tk := [⟨⟨#[]⟩, 4, 0, 1, 4⟩, ⟨⟨#[]⟩, 6, 0, 2, 6⟩, ⟨⟨#[]⟩, 12, 0, 3, 12⟩]
theorem l3_resp : respS l3 = ([1, 3, 10], 0, 0) := by decide +kernel
theorem l3_play : playS l3 12 = ([⟨0, 0, 0, 1⟩, ⟨1, 0, 1, 3⟩, ⟨2, 0, 3, 4⟩, ⟨0, 1, 4, 5⟩, ⟨2, 0, 5, 6⟩, ⟨1, 1, 6, 8⟩, ⟨0, 2, 8, 9⟩, ⟨2, 0, 9, 10⟩], 0, 0) := by kernel_rfl
theorem l3_own (w : World) : OwnT w.heap.size (w.alloc (.cells #[.string ⟨#[]⟩, .int .i64 4, .int .i64 0, .int .i64 1, .int .i64 4, .string ⟨#[]⟩, .int .i64 6, .int .i64 0, .int .i64 2, .int .i64 6, .string ⟨#[]⟩, .int .i64 12, .int .i64 0, .int .i64 3, .int .i64 12] 42)) (some ⟨w.heap.size, 0, none⟩) 3 l3 :=
  ⟨by simp [rowT, l3], .inr ⟨w.heap.size, 3, _, rfl, Nat.le_refl _, heap_alloc_new _ _, by simp [l3], by unfold maxLen; omega, by simp, by simp [rowT, l3]⟩⟩
theorem ownL_at {B : Nat} {w : World} {a : Option Addr} {c : Nat} {L : List Int} (h : OwnL B w a c L) (hl : 0 < L.length) : ∃ g, a = some ⟨g, 0, none⟩ ∧ g < w.heap.size ∧ ∀ j, j < L.length → w.cell? ⟨g, j, none⟩ = some (.int .i64 (L.getD j 0)) := by
  obtain ⟨_, ⟨_, h0⟩ | ⟨g, cap', cur, e, hb, hc, hn, _⟩⟩ := id h
  · omega
  · injection e with e1 e2 e3
    subst e1 e3
    refine ⟨g, rfl, at_lt hc, fun j hj => ?_⟩
    have := World.ownsRow.cellAt h j (by omega)
    rw [this]
    simp [hj]
theorem ownP_at {B : Nat} {w : World} {a : Option Addr} {c n : Nat} {xs : List Value} (h : w.ownsRow B 36 4 (.slice a n c) n xs) (hl : 0 < n) : ∃ g, a = some ⟨g, 0, none⟩ ∧ g < w.heap.size ∧ ∀ j, j < n * 4 → w.cell? ⟨g, j, none⟩ = xs[j]? := by
  obtain ⟨_, ⟨_, h0⟩ | ⟨g, cap', cur, e, hb, hc, hn, _⟩⟩ := id h
  · omega
  · injection e with e1 e2 e3
    subst e1 e3
    exact ⟨g, rfl, at_lt hc, fun j hj => World.ownsRow.cellAt h _ (by omega)⟩

set_option maxHeartbeats 2000000 in
theorem known_any (w : World) : Calls Try.prog 16 #[] w fun e w' => e = .returned (.bool true) ∧ w.grownBy w' none := by
  have cR := fun W v (h : TsAt W v l3) => respond_any l3 v W (by simp [l3, maxLen]) h
  have cP := fun W v (h : TsAt W v l3) => play_any l3 v 12 W (by simp [l3, maxLen]) h
  rw [l3_resp] at cR
  rw [l3_play] at cP
  have hown := l3_own w
  go_enter Try.func16, Try.ntmps16
  go_wp2_with fail
  refine (cR _ _ hown.ts).mono ?_
  rintro e w1 ⟨a1, c1, rfl, ho1, hg1⟩
  dsimp only at ho1
  have hg01 : w.grownBy w1 none := grown_join (gr_alloc (World.grownBy.refl _ _) _) hg1 (.inl rfl)
  have HO : Hid (OwnT w.heap.size w1 (some ⟨w.heap.size, 0, none⟩) 3 l3) := hown.kept hg1
  obtain ⟨g, rfl, hgl, hq⟩ := ownL_at ho1 (by simp)
  have r0 := hq 0 (by simp)
  have r1 := hq 1 (by simp)
  have r2 := hq 2 (by simp)
  simp at r0 r1 r2
  clear hq ho1 hown hg1 cR
  go_wp2_with fail
  refine (cP _ _ (HO.out.ts.grown (gr_alloc (World.grownBy.refl _ _) _))).mono ?_
  rintro e w2 ⟨a2, c2, rfl, ho2, hg2⟩
  dsimp only at ho2
  have hg12 : w1.grownBy w2 none := grown_join (gr_alloc (World.grownBy.refl _ _) _) hg2 (.inl rfl)
  have hgw : w.grownBy w2 none := grown_join hg01 hg12 (.inl rfl)
  have hfb : w2.heap[w1.heap.size]? = some (.cells #[.int .i64 0, .int .i64 0, .int .i64 0] 26) := kept hg2 (heap_alloc_new _ _)
  have f0 := at_cell hfb 0
  have f1 := at_cell hfb 1
  have f2 := at_cell hfb 2
  simp at f0 f1 f2
  have hfl := at_lt hfb
  have hgl1 : g < w2.heap.size := Nat.lt_of_lt_of_le hgl hg12.size
  replace r0 := hg12.cell r0 (by simp)
  replace r1 := hg12.cell r1 (by simp)
  replace r2 := hg12.cell r2 (by simp)
  obtain ⟨g2, rfl, hgl2, hq⟩ := ownP_at ho2 (by simp)
  have s0 := hq 4 (by simp)
  have s1 := hq 5 (by simp)
  have s2 := hq 6 (by simp)
  have s3 := hq 7 (by simp)
  simp [rowL] at s0 s1 s2 s3
  clear hq ho2 HO hg2 cP hfb hg12 hg01
  go_wp2_with fail
  go_ret
  exact ⟨rfl, gr_alloc hgw _⟩
end Go.Proofs.Ytholmeebkgpjjaa
