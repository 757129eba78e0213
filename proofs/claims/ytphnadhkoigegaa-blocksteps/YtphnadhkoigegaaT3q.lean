/- Behind a quiet region. -/
import Derived.Test.YtphnadhkoigegaaT3
namespace Go.Proofs.Ytphnadhkoigegaa
open Go.RowKit

theorem ck_drewN {W : World} {a : Addr} {v : Value} {n : Nat} (h : W.cell? a = some v) : (W.drewN n).cell? a = some v := h
theorem gr_quiet {w W : World} {r : Option Nat} (h : w.grownBy W r) (n : Nat) : w.grownBy (W.drewN n) r := ⟨h.os, h.tape, h.output, h.size, h.block⟩
theorem post_abq (n m : Nat) (R : List Int × List Int) (w : World) (k : Nat) : StepPost n m R w (.returned (.tuple #[.slice (some ⟨w.heap.size, 0, none⟩) n n, .slice (some ⟨w.heap.size + 1, 0, none⟩) m m])) (((w.drewN k).alloc (.cells (intsA R.1) 3)).alloc (.cells (intsA R.2) 3)).drew := by
  obtain ⟨c1, c2, he, g1, g2, gne, h1, h2, hg4⟩ := post_ab n m R (w.drewN k)
  exact ⟨c1, c2, he, g1, g2, gne, h1, h2, (gr_quiet (World.grownBy.refl w none) k).trans hg4⟩
theorem post_baq (n m : Nat) (R : List Int × List Int) (w : World) (k : Nat) : StepPost n m R w (.returned (.tuple #[.slice (some ⟨w.heap.size + 1, 0, none⟩) n n, .slice (some ⟨w.heap.size, 0, none⟩) m m])) (((w.drewN k).alloc (.cells (intsA R.2) 3)).alloc (.cells (intsA R.1) 3)).drew := by
  obtain ⟨c1, c2, he, g1, g2, gne, h1, h2, hg4⟩ := post_ba n m R (w.drewN k)
  exact ⟨c1, c2, he, g1, g2, gne, h1, h2, (gr_quiet (World.grownBy.refl w none) k).trans hg4⟩
theorem post_abn (n m : Nat) (R : List Int × List Int) (w : World) (k : Nat) : StepPost n m R w (.returned (.tuple #[.slice (some ⟨w.heap.size, 0, none⟩) n n, .slice (some ⟨w.heap.size + 1, 0, none⟩) m m])) (((w.drewN k).alloc (.cells (intsA R.1) 3)).alloc (.cells (intsA R.2) 3)) := by
  obtain ⟨c1, c2, he, g1, g2, gne, h1, h2, hg4⟩ := post_abq n m R w k
  exact ⟨c1, c2, he, g1, g2, gne, h1, h2, ⟨hg4.os, hg4.tape, hg4.output, hg4.size, hg4.block⟩⟩
theorem post_ban (n m : Nat) (R : List Int × List Int) (w : World) (k : Nat) : StepPost n m R w (.returned (.tuple #[.slice (some ⟨w.heap.size + 1, 0, none⟩) n n, .slice (some ⟨w.heap.size, 0, none⟩) m m])) (((w.drewN k).alloc (.cells (intsA R.2) 3)).alloc (.cells (intsA R.1) 3)) := by
  obtain ⟨c1, c2, he, g1, g2, gne, h1, h2, hg4⟩ := post_baq n m R w k
  exact ⟨c1, c2, he, g1, g2, gne, h1, h2, ⟨hg4.os, hg4.tape, hg4.output, hg4.size, hg4.block⟩⟩
end Go.Proofs.Ytphnadhkoigegaa
