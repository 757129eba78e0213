/- The document's answer: instrOk, where no order is drawn. -/
import Derived.Test.YtbaijehecncclaaDoorV3
namespace Go.Proofs.YtbaijehecncclaaDoor
open Go.RowKit
attribute [local go_sem ↓] Go.wp_at_zero Go.wp_at_succ
set_option linter.unusedVariables false
set_option linter.unusedSimpArgs false

/-- Unit number u of code that lies at a slice: its frame's size, its text's length, instruction i, and the units ahead. -/
structure CdAt (w : World) (psv : Value) (u : Nat) (l : List (Int × Nat)) (fn n i : Nat) (x : Ins) : Prop where
  lies : ∃ b off np cap fa fc tb toff tc, psv = .slice (some ⟨b, off, none⟩) np cap ∧ u < np ∧ w.cell? ⟨b, off + u * 5 + 2, none⟩ = some (.slice fa fn fc) ∧ w.cell? ⟨b, off + u * 5 + 4, none⟩ = some (.slice (some ⟨tb, toff, none⟩) n tc) ∧ i < n ∧
    w.cell? ⟨tb, toff + i * 4, none⟩ = some (.int .i64 x.d) ∧ w.cell? ⟨tb, toff + i * 4 + 1, none⟩ = some (.int .i64 x.a) ∧ w.cell? ⟨tb, toff + i * 4 + 2, none⟩ = some (.int .i64 x.b) ∧ w.cell? ⟨tb, toff + i * 4 + 3, none⟩ = some (.int .i64 x.c) ∧
    l.length = u ∧ ∀ j, j < u → w.cell? ⟨b, off + j * 5, none⟩ = some (.int .i64 (l.getD j (0, 0)).1) ∧ ∃ fa' fc', w.cell? ⟨b, off + j * 5 + 2, none⟩ = some (.slice fa' (l.getD j (0, 0)).2 fc')

set_option maxRecDepth 10000 in
set_option maxHeartbeats 4000000 in
theorem instrOk_1 (a b c : Int) (l : List (Int × Nat)) (fn n i u : Nat) (psv : Value) (w : World) (hC : CdAt w psv u l fn n i ⟨1, a, b, c⟩) (hf : fn ≤ 1000000000000) (hn : n ≤ 1000000000000) (hu : u ≤ 1000000000000) :
    Calls Tryd.prog 10 #[psv, .int .i64 u, .int .i64 i] w fun e w' => e = .returned (.bool (okD l fn n i ⟨1, a, b, c⟩)) ∧ w.grownBy w' none := by
  obtain ⟨⟨b', off, np, cap, fa, fc, tb, toff, tc, rfl, hun, p2, p4, hin, q0, q1, q2, q3, hll, hah⟩⟩ := hC
  dsimp only at q0 q1 q2 q3
  clear hah hll
  have i1 : (0 : Int) ≤ (u : Int) := by omega
  have i2 : (u : Int) < (np : Int) := by omega
  have i3 : (0 : Int) ≤ (i : Int) := by omega
  have i4 : (i : Int) < (n : Int) := by omega
  have P2 : ∀ ob, (w.alloc ob).cell? ⟨b', off + u * 5 + 2, none⟩ = some (.slice fa fn fc) := fun ob => (gr1 w ob).cell p2 (by simp)
  have P4 : ∀ ob, (w.alloc ob).cell? ⟨b', off + u * 5 + 4, none⟩ = some (.slice (some ⟨tb, toff, none⟩) n tc) := fun ob => (gr1 w ob).cell p4 (by simp)
  clear p2
  go_enter Tryd.func10, Tryd.ntmps10
  go_wp2
  all_goals go_ret
  all_goals refine ⟨?_, gr1 _ _⟩
  all_goals (simp_all [okD]; try omega)

set_option maxRecDepth 10000 in
set_option maxHeartbeats 4000000 in
theorem instrOk_8 (a b c : Int) (l : List (Int × Nat)) (fn n i u : Nat) (psv : Value) (w : World) (hC : CdAt w psv u l fn n i ⟨8, a, b, c⟩) (hf : fn ≤ 1000000000000) (hn : n ≤ 1000000000000) (hu : u ≤ 1000000000000) :
    Calls Tryd.prog 10 #[psv, .int .i64 u, .int .i64 i] w fun e w' => e = .returned (.bool (okD l fn n i ⟨8, a, b, c⟩)) ∧ w.grownBy w' none := by
  obtain ⟨⟨b', off, np, cap, fa, fc, tb, toff, tc, rfl, hun, p2, p4, hin, q0, q1, q2, q3, hll, hah⟩⟩ := hC
  dsimp only at q0 q1 q2 q3
  clear hah hll
  have i1 : (0 : Int) ≤ (u : Int) := by omega
  have i2 : (u : Int) < (np : Int) := by omega
  have i3 : (0 : Int) ≤ (i : Int) := by omega
  have i4 : (i : Int) < (n : Int) := by omega
  have P2 : ∀ ob, (w.alloc ob).cell? ⟨b', off + u * 5 + 2, none⟩ = some (.slice fa fn fc) := fun ob => (gr1 w ob).cell p2 (by simp)
  have P4 : ∀ ob, (w.alloc ob).cell? ⟨b', off + u * 5 + 4, none⟩ = some (.slice (some ⟨tb, toff, none⟩) n tc) := fun ob => (gr1 w ob).cell p4 (by simp)
  clear p2
  go_enter Tryd.func10, Tryd.ntmps10
  go_wp2
  all_goals go_ret
  all_goals refine ⟨?_, gr1 _ _⟩
  all_goals (simp_all [okD]; try omega)

set_option maxRecDepth 10000 in
set_option maxHeartbeats 4000000 in
theorem instrOk_9 (a b c : Int) (l : List (Int × Nat)) (fn n i u : Nat) (psv : Value) (w : World) (hC : CdAt w psv u l fn n i ⟨9, a, b, c⟩) (hf : fn ≤ 1000000000000) (hn : n ≤ 1000000000000) (hu : u ≤ 1000000000000) :
    Calls Tryd.prog 10 #[psv, .int .i64 u, .int .i64 i] w fun e w' => e = .returned (.bool (okD l fn n i ⟨9, a, b, c⟩)) ∧ w.grownBy w' none := by
  obtain ⟨⟨b', off, np, cap, fa, fc, tb, toff, tc, rfl, hun, p2, p4, hin, q0, q1, q2, q3, hll, hah⟩⟩ := hC
  dsimp only at q0 q1 q2 q3
  clear hah hll
  have i1 : (0 : Int) ≤ (u : Int) := by omega
  have i2 : (u : Int) < (np : Int) := by omega
  have i3 : (0 : Int) ≤ (i : Int) := by omega
  have i4 : (i : Int) < (n : Int) := by omega
  have P2 : ∀ ob, (w.alloc ob).cell? ⟨b', off + u * 5 + 2, none⟩ = some (.slice fa fn fc) := fun ob => (gr1 w ob).cell p2 (by simp)
  have P4 : ∀ ob, (w.alloc ob).cell? ⟨b', off + u * 5 + 4, none⟩ = some (.slice (some ⟨tb, toff, none⟩) n tc) := fun ob => (gr1 w ob).cell p4 (by simp)
  clear p2
  go_enter Tryd.func10, Tryd.ntmps10
  go_wp2
  all_goals go_ret
  all_goals refine ⟨?_, gr1 _ _⟩
  all_goals (simp_all [okD]; try omega)

set_option maxRecDepth 10000 in
set_option maxHeartbeats 4000000 in
theorem instrOk_10 (a b c : Int) (l : List (Int × Nat)) (fn n i u : Nat) (psv : Value) (w : World) (hC : CdAt w psv u l fn n i ⟨10, a, b, c⟩) (hf : fn ≤ 1000000000000) (hn : n ≤ 1000000000000) (hu : u ≤ 1000000000000) :
    Calls Tryd.prog 10 #[psv, .int .i64 u, .int .i64 i] w fun e w' => e = .returned (.bool (okD l fn n i ⟨10, a, b, c⟩)) ∧ w.grownBy w' none := by
  obtain ⟨⟨b', off, np, cap, fa, fc, tb, toff, tc, rfl, hun, p2, p4, hin, q0, q1, q2, q3, hll, hah⟩⟩ := hC
  dsimp only at q0 q1 q2 q3
  clear hah hll
  have i1 : (0 : Int) ≤ (u : Int) := by omega
  have i2 : (u : Int) < (np : Int) := by omega
  have i3 : (0 : Int) ≤ (i : Int) := by omega
  have i4 : (i : Int) < (n : Int) := by omega
  have P2 : ∀ ob, (w.alloc ob).cell? ⟨b', off + u * 5 + 2, none⟩ = some (.slice fa fn fc) := fun ob => (gr1 w ob).cell p2 (by simp)
  have P4 : ∀ ob, (w.alloc ob).cell? ⟨b', off + u * 5 + 4, none⟩ = some (.slice (some ⟨tb, toff, none⟩) n tc) := fun ob => (gr1 w ob).cell p4 (by simp)
  clear p2
  go_enter Tryd.func10, Tryd.ntmps10
  go_wp2
  all_goals go_ret
  all_goals refine ⟨?_, gr1 _ _⟩
  all_goals (simp_all [okD]; try omega)

set_option maxRecDepth 10000 in
set_option maxHeartbeats 4000000 in
theorem instrOk_15 (a b c : Int) (l : List (Int × Nat)) (fn n i u : Nat) (psv : Value) (w : World) (hC : CdAt w psv u l fn n i ⟨15, a, b, c⟩) (hf : fn ≤ 1000000000000) (hn : n ≤ 1000000000000) (hu : u ≤ 1000000000000) :
    Calls Tryd.prog 10 #[psv, .int .i64 u, .int .i64 i] w fun e w' => e = .returned (.bool (okD l fn n i ⟨15, a, b, c⟩)) ∧ w.grownBy w' none := by
  obtain ⟨⟨b', off, np, cap, fa, fc, tb, toff, tc, rfl, hun, p2, p4, hin, q0, q1, q2, q3, hll, hah⟩⟩ := hC
  dsimp only at q0 q1 q2 q3
  clear hah hll
  have i1 : (0 : Int) ≤ (u : Int) := by omega
  have i2 : (u : Int) < (np : Int) := by omega
  have i3 : (0 : Int) ≤ (i : Int) := by omega
  have i4 : (i : Int) < (n : Int) := by omega
  have P2 : ∀ ob, (w.alloc ob).cell? ⟨b', off + u * 5 + 2, none⟩ = some (.slice fa fn fc) := fun ob => (gr1 w ob).cell p2 (by simp)
  have P4 : ∀ ob, (w.alloc ob).cell? ⟨b', off + u * 5 + 4, none⟩ = some (.slice (some ⟨tb, toff, none⟩) n tc) := fun ob => (gr1 w ob).cell p4 (by simp)
  clear p2
  go_enter Tryd.func10, Tryd.ntmps10
  go_wp2
  all_goals go_ret
  all_goals refine ⟨?_, gr1 _ _⟩
  all_goals (simp_all [okD]; try omega)

set_option maxRecDepth 10000 in
set_option maxHeartbeats 4000000 in
theorem instrOk_2 (a b c : Int) (l : List (Int × Nat)) (fn n i u : Nat) (psv : Value) (w : World) (hC : CdAt w psv u l fn n i ⟨2, a, b, c⟩) (hf : fn ≤ 1000000000000) (hn : n ≤ 1000000000000) (hu : u ≤ 1000000000000) :
    Calls Tryd.prog 10 #[psv, .int .i64 u, .int .i64 i] w fun e w' => e = .returned (.bool (okD l fn n i ⟨2, a, b, c⟩)) ∧ w.grownBy w' none := by
  obtain ⟨⟨b', off, np, cap, fa, fc, tb, toff, tc, rfl, hun, p2, p4, hin, q0, q1, q2, q3, hll, hah⟩⟩ := hC
  dsimp only at q0 q1 q2 q3
  clear hah hll
  have i1 : (0 : Int) ≤ (u : Int) := by omega
  have i2 : (u : Int) < (np : Int) := by omega
  have i3 : (0 : Int) ≤ (i : Int) := by omega
  have i4 : (i : Int) < (n : Int) := by omega
  have P2 : ∀ ob, (w.alloc ob).cell? ⟨b', off + u * 5 + 2, none⟩ = some (.slice fa fn fc) := fun ob => (gr1 w ob).cell p2 (by simp)
  have P4 : ∀ ob, (w.alloc ob).cell? ⟨b', off + u * 5 + 4, none⟩ = some (.slice (some ⟨tb, toff, none⟩) n tc) := fun ob => (gr1 w ob).cell p4 (by simp)
  clear p2
  go_enter Tryd.func10, Tryd.ntmps10
  go_wp2_with (first | (go_at_call 16; refine (wordsIn_any _ _ _ _ hf).mono ?_; rintro e w' ⟨rfl, rfl⟩))
  all_goals go_ret
  all_goals refine ⟨?_, gr1 _ _⟩
  all_goals (simp_all [okD]; try omega)

set_option maxRecDepth 10000 in
set_option maxHeartbeats 4000000 in
theorem instrOk_3 (a b c : Int) (l : List (Int × Nat)) (fn n i u : Nat) (psv : Value) (w : World) (hC : CdAt w psv u l fn n i ⟨3, a, b, c⟩) (hf : fn ≤ 1000000000000) (hn : n ≤ 1000000000000) (hu : u ≤ 1000000000000) :
    Calls Tryd.prog 10 #[psv, .int .i64 u, .int .i64 i] w fun e w' => e = .returned (.bool (okD l fn n i ⟨3, a, b, c⟩)) ∧ w.grownBy w' none := by
  obtain ⟨⟨b', off, np, cap, fa, fc, tb, toff, tc, rfl, hun, p2, p4, hin, q0, q1, q2, q3, hll, hah⟩⟩ := hC
  dsimp only at q0 q1 q2 q3
  clear hah hll
  have i1 : (0 : Int) ≤ (u : Int) := by omega
  have i2 : (u : Int) < (np : Int) := by omega
  have i3 : (0 : Int) ≤ (i : Int) := by omega
  have i4 : (i : Int) < (n : Int) := by omega
  have P2 : ∀ ob, (w.alloc ob).cell? ⟨b', off + u * 5 + 2, none⟩ = some (.slice fa fn fc) := fun ob => (gr1 w ob).cell p2 (by simp)
  have P4 : ∀ ob, (w.alloc ob).cell? ⟨b', off + u * 5 + 4, none⟩ = some (.slice (some ⟨tb, toff, none⟩) n tc) := fun ob => (gr1 w ob).cell p4 (by simp)
  clear p2
  go_enter Tryd.func10, Tryd.ntmps10
  go_wp2_with (first | (go_at_call 16; refine (wordsIn_any _ _ _ _ hf).mono ?_; rintro e w' ⟨rfl, rfl⟩))
  all_goals go_ret
  all_goals refine ⟨?_, gr1 _ _⟩
  all_goals (simp_all [okD]; try omega)

set_option maxRecDepth 10000 in
set_option maxHeartbeats 4000000 in
theorem instrOk_6 (a b c : Int) (l : List (Int × Nat)) (fn n i u : Nat) (psv : Value) (w : World) (hC : CdAt w psv u l fn n i ⟨6, a, b, c⟩) (hf : fn ≤ 1000000000000) (hn : n ≤ 1000000000000) (hu : u ≤ 1000000000000) :
    Calls Tryd.prog 10 #[psv, .int .i64 u, .int .i64 i] w fun e w' => e = .returned (.bool (okD l fn n i ⟨6, a, b, c⟩)) ∧ w.grownBy w' none := by
  obtain ⟨⟨b', off, np, cap, fa, fc, tb, toff, tc, rfl, hun, p2, p4, hin, q0, q1, q2, q3, hll, hah⟩⟩ := hC
  dsimp only at q0 q1 q2 q3
  clear hah hll
  have i1 : (0 : Int) ≤ (u : Int) := by omega
  have i2 : (u : Int) < (np : Int) := by omega
  have i3 : (0 : Int) ≤ (i : Int) := by omega
  have i4 : (i : Int) < (n : Int) := by omega
  have P2 : ∀ ob, (w.alloc ob).cell? ⟨b', off + u * 5 + 2, none⟩ = some (.slice fa fn fc) := fun ob => (gr1 w ob).cell p2 (by simp)
  have P4 : ∀ ob, (w.alloc ob).cell? ⟨b', off + u * 5 + 4, none⟩ = some (.slice (some ⟨tb, toff, none⟩) n tc) := fun ob => (gr1 w ob).cell p4 (by simp)
  clear p2
  go_enter Tryd.func10, Tryd.ntmps10
  go_wp2_with (first | (go_at_call 18; refine (rresult_any _ _ _).mono ?_; rintro e w' ⟨rfl, rfl⟩))
  all_goals go_ret
  all_goals refine ⟨?_, gr1 _ _⟩
  all_goals (simp_all [okD]; try omega)

set_option maxRecDepth 10000 in
set_option maxHeartbeats 4000000 in
theorem instrOk_13 (a b c : Int) (l : List (Int × Nat)) (fn n i u : Nat) (psv : Value) (w : World) (hC : CdAt w psv u l fn n i ⟨13, a, b, c⟩) (hf : fn ≤ 1000000000000) (hn : n ≤ 1000000000000) (hu : u ≤ 1000000000000) :
    Calls Tryd.prog 10 #[psv, .int .i64 u, .int .i64 i] w fun e w' => e = .returned (.bool (okD l fn n i ⟨13, a, b, c⟩)) ∧ w.grownBy w' none := by
  obtain ⟨⟨b', off, np, cap, fa, fc, tb, toff, tc, rfl, hun, p2, p4, hin, q0, q1, q2, q3, hll, hah⟩⟩ := hC
  dsimp only at q0 q1 q2 q3
  clear hah hll
  have i1 : (0 : Int) ≤ (u : Int) := by omega
  have i2 : (u : Int) < (np : Int) := by omega
  have i3 : (0 : Int) ≤ (i : Int) := by omega
  have i4 : (i : Int) < (n : Int) := by omega
  have P2 : ∀ ob, (w.alloc ob).cell? ⟨b', off + u * 5 + 2, none⟩ = some (.slice fa fn fc) := fun ob => (gr1 w ob).cell p2 (by simp)
  have P4 : ∀ ob, (w.alloc ob).cell? ⟨b', off + u * 5 + 4, none⟩ = some (.slice (some ⟨tb, toff, none⟩) n tc) := fun ob => (gr1 w ob).cell p4 (by simp)
  clear p2
  go_enter Tryd.func10, Tryd.ntmps10
  go_wp2
  all_goals go_ret
  all_goals refine ⟨?_, gr1 _ _⟩
  all_goals (simp_all [okD]; try omega)

set_option maxRecDepth 10000 in
set_option maxHeartbeats 4000000 in
theorem instrOk_14 (a b c : Int) (l : List (Int × Nat)) (fn n i u : Nat) (psv : Value) (w : World) (hC : CdAt w psv u l fn n i ⟨14, a, b, c⟩) (hf : fn ≤ 1000000000000) (hn : n ≤ 1000000000000) (hu : u ≤ 1000000000000) :
    Calls Tryd.prog 10 #[psv, .int .i64 u, .int .i64 i] w fun e w' => e = .returned (.bool (okD l fn n i ⟨14, a, b, c⟩)) ∧ w.grownBy w' none := by
  obtain ⟨⟨b', off, np, cap, fa, fc, tb, toff, tc, rfl, hun, p2, p4, hin, q0, q1, q2, q3, hll, hah⟩⟩ := hC
  dsimp only at q0 q1 q2 q3
  clear hah hll
  have i1 : (0 : Int) ≤ (u : Int) := by omega
  have i2 : (u : Int) < (np : Int) := by omega
  have i3 : (0 : Int) ≤ (i : Int) := by omega
  have i4 : (i : Int) < (n : Int) := by omega
  have P2 : ∀ ob, (w.alloc ob).cell? ⟨b', off + u * 5 + 2, none⟩ = some (.slice fa fn fc) := fun ob => (gr1 w ob).cell p2 (by simp)
  have P4 : ∀ ob, (w.alloc ob).cell? ⟨b', off + u * 5 + 4, none⟩ = some (.slice (some ⟨tb, toff, none⟩) n tc) := fun ob => (gr1 w ob).cell p4 (by simp)
  clear p2
  go_enter Tryd.func10, Tryd.ntmps10
  go_wp2
  all_goals go_ret
  all_goals refine ⟨?_, gr1 _ _⟩
  all_goals (simp_all [okD]; try omega)

set_option maxRecDepth 10000 in
set_option maxHeartbeats 4000000 in
theorem instrOk_16 (a b c : Int) (l : List (Int × Nat)) (fn n i u : Nat) (psv : Value) (w : World) (hC : CdAt w psv u l fn n i ⟨16, a, b, c⟩) (hf : fn ≤ 1000000000000) (hn : n ≤ 1000000000000) (hu : u ≤ 1000000000000) :
    Calls Tryd.prog 10 #[psv, .int .i64 u, .int .i64 i] w fun e w' => e = .returned (.bool (okD l fn n i ⟨16, a, b, c⟩)) ∧ w.grownBy w' none := by
  obtain ⟨⟨b', off, np, cap, fa, fc, tb, toff, tc, rfl, hun, p2, p4, hin, q0, q1, q2, q3, hll, hah⟩⟩ := hC
  dsimp only at q0 q1 q2 q3
  clear hah hll
  have i1 : (0 : Int) ≤ (u : Int) := by omega
  have i2 : (u : Int) < (np : Int) := by omega
  have i3 : (0 : Int) ≤ (i : Int) := by omega
  have i4 : (i : Int) < (n : Int) := by omega
  have P2 : ∀ ob, (w.alloc ob).cell? ⟨b', off + u * 5 + 2, none⟩ = some (.slice fa fn fc) := fun ob => (gr1 w ob).cell p2 (by simp)
  have P4 : ∀ ob, (w.alloc ob).cell? ⟨b', off + u * 5 + 4, none⟩ = some (.slice (some ⟨tb, toff, none⟩) n tc) := fun ob => (gr1 w ob).cell p4 (by simp)
  clear p2
  go_enter Tryd.func10, Tryd.ntmps10
  go_wp2_with (first | (go_at_call 16; refine (wordsIn_any _ _ _ _ hf).mono ?_; rintro e w' ⟨rfl, rfl⟩))
  all_goals go_ret
  all_goals refine ⟨?_, gr1 _ _⟩
  all_goals (simp_all [okD]; try omega)

set_option maxRecDepth 10000 in
set_option maxHeartbeats 4000000 in
theorem instrOk_4 (a b c : Int) (l : List (Int × Nat)) (fn n i u : Nat) (psv : Value) (w : World) (hC : CdAt w psv u l fn n i ⟨4, a, b, c⟩) (hf : fn ≤ 1000000000000) (hn : n ≤ 1000000000000) (hu : u ≤ 1000000000000) :
    Calls Tryd.prog 10 #[psv, .int .i64 u, .int .i64 i] w fun e w' => e = .returned (.bool (okD l fn n i ⟨4, a, b, c⟩)) ∧ w.grownBy w' none := by
  obtain ⟨⟨b', off, np, cap, fa, fc, tb, toff, tc, rfl, hun, p2, p4, hin, q0, q1, q2, q3, hll, hah⟩⟩ := hC
  dsimp only at q0 q1 q2 q3
  clear hah hll
  have i1 : (0 : Int) ≤ (u : Int) := by omega
  have i2 : (u : Int) < (np : Int) := by omega
  have i3 : (0 : Int) ≤ (i : Int) := by omega
  have i4 : (i : Int) < (n : Int) := by omega
  have P2 : ∀ ob, (w.alloc ob).cell? ⟨b', off + u * 5 + 2, none⟩ = some (.slice fa fn fc) := fun ob => (gr1 w ob).cell p2 (by simp)
  have P4 : ∀ ob, (w.alloc ob).cell? ⟨b', off + u * 5 + 4, none⟩ = some (.slice (some ⟨tb, toff, none⟩) n tc) := fun ob => (gr1 w ob).cell p4 (by simp)
  clear p2
  go_enter Tryd.func10, Tryd.ntmps10
  go_wp2_with (first | (go_at_call 16; refine (wordsIn_any _ _ _ _ hf).mono ?_; rintro e w' ⟨rfl, rfl⟩) | (go_at_call 17; refine (numberOk_any _ _).mono ?_; rintro e w' ⟨rfl, rfl⟩))
  all_goals go_ret
  all_goals refine ⟨?_, gr1 _ _⟩
  all_goals (simp_all [okD]; try omega)

set_option maxRecDepth 10000 in
set_option maxHeartbeats 4000000 in
theorem instrOk_5 (a b c : Int) (l : List (Int × Nat)) (fn n i u : Nat) (psv : Value) (w : World) (hC : CdAt w psv u l fn n i ⟨5, a, b, c⟩) (hf : fn ≤ 1000000000000) (hn : n ≤ 1000000000000) (hu : u ≤ 1000000000000) :
    Calls Tryd.prog 10 #[psv, .int .i64 u, .int .i64 i] w fun e w' => e = .returned (.bool (okD l fn n i ⟨5, a, b, c⟩)) ∧ w.grownBy w' none := by
  obtain ⟨⟨b', off, np, cap, fa, fc, tb, toff, tc, rfl, hun, p2, p4, hin, q0, q1, q2, q3, hll, hah⟩⟩ := hC
  dsimp only at q0 q1 q2 q3
  clear hah hll
  have i1 : (0 : Int) ≤ (u : Int) := by omega
  have i2 : (u : Int) < (np : Int) := by omega
  have i3 : (0 : Int) ≤ (i : Int) := by omega
  have i4 : (i : Int) < (n : Int) := by omega
  have P2 : ∀ ob, (w.alloc ob).cell? ⟨b', off + u * 5 + 2, none⟩ = some (.slice fa fn fc) := fun ob => (gr1 w ob).cell p2 (by simp)
  have P4 : ∀ ob, (w.alloc ob).cell? ⟨b', off + u * 5 + 4, none⟩ = some (.slice (some ⟨tb, toff, none⟩) n tc) := fun ob => (gr1 w ob).cell p4 (by simp)
  clear p2
  go_enter Tryd.func10, Tryd.ntmps10
  go_wp2_with (first | (go_at_call 16; refine (wordsIn_any _ _ _ _ hf).mono ?_; rintro e w' ⟨rfl, rfl⟩) | (go_at_call 17; refine (numberOk_any _ _).mono ?_; rintro e w' ⟨rfl, rfl⟩))
  all_goals go_ret
  all_goals refine ⟨?_, gr1 _ _⟩
  all_goals (simp_all [okD]; try omega)

set_option maxRecDepth 10000 in
set_option maxHeartbeats 4000000 in
theorem instrOk_7 (a b c : Int) (l : List (Int × Nat)) (fn n i u : Nat) (psv : Value) (w : World) (hC : CdAt w psv u l fn n i ⟨7, a, b, c⟩) (hf : fn ≤ 1000000000000) (hn : n ≤ 1000000000000) (hu : u ≤ 1000000000000) :
    Calls Tryd.prog 10 #[psv, .int .i64 u, .int .i64 i] w fun e w' => e = .returned (.bool (okD l fn n i ⟨7, a, b, c⟩)) ∧ w.grownBy w' none := by
  obtain ⟨⟨b', off, np, cap, fa, fc, tb, toff, tc, rfl, hun, p2, p4, hin, q0, q1, q2, q3, hll, hah⟩⟩ := hC
  dsimp only at q0 q1 q2 q3
  clear hah hll
  have i1 : (0 : Int) ≤ (u : Int) := by omega
  have i2 : (u : Int) < (np : Int) := by omega
  have i3 : (0 : Int) ≤ (i : Int) := by omega
  have i4 : (i : Int) < (n : Int) := by omega
  have P2 : ∀ ob, (w.alloc ob).cell? ⟨b', off + u * 5 + 2, none⟩ = some (.slice fa fn fc) := fun ob => (gr1 w ob).cell p2 (by simp)
  have P4 : ∀ ob, (w.alloc ob).cell? ⟨b', off + u * 5 + 4, none⟩ = some (.slice (some ⟨tb, toff, none⟩) n tc) := fun ob => (gr1 w ob).cell p4 (by simp)
  clear p2
  go_enter Tryd.func10, Tryd.ntmps10
  go_wp2_with (first | (go_at_call 19; refine (kindOk_any _ _).mono ?_; rintro e w' ⟨rfl, rfl⟩))
  all_goals go_ret
  all_goals refine ⟨?_, gr1 _ _⟩
  all_goals (simp_all [okD]; try omega)

end Go.Proofs.YtbaijehecncclaaDoor
