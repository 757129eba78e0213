/- Numbers in four bytes, read and written. -/
import Derived.Test.YtlbipcecdcmgdaaDoorS
namespace Go.Proofs.YtlbipcecdcmgdaaDoor
open Go.RowKit
attribute [local go_sem ↓] Go.wp_at_zero Go.wp_at_succ
set_option linter.unusedVariables false
set_option linter.unusedSimpArgs false

def four (n : Nat) : List Nat := [n % 256, n / 256 % 256, n / 65536 % 256, n / 16777216 % 256]
def val (l : List Nat) (k : Nat) : Nat := l.getD k 0 + 256 * l.getD (k + 1) 0 + 65536 * l.getD (k + 2) 0 + 16777216 * l.getD (k + 3) 0
theorem four_len (n : Nat) : (four n).length = 4 := rfl
theorem four_B (n : Nat) : isB (four n) := by
  intro x hx
  simp [four] at hx
  omega
theorem val_lt {l : List Nat} (h : isB l) (k : Nat) : val l k < 2 ^ 32 := by
  have h0 := at_byte h k
  have h1 := at_byte h (k + 1)
  have h2 := at_byte h (k + 2)
  have h3 := at_byte h (k + 3)
  unfold val
  omega
theorem join64 (i : Nat) (n x : Nat) (hi : i ≤ 24) (g1 : n < 2 ^ i) (h1 : x < 256) : bits BinOp.or IntKind.i64 (n : Int) ((x : Int) * 2 ^ i) = ((n + x * 2 ^ i : Nat) : Int) := by
  have hp : 2 ^ i ≤ 2 ^ 24 := Nat.pow_le_pow_right (by omega) hi
  have hx : x * 2 ^ i < 2 ^ 32 := by
    have := Nat.mul_le_mul (show x ≤ 255 by omega) hp
    omega
  have h := (bits_nat .i64 32 (by decide) (fun n h0 h1 => i64_id (by omega) (by omega)) n (x * 2 ^ i) (by omega) hx).2
  rw [Nat.or_comm, Nat.mul_comm x, ← Nat.two_pow_add_eq_or_of_lt g1 x] at h
  rw [Nat.mul_comm x, Nat.add_comm n, ← h]
  congr 1
  simp [Int.mul_comm]
set_option maxHeartbeats 1000000 in
theorem number_any (l : List Nat) (v : Value) (w : World) (hb : isB l) (hv : rdB w v l) (hl : 4 ≤ l.length) : Calls Tryd.prog 34 #[v] w fun e w' => e = .returned (.int .i64 ((val l 0 : Nat) : Int)) ∧ w = w' := by
  obtain ⟨b, off, cap, rfl, _, hc⟩ := rdB_at hv (by omega)
  have q0 := hc 0 (by omega)
  have q1 := hc 1 (by omega)
  have q2 := hc 2 (by omega)
  have q3 := hc 3 (by omega)
  clear hc hv
  have b0 := at_byte hb 0
  have b1 := at_byte hb 1
  have b2 := at_byte hb 2
  have b3 := at_byte hb 3
  obtain ⟨n, hn⟩ : ∃ n, l.length = n := ⟨_, rfl⟩
  rw [hn] at hl ⊢
  clear hn
  unfold val
  simp only [Nat.zero_add, Nat.add_zero] at *
  generalize l.getD 0 0 = x0 at *
  generalize l.getD 1 0 = x1 at *
  generalize l.getD 2 0 = x2 at *
  generalize l.getD 3 0 = x3 at *
  go_enter Tryd.func34, Tryd.ntmps34
  have e0 : bits BinOp.or IntKind.i64 0 (x0 : Int) = (x0 : Int) := by
    have := join64 0 0 x0 (by omega) (by omega) b0
    simpa using this
  obtain ⟨y1, hy1⟩ : ∃ y : Nat, y = x0 + x1 * 256 := ⟨_, rfl⟩
  have e1 : bits BinOp.or IntKind.i64 (x0 : Int) ((x1 : Int) * 256) = (y1 : Int) := by
    rw [hy1]; exact join64 8 x0 x1 (by omega) (by omega) b1
  obtain ⟨y2, hy2⟩ : ∃ y : Nat, y = y1 + x2 * 65536 := ⟨_, rfl⟩
  have e2 : bits BinOp.or IntKind.i64 (y1 : Int) ((x2 : Int) * 65536) = (y2 : Int) := by
    rw [hy2]; exact join64 16 y1 x2 (by omega) (by omega) b2
  obtain ⟨y3, hy3⟩ : ∃ y : Nat, y = y2 + x3 * 16777216 := ⟨_, rfl⟩
  have e3 : bits BinOp.or IntKind.i64 (y2 : Int) ((x3 : Int) * 16777216) = (y3 : Int) := by
    rw [hy3]; exact join64 24 y2 x3 (by omega) (by omega) b3
  have HY : Hid (y3 = x0 + 256 * x1 + 65536 * x2 + 16777216 * x3) := show _ = _ by omega
  clear hy1 hy2 hy3
  go_wp2
  refine wp_loop_rounds 5 ?_
  rw [rounds_succ]
  go_wp2
  rw [rounds_succ]
  go_wp2
  rw [rounds_succ]
  go_wp2
  rw [rounds_succ]
  go_wp2
  rw [rounds_succ]
  go_wp2
  go_ret
  refine ⟨ret_int ?_, rfl⟩
  rw [HY.out]

set_option maxHeartbeats 1000000 in
theorem fours_any (l : List Nat) (k : Nat) (v : Value) (w : World) (hb : isB l) (hv : rdB w v l) (hl : k + 4 ≤ l.length) (hm : l.length ≤ maxLen) : Calls Tryd.prog 31 #[v, .int .i64 (k : Int)] w fun e w' => e = .returned (.int .i64 ((val l k : Nat) : Int)) ∧ w.grownBy w' none := by
  obtain ⟨b, off, cap, rfl, _, hc⟩ := rdB_at hv (by omega)
  have q0 := hc k (by omega)
  have q1 := hc (k + 1) (by omega)
  have q2 := hc (k + 2) (by omega)
  have q3 := hc (k + 3) (by omega)
  clear hc hv
  have b0 := at_byte hb k
  have b1 := at_byte hb (k + 1)
  have b2 := at_byte hb (k + 2)
  have b3 := at_byte hb (k + 3)
  obtain ⟨n, hn⟩ : ∃ n, l.length = n := ⟨_, rfl⟩
  rw [hn] at hl hm ⊢
  clear hn
  unfold maxLen at hm
  unfold val
  generalize l.getD k 0 = x0 at *
  generalize l.getD (k + 1) 0 = x1 at *
  generalize l.getD (k + 2) 0 = x2 at *
  generalize l.getD (k + 3) 0 = x3 at *
  obtain ⟨c1, hc1⟩ : ∃ c, k + 1 = c := ⟨_, rfl⟩
  obtain ⟨c2, hc2⟩ : ∃ c, k + 2 = c := ⟨_, rfl⟩
  obtain ⟨c3, hc3⟩ : ∃ c, k + 3 = c := ⟨_, rfl⟩
  rw [hc1] at q1
  rw [hc2] at q2
  rw [hc3] at q3
  have i0 : (0 : Int) ≤ (k : Int) := by omega
  have j0 : (k : Int) < (n : Int) := by omega
  have i1 : (0 : Int) ≤ (c1 : Int) := by omega
  have j1 : (c1 : Int) < (n : Int) := by omega
  have i2 : (0 : Int) ≤ (c2 : Int) := by omega
  have j2 : (c2 : Int) < (n : Int) := by omega
  have i3 : (0 : Int) ≤ (c3 : Int) := by omega
  have j3 : (c3 : Int) < (n : Int) := by omega
  obtain ⟨y1, hy1⟩ : ∃ y : Nat, y = 256 * x1 := ⟨_, rfl⟩
  obtain ⟨y2, hy2⟩ : ∃ y : Nat, y = 65536 * x2 := ⟨_, rfl⟩
  obtain ⟨y3, hy3⟩ : ∃ y : Nat, y = 16777216 * x3 := ⟨_, rfl⟩
  obtain ⟨t1, ht1⟩ : ∃ y : Nat, y = x0 + y1 := ⟨_, rfl⟩
  obtain ⟨t2, ht2⟩ : ∃ y : Nat, y = t1 + y2 := ⟨_, rfl⟩
  obtain ⟨t3, ht3⟩ : ∃ y : Nat, y = t2 + y3 := ⟨_, rfl⟩
  have HV : Hid (t3 = x0 + 256 * x1 + 65536 * x2 + 16777216 * x3) := show t3 = _ by omega
  have i64n : ∀ (z : Int) (y : Nat), z = (y : Int) → y < 2 ^ 40 → IntKind.i64.wrap z = (y : Int) := fun z y h hy => by subst h; exact i64_id (by omega) (by omega)
  have i64k : ∀ (z : Int) (y : Nat), z = (y : Int) → y < 9223372036854775807 → IntKind.i64.wrap z = (y : Int) := fun z y h hy => by subst h; exact i64_id (by omega) (by omega)
  have z0 := i64n (x0 : Int) x0 rfl (by omega)
  have z1 := i64n (x1 : Int) x1 rfl (by omega)
  have z2 := i64n (x2 : Int) x2 rfl (by omega)
  have z3 := i64n (x3 : Int) x3 rfl (by omega)
  have e1 := i64n (256 * (x1 : Int)) y1 (by omega) (by omega)
  have e2 := i64n (65536 * (x2 : Int)) y2 (by omega) (by omega)
  have e3 := i64n (16777216 * (x3 : Int)) y3 (by omega) (by omega)
  have e4 := i64n ((x0 : Int) + (y1 : Int)) t1 (by omega) (by omega)
  have e5 := i64n ((t1 : Int) + (y2 : Int)) t2 (by omega) (by omega)
  have e6 := i64n ((t2 : Int) + (y3 : Int)) t3 (by omega) (by omega)
  have m1 := i64k ((k : Int) + 1) c1 (by omega) (by omega)
  have m2 := i64k ((k : Int) + 2) c2 (by omega) (by omega)
  have m3 := i64k ((k : Int) + 3) c3 (by omega) (by omega)
  clear i64n i64k hc1 hc2 hc3 hl hy1 hy2 hy3 ht1 ht2 ht3 hm
  go_enter Tryd.func31, Tryd.ntmps31
  go_wp2
  go_region_held3 (fun w' => w'.cell? ⟨b, off + k, none⟩ = some (.int .u8 (x0 : Int)) ∧ w'.cell? ⟨b, off + c1, none⟩ = some (.int .u8 (x1 : Int)) ∧ w'.cell? ⟨b, off + c2, none⟩ = some (.int .u8 (x2 : Int)) ∧ w'.cell? ⟨b, off + c3, none⟩ = some (.int .u8 (x3 : Int))) (go_keep) (fail)
  go_wp2
  go_ret
  refine ⟨ret_int ?_, gr_drew (World.grownBy.refl _ _)⟩
  rw [HV.out]

set_option maxHeartbeats 1000000 in
theorem four_any (n : Nat) (w : World) (h : n < 2 ^ 32) : Calls Tryd.prog 27 #[.int .i64 (n : Int)] w fun e w' => ∃ g, e = .returned (.slice (some ⟨g, 0, none⟩) 4 4) ∧ OwnB w.heap.size w' (some ⟨g, 0, none⟩) 4 (four n) ∧ w.grownBy w' none := by
  go_enter Tryd.func27, Tryd.ntmps27
  go_wp2
  go_ret
  refine ⟨w.heap.size, rfl, ⟨rfl, .inr ⟨w.heap.size, 4, _, rfl, Nat.le_refl _, heap_alloc_new w _, Nat.le_refl _, by unfold maxLen; decide, rfl, ?_⟩⟩, gr_alloc (World.grownBy.refl _ _) _⟩
  simp [bV, four]
  omega
end Go.Proofs.YtlbipcecdcmgdaaDoor
