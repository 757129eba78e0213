/- Contracts of Get, GetValue, sameBytes. -/
import Derived.Test.YtnjlomdkenondaaBytesA
namespace Go.Proofs.Ytnjlomdkenondaa
open Go.RowKit

theorem or_zero (x : Int) (h0 : 0 ≤ x) (h1 : x ≤ 255) : bits BinOp.or IntKind.i64 0 x = x := by
  have h := bits_join .i64 62 (by decide) (fun n a b => by rw [IntWalk.i64_left]; exact wrap64_id (by omega) (by omega)) 8 0 x (by decide) (by decide) (by decide) h0 (by omega) (by omega)
  rw [h]; omega
theorem or_join (n x : Int) (g0 : 0 ≤ n) (g1 : n ≤ 4294967295) (h0 : 0 ≤ x) (h1 : x ≤ 255) : bits BinOp.or IntKind.i64 (n * 256) x = n * 256 + x :=
  bits_join .i64 62 (by decide) (fun n a b => by rw [IntWalk.i64_left]; exact wrap64_id (by omega) (by omega)) 8 (n * 256) x (by omega) (by omega) (by omega) h0 (by omega) (by omega)

/-- What bytes say, the highest first. -/
def valL (l : List Int) : Int := l.foldl (fun n x => n * 256 + x) 0
def getE (k : Int) (l : List Int) : Int := if isK k = true then (if (l.length : Int) = sizeK k then (if (k == 1 && decide (1 < valL l)) = true then 3 else 0) else 4) else 5
def getN (k : Int) (l : List Int) : Int := if getE k l = 0 then wrapK k (valL l) else 0
theorem wide_is (k : Int) : (wideS k == 0) = !isK k := by
  rcases kinds k with rfl | rfl | rfl | rfl | rfl | ⟨h1, h2, h3, h4, h5⟩
  all_goals first | decide | skip
  have e : isK k = false := by simp [isK]; omega
  rw [e]
  simp [wideS, h1, h2, h3, h4, h5]

set_option maxHeartbeats 1000000 in
theorem get1 (k x : Int) (b off cap : Nat) (w : World) (hk : isK k = true) (e1 : sizeK k = 1) (hk1 : (k == 1) = true) (b0 : 0 ≤ x ∧ x ≤ 255) (h0 : w.cell? ⟨b, off, none⟩ = some (.int .u8 x)) :
    Calls Try.prog 22 #[.int .i64 k, .slice (some ⟨b, off, none⟩) 1 cap] w fun e w' => e = .returned (.tuple #[.int .i64 (getN k [x]), .int .i64 (getE k [x])]) ∧ w' = w := by
  have o0 := or_zero x b0.1 b0.2
  by_cases hx : 1 < x
  · have HE : Hid (getE k [x] = 3) := by
      show getE k [x] = 3
      simp [getE, hk, e1, hk1, valL, hx]
    have HN : Hid (getN k [x] = 0) := by
      show getN k [x] = 0
      simp [getN, HE.out]
    go_enter Try.func22, Try.ntmps22
    go_wp2_with (first | (go_at_call 29; refine (isKind_any _ _).mono ?_; rintro e w' ⟨rfl, rfl⟩) | (go_at_call 32; refine (size_any _ _).mono ?_; rintro e w' ⟨rfl, rfl⟩) | (go_at_call 11; refine (wrap_any _ _ _).mono ?_; rintro e w' ⟨rfl, rfl⟩))
    refine wp_loop_rounds 2 ?_
    rw [rounds_succ]
    go_wp2_with (first | (go_at_call 29; refine (isKind_any _ _).mono ?_; rintro e w' ⟨rfl, rfl⟩) | (go_at_call 32; refine (size_any _ _).mono ?_; rintro e w' ⟨rfl, rfl⟩) | (go_at_call 11; refine (wrap_any _ _ _).mono ?_; rintro e w' ⟨rfl, rfl⟩))
    rw [rounds_succ]
    go_wp2_with (first | (go_at_call 29; refine (isKind_any _ _).mono ?_; rintro e w' ⟨rfl, rfl⟩) | (go_at_call 32; refine (size_any _ _).mono ?_; rintro e w' ⟨rfl, rfl⟩) | (go_at_call 11; refine (wrap_any _ _ _).mono ?_; rintro e w' ⟨rfl, rfl⟩))
    go_ret2
    exact ⟨by rw [HE.out, HN.out]; rfl, rfl⟩
  · have HE : Hid (getE k [x] = 0) := by
      show getE k [x] = 0
      simp [getE, hk, e1, hk1, valL, hx]
    have HN : Hid (getN k [x] = wrapK k x) := by
      show getN k [x] = wrapK k x
      simp [getN, HE.out, valL]
    go_enter Try.func22, Try.ntmps22
    go_wp2_with (first | (go_at_call 29; refine (isKind_any _ _).mono ?_; rintro e w' ⟨rfl, rfl⟩) | (go_at_call 32; refine (size_any _ _).mono ?_; rintro e w' ⟨rfl, rfl⟩) | (go_at_call 11; refine (wrap_any _ _ _).mono ?_; rintro e w' ⟨rfl, rfl⟩))
    refine wp_loop_rounds 2 ?_
    rw [rounds_succ]
    go_wp2_with (first | (go_at_call 29; refine (isKind_any _ _).mono ?_; rintro e w' ⟨rfl, rfl⟩) | (go_at_call 32; refine (size_any _ _).mono ?_; rintro e w' ⟨rfl, rfl⟩) | (go_at_call 11; refine (wrap_any _ _ _).mono ?_; rintro e w' ⟨rfl, rfl⟩))
    rw [rounds_succ]
    go_wp2_with (first | (go_at_call 29; refine (isKind_any _ _).mono ?_; rintro e w' ⟨rfl, rfl⟩) | (go_at_call 32; refine (size_any _ _).mono ?_; rintro e w' ⟨rfl, rfl⟩) | (go_at_call 11; refine (wrap_any _ _ _).mono ?_; rintro e w' ⟨rfl, rfl⟩))
    go_ret2
    exact ⟨by rw [HE.out, HN.out]; rfl, rfl⟩

set_option maxHeartbeats 1000000 in
theorem rget1 (k x : Int) (b off cap : Nat) (w : World) (hk : isK k = true) (e1 : sizeK k = 1) (hk1 : (k == 1) = true) (b0 : 0 ≤ x ∧ x ≤ 255) (h0 : w.cell? ⟨b, off, none⟩ = some (.int .u8 x)) :
    Calls Try.prog 23 #[.int .i64 k, .slice (some ⟨b, off, none⟩) 1 cap] w fun e w' => e = .returned (.tuple #[.int .i64 (getN k [x]), .int .i64 (getE k [x])]) ∧ w' = w := by
  have hw : (wideS k == 0) = false := by rw [wide_is, hk]; rfl
  by_cases hx : 1 < x
  · have HE : Hid (getE k [x] = 3) := by
      show getE k [x] = 3
      simp [getE, hk, e1, hk1, valL, hx]
    have HN : Hid (getN k [x] = 0) := by
      show getN k [x] = 0
      simp [getN, HE.out]
    go_enter Try.func23, Try.ntmps23
    go_wp2_with (first | (go_at_call 30; refine (width_any _ _).mono ?_; rintro e w' ⟨rfl, rfl⟩) | (go_at_call 33; refine (bytesOf_any _ _).mono ?_; rintro e w' ⟨rfl, rfl⟩) | (go_at_call 12; refine (rwrap_any _ _ _).mono ?_; rintro e w' ⟨rfl, rfl⟩))
    refine wp_loop_rounds 2 ?_
    rw [rounds_succ]
    go_wp2_with (first | (go_at_call 30; refine (width_any _ _).mono ?_; rintro e w' ⟨rfl, rfl⟩) | (go_at_call 33; refine (bytesOf_any _ _).mono ?_; rintro e w' ⟨rfl, rfl⟩) | (go_at_call 12; refine (rwrap_any _ _ _).mono ?_; rintro e w' ⟨rfl, rfl⟩))
    rw [rounds_succ]
    go_wp2_with (first | (go_at_call 30; refine (width_any _ _).mono ?_; rintro e w' ⟨rfl, rfl⟩) | (go_at_call 33; refine (bytesOf_any _ _).mono ?_; rintro e w' ⟨rfl, rfl⟩) | (go_at_call 12; refine (rwrap_any _ _ _).mono ?_; rintro e w' ⟨rfl, rfl⟩))
    go_ret2
    exact ⟨by rw [HE.out, HN.out]; rfl, rfl⟩
  · have HE : Hid (getE k [x] = 0) := by
      show getE k [x] = 0
      simp [getE, hk, e1, hk1, valL, hx]
    have HN : Hid (getN k [x] = wrapK k x) := by
      show getN k [x] = wrapK k x
      simp [getN, HE.out, valL]
    go_enter Try.func23, Try.ntmps23
    go_wp2_with (first | (go_at_call 30; refine (width_any _ _).mono ?_; rintro e w' ⟨rfl, rfl⟩) | (go_at_call 33; refine (bytesOf_any _ _).mono ?_; rintro e w' ⟨rfl, rfl⟩) | (go_at_call 12; refine (rwrap_any _ _ _).mono ?_; rintro e w' ⟨rfl, rfl⟩))
    refine wp_loop_rounds 2 ?_
    rw [rounds_succ]
    go_wp2_with (first | (go_at_call 30; refine (width_any _ _).mono ?_; rintro e w' ⟨rfl, rfl⟩) | (go_at_call 33; refine (bytesOf_any _ _).mono ?_; rintro e w' ⟨rfl, rfl⟩) | (go_at_call 12; refine (rwrap_any _ _ _).mono ?_; rintro e w' ⟨rfl, rfl⟩))
    rw [rounds_succ]
    go_wp2_with (first | (go_at_call 30; refine (width_any _ _).mono ?_; rintro e w' ⟨rfl, rfl⟩) | (go_at_call 33; refine (bytesOf_any _ _).mono ?_; rintro e w' ⟨rfl, rfl⟩) | (go_at_call 12; refine (rwrap_any _ _ _).mono ?_; rintro e w' ⟨rfl, rfl⟩))
    go_ret2
    exact ⟨by rw [HE.out, HN.out]; rfl, rfl⟩

set_option maxHeartbeats 1000000 in
theorem get2 (k x y : Int) (b off cap : Nat) (w : World) (hk : isK k = true) (e1 : sizeK k = 2) (hk1 : (k == 1) = false) (b0 : 0 ≤ x ∧ x ≤ 255) (b1 : 0 ≤ y ∧ y ≤ 255) (h0 : w.cell? ⟨b, off, none⟩ = some (.int .u8 x)) (h1 : w.cell? ⟨b, off + 1, none⟩ = some (.int .u8 y)) :
    Calls Try.prog 22 #[.int .i64 k, .slice (some ⟨b, off, none⟩) 2 cap] w fun e w' => e = .returned (.tuple #[.int .i64 (getN k [x, y]), .int .i64 (getE k [x, y])]) ∧ w' = w := by
  have HE : Hid (getE k [x, y] = 0) := by
    show getE k [x, y] = 0
    simp [getE, hk, e1, hk1]
  have HN : Hid (getN k [x, y] = wrapK k (x * 256 + y)) := by
    show getN k [x, y] = wrapK k (x * 256 + y)
    simp [getN, HE.out, valL]
  have o0 := or_zero x b0.1 b0.2
  have o1 := or_join (x) y (by omega) (by omega) b1.1 b1.2
  go_enter Try.func22, Try.ntmps22
  go_wp2_with (first | (go_at_call 29; refine (isKind_any _ _).mono ?_; rintro e w' ⟨rfl, rfl⟩) | (go_at_call 32; refine (size_any _ _).mono ?_; rintro e w' ⟨rfl, rfl⟩) | (go_at_call 11; refine (wrap_any _ _ _).mono ?_; rintro e w' ⟨rfl, rfl⟩))
  refine wp_loop_rounds 3 ?_
  rw [rounds_succ]
  go_wp2_with (first | (go_at_call 29; refine (isKind_any _ _).mono ?_; rintro e w' ⟨rfl, rfl⟩) | (go_at_call 32; refine (size_any _ _).mono ?_; rintro e w' ⟨rfl, rfl⟩) | (go_at_call 11; refine (wrap_any _ _ _).mono ?_; rintro e w' ⟨rfl, rfl⟩))
  rw [rounds_succ]
  go_wp2_with (first | (go_at_call 29; refine (isKind_any _ _).mono ?_; rintro e w' ⟨rfl, rfl⟩) | (go_at_call 32; refine (size_any _ _).mono ?_; rintro e w' ⟨rfl, rfl⟩) | (go_at_call 11; refine (wrap_any _ _ _).mono ?_; rintro e w' ⟨rfl, rfl⟩))
  rw [rounds_succ]
  go_wp2_with (first | (go_at_call 29; refine (isKind_any _ _).mono ?_; rintro e w' ⟨rfl, rfl⟩) | (go_at_call 32; refine (size_any _ _).mono ?_; rintro e w' ⟨rfl, rfl⟩) | (go_at_call 11; refine (wrap_any _ _ _).mono ?_; rintro e w' ⟨rfl, rfl⟩))
  go_ret2
  exact ⟨by rw [HE.out, HN.out]; rfl, rfl⟩

set_option maxHeartbeats 1000000 in
theorem rget2 (k x y : Int) (b off cap : Nat) (w : World) (hk : isK k = true) (e1 : sizeK k = 2) (hk1 : (k == 1) = false) (b0 : 0 ≤ x ∧ x ≤ 255) (b1 : 0 ≤ y ∧ y ≤ 255) (h0 : w.cell? ⟨b, off, none⟩ = some (.int .u8 x)) (h1 : w.cell? ⟨b, off + 1, none⟩ = some (.int .u8 y)) :
    Calls Try.prog 23 #[.int .i64 k, .slice (some ⟨b, off, none⟩) 2 cap] w fun e w' => e = .returned (.tuple #[.int .i64 (getN k [x, y]), .int .i64 (getE k [x, y])]) ∧ w' = w := by
  have HE : Hid (getE k [x, y] = 0) := by
    show getE k [x, y] = 0
    simp [getE, hk, e1, hk1]
  have HN : Hid (getN k [x, y] = wrapK k (x * 256 + y)) := by
    show getN k [x, y] = wrapK k (x * 256 + y)
    simp [getN, HE.out, valL]
  have hw : (wideS k == 0) = false := by rw [wide_is, hk]; rfl
  go_enter Try.func23, Try.ntmps23
  go_wp2_with (first | (go_at_call 30; refine (width_any _ _).mono ?_; rintro e w' ⟨rfl, rfl⟩) | (go_at_call 33; refine (bytesOf_any _ _).mono ?_; rintro e w' ⟨rfl, rfl⟩) | (go_at_call 12; refine (rwrap_any _ _ _).mono ?_; rintro e w' ⟨rfl, rfl⟩))
  refine wp_loop_rounds 3 ?_
  rw [rounds_succ]
  go_wp2_with (first | (go_at_call 30; refine (width_any _ _).mono ?_; rintro e w' ⟨rfl, rfl⟩) | (go_at_call 33; refine (bytesOf_any _ _).mono ?_; rintro e w' ⟨rfl, rfl⟩) | (go_at_call 12; refine (rwrap_any _ _ _).mono ?_; rintro e w' ⟨rfl, rfl⟩))
  rw [rounds_succ]
  go_wp2_with (first | (go_at_call 30; refine (width_any _ _).mono ?_; rintro e w' ⟨rfl, rfl⟩) | (go_at_call 33; refine (bytesOf_any _ _).mono ?_; rintro e w' ⟨rfl, rfl⟩) | (go_at_call 12; refine (rwrap_any _ _ _).mono ?_; rintro e w' ⟨rfl, rfl⟩))
  rw [rounds_succ]
  go_wp2_with (first | (go_at_call 30; refine (width_any _ _).mono ?_; rintro e w' ⟨rfl, rfl⟩) | (go_at_call 33; refine (bytesOf_any _ _).mono ?_; rintro e w' ⟨rfl, rfl⟩) | (go_at_call 12; refine (rwrap_any _ _ _).mono ?_; rintro e w' ⟨rfl, rfl⟩))
  go_ret2
  exact ⟨by rw [HE.out, HN.out]; rfl, rfl⟩

set_option maxHeartbeats 1000000 in
theorem get4 (k x y z t : Int) (b off cap : Nat) (w : World) (hk : isK k = true) (e1 : sizeK k = 4) (hk1 : (k == 1) = false) (b0 : 0 ≤ x ∧ x ≤ 255) (b1 : 0 ≤ y ∧ y ≤ 255) (b2 : 0 ≤ z ∧ z ≤ 255) (b3 : 0 ≤ t ∧ t ≤ 255) (h0 : w.cell? ⟨b, off, none⟩ = some (.int .u8 x)) (h1 : w.cell? ⟨b, off + 1, none⟩ = some (.int .u8 y)) (h2 : w.cell? ⟨b, off + 2, none⟩ = some (.int .u8 z)) (h3 : w.cell? ⟨b, off + 3, none⟩ = some (.int .u8 t)) :
    Calls Try.prog 22 #[.int .i64 k, .slice (some ⟨b, off, none⟩) 4 cap] w fun e w' => e = .returned (.tuple #[.int .i64 (getN k [x, y, z, t]), .int .i64 (getE k [x, y, z, t])]) ∧ w' = w := by
  have HE : Hid (getE k [x, y, z, t] = 0) := by
    show getE k [x, y, z, t] = 0
    simp [getE, hk, e1, hk1]
  have HN : Hid (getN k [x, y, z, t] = wrapK k (((x * 256 + y) * 256 + z) * 256 + t)) := by
    show getN k [x, y, z, t] = wrapK k (((x * 256 + y) * 256 + z) * 256 + t)
    simp [getN, HE.out, valL]
  have o0 := or_zero x b0.1 b0.2
  have o1 := or_join (x) y (by omega) (by omega) b1.1 b1.2
  have o2 := or_join (x * 256 + y) z (by omega) (by omega) b2.1 b2.2
  have o3 := or_join ((x * 256 + y) * 256 + z) t (by omega) (by omega) b3.1 b3.2
  go_enter Try.func22, Try.ntmps22
  go_wp2_with (first | (go_at_call 29; refine (isKind_any _ _).mono ?_; rintro e w' ⟨rfl, rfl⟩) | (go_at_call 32; refine (size_any _ _).mono ?_; rintro e w' ⟨rfl, rfl⟩) | (go_at_call 11; refine (wrap_any _ _ _).mono ?_; rintro e w' ⟨rfl, rfl⟩))
  refine wp_loop_rounds 5 ?_
  rw [rounds_succ]
  go_wp2_with (first | (go_at_call 29; refine (isKind_any _ _).mono ?_; rintro e w' ⟨rfl, rfl⟩) | (go_at_call 32; refine (size_any _ _).mono ?_; rintro e w' ⟨rfl, rfl⟩) | (go_at_call 11; refine (wrap_any _ _ _).mono ?_; rintro e w' ⟨rfl, rfl⟩))
  rw [rounds_succ]
  go_wp2_with (first | (go_at_call 29; refine (isKind_any _ _).mono ?_; rintro e w' ⟨rfl, rfl⟩) | (go_at_call 32; refine (size_any _ _).mono ?_; rintro e w' ⟨rfl, rfl⟩) | (go_at_call 11; refine (wrap_any _ _ _).mono ?_; rintro e w' ⟨rfl, rfl⟩))
  rw [rounds_succ]
  go_wp2_with (first | (go_at_call 29; refine (isKind_any _ _).mono ?_; rintro e w' ⟨rfl, rfl⟩) | (go_at_call 32; refine (size_any _ _).mono ?_; rintro e w' ⟨rfl, rfl⟩) | (go_at_call 11; refine (wrap_any _ _ _).mono ?_; rintro e w' ⟨rfl, rfl⟩))
  rw [rounds_succ]
  go_wp2_with (first | (go_at_call 29; refine (isKind_any _ _).mono ?_; rintro e w' ⟨rfl, rfl⟩) | (go_at_call 32; refine (size_any _ _).mono ?_; rintro e w' ⟨rfl, rfl⟩) | (go_at_call 11; refine (wrap_any _ _ _).mono ?_; rintro e w' ⟨rfl, rfl⟩))
  rw [rounds_succ]
  go_wp2_with (first | (go_at_call 29; refine (isKind_any _ _).mono ?_; rintro e w' ⟨rfl, rfl⟩) | (go_at_call 32; refine (size_any _ _).mono ?_; rintro e w' ⟨rfl, rfl⟩) | (go_at_call 11; refine (wrap_any _ _ _).mono ?_; rintro e w' ⟨rfl, rfl⟩))
  go_ret2
  exact ⟨by rw [HE.out, HN.out]; rfl, rfl⟩

set_option maxHeartbeats 1000000 in
theorem rget4 (k x y z t : Int) (b off cap : Nat) (w : World) (hk : isK k = true) (e1 : sizeK k = 4) (hk1 : (k == 1) = false) (b0 : 0 ≤ x ∧ x ≤ 255) (b1 : 0 ≤ y ∧ y ≤ 255) (b2 : 0 ≤ z ∧ z ≤ 255) (b3 : 0 ≤ t ∧ t ≤ 255) (h0 : w.cell? ⟨b, off, none⟩ = some (.int .u8 x)) (h1 : w.cell? ⟨b, off + 1, none⟩ = some (.int .u8 y)) (h2 : w.cell? ⟨b, off + 2, none⟩ = some (.int .u8 z)) (h3 : w.cell? ⟨b, off + 3, none⟩ = some (.int .u8 t)) :
    Calls Try.prog 23 #[.int .i64 k, .slice (some ⟨b, off, none⟩) 4 cap] w fun e w' => e = .returned (.tuple #[.int .i64 (getN k [x, y, z, t]), .int .i64 (getE k [x, y, z, t])]) ∧ w' = w := by
  have HE : Hid (getE k [x, y, z, t] = 0) := by
    show getE k [x, y, z, t] = 0
    simp [getE, hk, e1, hk1]
  have HN : Hid (getN k [x, y, z, t] = wrapK k (((x * 256 + y) * 256 + z) * 256 + t)) := by
    show getN k [x, y, z, t] = wrapK k (((x * 256 + y) * 256 + z) * 256 + t)
    simp [getN, HE.out, valL]
  have hw : (wideS k == 0) = false := by rw [wide_is, hk]; rfl
  go_enter Try.func23, Try.ntmps23
  go_wp2_with (first | (go_at_call 30; refine (width_any _ _).mono ?_; rintro e w' ⟨rfl, rfl⟩) | (go_at_call 33; refine (bytesOf_any _ _).mono ?_; rintro e w' ⟨rfl, rfl⟩) | (go_at_call 12; refine (rwrap_any _ _ _).mono ?_; rintro e w' ⟨rfl, rfl⟩))
  refine wp_loop_rounds 5 ?_
  rw [rounds_succ]
  go_wp2_with (first | (go_at_call 30; refine (width_any _ _).mono ?_; rintro e w' ⟨rfl, rfl⟩) | (go_at_call 33; refine (bytesOf_any _ _).mono ?_; rintro e w' ⟨rfl, rfl⟩) | (go_at_call 12; refine (rwrap_any _ _ _).mono ?_; rintro e w' ⟨rfl, rfl⟩))
  rw [rounds_succ]
  go_wp2_with (first | (go_at_call 30; refine (width_any _ _).mono ?_; rintro e w' ⟨rfl, rfl⟩) | (go_at_call 33; refine (bytesOf_any _ _).mono ?_; rintro e w' ⟨rfl, rfl⟩) | (go_at_call 12; refine (rwrap_any _ _ _).mono ?_; rintro e w' ⟨rfl, rfl⟩))
  rw [rounds_succ]
  go_wp2_with (first | (go_at_call 30; refine (width_any _ _).mono ?_; rintro e w' ⟨rfl, rfl⟩) | (go_at_call 33; refine (bytesOf_any _ _).mono ?_; rintro e w' ⟨rfl, rfl⟩) | (go_at_call 12; refine (rwrap_any _ _ _).mono ?_; rintro e w' ⟨rfl, rfl⟩))
  rw [rounds_succ]
  go_wp2_with (first | (go_at_call 30; refine (width_any _ _).mono ?_; rintro e w' ⟨rfl, rfl⟩) | (go_at_call 33; refine (bytesOf_any _ _).mono ?_; rintro e w' ⟨rfl, rfl⟩) | (go_at_call 12; refine (rwrap_any _ _ _).mono ?_; rintro e w' ⟨rfl, rfl⟩))
  rw [rounds_succ]
  go_wp2_with (first | (go_at_call 30; refine (width_any _ _).mono ?_; rintro e w' ⟨rfl, rfl⟩) | (go_at_call 33; refine (bytesOf_any _ _).mono ?_; rintro e w' ⟨rfl, rfl⟩) | (go_at_call 12; refine (rwrap_any _ _ _).mono ?_; rintro e w' ⟨rfl, rfl⟩))
  go_ret2
  exact ⟨by rw [HE.out, HN.out]; rfl, rfl⟩

/-- A slice reads as bytes. -/
def rd (w : World) (v : Value) (l : List Int) : Prop :=
  (l = [] ∧ ∃ a cap, v = .slice a 0 cap) ∨
  (∃ b off cap, v = .slice (some ⟨b, off, none⟩) l.length cap ∧ 0 < l.length ∧ l.length ≤ cap ∧ ∀ i, i < l.length → w.cell? ⟨b, off + i, none⟩ = some (.int .u8 (l.getD i 0)))
def byteL (l : List Int) : Prop := ∀ x ∈ l, 0 ≤ x ∧ x ≤ 255
theorem size_cases (k : Int) : (sizeK k = 1 ∧ (k == 1) = true) ∨ (sizeK k = 2 ∧ (k == 1) = false) ∨ (sizeK k = 4 ∧ (k == 1) = false) := by
  by_cases c1 : (k == 1) = true
  · left; simp [sizeK, c1]
  · have c1 : (k == 1) = false := by simpa using c1
    by_cases c2 : (k == 2 || k == 4) = true
    · right; left; simp only [sizeK, c1, c2]; simp
    · right; right; simp only [sizeK, c1, c2]; simp

set_option maxHeartbeats 1000000 in
theorem get_short (k : Int) (a : Option Addr) (cap : Nat) (l : List Int) (w : World) (h : (isK k = true → ¬ (l.length : Int) = sizeK k)) :
    Calls Try.prog 22 #[.int .i64 k, .slice a l.length cap] w fun e w' => e = .returned (.tuple #[.int .i64 (getN k l), .int .i64 (getE k l)]) ∧ w' = w := by
  by_cases hk : isK k = true
  · have hl := h hk
    have HE : Hid (getE k l = 4) := by
      show getE k l = 4
      simp [getE, hk, hl]
    have HN : Hid (getN k l = 0) := by
      show getN k l = 0
      simp [getN, HE.out]
    have hb : ((l.length : Int) != sizeK k) = true := by simpa using hl
    clear h hl
    go_enter Try.func22, Try.ntmps22
    go_wp2_with (first | (go_at_call 29; refine (isKind_any _ _).mono ?_; rintro e w' ⟨rfl, rfl⟩) | (go_at_call 32; refine (size_any _ _).mono ?_; rintro e w' ⟨rfl, rfl⟩) | (go_at_call 11; refine (wrap_any _ _ _).mono ?_; rintro e w' ⟨rfl, rfl⟩))
    go_ret2
    exact ⟨by rw [HE.out, HN.out]; rfl, rfl⟩
  · have hk : isK k = false := by simpa using hk
    have HE : Hid (getE k l = 5) := by
      show getE k l = 5
      simp [getE, hk]
    have HN : Hid (getN k l = 0) := by
      show getN k l = 0
      simp [getN, HE.out]
    clear h
    go_enter Try.func22, Try.ntmps22
    go_wp2_with (first | (go_at_call 29; refine (isKind_any _ _).mono ?_; rintro e w' ⟨rfl, rfl⟩) | (go_at_call 32; refine (size_any _ _).mono ?_; rintro e w' ⟨rfl, rfl⟩) | (go_at_call 11; refine (wrap_any _ _ _).mono ?_; rintro e w' ⟨rfl, rfl⟩))
    go_ret2
    exact ⟨by rw [HE.out, HN.out]; rfl, rfl⟩
theorem get_any (k : Int) (v : Value) (l : List Int) (w : World) (hr : rd w v l) (hb : byteL l) :
    Calls Try.prog 22 #[.int .i64 k, v] w fun e w' => e = .returned (.tuple #[.int .i64 (getN k l), .int .i64 (getE k l)]) ∧ w' = w := by
  have hs := size_cases k
  rcases hr with ⟨rfl, a, cap, rfl⟩ | ⟨b, off, cap, rfl, hp, _, hc⟩
  · exact get_short k a cap [] w (fun _ => by simp; omega)
  · by_cases h : isK k = true ∧ (l.length : Int) = sizeK k
    · obtain ⟨hk, hl⟩ := h
      rcases hs with ⟨e1, hk1⟩ | ⟨e1, hk1⟩ | ⟨e1, hk1⟩
      · match l, hl, hb, hc with
        | [x], _, hb, hc => exact get1 k x b off cap w hk e1 hk1 (hb x (by simp)) (hc 0 (by simp))
        | [], hl, _, _ => simp at hl; omega
        | _ :: _ :: _, hl, _, _ => simp at hl; omega
      · match l, hl, hb, hc with
        | [x, y], _, hb, hc => exact get2 k x y b off cap w hk e1 hk1 (hb x (by simp)) (hb y (by simp)) (hc 0 (by simp)) (hc 1 (by simp))
        | [], hl, _, _ => simp at hl; omega
        | [_], hl, _, _ => simp at hl; omega
        | _ :: _ :: _ :: _, hl, _, _ => simp at hl; omega
      · match l, hl, hb, hc with
        | [x, y, z, t], _, hb, hc => exact get4 k x y z t b off cap w hk e1 hk1 (hb x (by simp)) (hb y (by simp)) (hb z (by simp)) (hb t (by simp)) (hc 0 (by simp)) (hc 1 (by simp)) (hc 2 (by simp)) (hc 3 (by simp))
        | [], hl, _, _ => simp at hl; omega
        | [_], hl, _, _ => simp at hl; omega
        | [_, _], hl, _, _ => simp at hl; omega
        | [_, _, _], hl, _, _ => simp at hl; omega
        | _ :: _ :: _ :: _ :: _ :: _, hl, _, _ => simp at hl; omega
    · exact get_short k _ cap l w (fun hk hl => h ⟨hk, hl⟩)

set_option maxHeartbeats 1000000 in
theorem rget_short (k : Int) (a : Option Addr) (cap : Nat) (l : List Int) (w : World) (h : (isK k = true → ¬ (l.length : Int) = sizeK k)) :
    Calls Try.prog 23 #[.int .i64 k, .slice a l.length cap] w fun e w' => e = .returned (.tuple #[.int .i64 (getN k l), .int .i64 (getE k l)]) ∧ w' = w := by
  by_cases hk : isK k = true
  · have hl := h hk
    have HE : Hid (getE k l = 4) := by
      show getE k l = 4
      simp [getE, hk, hl]
    have HN : Hid (getN k l = 0) := by
      show getN k l = 0
      simp [getN, HE.out]
    have hb : ((l.length : Int) != sizeK k) = true := by simpa using hl
    have hw : (wideS k == 0) = false := by rw [wide_is, hk]; rfl
    clear h hl
    go_enter Try.func23, Try.ntmps23
    go_wp2_with (first | (go_at_call 30; refine (width_any _ _).mono ?_; rintro e w' ⟨rfl, rfl⟩) | (go_at_call 33; refine (bytesOf_any _ _).mono ?_; rintro e w' ⟨rfl, rfl⟩) | (go_at_call 12; refine (rwrap_any _ _ _).mono ?_; rintro e w' ⟨rfl, rfl⟩))
    go_ret2
    exact ⟨by rw [HE.out, HN.out]; rfl, rfl⟩
  · have hk : isK k = false := by simpa using hk
    have HE : Hid (getE k l = 5) := by
      show getE k l = 5
      simp [getE, hk]
    have HN : Hid (getN k l = 0) := by
      show getN k l = 0
      simp [getN, HE.out]
    have hw : (wideS k == 0) = true := by rw [wide_is, hk]; rfl
    clear h
    go_enter Try.func23, Try.ntmps23
    go_wp2_with (first | (go_at_call 30; refine (width_any _ _).mono ?_; rintro e w' ⟨rfl, rfl⟩) | (go_at_call 33; refine (bytesOf_any _ _).mono ?_; rintro e w' ⟨rfl, rfl⟩) | (go_at_call 12; refine (rwrap_any _ _ _).mono ?_; rintro e w' ⟨rfl, rfl⟩))
    go_ret2
    exact ⟨by rw [HE.out, HN.out]; rfl, rfl⟩
theorem rget_any (k : Int) (v : Value) (l : List Int) (w : World) (hr : rd w v l) (hb : byteL l) :
    Calls Try.prog 23 #[.int .i64 k, v] w fun e w' => e = .returned (.tuple #[.int .i64 (getN k l), .int .i64 (getE k l)]) ∧ w' = w := by
  have hs := size_cases k
  rcases hr with ⟨rfl, a, cap, rfl⟩ | ⟨b, off, cap, rfl, hp, _, hc⟩
  · exact rget_short k a cap [] w (fun _ => by simp; omega)
  · by_cases h : isK k = true ∧ (l.length : Int) = sizeK k
    · obtain ⟨hk, hl⟩ := h
      rcases hs with ⟨e1, hk1⟩ | ⟨e1, hk1⟩ | ⟨e1, hk1⟩
      · match l, hl, hb, hc with
        | [x], _, hb, hc => exact rget1 k x b off cap w hk e1 hk1 (hb x (by simp)) (hc 0 (by simp))
        | [], hl, _, _ => simp at hl; omega
        | _ :: _ :: _, hl, _, _ => simp at hl; omega
      · match l, hl, hb, hc with
        | [x, y], _, hb, hc => exact rget2 k x y b off cap w hk e1 hk1 (hb x (by simp)) (hb y (by simp)) (hc 0 (by simp)) (hc 1 (by simp))
        | [], hl, _, _ => simp at hl; omega
        | [_], hl, _, _ => simp at hl; omega
        | _ :: _ :: _ :: _, hl, _, _ => simp at hl; omega
      · match l, hl, hb, hc with
        | [x, y, z, t], _, hb, hc => exact rget4 k x y z t b off cap w hk e1 hk1 (hb x (by simp)) (hb y (by simp)) (hb z (by simp)) (hb t (by simp)) (hc 0 (by simp)) (hc 1 (by simp)) (hc 2 (by simp)) (hc 3 (by simp))
        | [], hl, _, _ => simp at hl; omega
        | [_], hl, _, _ => simp at hl; omega
        | [_, _], hl, _, _ => simp at hl; omega
        | [_, _, _], hl, _, _ => simp at hl; omega
        | _ :: _ :: _ :: _ :: _ :: _, hl, _, _ => simp at hl; omega
    · exact rget_short k _ cap l w (fun hk hl => h ⟨hk, hl⟩)
end Go.Proofs.Ytnjlomdkenondaa
