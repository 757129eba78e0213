/- Contracts of size, Put and Get. -/
import Derived.Test.YtelgiffhgkbpeaaDoorCA
import Derived.Laws.OwnMore
import Derived.Laws.BytesArg
namespace Go.Proofs.YtelgiffhgkbpeaaDoor
open Go.RowKit

def sizeK (k : Int) : Int := if k == 1 then 1 else if k == 2 || k == 4 then 2 else 4

theorem size_any (k : Int) (w : World) :
    Calls Tryd.prog 29 #[.int .i64 k] w fun e w' => e = .returned (.int .i64 (sizeK k)) ∧ w' = w := by
  go_enter Tryd.func29, Tryd.ntmps29
  go_wp2
  all_goals go_ret
  all_goals refine ⟨ret_int ?_, rfl⟩
  all_goals simp [sizeK, *]

/-- The bytes of a value, the highest first; none where it does not fit. -/
def putL (k n : Int) : List Int :=
  if fitsK k n = true then (if k == 1 then [n % 256] else if k == 2 || k == 4 then [n / 256 % 256, n % 256] else [n / 16777216 % 256, n / 65536 % 256, n / 256 % 256, n % 256]) else []

/-- A row that was just made. -/
theorem made_row {w : World} {l : List Int} (cs : Array Value) (h : l.map (Value.int .u8) = cs.toList) (hm : l.length ≤ 4) :
    (w.alloc (.cells cs 5)).ownsRow w.heap.size 5 1 (.slice (some ⟨w.heap.size, 0, none⟩) l.length l.length) l.length (l.map (Value.int .u8)) := by
  have h2 : cs.size = l.length := by
    have := congrArg List.length h
    simp at this
    omega
  rw [h]
  exact World.ownsRow_lit w cs l.length (Nat.le_refl _) (by unfold maxLen; omega) (by omega)

theorem byte_wrap (n : Int) : IntKind.u8.wrap n = n % 256 := IntKind.wrap_u8 n

theorem putL1 {n : Int} (hf : fitsK 1 n = true) : putL 1 n = [n % 256] := by simp [putL, hf]

set_option maxHeartbeats 1000000 in
theorem put1 (n : Int) (w : World) (hf : fitsK 1 n = true) :
    Calls Tryd.prog 10 #[.int .i64 1, .int .i64 n] w fun e w' => e = .returned (.slice (some ⟨w.heap.size, 0, none⟩) (putL 1 n).length (putL 1 n).length) ∧ w'.ownsRow w.heap.size 5 1 (.slice (some ⟨w.heap.size, 0, none⟩) (putL 1 n).length (putL 1 n).length) (putL 1 n).length ((putL 1 n).map (Value.int .u8)) ∧ Below w.heap.size w w' := by
  have e1 : sizeK 1 = 1 := by decide
  have HP : Hid (putL 1 n = [n % 256]) := putL1 hf
  have hmk : ∀ w : World, (Instr.makeSlice 29 (.int .i64 1) (.int .i64 1)).run Tryd.prog w = .ok (.slice (some ⟨w.heap.size, 0, none⟩) 1 1) (w.alloc (.cells #[.int .u8 0] 5)) := fun _ => by kernel_rfl
  go_enter Tryd.func10, Tryd.ntmps10
  go_wp2_with (first | (go_at_call 9; refine (fits_any _ _ _).mono ?_; rintro e w' ⟨rfl, rfl⟩) | (go_at_call 29; refine (size_any _ _).mono ?_; rintro e w' ⟨rfl, rfl⟩))
  refine wp_loop_rounds 2 ?_
  rw [rounds_succ]
  go_wp2
  rw [rounds_succ]
  go_wp2
  go_ret
  refine ⟨by rw [HP.out]; rfl, ?_, (Below.refl _ _).alloc (Nat.le_refl _) _⟩
  rw [HP.out]
  refine made_row _ ?_ (by simp)
  simp

theorem putL2 {n : Int} (hf : fitsK 2 n = true) : putL 2 n = [n / 256 % 256, n % 256] := by simp [putL, hf]

set_option maxHeartbeats 1000000 in
theorem put2 (n : Int) (w : World) (hf : fitsK 2 n = true) :
    Calls Tryd.prog 10 #[.int .i64 2, .int .i64 n] w fun e w' => e = .returned (.slice (some ⟨w.heap.size, 0, none⟩) (putL 2 n).length (putL 2 n).length) ∧ w'.ownsRow w.heap.size 5 1 (.slice (some ⟨w.heap.size, 0, none⟩) (putL 2 n).length (putL 2 n).length) (putL 2 n).length ((putL 2 n).map (Value.int .u8)) ∧ Below w.heap.size w w' := by
  have e1 : sizeK 2 = 2 := by decide
  have HP : Hid (putL 2 n = [n / 256 % 256, n % 256]) := putL2 hf
  have hmk : ∀ w : World, (Instr.makeSlice 29 (.int .i64 2) (.int .i64 2)).run Tryd.prog w = .ok (.slice (some ⟨w.heap.size, 0, none⟩) 2 2) (w.alloc (.cells #[.int .u8 0, .int .u8 0] 5)) := fun _ => by kernel_rfl
  go_enter Tryd.func10, Tryd.ntmps10
  go_wp2_with (first | (go_at_call 9; refine (fits_any _ _ _).mono ?_; rintro e w' ⟨rfl, rfl⟩) | (go_at_call 29; refine (size_any _ _).mono ?_; rintro e w' ⟨rfl, rfl⟩))
  refine wp_loop_rounds 3 ?_
  rw [rounds_succ]
  go_wp2
  rw [rounds_succ]
  go_wp2
  rw [rounds_succ]
  go_wp2
  go_ret
  refine ⟨by rw [HP.out]; rfl, ?_, (Below.refl _ _).alloc (Nat.le_refl _) _⟩
  rw [HP.out]
  refine made_row _ ?_ (by simp)
  simp

theorem putL3 {n : Int} (hf : fitsK 3 n = true) : putL 3 n = [n / 16777216 % 256, n / 65536 % 256, n / 256 % 256, n % 256] := by simp [putL, hf]

set_option maxHeartbeats 1000000 in
theorem put3 (n : Int) (w : World) (hf : fitsK 3 n = true) :
    Calls Tryd.prog 10 #[.int .i64 3, .int .i64 n] w fun e w' => e = .returned (.slice (some ⟨w.heap.size, 0, none⟩) (putL 3 n).length (putL 3 n).length) ∧ w'.ownsRow w.heap.size 5 1 (.slice (some ⟨w.heap.size, 0, none⟩) (putL 3 n).length (putL 3 n).length) (putL 3 n).length ((putL 3 n).map (Value.int .u8)) ∧ Below w.heap.size w w' := by
  have e1 : sizeK 3 = 4 := by decide
  have HP : Hid (putL 3 n = [n / 16777216 % 256, n / 65536 % 256, n / 256 % 256, n % 256]) := putL3 hf
  have hmk : ∀ w : World, (Instr.makeSlice 29 (.int .i64 4) (.int .i64 4)).run Tryd.prog w = .ok (.slice (some ⟨w.heap.size, 0, none⟩) 4 4) (w.alloc (.cells #[.int .u8 0, .int .u8 0, .int .u8 0, .int .u8 0] 5)) := fun _ => by kernel_rfl
  go_enter Tryd.func10, Tryd.ntmps10
  go_wp2_with (first | (go_at_call 9; refine (fits_any _ _ _).mono ?_; rintro e w' ⟨rfl, rfl⟩) | (go_at_call 29; refine (size_any _ _).mono ?_; rintro e w' ⟨rfl, rfl⟩))
  refine wp_loop_rounds 5 ?_
  rw [rounds_succ]
  go_wp2
  rw [rounds_succ]
  go_wp2
  rw [rounds_succ]
  go_wp2
  rw [rounds_succ]
  go_wp2
  rw [rounds_succ]
  go_wp2
  go_ret
  refine ⟨by rw [HP.out]; rfl, ?_, (Below.refl _ _).alloc (Nat.le_refl _) _⟩
  rw [HP.out]
  refine made_row _ ?_ (by simp)
  simp <;> omega

theorem putL4 {n : Int} (hf : fitsK 4 n = true) : putL 4 n = [n / 256 % 256, n % 256] := by simp [putL, hf]

set_option maxHeartbeats 1000000 in
theorem put4 (n : Int) (w : World) (hf : fitsK 4 n = true) :
    Calls Tryd.prog 10 #[.int .i64 4, .int .i64 n] w fun e w' => e = .returned (.slice (some ⟨w.heap.size, 0, none⟩) (putL 4 n).length (putL 4 n).length) ∧ w'.ownsRow w.heap.size 5 1 (.slice (some ⟨w.heap.size, 0, none⟩) (putL 4 n).length (putL 4 n).length) (putL 4 n).length ((putL 4 n).map (Value.int .u8)) ∧ Below w.heap.size w w' := by
  have e1 : sizeK 4 = 2 := by decide
  have HP : Hid (putL 4 n = [n / 256 % 256, n % 256]) := putL4 hf
  have hmk : ∀ w : World, (Instr.makeSlice 29 (.int .i64 2) (.int .i64 2)).run Tryd.prog w = .ok (.slice (some ⟨w.heap.size, 0, none⟩) 2 2) (w.alloc (.cells #[.int .u8 0, .int .u8 0] 5)) := fun _ => by kernel_rfl
  go_enter Tryd.func10, Tryd.ntmps10
  go_wp2_with (first | (go_at_call 9; refine (fits_any _ _ _).mono ?_; rintro e w' ⟨rfl, rfl⟩) | (go_at_call 29; refine (size_any _ _).mono ?_; rintro e w' ⟨rfl, rfl⟩))
  refine wp_loop_rounds 3 ?_
  rw [rounds_succ]
  go_wp2
  rw [rounds_succ]
  go_wp2
  rw [rounds_succ]
  go_wp2
  go_ret
  refine ⟨by rw [HP.out]; rfl, ?_, (Below.refl _ _).alloc (Nat.le_refl _) _⟩
  rw [HP.out]
  refine made_row _ ?_ (by simp)
  simp

theorem putL5 {n : Int} (hf : fitsK 5 n = true) : putL 5 n = [n / 16777216 % 256, n / 65536 % 256, n / 256 % 256, n % 256] := by simp [putL, hf]

set_option maxHeartbeats 1000000 in
theorem put5 (n : Int) (w : World) (hf : fitsK 5 n = true) :
    Calls Tryd.prog 10 #[.int .i64 5, .int .i64 n] w fun e w' => e = .returned (.slice (some ⟨w.heap.size, 0, none⟩) (putL 5 n).length (putL 5 n).length) ∧ w'.ownsRow w.heap.size 5 1 (.slice (some ⟨w.heap.size, 0, none⟩) (putL 5 n).length (putL 5 n).length) (putL 5 n).length ((putL 5 n).map (Value.int .u8)) ∧ Below w.heap.size w w' := by
  have e1 : sizeK 5 = 4 := by decide
  have HP : Hid (putL 5 n = [n / 16777216 % 256, n / 65536 % 256, n / 256 % 256, n % 256]) := putL5 hf
  have hmk : ∀ w : World, (Instr.makeSlice 29 (.int .i64 4) (.int .i64 4)).run Tryd.prog w = .ok (.slice (some ⟨w.heap.size, 0, none⟩) 4 4) (w.alloc (.cells #[.int .u8 0, .int .u8 0, .int .u8 0, .int .u8 0] 5)) := fun _ => by kernel_rfl
  go_enter Tryd.func10, Tryd.ntmps10
  go_wp2_with (first | (go_at_call 9; refine (fits_any _ _ _).mono ?_; rintro e w' ⟨rfl, rfl⟩) | (go_at_call 29; refine (size_any _ _).mono ?_; rintro e w' ⟨rfl, rfl⟩))
  refine wp_loop_rounds 5 ?_
  rw [rounds_succ]
  go_wp2
  rw [rounds_succ]
  go_wp2
  rw [rounds_succ]
  go_wp2
  rw [rounds_succ]
  go_wp2
  rw [rounds_succ]
  go_wp2
  go_ret
  refine ⟨by rw [HP.out]; rfl, ?_, (Below.refl _ _).alloc (Nat.le_refl _) _⟩
  rw [HP.out]
  refine made_row _ ?_ (by simp)
  simp <;> omega

theorem put_yes (k n : Int) (L : List Int) (w : World) (hL : putL k n = L) (hf : fitsK k n = true) :
    Calls Tryd.prog 10 #[.int .i64 k, .int .i64 n] w fun e w' => e = .returned (.slice (some ⟨w.heap.size, 0, none⟩) L.length L.length) ∧ w'.ownsRow w.heap.size 5 1 (.slice (some ⟨w.heap.size, 0, none⟩) L.length L.length) L.length (L.map (Value.int .u8)) ∧ Below w.heap.size w w' := by
  subst hL
  rcases kinds k with rfl | rfl | rfl | rfl | rfl | h
  · exact put1 n w hf
  · exact put2 n w hf
  · exact put3 n w hf
  · exact put4 n w hf
  · exact put5 n w hf
  · have : isK k = false := by simp [isK]; omega
    simp [fitsK, this] at hf

set_option maxHeartbeats 400000 in
theorem put_no (k n : Int) (w : World) (hf : fitsK k n = false) :
    Calls Tryd.prog 10 #[.int .i64 k, .int .i64 n] w fun e w' => e = .returned (.slice none 0 0) ∧ w' = w := by
  go_enter Tryd.func10, Tryd.ntmps10
  go_wp2_with (go_at_call 9; refine (fits_any _ _ _).mono ?_; rintro e w' ⟨rfl, rfl⟩)
  go_ret
  exact ⟨rfl, rfl⟩

theorem putL_len (k n : Int) : (putL k n).length ≤ 4 := by
  unfold putL
  repeat' split
  all_goals simp

theorem putL_byte (k n : Int) : ∀ x ∈ putL k n, 0 ≤ x ∧ x ≤ 255 := by
  intro x hx
  unfold putL at hx
  repeat' split at hx
  all_goals simp at hx
  all_goals omega

theorem or_zero (x : Int) (h0 : 0 ≤ x) (h1 : x ≤ 255) : bits BinOp.or IntKind.i64 0 x = x := by
  have h := bits_join .i64 62 (by decide) (fun n a b => by rw [IntWalk.i64_left]; exact wrap64_id (by omega) (by omega)) 8 0 x (by decide) (by decide) (by decide) h0 (by omega) (by omega)
  rw [h]; omega

theorem or_join (n x : Int) (g0 : 0 ≤ n) (g1 : n ≤ 4294967295) (h0 : 0 ≤ x) (h1 : x ≤ 255) : bits BinOp.or IntKind.i64 (n * 256) x = n * 256 + x :=
  bits_join .i64 62 (by decide) (fun n a b => by rw [IntWalk.i64_left]; exact wrap64_id (by omega) (by omega)) 8 (n * 256) x (by omega) (by omega) (by omega) h0 (by omega) (by omega)

/-- What bytes say, the highest first. -/
def valL (l : List Int) : Int := l.foldl (fun n x => n * 256 + x) 0

def getE (k : Int) (l : List Int) : Int := if isK k = true then (if (l.length : Int) = sizeK k then (if (k == 1 && decide (1 < valL l)) = true then 3 else 0) else 4) else 5

def getN (k : Int) (l : List Int) : Int := if getE k l = 0 then wrapK k (valL l) else 0

set_option maxHeartbeats 1000000 in
theorem get1 (k x : Int) (b off cap : Nat) (w : World) (hk : isK k = true) (e1 : sizeK k = 1) (hk1 : (k == 1) = true) (b0 : 0 ≤ x ∧ x ≤ 255) (h0 : w.cell? ⟨b, off, none⟩ = some (.int .u8 x)) :
    Calls Tryd.prog 11 #[.int .i64 k, .slice (some ⟨b, off, none⟩) 1 cap] w fun e w' => e = .returned (.tuple #[.int .i64 (getN k [x]), .int .i64 (getE k [x])]) ∧ w' = w := by
  have o0 := or_zero x b0.1 b0.2
  by_cases hx : 1 < x
  · have HE : Hid (getE k [x] = 3) := by
      show getE k [x] = 3
      simp [getE, hk, e1, hk1, valL, hx]
    have HN : Hid (getN k [x] = 0) := by
      show getN k [x] = 0
      simp [getN, HE.out]
    go_enter Tryd.func11, Tryd.ntmps11
    go_wp2_with (first | (go_at_call 13; refine (isKind_any _ _).mono ?_; rintro e w' ⟨rfl, rfl⟩) | (go_at_call 29; refine (size_any _ _).mono ?_; rintro e w' ⟨rfl, rfl⟩) | (go_at_call 12; refine (wrap_any _ _ _).mono ?_; rintro e w' ⟨rfl, rfl⟩))
    refine wp_loop_rounds 2 ?_
    rw [rounds_succ]
    go_wp2_with (first | (go_at_call 13; refine (isKind_any _ _).mono ?_; rintro e w' ⟨rfl, rfl⟩) | (go_at_call 29; refine (size_any _ _).mono ?_; rintro e w' ⟨rfl, rfl⟩) | (go_at_call 12; refine (wrap_any _ _ _).mono ?_; rintro e w' ⟨rfl, rfl⟩))
    rw [rounds_succ]
    go_wp2_with (first | (go_at_call 13; refine (isKind_any _ _).mono ?_; rintro e w' ⟨rfl, rfl⟩) | (go_at_call 29; refine (size_any _ _).mono ?_; rintro e w' ⟨rfl, rfl⟩) | (go_at_call 12; refine (wrap_any _ _ _).mono ?_; rintro e w' ⟨rfl, rfl⟩))
    go_ret2
    exact ⟨by rw [HE.out, HN.out]; rfl, rfl⟩
  · have HE : Hid (getE k [x] = 0) := by
      show getE k [x] = 0
      simp [getE, hk, e1, hk1, valL, hx]
    have HN : Hid (getN k [x] = wrapK k x) := by
      show getN k [x] = wrapK k x
      simp [getN, HE.out, valL]
    go_enter Tryd.func11, Tryd.ntmps11
    go_wp2_with (first | (go_at_call 13; refine (isKind_any _ _).mono ?_; rintro e w' ⟨rfl, rfl⟩) | (go_at_call 29; refine (size_any _ _).mono ?_; rintro e w' ⟨rfl, rfl⟩) | (go_at_call 12; refine (wrap_any _ _ _).mono ?_; rintro e w' ⟨rfl, rfl⟩))
    refine wp_loop_rounds 2 ?_
    rw [rounds_succ]
    go_wp2_with (first | (go_at_call 13; refine (isKind_any _ _).mono ?_; rintro e w' ⟨rfl, rfl⟩) | (go_at_call 29; refine (size_any _ _).mono ?_; rintro e w' ⟨rfl, rfl⟩) | (go_at_call 12; refine (wrap_any _ _ _).mono ?_; rintro e w' ⟨rfl, rfl⟩))
    rw [rounds_succ]
    go_wp2_with (first | (go_at_call 13; refine (isKind_any _ _).mono ?_; rintro e w' ⟨rfl, rfl⟩) | (go_at_call 29; refine (size_any _ _).mono ?_; rintro e w' ⟨rfl, rfl⟩) | (go_at_call 12; refine (wrap_any _ _ _).mono ?_; rintro e w' ⟨rfl, rfl⟩))
    go_ret2
    exact ⟨by rw [HE.out, HN.out]; rfl, rfl⟩

set_option maxHeartbeats 1000000 in
theorem get2 (k x y : Int) (b off cap : Nat) (w : World) (hk : isK k = true) (e1 : sizeK k = 2) (hk1 : (k == 1) = false) (b0 : 0 ≤ x ∧ x ≤ 255) (b1 : 0 ≤ y ∧ y ≤ 255) (h0 : w.cell? ⟨b, off, none⟩ = some (.int .u8 x)) (h1 : w.cell? ⟨b, off + 1, none⟩ = some (.int .u8 y)) :
    Calls Tryd.prog 11 #[.int .i64 k, .slice (some ⟨b, off, none⟩) 2 cap] w fun e w' => e = .returned (.tuple #[.int .i64 (getN k [x, y]), .int .i64 (getE k [x, y])]) ∧ w' = w := by
  have HE : Hid (getE k [x, y] = 0) := by
    show getE k [x, y] = 0
    simp [getE, hk, e1, hk1]
  have HN : Hid (getN k [x, y] = wrapK k (x * 256 + y)) := by
    show getN k [x, y] = wrapK k (x * 256 + y)
    simp [getN, HE.out, valL]
  have o0 := or_zero x b0.1 b0.2
  have o1 := or_join (x) y (by omega) (by omega) b1.1 b1.2
  go_enter Tryd.func11, Tryd.ntmps11
  go_wp2_with (first | (go_at_call 13; refine (isKind_any _ _).mono ?_; rintro e w' ⟨rfl, rfl⟩) | (go_at_call 29; refine (size_any _ _).mono ?_; rintro e w' ⟨rfl, rfl⟩) | (go_at_call 12; refine (wrap_any _ _ _).mono ?_; rintro e w' ⟨rfl, rfl⟩))
  refine wp_loop_rounds 3 ?_
  rw [rounds_succ]
  go_wp2_with (first | (go_at_call 13; refine (isKind_any _ _).mono ?_; rintro e w' ⟨rfl, rfl⟩) | (go_at_call 29; refine (size_any _ _).mono ?_; rintro e w' ⟨rfl, rfl⟩) | (go_at_call 12; refine (wrap_any _ _ _).mono ?_; rintro e w' ⟨rfl, rfl⟩))
  rw [rounds_succ]
  go_wp2_with (first | (go_at_call 13; refine (isKind_any _ _).mono ?_; rintro e w' ⟨rfl, rfl⟩) | (go_at_call 29; refine (size_any _ _).mono ?_; rintro e w' ⟨rfl, rfl⟩) | (go_at_call 12; refine (wrap_any _ _ _).mono ?_; rintro e w' ⟨rfl, rfl⟩))
  rw [rounds_succ]
  go_wp2_with (first | (go_at_call 13; refine (isKind_any _ _).mono ?_; rintro e w' ⟨rfl, rfl⟩) | (go_at_call 29; refine (size_any _ _).mono ?_; rintro e w' ⟨rfl, rfl⟩) | (go_at_call 12; refine (wrap_any _ _ _).mono ?_; rintro e w' ⟨rfl, rfl⟩))
  go_ret2
  exact ⟨by rw [HE.out, HN.out]; rfl, rfl⟩

set_option maxHeartbeats 1000000 in
theorem get4 (k x y z t : Int) (b off cap : Nat) (w : World) (hk : isK k = true) (e1 : sizeK k = 4) (hk1 : (k == 1) = false) (b0 : 0 ≤ x ∧ x ≤ 255) (b1 : 0 ≤ y ∧ y ≤ 255) (b2 : 0 ≤ z ∧ z ≤ 255) (b3 : 0 ≤ t ∧ t ≤ 255) (h0 : w.cell? ⟨b, off, none⟩ = some (.int .u8 x)) (h1 : w.cell? ⟨b, off + 1, none⟩ = some (.int .u8 y)) (h2 : w.cell? ⟨b, off + 2, none⟩ = some (.int .u8 z)) (h3 : w.cell? ⟨b, off + 3, none⟩ = some (.int .u8 t)) :
    Calls Tryd.prog 11 #[.int .i64 k, .slice (some ⟨b, off, none⟩) 4 cap] w fun e w' => e = .returned (.tuple #[.int .i64 (getN k [x, y, z, t]), .int .i64 (getE k [x, y, z, t])]) ∧ w' = w := by
  have HE : Hid (getE k [x, y, z, t] = 0) := by
    show getE k [x, y, z, t] = 0
    simp [getE, hk, e1, hk1]
  have HN : Hid (getN k [x, y, z, t] = wrapK k (((x * 256 + y) * 256 + z) * 256 + t)) := by
    show getN k [x, y, z, t] = wrapK k (((x * 256 + y) * 256 + z) * 256 + t)
    simp [getN, HE.out, valL]
  have o0 := or_zero x b0.1 b0.2
  have o1 := or_join (x) y (by omega) (by omega) b1.1 b1.2
  have o2 := or_join (x * 256 + y) z (by omega) (by omega) b2.1 b2.2
  have o3 := or_join ((x * 256 + y) * 256 + z) t (by omega) (by omega) b3.1 b3.2
  go_enter Tryd.func11, Tryd.ntmps11
  go_wp2_with (first | (go_at_call 13; refine (isKind_any _ _).mono ?_; rintro e w' ⟨rfl, rfl⟩) | (go_at_call 29; refine (size_any _ _).mono ?_; rintro e w' ⟨rfl, rfl⟩) | (go_at_call 12; refine (wrap_any _ _ _).mono ?_; rintro e w' ⟨rfl, rfl⟩))
  refine wp_loop_rounds 5 ?_
  rw [rounds_succ]
  go_wp2_with (first | (go_at_call 13; refine (isKind_any _ _).mono ?_; rintro e w' ⟨rfl, rfl⟩) | (go_at_call 29; refine (size_any _ _).mono ?_; rintro e w' ⟨rfl, rfl⟩) | (go_at_call 12; refine (wrap_any _ _ _).mono ?_; rintro e w' ⟨rfl, rfl⟩))
  rw [rounds_succ]
  go_wp2_with (first | (go_at_call 13; refine (isKind_any _ _).mono ?_; rintro e w' ⟨rfl, rfl⟩) | (go_at_call 29; refine (size_any _ _).mono ?_; rintro e w' ⟨rfl, rfl⟩) | (go_at_call 12; refine (wrap_any _ _ _).mono ?_; rintro e w' ⟨rfl, rfl⟩))
  rw [rounds_succ]
  go_wp2_with (first | (go_at_call 13; refine (isKind_any _ _).mono ?_; rintro e w' ⟨rfl, rfl⟩) | (go_at_call 29; refine (size_any _ _).mono ?_; rintro e w' ⟨rfl, rfl⟩) | (go_at_call 12; refine (wrap_any _ _ _).mono ?_; rintro e w' ⟨rfl, rfl⟩))
  rw [rounds_succ]
  go_wp2_with (first | (go_at_call 13; refine (isKind_any _ _).mono ?_; rintro e w' ⟨rfl, rfl⟩) | (go_at_call 29; refine (size_any _ _).mono ?_; rintro e w' ⟨rfl, rfl⟩) | (go_at_call 12; refine (wrap_any _ _ _).mono ?_; rintro e w' ⟨rfl, rfl⟩))
  rw [rounds_succ]
  go_wp2_with (first | (go_at_call 13; refine (isKind_any _ _).mono ?_; rintro e w' ⟨rfl, rfl⟩) | (go_at_call 29; refine (size_any _ _).mono ?_; rintro e w' ⟨rfl, rfl⟩) | (go_at_call 12; refine (wrap_any _ _ _).mono ?_; rintro e w' ⟨rfl, rfl⟩))
  go_ret2
  exact ⟨by rw [HE.out, HN.out]; rfl, rfl⟩

/-- A slice reads as bytes. -/
def rd (w : World) (v : Value) (l : List Int) : Prop :=
  (l = [] ∧ ∃ a cap, v = .slice a 0 cap) ∨
  (∃ b off cap, v = .slice (some ⟨b, off, none⟩) l.length cap ∧ 0 < l.length ∧ l.length ≤ cap ∧ ∀ i, i < l.length → w.cell? ⟨b, off + i, none⟩ = some (.int .u8 (l.getD i 0)))

def byteL (l : List Int) : Prop := ∀ x ∈ l, 0 ≤ x ∧ x ≤ 255

theorem size_cases (k : Int) : (sizeK k = 1 ∧ (k == 1) = true) ∨ (sizeK k = 2 ∧ (k == 1) = false) ∨ (sizeK k = 4 ∧ (k == 1) = false) := by
  by_cases c1 : (k == 1) = true
  · left; simp [sizeK, c1]
  · have c1 : (k == 1) = false := by simpa using c1
    by_cases c2 : (k == 2 || k == 4) = true
    · right; left; simp only [sizeK, c1, c2]; simp
    · right; right; simp only [sizeK, c1, c2]; simp

set_option maxHeartbeats 1000000 in
theorem get_short (k : Int) (a : Option Addr) (cap : Nat) (l : List Int) (w : World) (h : (isK k = true → ¬ (l.length : Int) = sizeK k)) :
    Calls Tryd.prog 11 #[.int .i64 k, .slice a l.length cap] w fun e w' => e = .returned (.tuple #[.int .i64 (getN k l), .int .i64 (getE k l)]) ∧ w' = w := by
  by_cases hk : isK k = true
  · have hl := h hk
    have HE : Hid (getE k l = 4) := by
      show getE k l = 4
      simp [getE, hk, hl]
    have HN : Hid (getN k l = 0) := by
      show getN k l = 0
      simp [getN, HE.out]
    have hb : ((l.length : Int) != sizeK k) = true := by simpa using hl
    clear h hl
    go_enter Tryd.func11, Tryd.ntmps11
    go_wp2_with (first | (go_at_call 13; refine (isKind_any _ _).mono ?_; rintro e w' ⟨rfl, rfl⟩) | (go_at_call 29; refine (size_any _ _).mono ?_; rintro e w' ⟨rfl, rfl⟩) | (go_at_call 12; refine (wrap_any _ _ _).mono ?_; rintro e w' ⟨rfl, rfl⟩))
    go_ret2
    exact ⟨by rw [HE.out, HN.out]; rfl, rfl⟩
  · have hk : isK k = false := by simpa using hk
    have HE : Hid (getE k l = 5) := by
      show getE k l = 5
      simp [getE, hk]
    have HN : Hid (getN k l = 0) := by
      show getN k l = 0
      simp [getN, HE.out]
    clear h
    go_enter Tryd.func11, Tryd.ntmps11
    go_wp2_with (first | (go_at_call 13; refine (isKind_any _ _).mono ?_; rintro e w' ⟨rfl, rfl⟩) | (go_at_call 29; refine (size_any _ _).mono ?_; rintro e w' ⟨rfl, rfl⟩) | (go_at_call 12; refine (wrap_any _ _ _).mono ?_; rintro e w' ⟨rfl, rfl⟩))
    go_ret2
    exact ⟨by rw [HE.out, HN.out]; rfl, rfl⟩

theorem get_any (k : Int) (v : Value) (l : List Int) (w : World) (hr : rd w v l) (hb : byteL l) :
    Calls Tryd.prog 11 #[.int .i64 k, v] w fun e w' => e = .returned (.tuple #[.int .i64 (getN k l), .int .i64 (getE k l)]) ∧ w' = w := by
  have hs := size_cases k
  rcases hr with ⟨rfl, a, cap, rfl⟩ | ⟨b, off, cap, rfl, hp, _, hc⟩
  · exact get_short k a cap [] w (fun _ => by simp; omega)
  · by_cases h : isK k = true ∧ (l.length : Int) = sizeK k
    · obtain ⟨hk, hl⟩ := h
      rcases hs with ⟨e1, hk1⟩ | ⟨e1, hk1⟩ | ⟨e1, hk1⟩
      · match l, hl, hb, hc with
        | [x], _, hb, hc => exact get1 k x b off cap w hk e1 hk1 (hb x (by simp)) (hc 0 (by simp))
        | [], hl, _, _ => simp at hl; omega
        | _ :: _ :: _, hl, _, _ => simp at hl; omega
      · match l, hl, hb, hc with
        | [x, y], _, hb, hc => exact get2 k x y b off cap w hk e1 hk1 (hb x (by simp)) (hb y (by simp)) (hc 0 (by simp)) (hc 1 (by simp))
        | [], hl, _, _ => simp at hl; omega
        | [_], hl, _, _ => simp at hl; omega
        | _ :: _ :: _ :: _, hl, _, _ => simp at hl; omega
      · match l, hl, hb, hc with
        | [x, y, z, t], _, hb, hc => exact get4 k x y z t b off cap w hk e1 hk1 (hb x (by simp)) (hb y (by simp)) (hb z (by simp)) (hb t (by simp)) (hc 0 (by simp)) (hc 1 (by simp)) (hc 2 (by simp)) (hc 3 (by simp))
        | [], hl, _, _ => simp at hl; omega
        | [_], hl, _, _ => simp at hl; omega
        | [_, _], hl, _, _ => simp at hl; omega
        | [_, _, _], hl, _, _ => simp at hl; omega
        | _ :: _ :: _ :: _ :: _ :: _, hl, _, _ => simp at hl; omega
    · exact get_short k _ cap l w (fun hk hl => h ⟨hk, hl⟩)

theorem own_rd {w : World} {base : Nat} {v : Value} {l : List Int} (h : w.ownsRow base 5 1 v l.length (l.map (Value.int .u8))) : rd w v l := by
  rcases h.2 with ⟨rfl, h0⟩ | ⟨g, cap, cur, rfl, hb, hg, hn, hm, hs, ht⟩
  · exact .inl ⟨List.eq_nil_of_length_eq_zero h0, none, 0, rfl⟩
  · by_cases hl : l = []
    · subst hl
      exact .inl ⟨rfl, _, _, rfl⟩
    · refine .inr ⟨g, 0, cap, rfl, List.length_pos_iff.2 hl, hn, fun i hi => ?_⟩
      have := h.cellAt i (by simpa using hi)
      rw [Nat.zero_add, this]
      simp [hi]

end Go.Proofs.YtelgiffhgkbpeaaDoor
