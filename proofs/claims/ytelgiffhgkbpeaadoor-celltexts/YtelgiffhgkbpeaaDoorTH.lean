/- The tables that lie in the world, and a number's digits of base 16: the contracts of the library's TrailingZeros and formatBits as they are met. -/
import Derived.Test.YtelgiffhgkbpeaaDoorTG
import Derived.Lib.AppendIntMem
import Derived.Laws.BytesArg
namespace Go.Proofs.YtelgiffhgkbpeaaDoor
open Go.RowKit

/-- What the library reads of its tables. -/
structure Tabs (w : World) : Prop where
  utf8 : Lib.Utf8Tabs 0 1 w
  pow : Lib.TabIs Tryd.prog w "internal/strconv.uint64pow10" .u64 Lib.pow10Tab
  zeros : w.cell? ⟨6, 15, none⟩ = some (.int .u8 4)
theorem Tabs.below {w w' : World} (h : Tabs w) (hb : Below w.heap.size w w') : Tabs w' :=
  ⟨Utf8Tabs_below h.utf8 hb, Lib.tabBelow_of_tabIs h.pow _ hb, (hb.cell (World.block_lt_of_cell? w _ h.zeros)).trans h.zeros⟩

theorem pow2_16 (w : World) : Calls Tryd.prog 71 #[.int .i64 16] w fun e w' => e = .returned (.bool true) ∧ w' = w := by
  go_enter Tryd.func71, Tryd.ntmps71
  go_wp2
  go_ret
  exact ⟨rfl, rfl⟩
theorem zeros64_16 (w : World) (h : w.cell? ⟨6, 15, none⟩ = some (.int .u8 4)) : Calls Tryd.prog 76 #[.int .u64 16] w fun e w' => e = .returned (.int .i64 4) ∧ w' = w := by
  have f : bits BinOp.and IntKind.u64 16 (IntKind.u64.wrap (-16)) = 16 := by kernel_rfl
  have f2 : IntKind.u64.wrap 4573923408821661840 = 4573923408821661840 := by kernel_rfl
  go_enter Tryd.func76, Tryd.ntmps76
  go_wp2
  go_ret
  exact ⟨rfl, rfl⟩
theorem zeros_16 (w : World) (h : w.cell? ⟨6, 15, none⟩ = some (.int .u8 4)) : Calls Tryd.prog 72 #[.int .u64 16] w fun e w' => e = .returned (.int .i64 4) ∧ w' = w := by
  go_enter Tryd.func72, Tryd.ntmps72
  go_wp2_with (go_at_call 76; go_must (refine (zeros64_16 _ h).mono ?_; rintro e w' ⟨rfl, rfl⟩))
  go_ret
  exact ⟨rfl, rfl⟩

/-- The room for the digits lies beyond the tables. -/
theorem zeros_alloc {w : World} (h : w.cell? ⟨6, 15, none⟩ = some (.int .u8 4)) (o : Obj) : (w.alloc o).cell? ⟨6, 15, none⟩ = some (.int .u8 4) :=
  (((Below.refl _ w).alloc (Nat.le_refl _) o).cell (World.block_lt_of_cell? w _ h)).trans h

/-- A digit's letter. -/
def hx (x : Int) : Int := if x < 10 then x + 48 else x + 87
theorem hx_is (i : Nat) (h : i < (⟨#[48, 49, 50, 51, 52, 53, 54, 55, 56, 57, 97, 98, 99, 100, 101, 102, 103, 104, 105, 106, 107, 108, 109, 110, 111, 112, 113, 114, 115, 116, 117, 118, 119, 120, 121, 122]⟩ : ByteArray).size) (h16 : i < 16) :
    (((⟨#[48, 49, 50, 51, 52, 53, 54, 55, 56, 57, 97, 98, 99, 100, 101, 102, 103, 104, 105, 106, 107, 108, 109, 110, 111, 112, 113, 114, 115, 116, 117, 118, 119, 120, 121, 122]⟩ : ByteArray)[i]'h).toNat : Int) = hx i := by
  have hn : i = 0 ∨ i = 1 ∨ i = 2 ∨ i = 3 ∨ i = 4 ∨ i = 5 ∨ i = 6 ∨ i = 7 ∨ i = 8 ∨ i = 9 ∨ i = 10 ∨ i = 11 ∨ i = 12 ∨ i = 13 ∨ i = 14 ∨ i = 15 := by omega
  rcases hn with rfl | rfl | rfl | rfl | rfl | rfl | rfl | rfl | rfl | rfl | rfl | rfl | rfl | rfl | rfl | rfl
  all_goals rfl
theorem and15 (u : Int) (h0 : 0 ≤ u) (h1 : u < 65536) : bits BinOp.and IntKind.u64 u 15 = u % 16 := by
  obtain ⟨n, rfl⟩ : ∃ n : Nat, u = n := ⟨u.toNat, by omega⟩
  unfold bits
  have e : (BitVec.ofInt IntKind.u64.bits (n : Int) &&& BitVec.ofInt IntKind.u64.bits 15).toNat = n % 16 := by
    have h1 : (BitVec.ofInt 64 15) = 15#64 := by decide
    show (BitVec.ofInt 64 (n : Int) &&& BitVec.ofInt 64 15).toNat = _
    rw [h1, BitVec.toNat_and, BitVec.toNat_ofInt]
    have h2 : ((n : Int) % ((2 ^ 64 : Nat) : Int)).toNat = n := by omega
    rw [h2]
    exact Nat.and_two_pow_sub_one_eq_mod n 4
  simp only [e]
  unfold IntKind.wrap
  simp only [IntKind.bits, IntKind.signed]
  simp
  omega
theorem conv_tail (w : World) (A : Array Value) (off len cap : Nat) (xs : List Int) (hl : xs.length = len) (h : ∀ i, i < len → A[off + i]? = some (.int .u8 (xs.getD i 0))) :
    (convert 29 9 (.slice (some ⟨w.heap.size, off, none⟩) len cap)).run Tryd.prog (w.alloc (.cells A 103)) = .ok (.string (strOfNums xs)) (w.alloc (.cells A 103)) :=
  run_convert_bytes_arg (w.alloc (.cells A 103)) 29 5 Tryd.underlying29 Tryd.underlying5 w.heap.size off len cap xs hl (fun i hi => by
    have h1 := heap_alloc_new w (.cells A 103)
    have : (w.alloc (.cells A 103)).cell? ⟨w.heap.size, off + i, none⟩ = A[off + i]? := by
      unfold World.cell?
      show (match (w.alloc (.cells A 103)).heap[w.heap.size]? with | some (.cells c _ _) => c[off + i]? | _ => none) = _
      rw [h1]
    rw [this]; exact h i hi) 9 Tryd.underlying9
theorem hx_at (x : Int) (h) (h0 : 0 ≤ x) (h1 : x < 16) :
    (((⟨#[48, 49, 50, 51, 52, 53, 54, 55, 56, 57, 97, 98, 99, 100, 101, 102, 103, 104, 105, 106, 107, 108, 109, 110, 111, 112, 113, 114, 115, 116, 117, 118, 119, 120, 121, 122]⟩ : ByteArray)[x.toNat]'h).toNat : Int) = hx x := by
  rw [hx_is x.toNat h (by omega), show ((x.toNat : Nat) : Int) = x by omega]

set_option maxHeartbeats 4000000 in
set_option maxRecDepth 100000 in
theorem bits1 (u : Int) (w : World) (h : w.cell? ⟨6, 15, none⟩ = some (.int .u8 4)) (h0 : 0 ≤ u) (h1 : u < 16) :
    Calls Tryd.prog 61 #[.slice none 0 0, .int .u64 u, .int .i64 16, .bool false, .bool false] w fun e w' => e = .returned (.tuple #[.slice none 0 0, .string (strOfNums [hx u])]) ∧ Below w.heap.size w w' := by
  have cP := pow2_16
  have cZ := fun W h => zeros_16 W h
  go_enter Tryd.func61, Tryd.ntmps61
  go_wp2_with (first | (go_at_call 71; go_must (refine (cP _).mono ?_; rintro e w' ⟨rfl, rfl⟩)) | (go_at_call 72; go_must (refine (cZ _ (zeros_alloc h _)).mono ?_; rintro e w' ⟨rfl, rfl⟩)))
  refine wp_loop_rounds 1 ?_
  rw [rounds_succ]
  go_wp2
  rw [hx_at ((u)) _ (by omega) (by omega)]
  rw [conv_tail w _ 64 1 1 [hx u] rfl (fun i hi => by
    have hc : i = 0 := by omega
    rcases hc with rfl
    all_goals simp)]
  go_wp2
  go_ret2
  exact ⟨rfl, (Below.refl _ w).alloc (Nat.le_refl _) _⟩

set_option maxHeartbeats 4000000 in
set_option maxRecDepth 100000 in
theorem bits2 (u : Int) (w : World) (h : w.cell? ⟨6, 15, none⟩ = some (.int .u8 4)) (h0 : 16 ≤ u) (h1 : u < 256) :
    Calls Tryd.prog 61 #[.slice none 0 0, .int .u64 u, .int .i64 16, .bool false, .bool false] w fun e w' => e = .returned (.tuple #[.slice none 0 0, .string (strOfNums [hx (u / 16), hx (u % 16)])]) ∧ Below w.heap.size w w' := by
  have cP := pow2_16
  have cZ := fun W h => zeros_16 W h
  have ha0 := and15 (u) (by omega) (by omega)
  go_enter Tryd.func61, Tryd.ntmps61
  go_wp2_with (first | (go_at_call 71; go_must (refine (cP _).mono ?_; rintro e w' ⟨rfl, rfl⟩)) | (go_at_call 72; go_must (refine (cZ _ (zeros_alloc h _)).mono ?_; rintro e w' ⟨rfl, rfl⟩)))
  refine wp_loop_rounds 2 ?_
  rw [rounds_succ]
  go_wp2
  rw [hx_at ((u) % 16) _ (by omega) (by omega)]
  rw [rounds_succ]
  go_wp2
  rw [hx_at ((u / 16)) _ (by omega) (by omega)]
  rw [conv_tail w _ 63 2 2 [hx (u / 16), hx (u % 16)] rfl (fun i hi => by
    have hc : i = 0 ∨ i = 1 := by omega
    rcases hc with rfl | rfl
    all_goals simp)]
  go_wp2
  go_ret2
  exact ⟨rfl, (Below.refl _ w).alloc (Nat.le_refl _) _⟩

set_option maxHeartbeats 4000000 in
set_option maxRecDepth 100000 in
theorem bits3 (u : Int) (w : World) (h : w.cell? ⟨6, 15, none⟩ = some (.int .u8 4)) (h0 : 256 ≤ u) (h1 : u < 4096) :
    Calls Tryd.prog 61 #[.slice none 0 0, .int .u64 u, .int .i64 16, .bool false, .bool false] w fun e w' => e = .returned (.tuple #[.slice none 0 0, .string (strOfNums [hx (u / 16 / 16), hx (u / 16 % 16), hx (u % 16)])]) ∧ Below w.heap.size w w' := by
  have cP := pow2_16
  have cZ := fun W h => zeros_16 W h
  have ha0 := and15 (u) (by omega) (by omega)
  have ha1 := and15 (u / 16) (by omega) (by omega)
  go_enter Tryd.func61, Tryd.ntmps61
  go_wp2_with (first | (go_at_call 71; go_must (refine (cP _).mono ?_; rintro e w' ⟨rfl, rfl⟩)) | (go_at_call 72; go_must (refine (cZ _ (zeros_alloc h _)).mono ?_; rintro e w' ⟨rfl, rfl⟩)))
  refine wp_loop_rounds 3 ?_
  rw [rounds_succ]
  go_wp2
  rw [hx_at ((u) % 16) _ (by omega) (by omega)]
  rw [rounds_succ]
  go_wp2
  rw [hx_at ((u / 16) % 16) _ (by omega) (by omega)]
  rw [rounds_succ]
  go_wp2
  rw [hx_at ((u / 16 / 16)) _ (by omega) (by omega)]
  rw [conv_tail w _ 62 3 3 [hx (u / 16 / 16), hx (u / 16 % 16), hx (u % 16)] rfl (fun i hi => by
    have hc : i = 0 ∨ i = 1 ∨ i = 2 := by omega
    rcases hc with rfl | rfl | rfl
    all_goals simp)]
  go_wp2
  go_ret2
  exact ⟨rfl, (Below.refl _ w).alloc (Nat.le_refl _) _⟩

set_option maxHeartbeats 4000000 in
set_option maxRecDepth 100000 in
theorem bits4 (u : Int) (w : World) (h : w.cell? ⟨6, 15, none⟩ = some (.int .u8 4)) (h0 : 4096 ≤ u) (h1 : u < 65536) :
    Calls Tryd.prog 61 #[.slice none 0 0, .int .u64 u, .int .i64 16, .bool false, .bool false] w fun e w' => e = .returned (.tuple #[.slice none 0 0, .string (strOfNums [hx (u / 16 / 16 / 16), hx (u / 16 / 16 % 16), hx (u / 16 % 16), hx (u % 16)])]) ∧ Below w.heap.size w w' := by
  have cP := pow2_16
  have cZ := fun W h => zeros_16 W h
  have ha0 := and15 (u) (by omega) (by omega)
  have ha1 := and15 (u / 16) (by omega) (by omega)
  have ha2 := and15 (u / 16 / 16) (by omega) (by omega)
  go_enter Tryd.func61, Tryd.ntmps61
  go_wp2_with (first | (go_at_call 71; go_must (refine (cP _).mono ?_; rintro e w' ⟨rfl, rfl⟩)) | (go_at_call 72; go_must (refine (cZ _ (zeros_alloc h _)).mono ?_; rintro e w' ⟨rfl, rfl⟩)))
  refine wp_loop_rounds 4 ?_
  rw [rounds_succ]
  go_wp2
  rw [hx_at ((u) % 16) _ (by omega) (by omega)]
  rw [rounds_succ]
  go_wp2
  rw [hx_at ((u / 16) % 16) _ (by omega) (by omega)]
  rw [rounds_succ]
  go_wp2
  rw [hx_at ((u / 16 / 16) % 16) _ (by omega) (by omega)]
  rw [rounds_succ]
  go_wp2
  rw [hx_at ((u / 16 / 16 / 16)) _ (by omega) (by omega)]
  rw [conv_tail w _ 61 4 4 [hx (u / 16 / 16 / 16), hx (u / 16 / 16 % 16), hx (u / 16 % 16), hx (u % 16)] rfl (fun i hi => by
    have hc : i = 0 ∨ i = 1 ∨ i = 2 ∨ i = 3 := by omega
    rcases hc with rfl | rfl | rfl | rfl
    all_goals simp)]
  go_wp2
  go_ret2
  exact ⟨rfl, (Below.refl _ w).alloc (Nat.le_refl _) _⟩

end Go.Proofs.YtelgiffhgkbpeaaDoor
