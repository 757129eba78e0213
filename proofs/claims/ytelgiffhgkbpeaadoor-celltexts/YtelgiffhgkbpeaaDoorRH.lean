/- The document's answer: Decimal. -/
import Derived.Test.YtelgiffhgkbpeaaDoorTL
import Derived.Deep.RegionWith
import Derived.Laws.BytesArg
namespace Go.Proofs.YtelgiffhgkbpeaaDoor
open Go.RowKit

theorem conv_one (W : World) (b : Nat) (x : Int) (h : W.cell? ⟨b, 0, none⟩ = some (.int .u8 x)) :
    (convert 29 9 (.slice (some ⟨b, 0, none⟩) 1 1)).run Tryd.prog W = .ok (.string ⟨#[UInt8.ofNat x.toNat]⟩) W := by
  have := run_convert_bytes_arg W 29 5 Tryd.underlying29 Tryd.underlying5 b 0 1 1 [x] rfl (fun i hi => by
    obtain rfl : i = 0 := by omega
    exact h) 9 Tryd.underlying9
  exact this

theorem cvAfter {w0 w1 : World} {x : Int} (hb : Below (w0.alloc (.cells #[.int .u8 x] 5)).heap.size (w0.alloc (.cells #[.int .u8 x] 5)) w1) :
    (convert 29 9 (.slice (some ⟨w0.heap.size, 0, none⟩) 1 1)).run Tryd.prog w1 = .ok (.string ⟨#[UInt8.ofNat x.toNat]⟩) w1 := by
  apply conv_one
  have h1 := heap_alloc_new w0 (.cells #[.int .u8 x] 5)
  have hs : w0.heap.size < (w0.alloc (.cells #[.int .u8 x] 5)).heap.size := by simp
  have h2 := (hb.block w0.heap.size hs).trans h1
  unfold World.cell?
  show (match w1.heap[w0.heap.size]? with | some (.cells c _ _) => c[0]? | _ => none) = _
  rw [h2]; rfl
theorem cvAfterD {w0 w1 : World} {x : Int} (hb : Below (w0.alloc (.cells #[.int .u8 x] 5)).drew.heap.size (w0.alloc (.cells #[.int .u8 x] 5)).drew w1) :
    (convert 29 9 (.slice (some ⟨w0.heap.size, 0, none⟩) 1 1)).run Tryd.prog w1 = .ok (.string ⟨#[UInt8.ofNat x.toNat]⟩) w1 :=
  cvAfter (w0 := w0) ⟨hb.os, hb.tape, hb.output, hb.size, hb.block⟩
theorem i64_same (n : Int) (h0 : -9223372036854775808 ≤ n) (h1 : n ≤ 9223372036854775807) : IntKind.i64.wrap n = n := by
  have h : IntKind.i64.wrap n = wrap64 n := by
    unfold IntKind.wrap
    simp only [IntKind.bits, IntKind.signed]
    unfold wrap64
    simp
    split <;> omega
  rw [h, wrap64_id h0 h1]
theorem u8_same (n : Int) (h0 : 0 ≤ n) (h1 : n ≤ 255) : IntKind.u8.wrap n = n := by
  rw [IntKind.wrap_u8]; omega

set_option maxHeartbeats 2000000 in
set_option maxRecDepth 100000 in
theorem dec_pos (m : Nat) (ih : ∀ W, Calls Tryd.prog 28 #[.int .i64 ((m / 10 : Nat) : Int)] W fun e w' => e = .returned (.string ⟨(Lib.decDigits (m / 10)).toArray⟩) ∧ Below W.heap.size W w') (w : World) (h9 : 9 < m) (hm : m ≤ 4294967295) :
    Calls Tryd.prog 28 #[.int .i64 (m : Int)] w fun e w' => e = .returned (.string ⟨(Lib.decDigits m).toArray⟩) ∧ Below w.heap.size w w' := by
  have hdiv : (m : Int).tdiv 10 = ((m / 10 : Nat) : Int) := by rw [Int.tdiv_eq_ediv_of_nonneg (by omega)]; omega
  have hmod : (m : Int).tmod 10 = ((m % 10 : Nat) : Int) := by rw [Int.tmod_eq_emod_of_nonneg (by omega)]; omega
  have hlt : m % 10 < 10 := by omega
  have hsz : (⟨(Lib.decDigits (m / 10)).toArray⟩ : ByteArray).size ≤ 4294967296 := by
    show (Lib.decDigits (m / 10)).toArray.size ≤ _
    rw [List.size_toArray]
    have := dec_len (m / 10) (m / 10) (Nat.le_refl _)
    omega
  have HD : Hid ((⟨(Lib.decDigits (m / 10)).toArray⟩ : ByteArray) ++ ⟨#[UInt8.ofNat (48 + m % 10)]⟩ = ⟨(Lib.decDigits m).toArray⟩) := by
    show _ = _
    apply ByteArray.ext
    rw [ByteArray.data_append]
    show (Lib.decDigits (m / 10)).toArray ++ #[UInt8.ofNat (48 + m % 10)] = (Lib.decDigits m).toArray
    conv => rhs; rw [Lib.decDigits, dif_neg (by omega)]
    simp
  obtain ⟨S, hS⟩ : ∃ S, (⟨(Lib.decDigits (m / 10)).toArray⟩ : ByteArray) = S := ⟨_, rfl⟩
  rw [hS] at ih hsz HD
  obtain ⟨d, hd⟩ : ∃ d, m % 10 = d := ⟨_, rfl⟩
  rw [hd] at hmod hlt HD
  obtain ⟨X, hX⟩ : ∃ X, UInt8.ofNat (48 + d) = X := ⟨_, rfl⟩
  rw [hX] at HD
  have HX : Hid (UInt8.ofNat (48 + d) = X) := hX
  obtain ⟨q, hq⟩ : ∃ q, m / 10 = q := ⟨_, rfl⟩
  rw [hq] at hdiv ih
  have cv : ∀ W : World, (convert 29 9 (.slice (some ⟨W.heap.size, 0, none⟩) 1 1)).run Tryd.prog (W.alloc (.cells #[.int .u8 (48 + (d : Int))] 5)) = .ok (.string ⟨#[X]⟩) (W.alloc (.cells #[.int .u8 (48 + (d : Int))] 5)) := fun W => by
    have := cvAfter (w0 := W) (Below.refl _ (W.alloc (.cells #[.int .u8 (48 + (d : Int))] 5)))
    rw [this, show (48 + (d : Int)).toNat = 48 + d by omega, hX]
  have cvD : ∀ W : World, (convert 29 9 (.slice (some ⟨W.heap.size, 0, none⟩) 1 1)).run Tryd.prog (W.alloc (.cells #[.int .u8 (48 + (d : Int))] 5)).drew = .ok (.string ⟨#[X]⟩) (W.alloc (.cells #[.int .u8 (48 + (d : Int))] 5)).drew := fun W => by
    have := cvAfter (w0 := W) (Below.refl _ (W.alloc (.cells #[.int .u8 (48 + (d : Int))] 5))).drew
    rw [this, show (48 + (d : Int)).toNat = 48 + d by omega, hX]
  have hdiv2 : (m : Int) / 10 = (q : Int) := by omega
  have hmod2 : (m : Int) % 10 = (d : Int) := by omega
  have hw1 := i64_same (q : Int) (by omega) (by omega)
  have hw2 := i64_same (48 + (d : Int)) (by omega) (by omega)
  have hw3 := u8_same (48 + (d : Int)) (by omega) (by omega)
  clear hS hd hq hX
  go_enter Tryd.func28, Tryd.ntmps28
  go_wp2
  go_region_with (go_at_call 28; go_must (refine (ih _).mono ?_; rintro e w1 ⟨rfl, hb1⟩; first | (have cvB := cvAfterD hb1; rw [show (48 + (d : Int)).toNat = 48 + d by omega, HX.out] at cvB) | (have cvB := cvAfter hb1; rw [show (48 + (d : Int)).toNat = 48 + d by omega, HX.out] at cvB) | skip))
  all_goals go_wp2
  all_goals go_ret
  all_goals refine ⟨by rw [← HD.out]; rfl, ?_⟩
  all_goals first
    | exact ((Below.refl w.heap.size w).drew.trans hb1).alloc hb1.size _
    | exact (((Below.refl w.heap.size w).alloc (Nat.le_refl _) _).drew).trans (hb1.mono (by show w.heap.size ≤ (w.alloc _).heap.size; simp))
set_option maxHeartbeats 2000000 in
set_option maxRecDepth 100000 in
theorem dec_neg (m : Nat) (ih : ∀ W, Calls Tryd.prog 28 #[.int .i64 (-((m / 10 : Nat) : Int))] W fun e w' => e = .returned (.string ⟨(45 :: Lib.decDigits (m / 10)).toArray⟩) ∧ Below W.heap.size W w') (w : World) (h9 : 9 < m) (hm : m ≤ 4294967295) :
    Calls Tryd.prog 28 #[.int .i64 (-(m : Int))] w fun e w' => e = .returned (.string ⟨(45 :: Lib.decDigits m).toArray⟩) ∧ Below w.heap.size w w' := by
  have hdiv : (-(m : Int)).tdiv 10 = -((m / 10 : Nat) : Int) := by rw [Int.neg_tdiv, Int.tdiv_eq_ediv_of_nonneg (by omega)]; omega
  have hmod : (-(m : Int)).tmod 10 = -((m % 10 : Nat) : Int) := by rw [Int.neg_tmod, Int.tmod_eq_emod_of_nonneg (by omega)]; omega
  have hlt : m % 10 < 10 := by omega
  have hsz : (⟨(45 :: Lib.decDigits (m / 10)).toArray⟩ : ByteArray).size ≤ 4294967296 := by
    show (45 :: Lib.decDigits (m / 10)).toArray.size ≤ _
    rw [List.size_toArray, List.length_cons]
    have := dec_len (m / 10) (m / 10) (Nat.le_refl _)
    omega
  have HD : Hid ((⟨(45 :: Lib.decDigits (m / 10)).toArray⟩ : ByteArray) ++ ⟨#[UInt8.ofNat (48 + m % 10)]⟩ = ⟨(45 :: Lib.decDigits m).toArray⟩) := by
    show _ = _
    apply ByteArray.ext
    rw [ByteArray.data_append]
    show (45 :: Lib.decDigits (m / 10)).toArray ++ #[UInt8.ofNat (48 + m % 10)] = (45 :: Lib.decDigits m).toArray
    conv => rhs; rw [Lib.decDigits, dif_neg (by omega)]
    simp
  obtain ⟨S, hS⟩ : ∃ S, (⟨(45 :: Lib.decDigits (m / 10)).toArray⟩ : ByteArray) = S := ⟨_, rfl⟩
  rw [hS] at ih hsz HD
  obtain ⟨d, hd⟩ : ∃ d, m % 10 = d := ⟨_, rfl⟩
  rw [hd] at hmod hlt HD
  obtain ⟨X, hX⟩ : ∃ X, UInt8.ofNat (48 + d) = X := ⟨_, rfl⟩
  rw [hX] at HD
  have HX : Hid (UInt8.ofNat (48 + d) = X) := hX
  obtain ⟨q, hq⟩ : ∃ q, m / 10 = q := ⟨_, rfl⟩
  rw [hq] at hdiv ih
  have cv : ∀ W : World, (convert 29 9 (.slice (some ⟨W.heap.size, 0, none⟩) 1 1)).run Tryd.prog (W.alloc (.cells #[.int .u8 (48 + (d : Int))] 5)) = .ok (.string ⟨#[X]⟩) (W.alloc (.cells #[.int .u8 (48 + (d : Int))] 5)) := fun W => by
    have := cvAfter (w0 := W) (Below.refl _ (W.alloc (.cells #[.int .u8 (48 + (d : Int))] 5)))
    rw [this, show (48 + (d : Int)).toNat = 48 + d by omega, hX]
  have cvD : ∀ W : World, (convert 29 9 (.slice (some ⟨W.heap.size, 0, none⟩) 1 1)).run Tryd.prog (W.alloc (.cells #[.int .u8 (48 + (d : Int))] 5)).drew = .ok (.string ⟨#[X]⟩) (W.alloc (.cells #[.int .u8 (48 + (d : Int))] 5)).drew := fun W => by
    have := cvAfter (w0 := W) (Below.refl _ (W.alloc (.cells #[.int .u8 (48 + (d : Int))] 5))).drew
    rw [this, show (48 + (d : Int)).toNat = 48 + d by omega, hX]
  have hw1 := i64_same (-(q : Int)) (by omega) (by omega)
  have hw0 : (48 : Int) - -(d : Int) = 48 + (d : Int) := by omega
  have hw2 := i64_same (48 + (d : Int)) (by omega) (by omega)
  have hw3 := u8_same (48 + (d : Int)) (by omega) (by omega)
  clear hS hd hq hX
  go_enter Tryd.func28, Tryd.ntmps28
  go_wp2
  go_region_with (go_at_call 28; go_must (refine (ih _).mono ?_; rintro e w1 ⟨rfl, hb1⟩; first | (have cvB := cvAfterD hb1; rw [show (48 + (d : Int)).toNat = 48 + d by omega, HX.out] at cvB) | (have cvB := cvAfter hb1; rw [show (48 + (d : Int)).toNat = 48 + d by omega, HX.out] at cvB) | skip))
  all_goals go_wp2
  all_goals go_ret
  all_goals refine ⟨by rw [← HD.out]; rfl, ?_⟩
  all_goals first
    | exact ((Below.refl w.heap.size w).drew.trans hb1).alloc hb1.size _
    | exact (((Below.refl w.heap.size w).alloc (Nat.le_refl _) _).drew).trans (hb1.mono (by show w.heap.size ≤ (w.alloc _).heap.size; simp))

theorem dec_small (m : Nat) (w : World) (h9 : m ≤ 9) :
    Calls Tryd.prog 28 #[.int .i64 (m : Int)] w fun e w' => e = .returned (.string ⟨(Lib.decDigits m).toArray⟩) ∧ Below w.heap.size w w' := by
  have e : Lib.decDigits m = [UInt8.ofNat (48 + m)] := by rw [Lib.decDigits, dif_pos (by omega)]
  obtain ⟨X, hX⟩ : ∃ X, UInt8.ofNat (48 + m) = X := ⟨_, rfl⟩
  rw [hX] at e
  have hw2 := i64_same (48 + (m : Int)) (by omega) (by omega)
  have hw3 := u8_same (48 + (m : Int)) (by omega) (by omega)
  have cv : ∀ W : World, (convert 29 9 (.slice (some ⟨W.heap.size, 0, none⟩) 1 1)).run Tryd.prog (W.alloc (.cells #[.int .u8 (48 + (m : Int))] 5)) = .ok (.string ⟨#[X]⟩) (W.alloc (.cells #[.int .u8 (48 + (m : Int))] 5)) := fun W => by
    have := cvAfter (w0 := W) (Below.refl _ (W.alloc (.cells #[.int .u8 (48 + (m : Int))] 5)))
    rw [this, show (48 + (m : Int)).toNat = 48 + m by omega, hX]
  rw [e]
  clear e hX
  go_enter Tryd.func28, Tryd.ntmps28
  go_wp2
  go_ret
  exact ⟨rfl, (Below.refl _ w).alloc (Nat.le_refl _) _⟩
theorem dec_nsmall (m : Nat) (w : World) (h9 : m ≤ 9) (h0 : 0 < m) :
    Calls Tryd.prog 28 #[.int .i64 (-(m : Int))] w fun e w' => e = .returned (.string ⟨(45 :: Lib.decDigits m).toArray⟩) ∧ Below w.heap.size w w' := by
  have e : Lib.decDigits m = [UInt8.ofNat (48 + m)] := by rw [Lib.decDigits, dif_pos (by omega)]
  obtain ⟨X, hX⟩ : ∃ X, UInt8.ofNat (48 + m) = X := ⟨_, rfl⟩
  rw [hX] at e
  have hmod : (-(m : Int)).tmod 10 = -(m : Int) := by rw [Int.neg_tmod, Int.tmod_eq_emod_of_nonneg (by omega)]; omega
  have hw0 : (48 : Int) - -(m : Int) = 48 + (m : Int) := by omega
  have hw2 := i64_same (48 + (m : Int)) (by omega) (by omega)
  have hw3 := u8_same (48 + (m : Int)) (by omega) (by omega)
  have cv : ∀ W : World, (convert 29 9 (.slice (some ⟨W.heap.size, 0, none⟩) 1 1)).run Tryd.prog (W.alloc (.cells #[.int .u8 (48 + (m : Int))] 5)) = .ok (.string ⟨#[X]⟩) (W.alloc (.cells #[.int .u8 (48 + (m : Int))] 5)) := fun W => by
    have := cvAfter (w0 := W) (Below.refl _ (W.alloc (.cells #[.int .u8 (48 + (m : Int))] 5)))
    rw [this, show (48 + (m : Int)).toNat = 48 + m by omega, hX]
  rw [e]
  clear e hX
  go_enter Tryd.func28, Tryd.ntmps28
  go_wp2
  go_ret
  exact ⟨rfl, (Below.refl _ w).alloc (Nat.le_refl _) _⟩
theorem dec_all : ∀ (k m : Nat), m ≤ k → m ≤ 4294967295 → ∀ w, Calls Tryd.prog 28 #[.int .i64 (m : Int)] w fun e w' => e = .returned (.string ⟨(Lib.decDigits m).toArray⟩) ∧ Below w.heap.size w w'
  | 0, m, h, _, w => dec_small m w (by omega)
  | k + 1, m, h, hm, w => by
    by_cases h9 : m ≤ 9
    · exact dec_small m w h9
    · exact dec_pos m (fun W => dec_all k (m / 10) (by omega) (by omega) W) w (by omega) hm
theorem decn_all : ∀ (k m : Nat), m ≤ k → 0 < m → m ≤ 4294967295 → ∀ w, Calls Tryd.prog 28 #[.int .i64 (-(m : Int))] w fun e w' => e = .returned (.string ⟨(45 :: Lib.decDigits m).toArray⟩) ∧ Below w.heap.size w w'
  | 0, m, h, h0, _, w => dec_nsmall m w (by omega) h0
  | k + 1, m, h, h0, hm, w => by
    by_cases h9 : m ≤ 9
    · exact dec_nsmall m w h9 h0
    · exact dec_neg m (fun W => decn_all k (m / 10) (by omega) (by omega) (by omega) W) w (by omega) hm
theorem decimal_any (n : Int) (w : World) (h0 : -4294967295 ≤ n) (h1 : n ≤ 4294967295) :
    Calls Tryd.prog 28 #[.int .i64 n] w fun e w' => e = .returned (.string ⟨(Lib.itoa n).toArray⟩) ∧ Below w.heap.size w w' := by
  by_cases hn : n < 0
  · have := decn_all n.natAbs n.natAbs (Nat.le_refl _) (by omega) (by omega) w
    rw [show -((n.natAbs : Nat) : Int) = n by omega] at this
    rw [Lib.itoa, if_pos hn]; exact this
  · have := dec_all n.toNat n.toNat (Nat.le_refl _) (by omega) w
    rw [show ((n.toNat : Nat) : Int) = n by omega] at this
    rw [Lib.itoa, if_neg hn]; exact this
end Go.Proofs.YtelgiffhgkbpeaaDoor
