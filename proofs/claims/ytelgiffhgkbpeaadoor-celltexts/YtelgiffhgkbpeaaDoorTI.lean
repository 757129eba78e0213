/- A number's text of base 16, the parts of a time's text, and the contract of showTime. -/
import Derived.Test.YtelgiffhgkbpeaaDoorTH
import Derived.Deep.RegionWith
namespace Go.Proofs.YtelgiffhgkbpeaaDoor
open Go.RowKit

def hexI (u : Int) : List Int :=
  if u < 16 then [hx u] else if u < 256 then [hx (u / 16), hx (u % 16)] else if u < 4096 then [hx (u / 16 / 16), hx (u / 16 % 16), hx (u % 16)]
  else [hx (u / 16 / 16 / 16), hx (u / 16 / 16 % 16), hx (u / 16 % 16), hx (u % 16)]
theorem bits_any (u : Int) (w : World) (h : w.cell? ⟨6, 15, none⟩ = some (.int .u8 4)) (h0 : 0 ≤ u) (h1 : u < 65536) :
    Calls Tryd.prog 61 #[.slice none 0 0, .int .u64 u, .int .i64 16, .bool false, .bool false] w fun e w' => e = .returned (.tuple #[.slice none 0 0, .string (strOfNums (hexI u))]) ∧ Below w.heap.size w w' := by
  unfold hexI
  by_cases a : u < 16
  · rw [if_pos a]; exact bits1 u w h h0 a
  · rw [if_neg a]
    by_cases b : u < 256
    · rw [if_pos b]; exact bits2 u w h (by omega) b
    · rw [if_neg b]
      by_cases c : u < 4096
      · rw [if_pos c]; exact bits3 u w h (by omega) c
      · rw [if_neg c]; exact bits4 u w h (by omega) h1
theorem format_in (u : Int) (w : World) (h : w.cell? ⟨6, 15, none⟩ = some (.int .u8 4)) (h0 : 0 ≤ u) (h1 : u < 65536) :
    Calls Tryd.prog 45 #[.int .i64 u, .int .i64 16] w fun e w' => e = .returned (.string (strOfNums (hexI u))) ∧ Below w.heap.size w w' := by
  have c := bits_any u w h h0 h1
  go_enter Tryd.func45, Tryd.ntmps45
  have hd : decide (u < 0) = false := decide_eq_false (by omega)
  go_wp2_with (go_at_call 61; go_must (refine c.mono ?_; rintro e w' ⟨rfl, hb⟩))
  go_ret
  exact ⟨rfl, hb⟩
theorem format_any (u : Int) (w : World) (h : w.cell? ⟨6, 15, none⟩ = some (.int .u8 4)) (h0 : 0 ≤ u) (h1 : u < 65536) :
    Calls Tryd.prog 25 #[.int .i64 u, .int .i64 16] w fun e w' => e = .returned (.string (strOfNums (hexI u))) ∧ Below w.heap.size w w' := by
  have c := format_in u w h h0 h1
  go_enter Tryd.func25, Tryd.ntmps25
  go_wp2_with (go_at_call 45; go_must (refine c.mono ?_; rintro e w' ⟨rfl, hb⟩))
  go_ret
  exact ⟨rfl, hb⟩

theorem itoa_any (n : Int) (h0 : -9223372036854775808 ≤ n) (h1 : n ≤ 9223372036854775807) (w : World) (hT : Tabs w) :
    Calls Tryd.prog 27 #[.int .i64 n] w fun e w' => e = .returned (.string ⟨(Lib.itoa n).toArray⟩) ∧ Below w.heap.size w w' :=
  (Tryd.strconv_Itoa n h0 h1 w hT.pow).mono fun _ _ ⟨he, k, os, hw⟩ => ⟨he, hw ▸ Lib.below_grow _ w (Nat.le_refl _) k os⟩

/-- What a part of a time's text is. -/
def ptB (m L : Int) (u : ByteArray) : ByteArray := if L ≤ m then ⟨(Lib.itoa (m / L)).toArray⟩ ++ u else ⟨#[]⟩
structure ShowAt (B : Nat) (n : Int) (t : ByteArray) (w : World) : Prop where
  n : w.heap[B]? = some (oneO (.int .i64 n) 3)
  t : w.heap[B + 1]? = some (oneO (.string t) 9)

theorem dec_len : ∀ (k u : Nat), u ≤ k → (Lib.decDigits u).length ≤ u + 1
  | 0, u, h => by
    obtain rfl : u = 0 := by omega
    rw [Lib.decDigits]
    simp
  | k + 1, u, h => by
    rw [Lib.decDigits]
    split
    · simp
    · rw [List.length_append]
      have := dec_len k (u / 10) (by omega)
      simp only [List.length_cons, List.length_nil]
      omega
theorem itoa_size (n : Int) (h0 : 0 ≤ n) (h1 : n ≤ 4294967295) : (⟨(Lib.itoa n).toArray⟩ : ByteArray).size ≤ 4294967296 := by
  show (Lib.itoa n).toArray.size ≤ _
  rw [List.size_toArray, Lib.itoa, if_neg (by omega)]
  have := dec_len n.toNat n.toNat (Nat.le_refl _)
  omega

set_option maxHeartbeats 2000000 in
theorem spart_yes (B : Nat) (n L : Int) (u t : ByteArray) (w : World) (hT : Tabs w) (h : ShowAt B n t w) (hn : L ≤ n) (hL : 0 < L) (hn1 : n ≤ 4294967295) (hu : u.size ≤ 2) (ht : t.size ≤ 1000000000000) :
    Calls Tryd.prog 46 #[.int .i64 L, .string u, .pointer (some ⟨B, 0, none⟩), .pointer (some ⟨B + 1, 0, none⟩)] w fun e w' =>
      e = .returned (.tuple #[]) ∧ Below B w w' ∧ ShowAt B (n % L) (t ++ (⟨(Lib.itoa (n / L)).toArray⟩ ++ u)) w' := by
  have hsh := h
  obtain ⟨n0, nf⟩ := one_cell h.n
  obtain ⟨t0, tf⟩ := one_cell h.t
  have hdiv : n.tdiv L = n / L := Int.tdiv_eq_ediv_of_nonneg (by omega)
  have hmod : n.tmod L = n % L := Int.tmod_eq_emod_of_nonneg (by omega)
  have hq0 : 0 ≤ n / L := Int.ediv_nonneg (by omega) (by omega)
  have hq1 : n / L ≤ n := Int.ediv_le_self _ (by omega)
  have cI := fun W hT => itoa_any (n / L) (by omega) (by omega) W hT
  have hS := itoa_size (n / L) hq0 (by omega)
  obtain ⟨S, hSd⟩ : ∃ S, (⟨(Lib.itoa (n / L)).toArray⟩ : ByteArray) = S := ⟨_, rfl⟩
  rw [hSd] at cI hS ⊢
  have hSu : (S ++ u).size = S.size + u.size := ByteArray.size_append
  have hB : B + 1 < w.heap.size := (Array.getElem?_eq_some_iff.1 h.t).1
  clear h hSd
  go_enter Tryd.func46, Tryd.ntmps46
  go_wp2
  go_region_with (go_at_call 27; go_must (refine (cI _ (hT.below (Below.refl _ w).drew)).mono ?_; rintro e w1 ⟨rfl, hb1⟩; have t1 := (hb1.cell (p := ⟨B + 1, 0, none⟩) hB).trans t0; have tf1 := (hb1.frozen (p := ⟨B + 1, 0, none⟩) hB).trans tf; have n1 := (hb1.cell (p := ⟨B, 0, none⟩) (Nat.lt_of_succ_lt hB)).trans n0; have nf1 := (hb1.frozen (p := ⟨B, 0, none⟩) (Nat.lt_of_succ_lt hB)).trans nf))
  all_goals have g1 := (hb1.block B (Nat.lt_of_succ_lt hB)).trans hsh.n
  all_goals have g2 := (hb1.block (B + 1) hB).trans hsh.t
  all_goals go_wp2
  all_goals go_end0
  all_goals refine ⟨rfl, ?_, ⟨?_, ?_⟩⟩
  all_goals first
    | exact (((Below.refl B w).drew.trans (hb1.mono (by show B ≤ w.heap.size; omega))).setCell (by show B ≤ B + 1; omega) _).setCell (Nat.le_refl _) _
    | exact one_set (set_other (by omega) g1)
    | exact set_other (by omega) (one_set g2)
end Go.Proofs.YtelgiffhgkbpeaaDoor
