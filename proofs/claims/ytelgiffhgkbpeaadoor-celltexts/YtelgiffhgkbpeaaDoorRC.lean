/- The document's answer: Lower. -/
import Derived.Test.YtelgiffhgkbpeaaDoorRA
import Derived.Laws.BytesArg
import Derived.Lib.ConvBytes
namespace Go.Proofs.YtelgiffhgkbpeaaDoor
open Go.RowKit

/-- The bytes of a text, those ahead of a place made small. -/
def mixL (l : List UInt8) (pos j : Nat) : UInt8 := if j < pos then Lib.lowerB (l.getD j 0) else l.getD j 0
/-- A row of bytes that is being made small. -/
structure RowAt (N Z : Nat) (s : ByteArray) (pos : Nat) (w : World) : Prop where
  row : ∃ A : Array Value, w.heap[N]? = some (.cells A 5 (Z, Z + 1)) ∧ A.size = Z ∧ s.size ≤ Z ∧ ∀ j, j < s.size → A[j]? = some (.int .u8 (mixL s.data.toList pos j).toNat)
theorem RowAt.cell {N Z : Nat} {s : ByteArray} {pos : Nat} {w : World} (h : RowAt N Z s pos w) (j : Nat) (hj : j < s.size) : w.cell? ⟨N, j, none⟩ = some (.int .u8 (mixL s.data.toList pos j).toNat) ∧ w.frozen? ⟨N, j, none⟩ = false := by
  obtain ⟨A, h1, h2, h3, h4⟩ := h.row
  constructor
  · unfold World.cell?
    show (match w.heap[N]? with | some (.cells c _ _) => c[j]? | _ => none) = _
    rw [h1]
    exact h4 j hj
  · simp [World.frozen?, h1]
    omega
theorem RowAt.set {N Z : Nat} {s : ByteArray} {pos : Nat} {w : World} (h : RowAt N Z s pos w) (hp : pos < s.size) : RowAt N Z s (pos + 1) (w.setCell ⟨N, pos, none⟩ (.int .u8 (Lib.lowerB (s.data.toList.getD pos 0)).toNat)) := by
  obtain ⟨A, h1, h2, h3, h4⟩ := h.row
  refine ⟨A.setIfInBounds pos (.int .u8 (Lib.lowerB (s.data.toList.getD pos 0)).toNat), ?_, by simpa using h2, h3, fun j hj => ?_⟩
  · unfold World.setCell
    simp [Array.getElem?_modify, h1]
  · by_cases hjp : pos = j
    · subst hjp
      rw [Array.getElem?_setIfInBounds_self_of_lt (by omega)]
      unfold mixL
      rw [if_pos (by omega)]
    · rw [Array.getElem?_setIfInBounds_ne hjp, h4 j hj]
      unfold mixL
      by_cases h : j < pos
      · rw [if_pos h, if_pos (by omega)]
      · rw [if_neg h, if_neg (by omega)]
theorem below_bytes (w : World) (e : TypeId) (s : ByteArray) : Below w.heap.size w (Lib.bytesWorld w e s) :=
  ⟨rfl, rfl, rfl, by rw [Lib.bytesWorld_size]; omega, fun k hk => Lib.bytesWorld_at_old w e s k hk⟩
theorem row_start (w : World) (s : ByteArray) : RowAt w.heap.size (Lib.bytesCells w 5 s).size s 0 (Lib.bytesWorld w 5 s) := by
  refine ⟨Lib.bytesCells w 5 s, Lib.bytesWorld_at_new w 5 s, rfl, ?_, fun j hj => ?_⟩
  · unfold Lib.bytesCells
    rw [Array.size_append, Array.size_map]
    show s.size ≤ s.size + _
    omega
  · have h := Lib.bytesWorld_cell w 5 s j hj
    have h1 := Lib.bytesWorld_at_new w 5 s
    unfold World.cell? at h
    rw [h1] at h
    rw [show mixL s.data.toList 0 j = s.data.toList.getD j 0 by unfold mixL; rw [if_neg (by omega)]]
    exact h
theorem row_done {N Z cap : Nat} {s : ByteArray} {w : World} (h : RowAt N Z s s.size w) : (convert 29 9 (.slice (some ⟨N, 0, none⟩) s.size cap)).run Tryd.prog w = .ok (.string ⟨(lowL s.data.toList).toArray⟩) w := by
  have hl : s.data.toList.length = s.size := by rw [Array.length_toList]; rfl
  have hlow : (lowL s.data.toList).length = s.size := by rw [lowL, Lib.toLowerA, List.length_map, hl]
  have := run_convert_bytes_arg w 29 5 Tryd.underlying29 Tryd.underlying5 N 0 s.size cap ((lowL s.data.toList).map fun b => (b.toNat : Int)) (by rw [List.length_map, hlow]) (fun i hi => by
    rw [Nat.zero_add, (h.cell i hi).1]
    have h1 : i < s.data.toList.length := by omega
    have h2 : i < (lowL s.data.toList).length := by omega
    have e1 : mixL s.data.toList s.size i = Lib.lowerB (s.data.toList[i]'h1) := by
      unfold mixL
      rw [if_pos hi, List.getD, List.getElem?_eq_getElem h1]; rfl
    have e2 : ((lowL s.data.toList).map fun b => (b.toNat : Int)).getD i 0 = ((Lib.lowerB (s.data.toList[i]'h1)).toNat : Int) := by
      rw [List.getD, List.getElem?_map, List.getElem?_eq_getElem h2]
      simp [lowL, Lib.toLowerA]
    rw [e1, e2]) 9 Tryd.underlying9
  rw [this]
  have e3 : strOfNums ((lowL s.data.toList).map fun b => (b.toNat : Int)) = ⟨(lowL s.data.toList).toArray⟩ := by
    unfold strOfNums
    have h0 : ((fun n : Int => UInt8.ofNat n.toNat) ∘ fun b : UInt8 => (b.toNat : Int)) = id := by
      funext b; simp
    have h1 : ((lowL s.data.toList).map fun b => (b.toNat : Int)).map (fun n => UInt8.ofNat n.toNat) = lowL s.data.toList := by
      rw [List.map_map, h0, List.map_id]
    rw [h1]
  rw [e3]

set_option maxHeartbeats 2000000 in
set_option maxRecDepth 100000 in
theorem lower_any (s : ByteArray) (w : World) (hsz : s.size ≤ 40) :
    Calls Tryd.prog 18 #[.string s] w fun e w' => e = .returned (.string ⟨(lowL s.data.toList).toArray⟩) ∧ Below w.heap.size w w' := by
  have hcv := Lib.run_convert_string_bytes (P := Tryd.prog) w 9 29 5 s Tryd.underlying9 Tryd.underlying29 Tryd.underlying5
  have hst := row_start w s
  have hbl := below_bytes w 5 s
  obtain ⟨W, hW⟩ : ∃ W, Lib.bytesWorld w 5 s = W := ⟨_, rfl⟩
  obtain ⟨cap, hcap⟩ : ∃ cap, grownCap w s.size 0 5 = cap := ⟨_, rfl⟩
  obtain ⟨Z, hZ⟩ : ∃ Z, (Lib.bytesCells w 5 s).size = Z := ⟨_, rfl⟩
  rw [hW, hcap] at hcv
  rw [hW, hZ] at hst
  rw [hW] at hbl
  have hge : s.size ≤ cap := hcap ▸ grownCap_ge w s.size 0 5
  clear hW hcap hZ
  go_enter Tryd.func18, Tryd.ntmps18
  go_wp2
  go_loopg [4] s.size (fun gk s4 wx => ∃ pos : Nat, s4 = .int .i64 pos ∧ RowAt w.heap.size Z s pos wx ∧ Below w.heap.size w wx ∧ s.size ≤ pos + gk ∧ pos ≤ s.size)
  case atStart => exact ⟨0, rfl, hst, hbl, by omega, by omega⟩
  case round =>
    obtain ⟨pos, rfl, hr, hb, hfu, hps⟩ := hrel
    clear hst hbl hcv
    by_cases hlt : pos < s.size
    · obtain ⟨g', rfl⟩ : ∃ g', gk = g' + 1 := ⟨gk - 1, by omega⟩
      obtain ⟨c1, f1⟩ := hr.cell pos hlt
      rw [show mixL s.data.toList pos pos = s.data.toList.getD pos 0 by unfold mixL; rw [if_neg (by omega)]] at c1
      have hset := hr.set hlt
      obtain ⟨B, hB⟩ : ∃ B, s.data.toList.getD pos 0 = B := ⟨_, rfl⟩
      rw [hB] at c1 hset
      have cS := rsmall_any B
      have HB : Hid (Below w.heap.size w wr) := hb
      have HR : Hid (RowAt w.heap.size Z s (pos + 1) (wr.setCell ⟨w.heap.size, pos, none⟩ (.int .u8 (Lib.lowerB B).toNat))) := hset
      clear hr hset hb hB
      go_wp2_with (go_at_call 43; go_must (refine (cS _).mono ?_; rintro e w' ⟨rfl, rfl⟩))
      go_roundg g'
      case measure => omega
      case rel => exact ⟨pos + 1, rfl, HR.out, HB.out.setCell (Nat.le_refl _) _, by omega, by omega⟩
    · obtain rfl : pos = s.size := by omega
      have hdone := fun cap => row_done (cap := cap) hr
      clear hr
      go_wp2
      go_ret
      exact ⟨rfl, hb⟩
end Go.Proofs.YtelgiffhgkbpeaaDoor
