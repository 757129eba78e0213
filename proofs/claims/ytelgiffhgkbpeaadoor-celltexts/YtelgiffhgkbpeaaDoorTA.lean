/- Contracts of worth, unitLength, small, and of the step that takes a letter of a number. -/
import Derived.Test.YtelgiffhgkbpeaaDoorCA
import Derived.BigQuiet
namespace Go.Proofs.YtelgiffhgkbpeaaDoor
open Go.RowKit

/-- What a letter is worth as a digit; -1: it is none. -/
def worthI (r : Int) : Int := if 48 ≤ r ∧ r ≤ 57 then r - 48 else if 97 ≤ r ∧ r ≤ 102 then r - 87 else -1

theorem worth_any (r : Int) (w : World) (h0 : 0 ≤ r) (h1 : r ≤ 1114111) :
    Calls Tryd.prog 62 #[.int .i32 r] w fun e w' => e = .returned (.int .i64 (worthI r)) ∧ w' = w := by
  by_cases a1 : 48 ≤ r
  · by_cases a2 : r ≤ 57
    · have e : worthI r = r - 48 := by simp [worthI, a1, a2]
      go_enter Tryd.func62, Tryd.ntmps62
      go_wp2
      go_ret
      exact ⟨ret_int (by omega), rfl⟩
    · by_cases a3 : 97 ≤ r
      · by_cases a4 : r ≤ 102
        · have e : worthI r = r - 87 := by simp [worthI, a2, a3, a4]
          go_enter Tryd.func62, Tryd.ntmps62
          go_wp2
          go_ret
          exact ⟨ret_int (by omega), rfl⟩
        · have e : worthI r = -1 := by simp [worthI, a2, a4]
          go_enter Tryd.func62, Tryd.ntmps62
          go_wp2
          go_ret
          exact ⟨ret_int (by omega), rfl⟩
      · have e : worthI r = -1 := by simp [worthI, a2, a3]
        go_enter Tryd.func62, Tryd.ntmps62
        go_wp2
        go_ret
        exact ⟨ret_int (by omega), rfl⟩
  · have e : worthI r = -1 := by
      have : ¬ 97 ≤ r := by omega
      simp [worthI, a1, this]
    go_enter Tryd.func62, Tryd.ntmps62
    go_wp2
    go_ret
    exact ⟨ret_int (by omega), rfl⟩

/-- A world that differs at most at one block. -/
structure But (b : Nat) (w w' : World) : Prop where
  os : w'.os = w.os
  tape : w'.tape = w.tape
  output : w'.output = w.output
  size : w'.heap.size = w.heap.size
  block : ∀ k, k ≠ b → w'.heap[k]? = w.heap[k]?

def digO (base v : Int) (wh : Bool) : Obj := .cells #[.int .i64 base, .int .i64 v, .bool wh] 76 (0, 0)

/-- What a letter makes of a number as far as it has come. -/
def stepD (base : Int) (st : Int × Bool) (r : Int) : Option (Int × Bool) :=
  if r = 95 then (if st.2 = true then some (st.1, false) else none)
  else if worthI r < 0 ∨ base ≤ worthI r then none else some (min (st.1 * base + worthI r) 4294967296, true)

theorem dig_cells {b : Nat} {base v : Int} {wh : Bool} {w : World} (hb : w.heap[b]? = some (digO base v wh)) :
    w.cell? ⟨b, 0, none⟩ = some (.int .i64 base) ∧ w.cell? ⟨b, 1, none⟩ = some (.int .i64 v) ∧ w.cell? ⟨b, 2, none⟩ = some (.bool wh) ∧
    w.frozen? ⟨b, 1, none⟩ = false ∧ w.frozen? ⟨b, 2, none⟩ = false := by
  refine ⟨?_, ?_, ?_, ?_, ?_⟩
  · simp [World.cell?, hb, digO]
  · simp [World.cell?, hb, digO]
  · simp [World.cell?, hb, digO]
  · simp [World.frozen?, hb, digO]
  · simp [World.frozen?, hb, digO]

theorem But.refl (b : Nat) (w : World) : But b w w := ⟨rfl, rfl, rfl, rfl, fun _ _ => rfl⟩
theorem But.trans {b : Nat} {a x c : World} (h : But b a x) (k : But b x c) : But b a c :=
  ⟨k.os.trans h.os, k.tape.trans h.tape, k.output.trans h.output, k.size.trans h.size, fun i hi => (k.block i hi).trans (h.block i hi)⟩
theorem But.drew {b : Nat} {a x : World} (h : But b a x) : But b a x.drew := ⟨h.os, h.tape, h.output, h.size, h.block⟩
theorem But.set {b : Nat} {a x : World} (h : But b a x) (o : Nat) (u : Value) : But b a (x.setCell ⟨b, o, none⟩ u) := by
  have hb := Below.setCell (B := 0) (Below.refl 0 x) (p := ⟨b, o, none⟩) (Nat.zero_le _) u
  refine ⟨hb.os.trans h.os, hb.tape.trans h.tape, hb.output.trans h.output, ?_, fun k hk => (Below.heap_setCell x ⟨b, o, none⟩ u k hk).trans (h.block k hk)⟩
  rw [← h.size]
  unfold World.setCell
  split <;> simp
theorem But.below {b B : Nat} {w w' : World} (h : But b w w') (hB : B ≤ b) : Below B w w' :=
  ⟨h.os, h.tape, h.output, Nat.le_of_eq h.size.symm, fun k hk => h.block k (by omega)⟩

theorem dig_set1 {b : Nat} {base v u : Int} {wh : Bool} {w : World} (hb : w.heap[b]? = some (digO base v wh)) :
    (w.setCell ⟨b, 1, none⟩ (.int .i64 u)).heap[b]? = some (digO base u wh) := by
  have hlt : b < w.heap.size := by
    apply Classical.byContradiction
    intro h
    rw [Array.getElem?_eq_none (by omega)] at hb
    cases hb
  unfold World.setCell
  simp [Array.getElem?_modify, hb, digO]
theorem dig_set2 {b : Nat} {base v : Int} {wh u : Bool} {w : World} (hb : w.heap[b]? = some (digO base v wh)) :
    (w.setCell ⟨b, 2, none⟩ (.bool u)).heap[b]? = some (digO base v u) := by
  have hlt : b < w.heap.size := by
    apply Classical.byContradiction
    intro h
    rw [Array.getElem?_eq_none (by omega)] at hb
    cases hb
  unfold World.setCell
  simp [Array.getElem?_modify, hb, digO]

/-- The number as far as it has come lies at a block; nothing is said where a letter could not stand. -/
def DigIs (base : Int) (b : Nat) (o : Option (Int × Bool)) (w : World) : Prop := ∀ st, o = some st → w.heap[b]? = some (digO base st.1 st.2)
theorem digIs_none {base : Int} {b : Nat} {w : World} {o : Option (Int × Bool)} (h : o = none) : DigIs base b o w := fun st hs => by rw [h] at hs; cases hs
theorem digIs_some {base v : Int} {wh : Bool} {b : Nat} {w : World} {o : Option (Int × Bool)} (h : o = some (v, wh)) (hw : w.heap[b]? = some (digO base v wh)) : DigIs base b o w := fun st hs => by
  rw [h] at hs; cases hs; exact hw

set_option maxHeartbeats 1000000 in
theorem take_any (b : Nat) (base v r : Int) (wh : Bool) (w : World) (hb : w.heap[b]? = some (digO base v wh)) (h0 : 0 ≤ r) (h1 : r ≤ 1114111)
    (hv0 : 0 ≤ v) (hv1 : v ≤ 4294967296) (hs : base = 10 ∨ base = 16 ∨ base = 2) :
    Calls Tryd.prog 51 #[.pointer (some ⟨b, 0, none⟩), .int .i32 r] w fun e w' =>
      e = .returned (.bool (stepD base (v, wh) r).isSome) ∧ But b w w' ∧ DigIs base b (stepD base (v, wh) r) w' := by
  obtain ⟨c0, c1, c2, f1, f2⟩ := dig_cells hb
  by_cases hr : r = 95
  · have e : stepD base (v, wh) r = if wh = true then some (v, false) else none := by simp [stepD, hr]
    go_enter Tryd.func51, Tryd.ntmps51
    go_wp2
    go_ret
    refine ⟨?_, (But.refl b w).set 2 _, ?_⟩
    · show Ending.returned (.bool wh) = _
      rw [e]
      cases wh <;> rfl
    · cases wh
      · exact digIs_none (by rw [e]; rfl)
      · exact digIs_some (by rw [e]; rfl) (dig_set2 hb)
  · by_cases hn : worthI r < 0
    · have e : stepD base (v, wh) r = none := by simp [stepD, hr, hn]
      have E : Hid (stepD base (v, wh) r = none) := e
      clear e
      go_enter Tryd.func51, Tryd.ntmps51
      go_wp2_with (go_at_call 62; refine (worth_any _ _ h0 h1).mono ?_; rintro e w' ⟨rfl, rfl⟩)
      go_ret
      refine ⟨?_, But.refl b _, digIs_none E.out⟩
      rw [E.out]; rfl
    · by_cases hm : base ≤ worthI r
      · have e : stepD base (v, wh) r = none := by simp [stepD, hr, hm]
        have E : Hid (stepD base (v, wh) r = none) := e
        clear e
        go_enter Tryd.func51, Tryd.ntmps51
        go_wp2_with (go_at_call 62; refine (worth_any _ _ h0 h1).mono ?_; rintro e w' ⟨rfl, rfl⟩)
        go_ret
        refine ⟨?_, But.refl b _, digIs_none E.out⟩
        rw [E.out]; rfl
      · have e : stepD base (v, wh) r = some (min (v * base + worthI r) 4294967296, true) := by simp [stepD, hr, hn, hm]
        have E : Hid (stepD base (v, wh) r = some (min (v * base + worthI r) 4294967296, true)) := e
        clear e
        obtain ⟨n, hN⟩ : ∃ n, worthI r = n := ⟨_, rfl⟩
        have HN : Hid (worthI r = n) := hN
        have cW : ∀ W, Calls Tryd.prog 62 #[.int .i32 r] W fun e w' => e = .returned (.int .i64 n) ∧ w' = W := fun W => hN ▸ worth_any r W h0 h1
        rw [hN] at hn hm
        clear hN
        rcases hs with rfl | rfl | rfl
        all_goals go_enter Tryd.func51, Tryd.ntmps51
        all_goals go_wp2_with (go_at_call 62; refine (cW _).mono ?_; rintro e w' ⟨rfl, rfl⟩)
        all_goals go_region
        all_goals go_wp2
        all_goals go_ret
        all_goals have E1 := E.out
        all_goals rw [HN.out] at E1
        all_goals refine ⟨?_, (((But.refl b w').set 1 _).drew).set 2 _, digIs_some E1 ?_⟩
        all_goals first
          | (rw [E1]; rfl)
          | (have e2 : ∀ x : Int, (if 4294967296 < x then 4294967296 else x) = min x 4294967296 := fun x => by split <;> omega
             simp only [← e2]
             first | exact dig_set2 (dig_set1 (w := w') hb) | (rw [if_pos (by omega)]; exact dig_set2 (dig_set1 (w := w') hb)) | (rw [if_neg (by omega)]; exact dig_set2 (dig_set1 (w := w') hb)))

def smallI (r : Int) : Int := if 65 ≤ r ∧ r ≤ 90 then r + 32 else r
theorem small_any (r : Int) (w : World) (h0 : 0 ≤ r) (h1 : r ≤ 1114111) :
    Calls Tryd.prog 16 #[.int .i32 r] w fun e w' => e = .returned (.int .i32 (smallI r)) ∧ w' = w := by
  by_cases a1 : 65 ≤ r
  · by_cases a2 : r ≤ 90
    · have e : smallI r = r + 32 := by simp [smallI, a1, a2]
      go_enter Tryd.func16, Tryd.ntmps16
      go_wp2
      go_ret
      exact ⟨ret_int (by omega), rfl⟩
    · have e : smallI r = r := by simp [smallI, a2]
      go_enter Tryd.func16, Tryd.ntmps16
      go_wp2
      go_ret
      exact ⟨ret_int (by omega), rfl⟩
  · have e : smallI r = r := by simp [smallI, a1]
    go_enter Tryd.func16, Tryd.ntmps16
    go_wp2
    go_ret
    exact ⟨ret_int (by omega), rfl⟩

/-- The milliseconds of a unit; 0: it is none. -/
def unitL (u : List UInt8) : Int := if u = [100] then 86400000 else if u = [104] then 3600000 else if u = [109] then 60000 else if u = [115] then 1000 else if u = [109, 115] then 1 else 0
theorem str_is (l m : List UInt8) : ((⟨l.toArray⟩ : ByteArray) = ⟨m.toArray⟩) = (l = m) := by
  apply propext
  constructor
  · intro h
    have := congrArg (fun x : ByteArray => x.data.toList) h
    simpa using this
  · rintro rfl; rfl
theorem unit_any (u : ByteArray) (w : World) :
    Calls Tryd.prog 50 #[.string u] w fun e w' => e = .returned (.int .i64 (unitL u.data.toList)) ∧ w' = w := by
  go_enter Tryd.func50, Tryd.ntmps50
  go_wp2
  all_goals go_ret
  all_goals refine ⟨?_, rfl⟩
  all_goals simp_all [unitL, ByteArray.toList_eq]
end Go.Proofs.YtelgiffhgkbpeaaDoor
