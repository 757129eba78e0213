/- The document's answer: Small, and a run of digits. -/
import Derived.Test.YtelgiffhgkbpeaaDoorTF
namespace Go.Proofs.YtelgiffhgkbpeaaDoor
open Go.RowKit

theorem rsmall_any (c : UInt8) (w : World) :
    Calls Tryd.prog 43 #[.int .u8 c.toNat] w fun e w' => e = .returned (.int .u8 (Lib.lowerB c).toNat) ∧ w' = w := by
  have hc : c.toNat < 256 := c.toNat_lt
  by_cases a1 : 65 ≤ c.toNat
  · by_cases a2 : c.toNat ≤ 90
    · have e := Lib.lowerB_int c (by rw [Lib.isUpperB_int]; simp; omega)
      have E : Hid (((Lib.lowerB c).toNat : Int) = (c.toNat : Int) + 32) := e
      clear e
      go_enter Tryd.func43, Tryd.ntmps43
      go_wp2
      go_ret
      exact ⟨by rw [E.out]; rfl, rfl⟩
    · have e : Lib.lowerB c = c := Lib.lowerB_of_not c (by rw [Lib.isUpperB_int]; simp; omega)
      rw [e]
      clear e
      go_enter Tryd.func43, Tryd.ntmps43
      go_wp2
      go_ret
      exact ⟨rfl, rfl⟩
  · have e : Lib.lowerB c = c := Lib.lowerB_of_not c (by rw [Lib.isUpperB_int]; simp; omega)
    rw [e]
    clear e
    go_enter Tryd.func43, Tryd.ntmps43
    go_wp2
    go_ret
    exact ⟨rfl, rfl⟩

/-- How far a run of digits has come. -/
structure RSt where
  n : Int
  cnt : Int
  us : Bool
  ok : Bool
def digR (base c : Int) : Int := if 48 ≤ c ∧ c ≤ 57 then c - 48 else if base = 16 ∧ 97 ≤ c ∧ c ≤ 102 then c - 87 else -1
def stepR (base : Int) (st : RSt) (c : Int) : Option RSt :=
  if c = 95 then some ⟨st.n, st.cnt, true, st.ok && !(st.cnt == 0 || st.us)⟩
  else if digR base c < 0 ∨ base ≤ digR base c then none else some ⟨min (st.n * base + digR base c) 4398046511104, st.cnt + 1, false, st.ok⟩
def feedR (base : Int) : RSt → List UInt8 → RSt × Nat
  | st, [] => (st, 0)
  | st, c :: l => match stepR base st c.toNat with
    | none => (st, 0)
    | some st' => ((feedR base st' l).1, (feedR base st' l).2 + 1)
def r0 : RSt := ⟨0, 0, false, true⟩
def endR (st : RSt) : Bool := st.ok && !(st.cnt == 0 || st.us)

structure RBd (s : ByteArray) (pos : Nat) (st : RSt) : Prop where
  n0 : 0 ≤ st.n
  n1 : st.n ≤ 4398046511104
  c0 : 0 ≤ st.cnt
  c1 : st.cnt ≤ pos
  us : 0 < st.cnt → 1 ≤ pos ∧ ∀ h : pos - 1 < s.size, st.us = ((s[pos - 1]'h).toNat == 95)

theorem feedR_some {base : Int} {st st' : RSt} {s : ByteArray} {pos : Nat} (hlt : pos < s.size) (h : stepR base st ((s[pos]'hlt).toNat : Int) = some st') :
    feedR base st (s.data.toList.drop pos) = ((feedR base st' (s.data.toList.drop (pos + 1))).1, (feedR base st' (s.data.toList.drop (pos + 1))).2 + 1) := by
  rw [drop_at s pos hlt, feedR, h]
theorem feedR_none {base : Int} {st : RSt} {s : ByteArray} {pos : Nat} (hlt : pos < s.size) (h : stepR base st ((s[pos]'hlt).toNat : Int) = none) :
    feedR base st (s.data.toList.drop pos) = (st, 0) := by
  rw [drop_at s pos hlt, feedR, h]
theorem feedR_end {base : Int} {st : RSt} {s : ByteArray} {pos : Nat} (hlt : ¬ pos < s.size) : feedR base st (s.data.toList.drop pos) = (st, 0) := by
  rw [List.drop_eq_nil_of_le (by rw [Array.length_toList]; show s.size ≤ pos; omega), feedR]
theorem RBd.on {s : ByteArray} {pos : Nat} {st st' : RSt} {base : Int} (hlt : pos < s.size) (h : RBd s pos st) (hs : base = 10 ∨ base = 16 ∨ base = 2) (e : stepR base st ((s[pos]'hlt).toNat : Int) = some st') : RBd s (pos + 1) st' := by
  unfold stepR at e
  split at e
  · rename_i h95
    cases e
    refine ⟨h.n0, h.n1, h.c0, by have := h.c1; show st.cnt ≤ _; omega, fun _ => ⟨by omega, fun h1 => ?_⟩⟩
    show true = ((s[pos]'h1).toNat == 95)
    have : (s[pos]'h1).toNat = 95 := by omega
    rw [this]; rfl
  · rename_i h95
    split at e
    · cases e
    · rename_i hd
      cases e
      have h0 := h.n0
      have hn : 0 ≤ st.n * base := by rcases hs with rfl | rfl | rfl <;> omega
      refine ⟨by show 0 ≤ min _ _; omega, by show min _ _ ≤ _; omega, by have := h.c0; show 0 ≤ st.cnt + 1; omega, by have := h.c1; show st.cnt + 1 ≤ _; omega, fun _ => ⟨by omega, fun h1 => ?_⟩⟩
      show false = ((s[pos]'h1).toNat == 95)
      have : (s[pos]'h1).toNat ≠ 95 := by omega
      rw [beq_eq_false_iff_ne.2 this]

theorem us_is {s : ByteArray} {pos : Nat} {st : RSt} (hus : 0 < st.cnt → 1 ≤ pos ∧ ∀ h : pos - 1 < s.size, st.us = ((s[pos - 1]'h).toNat == 95)) (c0 : 0 ≤ st.cnt) (hc : ¬ (st.cnt == 0) = true) (hps : pos ≤ s.size) :
    ∃ hp : pos - 1 < s.size, 1 ≤ pos ∧ (((s[pos - 1]'hp).toNat : Int) == 95) = st.us := by
  obtain ⟨h1, h2⟩ := hus (by simp at hc; omega)
  have hp : pos - 1 < s.size := by omega
  refine ⟨hp, h1, ?_⟩
  rw [h2 hp]
  by_cases h95 : (s[pos - 1]'hp).toNat = 95
  · rw [h95]; rfl
  · rw [beq_eq_false_iff_ne.2 h95, beq_eq_false_iff_ne]; omega

end Go.Proofs.YtelgiffhgkbpeaaDoor
