/- The document's answer: a time's literal. -/
import Derived.Test.YtelgiffhgkbpeaaDoorRB10
import Derived.Test.YtelgiffhgkbpeaaDoorRC
namespace Go.Proofs.YtelgiffhgkbpeaaDoor
open Go.RowKit

def rankR : List UInt8 → Int × Nat
  | [] => (-1, 1)
  | h :: t => if h.toNat = 100 then (4, 1) else if h.toNat = 104 then (3, 1) else if h.toNat = 109 then (if (t.headD 0).toNat = 115 then (0, 2) else (2, 1)) else if h.toNat = 115 then (1, 1) else (-1, 1)
def worthR (r : Int) : Int := if r = 0 then 1 else if r = 1 then 1000 else if r = 2 then 60000 else if r = 3 then 3600000 else 86400000
def clipR (n wd : Int) : Int := if 4398046511104 / wd < n then 4398046511104 / wd else n
def spanR : Nat → Int → Int → List UInt8 → Int × Bool
  | 0, sum, _, _ => (sum, true)
  | f + 1, sum, least, l =>
    if l = [] then (sum, true)
    else if endR (feedR 10 r0 l).1 = false ∨ l.drop (feedR 10 r0 l).2 = [] then (0, false)
    else if (rankR (l.drop (feedR 10 r0 l).2)).1 < 0 ∨ least ≤ (rankR (l.drop (feedR 10 r0 l).2)).1 then (0, false)
    else spanR f (min (sum + clipR (feedR 10 r0 l).1.n (worthR (rankR (l.drop (feedR 10 r0 l).2)).1) * worthR (rankR (l.drop (feedR 10 r0 l).2)).1) 4398046511104) (rankR (l.drop (feedR 10 r0 l).2)).1
      ((l.drop (feedR 10 r0 l).2).drop (rankR (l.drop (feedR 10 r0 l).2)).2)
theorem feedR_le (base : Int) : ∀ (l : List UInt8) (st : RSt), (feedR base st l).2 ≤ l.length
  | [], _ => by simp [feedR]
  | c :: l, st => by
    rw [feedR]
    cases stepR base st c.toNat with
    | none => simp
    | some st' => have := feedR_le base l st'; simp only [List.length_cons]; omega
theorem feedR_n (base : Int) (hs : base = 10 ∨ base = 16 ∨ base = 2) : ∀ (l : List UInt8) (st : RSt), 0 ≤ st.n → st.n ≤ 4398046511104 → 0 ≤ (feedR base st l).1.n ∧ (feedR base st l).1.n ≤ 4398046511104
  | [], _, h0, h1 => ⟨h0, h1⟩
  | c :: l, st, h0, h1 => by
    rw [feedR]
    cases hq : stepR base st c.toNat with
    | none => exact ⟨h0, h1⟩
    | some st' =>
      have : 0 ≤ st'.n ∧ st'.n ≤ 4398046511104 := by
        unfold stepR at hq
        split at hq
        · cases hq; exact ⟨h0, h1⟩
        · split at hq
          · cases hq
          · rename_i hd
            cases hq
            have hn : 0 ≤ st.n * base := by rcases hs with rfl | rfl | rfl <;> omega
            constructor
            · show 0 ≤ min _ _; omega
            · show min _ _ ≤ _; omega
      exact feedR_n base hs l st' this.1 this.2
theorem spanR_nil (f : Nat) (sum least : Int) : spanR f sum least [] = (sum, true) := by
  cases f with
  | zero => rfl
  | succ f => rw [spanR, if_pos rfl]
theorem spanR_fail1 {f : Nat} {sum least : Int} {l : List UInt8} {N : RSt × Nat} (hN : feedR 10 r0 l = N) (hne : l ≠ []) (h : endR N.1 = false ∨ l.drop N.2 = []) : spanR (f + 1) sum least l = (0, false) := by
  rw [spanR, if_neg hne, hN, if_pos h]
theorem spanR_fail2 {f : Nat} {sum least : Int} {l : List UInt8} {N : RSt × Nat} {r : Int × Nat} (hN : feedR 10 r0 l = N) (hne : l ≠ []) (h : endR N.1 = true) (h2 : l.drop N.2 ≠ []) (hr : rankR (l.drop N.2) = r) (h3 : r.1 < 0 ∨ least ≤ r.1) :
    spanR (f + 1) sum least l = (0, false) := by
  rw [spanR, if_neg hne, hN, if_neg (by rw [h]; simp [h2]), hr, if_pos h3]
theorem spanR_step {f : Nat} {sum least : Int} {l : List UInt8} {N : RSt × Nat} {r : Int × Nat} (hN : feedR 10 r0 l = N) (hne : l ≠ []) (h : endR N.1 = true) (h2 : l.drop N.2 ≠ []) (hr : rankR (l.drop N.2) = r) (h3 : ¬ (r.1 < 0 ∨ least ≤ r.1)) :
    spanR (f + 1) sum least l = spanR f (min (sum + clipR N.1.n (worthR r.1) * worthR r.1) 4398046511104) r.1 ((l.drop N.2).drop r.2) := by
  rw [spanR, if_neg hne, hN, if_neg (by rw [h]; simp [h2]), hr, if_neg h3]
end Go.Proofs.YtelgiffhgkbpeaaDoor
