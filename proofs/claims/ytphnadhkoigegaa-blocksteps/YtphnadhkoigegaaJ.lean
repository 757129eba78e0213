/- wrapped, for every list of one to five pins. -/
import Derived.Test.YtphnadhkoigegaaF1
import Derived.Test.YtphnadhkoigegaaF2
import Derived.Test.YtphnadhkoigegaaF3
import Derived.Test.YtphnadhkoigegaaF4
import Derived.Test.YtphnadhkoigegaaF5
namespace Go.Proofs.Ytphnadhkoigegaa
open Go.RowKit

/-- A list of numbers that can be read at a slice's value. -/
def rd (w : World) (v : Value) (l : List Int) : Prop :=
  ∃ a cap, v = .slice a l.length cap ∧ (l = [] ∨ ∃ b off, a = some ⟨b, off, none⟩ ∧ ∀ i, i < l.length → w.cell? ⟨b, off + i, none⟩ = some (.int .i64 (l.getD i 0)))

def kindsOf (I : List (ByteArray × Int)) : List Int := I.map (·.2)
def wrapL (ks l : List Int) : List Int := if l.length = ks.length then List.zipWith wrapK ks l else List.replicate ks.length 0
def intsA (l : List Int) : Array Value := (l.map (Value.int .i64)).toArray

def WrapPost (n : Nat) (L : List Int) (w : World) (e : Ending) (w' : World) : Prop :=
  e = .returned (.slice (some ⟨w.heap.size, 0, none⟩) n n) ∧ w'.heap[w.heap.size]? = some (.cells (intsA L) 3) ∧ w.grownBy w' none

theorem rd_at {w : World} {v : Value} {l : List Int} (h : rd w v l) (hl : 0 < l.length) : ∃ b off cap, v = .slice (some ⟨b, off, none⟩) l.length cap ∧ ∀ i, i < l.length → w.cell? ⟨b, off + i, none⟩ = some (.int .i64 (l.getD i 0)) := by
  obtain ⟨a, cap, rfl, h | ⟨b, off, rfl, hc⟩⟩ := h
  · subst h; simp at hl
  · exact ⟨b, off, cap, rfl, hc⟩

theorem wrapL_no {ks l : List Int} (h : l.length ≠ ks.length) : wrapL ks l = List.replicate ks.length 0 := by simp [wrapL, h]

theorem wrapped_all (I : List (ByteArray × Int)) (hI : I.length = 1 ∨ I.length = 2 ∨ I.length = 3 ∨ I.length = 4 ∨ I.length = 5) (g : Nat) (v : Value) (l : List Int) (w : World) (hg : w.heap[g]? = some (.cells (pinArr I) 49)) (hr : rd w v l) :
    Calls Try.prog 26 #[.slice (some ⟨g, 0, none⟩) I.length I.length, v] w (WrapPost I.length (wrapL (kindsOf I) l) w) := by
  by_cases hl : l.length = I.length
  · obtain ⟨b, off, cap, rfl, hc⟩ := rd_at hr (by omega)
    rcases hI with h | h | h | h | h
    · match I, h, l, hl with
      | [(s0, k0)], _, [x0], _ => exact wrappedYes1 g b off cap s0 k0 x0 w hg (hc 0 (by simp))
    · match I, h, l, hl with
      | [(s0, k0), (s1, k1)], _, [x0, x1], _ => exact wrappedYes2 g b off cap s0 s1 k0 k1 x0 x1 w hg (hc 0 (by simp)) (hc 1 (by simp))
    · match I, h, l, hl with
      | [(s0, k0), (s1, k1), (s2, k2)], _, [x0, x1, x2], _ => exact wrappedYes3 g b off cap s0 s1 s2 k0 k1 k2 x0 x1 x2 w hg (hc 0 (by simp)) (hc 1 (by simp)) (hc 2 (by simp))
    · match I, h, l, hl with
      | [(s0, k0), (s1, k1), (s2, k2), (s3, k3)], _, [x0, x1, x2, x3], _ => exact wrappedYes4 g b off cap s0 s1 s2 s3 k0 k1 k2 k3 x0 x1 x2 x3 w hg (hc 0 (by simp)) (hc 1 (by simp)) (hc 2 (by simp)) (hc 3 (by simp))
    · match I, h, l, hl with
      | [(s0, k0), (s1, k1), (s2, k2), (s3, k3), (s4, k4)], _, [x0, x1, x2, x3, x4], _ => exact wrappedYes5 g b off cap s0 s1 s2 s3 s4 k0 k1 k2 k3 k4 x0 x1 x2 x3 x4 w hg (hc 0 (by simp)) (hc 1 (by simp)) (hc 2 (by simp)) (hc 3 (by simp)) (hc 4 (by simp))
  · rw [wrapL_no (by simpa [kindsOf] using hl)]
    obtain ⟨a, cap, rfl, _⟩ := hr
    have hk : (kindsOf I).length = I.length := by simp [kindsOf]
    rw [hk]
    rcases hI with h | h | h | h | h <;> rw [h]
    · exact wrappedNo1 _ _ _ _ _ (by simp; omega)
    · exact wrappedNo2 _ _ _ _ _ (by simp; omega)
    · exact wrappedNo3 _ _ _ _ _ (by simp; omega)
    · exact wrappedNo4 _ _ _ _ _ (by simp; omega)
    · exact wrappedNo5 _ _ _ _ _ (by simp; omega)
end Go.Proofs.Ytphnadhkoigegaa
