/- Votes whose sensors are named the other way round. -/
import Derived.Test.YtefekafpmnaeoaaAf
namespace Go.Proofs.Ytefekafpmnaeoaa
open Go.RowKit
attribute [local go_sem ↓] Go.wp_at_zero Go.wp_at_succ
set_option linter.unusedVariables false
set_option linter.unusedSimpArgs false

/-- A list of which the first and the last k have changed places. -/
def revK (l : List Int) (k : Nat) : List Int := (List.range l.length).map fun x => if x < k ∨ l.length - 1 - x < k then l.getD (l.length - 1 - x) 0 else l.getD x 0
theorem revK_len (l : List Int) (k : Nat) : (revK l k).length = l.length := by simp [revK]
theorem revK_zero (l : List Int) : revK l 0 = l := by
  apply List.ext_getElem
  · simp [revK]
  · intro i h1 h2
    simp only [revK, List.getElem_map, List.getElem_range]
    rw [if_neg (by omega)]
    simp [List.getD, h2]
theorem revK_end (l : List Int) (k : Nat) (h : l.length ≤ 2 * k + 1) : revK l k = l.reverse := by
  apply List.ext_getElem
  · simp [revK]
  · intro i h1 h2
    have hi : i < l.length := by simpa [revK] using h1
    simp only [revK, List.getElem_map, List.getElem_range, List.getElem_reverse]
    by_cases hc : i < k ∨ l.length - 1 - i < k
    · rw [if_pos hc]
      simp [List.getD, show l.length - 1 - i < l.length by omega]
    · rw [if_neg hc]
      have : l.length - 1 - i = i := by omega
      simp [List.getD, hi, this]
theorem revK_get (l : List Int) (k x : Nat) (hx : x < l.length) (h : k ≤ x) (h2 : x + k < l.length) : (revK l k).getD x 0 = l.getD x 0 := by
  have : (revK l k).getD x 0 = if x < k ∨ l.length - 1 - x < k then l.getD (l.length - 1 - x) 0 else l.getD x 0 := by simp [revK, List.getD, hx]
  rw [this, if_neg (by omega)]
theorem revK_swap (l : List Int) (k : Nat) (h : 2 * k + 1 < l.length) : ((revK l k).set k ((revK l k).getD (l.length - 1 - k) 0)).set (l.length - 1 - k) ((revK l k).getD k 0) = revK l (k + 1) := by
  rw [revK_get l k (l.length - 1 - k) (by omega) (by omega) (by omega), revK_get l k k (by omega) (by omega) (by omega)]
  apply List.ext_getElem
  · simp [revK]
  · intro i h1 h2
    have hi : i < l.length := by simpa [revK] using h2
    rw [List.getElem_set]
    by_cases hb : l.length - 1 - k = i
    · rw [if_pos hb]
      simp only [revK, List.getElem_map, List.getElem_range]
      rw [if_pos (by omega)]
      congr 1
      omega
    · rw [if_neg hb, List.getElem_set]
      by_cases ha : k = i
      · rw [if_pos ha]
        simp only [revK, List.getElem_map, List.getElem_range]
        rw [if_pos (by omega), ha]
      · rw [if_neg ha]
        simp only [revK, List.getElem_map, List.getElem_range]
        by_cases hc : i < k ∨ l.length - 1 - i < k
        · rw [if_pos hc, if_pos (by omega)]
        · rw [if_neg hc, if_neg (by omega)]
/-- Of votes the first k the other way round. -/
def LrK (L : List (Int × List Int)) (k : Nat) : List (Int × List Int) := (List.range L.length).map fun i => if i < k then ((L.getD i (0, [])).1, (L.getD i (0, [])).2.reverse) else L.getD i (0, [])
theorem LrK_len (L : List (Int × List Int)) (k : Nat) : (LrK L k).length = L.length := by simp [LrK]
theorem LrK_zero (L : List (Int × List Int)) : LrK L 0 = L := by
  apply List.ext_getElem
  · simp [LrK]
  · intro i h1 h2
    simp only [LrK, List.getElem_map, List.getElem_range]
    rw [if_neg (by omega)]
    simp [List.getD, h2]
theorem LrK_end (L : List (Int × List Int)) : LrK L L.length = Lr L := by
  apply List.ext_getElem
  · simp [LrK, Lr]
  · intro i h1 h2
    have hi : i < L.length := by simpa [LrK] using h1
    simp only [LrK, Lr, List.getElem_map, List.getElem_range]
    rw [if_pos hi]
    simp [List.getD, hi]
theorem LrK_at (L : List (Int × List Int)) (k : Nat) (hk : k < L.length) : (LrK L k).getD k (0, []) = L.getD k (0, []) := by simp [LrK, List.getD, hk]
theorem LrK_set (L : List (Int × List Int)) (k : Nat) (hk : k < L.length) : (LrK L k).set k ((L.getD k (0, [])).1, (L.getD k (0, [])).2.reverse) = LrK L (k + 1) := by
  apply List.ext_getElem
  · simp [LrK]
  · intro i h1 h2
    rw [List.getElem_set]
    simp only [LrK, List.getElem_map, List.getElem_range]
    by_cases h : k = i
    · subst h; rw [if_pos rfl, if_pos (by omega)]
    · rw [if_neg h]
      by_cases h' : i < k
      · rw [if_pos h', if_pos (by omega)]
      · rw [if_neg h', if_neg (by omega)]
theorem own_set {B : Nat} {w : World} {g cap : Nat} {l : List Int} (h : OwnL B w (some ⟨g, 0, none⟩) cap l) (k : Nat) (x : Int) : OwnL B (w.setCell ⟨g, k, none⟩ (.int .i64 x)) (some ⟨g, 0, none⟩) cap (l.set k x) := by
  have := OwnV.store (show OwnV B w (.slice (some ⟨g, 0, none⟩) l.length cap) l from h) k x
  unfold OwnL
  rw [List.length_set]
  unfold OwnV at this
  rw [List.length_set] at this
  exact this
/-- A number of a vote's list is written over. -/
theorem Row2.store {B t : Nat} {w : World} {a : Option Addr} {cap : Nat} {l : List (Int × List Int)} {ns : List (Int × Value)} (h : Row2 B t w a cap l ns) (i : Nat) (hi : i < l.length) (g uc : Nat) (need : Int) (C : List Int) (hC : l.getD i (0, []) = (need, C)) (hn : (ns.getD i (0, undef)).2 = .slice (some ⟨g, 0, none⟩) C.length uc) (k : Nat) (x : Int) :
    Row2 B t (w.setCell ⟨g, k, none⟩ (.int .i64 x)) a cap (l.set i (need, C.set k x)) ns := by
  have hgb : (ns.getD i (0, undef)).2.ownBlock = some g := by rw [hn]; rfl
  have hin : i < ns.length := by rw [h.row.len]; exact hi
  have gS : w.grownBy (w.setCell ⟨g, k, none⟩ (.int .i64 x)) (some g) := gr_set (World.grownBy.refl _ _) _ _
  obtain ⟨h1, ua, uc', h2, h3, h4⟩ := h.row.each i hi
  rw [hC] at h1 h2 h3 h4
  dsimp only at h1 h2 h3 h4
  rw [hn] at h2
  injection h2 with e1 e2 e3
  subst e1 e3
  refine ⟨⟨by rw [List.length_set]; exact h.row.len, own_ne h.row.own gS (fun y hy e => by injection e with e; subst e; exact h4 _ rfl hy), fun j hj => ?_⟩, h.rowne, h.eachne, h.apart⟩
  rw [List.length_set] at hj
  by_cases hji : j = i
  · subst hji
    have e5 : (l.set j (need, C.set k x)).getD j (0, []) = (need, C.set k x) := by simp [List.getD, hj]
    rw [e5]
    dsimp only
    exact ⟨h1, some ⟨g, 0, none⟩, uc, by rw [hn, List.length_set], own_set h3 k x, fun y hy => by rw [List.length_set] at hy; exact h4 y hy⟩
  · have e5 : (l.set i (need, C.set k x)).getD j (0, []) = l.getD j (0, []) := by simp [List.getD, List.getElem?_set, Ne.symm hji]
    rw [e5]
    obtain ⟨m1, va, vc, m2, m3, m4⟩ := h.row.each j hj
    refine ⟨m1, va, vc, m2, own_ne m3 gS (fun y hy e => ?_), m4⟩
    injection e with e
    subst e
    have hjn : j < ns.length := by rw [h.row.len]; exact hj
    rcases Nat.lt_or_ge j i with hlt | hge
    · exact h.apart j i hlt hin _ (by rw [m2]; exact hy) hgb
    · exact h.apart i j (by omega) hjn _ hgb (by rw [m2]; exact hy)
end Go.Proofs.Ytefekafpmnaeoaa
