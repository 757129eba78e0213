/- What the votes' law wants besides. -/
import Derived.Test.YtefekafpmnaeoaaAg
import Derived.Test.YtefekafpmnaeoaaAd
import Derived.Test.YtefekafpmnaeoaaU
import Derived.Test.YtefekafpmnaeoaaAc
namespace Go.Proofs.Ytefekafpmnaeoaa
open Go.RowKit
attribute [local go_sem ↓] Go.wp_at_zero Go.wp_at_succ
set_option linter.unusedVariables false
set_option linter.unusedSimpArgs false

theorem voteE_pos {se need : Int} {of : List Int} (h : voteE se need of = 0) : 0 < of.length := by
  unfold voteE at h
  rcases Nat.eq_zero_or_pos of.length with h0 | h0
  · exfalso
    split at h
    · omega
    · next hx => exact hx h0
  · exact h0
/-- The list of a vote, in its row. -/
theorem Row.cell {B : Nat} {w : World} {a : Option Addr} {cap : Nat} {l : List (Int × List Int)} {ns : List (Int × Value)} (h : Row B w a cap l ns) (i : Nat) (hi : i < l.length) : ∃ b, a = some ⟨b, 0, none⟩ ∧ w.cell? ⟨b, i * 2 + 1, none⟩ = some (ns.getD i (0, undef)).2 := by
  have ho := h.own
  have hin : i < ns.length := by rw [h.len]; exact hi
  unfold OwnVs at ho
  obtain ⟨_, ⟨hx, hn⟩ | ⟨g, cap', cur, hv, hb, hc, hnc, hm, hs, ht⟩⟩ := ho
  · omega
  · simp at hv
    obtain ⟨rfl, rfl⟩ := hv
    refine ⟨g, rfl, ?_⟩
    obtain ⟨c1, c2⟩ := vC_get ns i hin
    rw [at_cell hc]
    rw [← ht, List.getElem?_take, if_pos (by omega)] at c2
    simpa using c2
theorem own_some {B : Nat} {w : World} {a : Option Addr} {cap : Nat} {l : List Int} (h : OwnL B w a cap l) (hl : 0 < l.length) : ∃ g, a = some ⟨g, 0, none⟩ ∧ B ≤ g := by
  unfold OwnL at h
  obtain ⟨_, ⟨hx, hn⟩ | ⟨g, cap', cur, hv, hb, hc, hnc, hm, hs, ht⟩⟩ := h
  · omega
  · simp at hv
    obtain ⟨rfl, rfl⟩ := hv
    exact ⟨g, rfl, hb⟩
/-- A trip in its box, with its list apart from the boxes Q. -/
def TBx (w : World) (q : Nat) (Q : List Nat) (n : Nat) (T : Tr) : Prop := ∃ a c, w.heap[q]? = some (.cells #[.bool T.d, .int .i64 T.f, .slice a n c, .bool T.k] 28) ∧ OwnL 0 w a c T.h ∧ T.h.length = n ∧ ∀ x, (Value.slice a T.h.length c).ownBlock = some x → ¬ x ∈ Q
theorem TBx.grow {w w' : World} {q n : Nat} {Q : List Nat} {T : Tr} (h : TBx w q Q n T) (hg : w.grownBy w' none) : TBx w' q Q n T := by
  obtain ⟨a, c, h1, h2, h3, h4⟩ := h
  exact ⟨a, c, kept hg h1, h2.kept hg, h3, h4⟩
theorem TBx.but {w w' : World} {q n p : Nat} {Q : List Nat} {T : Tr} (h : TBx w q Q n T) (hg : w.grownBy w' (some p)) (hp : p ∈ Q) (hne : q ≠ p) : TBx w' q Q n T := by
  obtain ⟨a, c, h1, h2, h3, h4⟩ := h
  exact ⟨a, c, keptBut hg h1 hne, own_ne h2 hg (fun x hx e => by injection e with e; subst e; exact h4 _ hx hp), h3, h4⟩
theorem TBx.put {w : World} {q n B : Nat} {Q : List Nat} {T U : Tr} (h : TBx w q Q n T) {a : Option Addr} {c : Nat} (ho : OwnL B w a c U.h) (hB : ∀ x ∈ Q, x < B) (hn : U.h.length = n) (hq : q ∈ Q) :
    TBx ((((w.setCell ⟨q, 0, none⟩ (.bool U.d)).setCell ⟨q, 1, none⟩ (.int .i64 U.f)).setCell ⟨q, 2, none⟩ (.slice a n c)).setCell ⟨q, 3, none⟩ (.bool U.k)) q Q n U := by
  obtain ⟨a', c', h1, h2, h3, h4⟩ := h
  have hl := own_lt ho
  refine ⟨a, c, box4 h1, own_low (own_ne ho (gr4 (World.grownBy.refl _ _)) (fun x hx e => ?_)) (Nat.zero_le _), hn, fun x hx hm => ?_⟩
  · injection e with e
    subst e
    have := hB _ hq
    have := hl _ hx
    omega
  · have := hB _ hm
    have := hl _ hx
    omega
/-- One place of what is told is set where it was calm. -/
theorem loud_set {told : List Int} {i : Nat} {x : Int} (hx : x = 1 ∨ x = 2) (hok : told.any tl = false) (hc : told.getD i 0 = 0) : Louder told (told.set i x) ∧ (told.set i x).any tl = false := by
  constructor
  · intro j hj
    by_cases h : i = j
    · subst h; exact absurd hc hj
    · simpa [List.getD, List.getElem?_set, h] using hj
  · rw [List.any_eq_false] at hok ⊢
    intro y hy
    rcases List.mem_or_eq_of_mem_set hy with h | h
    · exact hok y h
    · subst h
      rcases hx with h | h <;> subst h <;> decide
theorem loud_same (told : List Int) : Louder told told := fun _ h => h
end Go.Proofs.Ytefekafpmnaeoaa
