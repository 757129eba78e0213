/- Guards out of raw ballots: plain facts, rows of votes. -/
import Derived.Test.YtefekafpmnaeoaaAa
namespace Go.Proofs.Ytefekafpmnaeoaa
open Go.RowKit
attribute [local go_sem ↓] Go.wp_at_zero Go.wp_at_succ
set_option linter.unusedVariables false
set_option linter.unusedSimpArgs false

def uqS (acc : List Int) (z : Int) : List Int := if (pk z 6 : Int) ∈ acc then acc else acc ++ [(pk z 6 : Int)]
/-- Each once, in the order in which they come. -/
def uq (l : List Int) : List Int := l.foldl uqS []
theorem uq_snoc (l : List Int) (z : Int) : uq (l ++ [z]) = uqS (uq l) z := by simp [uq]
theorem uqS_ok {acc : List Int} (z : Int) (h1 : acc.Nodup) (h2 : ∀ x ∈ acc, 0 ≤ x ∧ x < 6) : (uqS acc z).Nodup ∧ ∀ x ∈ uqS acc z, 0 ≤ x ∧ x < 6 := by
  unfold uqS
  have hp := pk_lt z (m := 6) (by omega)
  split
  · exact ⟨h1, h2⟩
  · next hn =>
    refine ⟨List.nodup_append.2 ⟨h1, by simp, fun a ha b hb => by simp at hb; subst hb; intro e; subst e; exact hn ha⟩, fun x hx => ?_⟩
    rw [List.mem_append, List.mem_singleton] at hx
    rcases hx with hx | rfl
    · exact h2 x hx
    · omega
theorem uq_ok (l : List Int) : (uq l).Nodup ∧ ∀ x ∈ uq l, 0 ≤ x ∧ x < 6 := by
  unfold uq
  have key : ∀ (l acc : List Int), acc.Nodup → (∀ x ∈ acc, 0 ≤ x ∧ x < 6) → (l.foldl uqS acc).Nodup ∧ ∀ x ∈ l.foldl uqS acc, 0 ≤ x ∧ x < 6 := fun l => by
    induction l with
    | nil => intro acc h1 h2; exact ⟨h1, h2⟩
    | cons z l ih => intro acc h1 h2; exact ih _ (uqS_ok z h1 h2).1 (uqS_ok z h1 h2).2
  exact key l [] List.nodup_nil (fun x hx => by simp at hx)
theorem nodup_len (n : Nat) : ∀ {l : List Int}, l.Nodup → (∀ x ∈ l, 0 ≤ x ∧ x < (n : Int)) → l.length ≤ n := by
  induction n with
  | zero =>
    intro l _ h
    cases l with
    | nil => simp
    | cons x l => have := h x (by simp); omega
  | succ n ih =>
    intro l h1 h2
    by_cases hn : (n : Int) ∈ l
    · have h3 := ih (h1.erase (n : Int)) (fun x hx => by
        have h4 := (h1.mem_erase_iff).1 hx
        have h5 := h2 x h4.2
        have h6 := h4.1
        omega)
      have := List.length_erase_of_mem hn
      omega
    · have := ih h1 (fun x hx => by
        have h5 := h2 x hx
        have : x ≠ n := fun e => hn (e ▸ hx)
        omega)
      omega
theorem uq_len (l : List Int) : (uq l).length ≤ 6 := nodup_len 6 (uq_ok l).1 (uq_ok l).2
def gvF (b : Int × List Int) : List (Int × List Int) := if uq b.2 = [] then [] else [(1 + (pk b.1 (uq b.2).length : Int), uq b.2)]
def gvK (bl : List (Int × List Int)) (k : Nat) : List (Int × List Int) := (2, [0, 1, 2]) :: (bl.take k).flatMap gvF
/-- The votes of a guard, out of raw ballots. -/
def gvs (bl : List (Int × List Int)) : List (Int × List Int) := gvK bl 8
theorem gvK_succ (bl : List (Int × List Int)) (k : Nat) (hk : k < bl.length) : gvK bl (k + 1) = gvK bl k ++ gvF (bl.getD k (0, [])) := by
  have ht : bl.take (k + 1) = bl.take k ++ [bl.getD k (0, [])] := by
    rw [List.take_add_one]
    simp [List.getD, hk]
  unfold gvK
  rw [ht, List.flatMap_append, List.flatMap_singleton, List.cons_append]
theorem gvK_len (bl : List (Int × List Int)) (k : Nat) : (gvK bl k).length ≤ k + 1 := by
  have key : ∀ l : List (Int × List Int), (l.flatMap gvF).length ≤ l.length := fun l => by
    induction l with
    | nil => simp
    | cons x l ih =>
      have : (gvF x).length ≤ 1 := by unfold gvF; split <;> simp
      simp only [List.flatMap_cons, List.length_append, List.length_cons]
      omega
  have h1 := key (bl.take k)
  have h2 : (bl.take k).length ≤ k := by simp; omega
  simp only [gvK, List.length_cons]
  omega
theorem gvK_end (bl : List (Int × List Int)) (k : Nat) (hk : k = 8 ∨ (bl.length ≤ k ∧ k ≤ 8)) : gvK bl k = gvs bl := by
  unfold gvs
  rcases hk with rfl | ⟨h1, h2⟩
  · rfl
  · unfold gvK
    rw [List.take_of_length_le h1, List.take_of_length_le (by omega)]
theorem vote_ok {n : Int} {of : List Int} (h1 : of ≠ []) (h2 : of.Nodup) (h3 : ∀ x ∈ of, 0 ≤ x ∧ x < 6) (h4 : 1 ≤ n) (h5 : n ≤ (of.length : Int)) : voteE 6 n of = 0 := by
  unfold voteE
  have hl : ¬ of.length = 0 := fun e => h1 (List.length_eq_zero_iff.1 e)
  have ha : of.any (ou 0 (6 - 1)) = false := List.any_eq_false.2 (fun x hx => by have := h3 x hx; simp [ou]; omega)
  rw [if_neg hl, ha, twB_no.2 h2]
  have : ou 1 (of.length : Int) n = false := ou_no.2 ⟨h4, h5⟩
  rw [this]
  rfl
theorem gvs_ok (bl : List (Int × List Int)) {de : Int} (h0 : 0 ≤ de) (h1 : de ≤ 1000) : (checkF 6 de (gvs bl)).1 = 0 := by
  have hl := gvK_len bl 8
  have hg : guardE 6 de (gvs bl).length = 0 := by
    unfold guardE
    have e1 : ou 1 64 6 = false := by decide
    have e2 : ou 1 16 ((gvs bl).length : Int) = false := ou_no.2 ⟨by unfold gvs gvK; rw [List.length_cons]; omega, by unfold gvs; omega⟩
    have e3 : ou 0 1000 de = false := ou_no.2 ⟨h0, h1⟩
    rw [e1, e2, e3]; rfl
  unfold checkF
  rw [if_pos hg, votesF_all (fun v hv => ?_)]
  unfold gvs gvK at hv
  rw [List.mem_cons, List.mem_flatMap] at hv
  rcases hv with rfl | ⟨b, _, hb⟩
  · decide
  · unfold gvF at hb
    split at hb
    · simp at hb
    · next hne =>
      rw [List.mem_singleton] at hb
      subst hb
      have hlen : 0 < (uq b.2).length := by
        cases h : uq b.2 with
        | nil => exact absurd h hne
        | cons x l => simp
      have := pk_lt b.1 hlen
      exact vote_ok hne (uq_ok b.2).1 (uq_ok b.2).2 (by dsimp only; omega) (by dsimp only; omega)
/-- Which were seen, of six. -/
def seenB (l : List Int) : Array Value := (Array.range 6).map fun (i : Nat) => Value.bool (decide ((i : Int) ∈ l))
theorem seenB_get (l : List Int) (x : Nat) (hx : x < 6) : (seenB l)[x]? = some (.bool (decide ((x : Int) ∈ l))) := by simp [seenB, hx]
theorem seenB_nil : seenB [] = #[.bool false, .bool false, .bool false, .bool false, .bool false, .bool false] := by
  apply Array.ext
  · simp [seenB]
  · intro i h1 h2
    have : i = 0 ∨ i = 1 ∨ i = 2 ∨ i = 3 ∨ i = 4 ∨ i = 5 := by simp [seenB] at h1; omega
    rcases this with rfl | rfl | rfl | rfl | rfl | rfl <;> simp [seenB]
theorem seenB_add (l : List Int) (x : Nat) (hx : x < 6) : (seenB l).setIfInBounds x (.bool true) = seenB (if (x : Int) ∈ l then l else l ++ [(x : Int)]) := by
  apply Array.ext
  · simp [seenB]
  · intro i h1 h2
    simp [seenB] at h1
    rw [Array.getElem_setIfInBounds (by simpa [seenB] using h1)]
    split
    · next e => subst e; simp [seenB]; split <;> simp_all
    · next e =>
      have : ¬ (i : Int) = (x : Int) := by omega
      simp only [seenB, Array.getElem_map, Array.getElem_range]
      split <;> simp [this]
/-- A row of votes that keeps clear of a block, its lists apart from each other. -/
structure Row2 (B t : Nat) (w : World) (a : Option Addr) (cap : Nat) (l : List (Int × List Int)) (ns : List (Int × Value)) : Prop where
  row : Row B w a cap l ns
  rowne : ∀ x, (Value.slice a ns.length cap).ownBlock = some x → x ≠ t
  eachne : ∀ i, i < ns.length → ∀ x, (ns.getD i (0, undef)).2.ownBlock = some x → x ≠ t
  apart : ∀ i j, i < j → j < ns.length → ∀ x, (ns.getD i (0, undef)).2.ownBlock = some x → (ns.getD j (0, undef)).2.ownBlock ≠ some x
theorem Row2.grown {B t : Nat} {w w' : World} {a : Option Addr} {cap : Nat} {l : List (Int × List Int)} {ns : List (Int × Value)} (h : Row2 B t w a cap l ns) (hg : w.grownBy w' none) : Row2 B t w' a cap l ns :=
  ⟨h.row.grown hg, h.rowne, h.eachne, h.apart⟩
theorem Row2.box {B t : Nat} {w w' : World} {a : Option Addr} {cap : Nat} {l : List (Int × List Int)} {ns : List (Int × Value)} (h : Row2 B t w a cap l ns) (hg : w.grownBy w' (some t)) : Row2 B t w' a cap l ns :=
  ⟨⟨h.row.len, own_ne h.row.own hg (fun x hx e => h.rowne x hx (by injection e with e; exact e.symm)), fun i hi => by
    obtain ⟨h1, ua, uc, h2, h3, h4⟩ := h.row.each i hi
    exact ⟨h1, ua, uc, h2, own_ne h3 hg (fun x hx e => h.eachne i (by rw [h.row.len]; exact hi) x (by rw [h2]; exact hx) (by injection e with e; exact e.symm)), h4⟩⟩, h.rowne, h.eachne, h.apart⟩
theorem Row2.lt {B t : Nat} {w : World} {a : Option Addr} {cap : Nat} {l : List (Int × List Int)} {ns : List (Int × Value)} (h : Row2 B t w a cap l ns) (i : Nat) (hi : i < ns.length) : ∀ x, (ns.getD i (0, undef)).2.ownBlock = some x → B ≤ x ∧ x < w.heap.size := fun x hx => by
  obtain ⟨h1, ua, uc, h2, h3, h4⟩ := h.row.each i (by rw [← h.row.len]; exact hi)
  rw [h2] at hx
  exact World.ownsRow.lt h3 x hx
/-- One vote more, behind a draw or not. -/
theorem Row2.more {B t : Nat} {w : World} {a : Option Addr} {cap : Nat} {l : List (Int × List Int)} {ns : List (Int × Value)} (h : Row2 B t w a cap l ns) (need : Int) (of : List Int) (ua : Option Addr) (uc q B2 : Nat) (hl : l.length ≤ 1000000)
    (hu : OwnL B2 w ua uc of) (hB2 : B ≤ B2) (htB : t < B2) (hnew : ∀ x, (Value.slice a ns.length cap).ownBlock = some x → x < B2) (hold : ∀ i, i < ns.length → ∀ x, (ns.getD i (0, undef)).2.ownBlock = some x → x < B2) (hq : w.heap[q]? = some (.cells #[.int .i64 need, .slice ua of.length uc] 50)) (hB : B ≤ w.heap.size) (ht : t < w.heap.size) :
    ∃ a' cap' w', (Builtin.append_ #[22, 22] 22 #[.slice a l.length cap, .slice (some ⟨q, 0, none⟩) 1 1]).run Try.prog w = .ok (.slice a' (l.length + 1) cap') w' ∧ Row2 B t w' a' cap' (l ++ [(need, of)]) (ns ++ [(need, .slice ua of.length uc)]) ∧ w.grownBy w' (Value.slice a ns.length cap).ownBlock ∧ ∀ x, (Value.slice a ns.length cap).ownBlock = some x → B ≤ x ∧ x ≠ t := by
  obtain ⟨i0, hi, hz0, hz1, hz2⟩ := info_parts info50
  have hlen := h.row.len
  have hne : ∀ x, (Value.slice ua of.length uc).ownBlock = some x → (Value.slice a ns.length cap).ownBlock ≠ some x := fun x h1 h2 => by
    have := (World.ownsRow.lt hu x h1).1
    have := hnew x h2
    omega
  obtain ⟨a', cap', w', r1, r2, r3, r4⟩ := h.row.more need of ua uc q (by omega) (own_low hu hB2) hne hq hB
  obtain ⟨v'', w'', p1, p2, p3, _, p5⟩ := run_append_own_at (P := Try.prog) w B 22 22 50 i0 _ 2 32 Try.underlying22 hi hz0 hz1 hz2 rfl (by omega) _ ns.length (vC ns) h.row.own ⟨q, 0, none⟩ 1 1 [.int .i64 need, .slice ua of.length uc] rfl
    (fun j u hj => by
      rw [addn, at_cell hq (0 + j)]
      simpa using hj)
    (by simp [Value.oneCell']) (by unfold maxLen; omega) (by omega) hB
  rw [hlen] at p1
  rw [p1] at r1
  injection r1 with e1 e2
  subst e1 e2
  refine ⟨a', cap', w'', p1, ⟨r2, fun x hx => ?_, fun i hi x hx => ?_, fun i j hij hj x hx => ?_⟩, r3, fun x hx => ⟨r4 x hx, h.rowne x hx⟩⟩
  · have hx' : (Value.slice a' (l.length + 1) cap').ownBlock = some x := by rw [List.length_append, hlen] at hx; exact hx
    rcases p5 with h5 | h5
    · rw [h5] at hx'; exact h.rowne x hx'
    · rw [h5] at hx'
      simp at hx'
      omega
  · by_cases hil : i < ns.length
    · have e1 : (ns ++ [(need, Value.slice ua of.length uc)]).getD i (0, undef) = ns.getD i (0, undef) := by simp [List.getD, List.getElem?_append, hil]
      rw [e1] at hx
      exact h.eachne i hil x hx
    · have hie : i = ns.length := by simp at hi; omega
      subst hie
      have e1 : (ns ++ [(need, Value.slice ua of.length uc)]).getD ns.length (0, undef) = (need, Value.slice ua of.length uc) := by simp [List.getD]
      rw [e1] at hx
      have := (World.ownsRow.lt hu x hx).1
      omega
  · have hil : i < ns.length := by simp at hj; omega
    have e1 : (ns ++ [(need, Value.slice ua of.length uc)]).getD i (0, undef) = ns.getD i (0, undef) := by simp [List.getD, List.getElem?_append, hil]
    rw [e1] at hx
    by_cases hjl : j < ns.length
    · have e2 : (ns ++ [(need, Value.slice ua of.length uc)]).getD j (0, undef) = ns.getD j (0, undef) := by simp [List.getD, List.getElem?_append, hjl]
      rw [e2]
      exact h.apart i j hij hjl x hx
    · have hje : j = ns.length := by simp at hj; omega
      subst hje
      have e2 : (ns ++ [(need, Value.slice ua of.length uc)]).getD ns.length (0, undef) = (need, Value.slice ua of.length uc) := by simp [List.getD]
      rw [e2]
      intro h2
      have h3 := (World.ownsRow.lt hu x h2).1
      have h4 := hold i hil x hx
      omega
end Go.Proofs.Ytefekafpmnaeoaa
