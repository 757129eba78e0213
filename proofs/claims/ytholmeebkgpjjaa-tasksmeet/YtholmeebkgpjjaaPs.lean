/- Plain facts on putting in order: by insertion from the back, by picking the least; no program in sight. -/
import Derived.Test.YtholmeebkgpjjaaPl
namespace Go.Proofs.Ytholmeebkgpjjaa
set_option linter.unusedVariables false

def dl (l : List Tk) (i : Nat) : Int := (l.getD i tk0).dead
/-- Ahead of: the lesser deadline, or the same and the lesser place. -/
def lt' (l : List Tk) (a b : Nat) : Prop := dl l a < dl l b ∨ (dl l a = dl l b ∧ a < b)
theorem lt'_asymm {l : List Tk} {a b : Nat} (h : lt' l a b) (h' : lt' l b a) : False := by unfold lt' at *; omega
theorem lt'_trans {l : List Tk} {a b c : Nat} (h : lt' l a b) (h' : lt' l b c) : lt' l a c := by unfold lt' at *; omega
theorem lt'_tri {l : List Tk} {a b : Nat} (h : a ≠ b) : lt' l a b ∨ lt' l b a := by unfold lt'; omega

/-- Insertion into a list that is read from the back. -/
def insR (l : List Tk) (x : Nat) : List Nat → List Nat
  | [] => [x]
  | y :: r => if dl l x < dl l y then y :: insR l x r else x :: y :: r
def srtR (l : List Tk) : Nat → List Nat
  | 0 => []
  | i + 1 => insR l i (srtR l i)
def srt (l : List Tk) (n : Nat) : List Nat := (srtR l n).reverse
theorem insR_mid {l : List Tk} {x : Nat} {B A : List Nat} (hB : ∀ b ∈ B, dl l x < dl l b) (hA : ∀ y r, A = y :: r → ¬ dl l x < dl l y) : insR l x (B ++ A) = B ++ x :: A := by
  induction B with
  | nil =>
    cases A with
    | nil => rfl
    | cons y r => simp [insR, hA y r rfl]
  | cons b B ih =>
    rw [List.cons_append, insR, if_pos (hB b (by simp)), ih (fun c hc => hB c (by simp [hc]))]
    rfl
theorem srt_done {l : List Tk} {i : Nat} {A C : List Nat} (h : A ++ C = srt l i) (hC : ∀ b, b ∈ C → dl l i < dl l b) (hA : ∀ A' y, A = A' ++ [y] → ¬ dl l i < dl l y) : srt l (i + 1) = A ++ i :: C := by
  unfold srt at h ⊢
  have e : srtR l i = C.reverse ++ A.reverse := by rw [← List.reverse_append, h, List.reverse_reverse]
  rw [srtR, e, insR_mid (fun b hb => hC b (by simpa using hb)) (fun y r hy => hA r.reverse y (by
    have := congrArg List.reverse hy
    simpa using this))]
  simp
theorem insR_len (l : List Tk) (x : Nat) (r : List Nat) : (insR l x r).length = r.length + 1 := by
  induction r with
  | nil => rfl
  | cons y r ih => unfold insR; split <;> simp [ih]
theorem insR_mem {l : List Tk} {x z : Nat} {r : List Nat} : z ∈ insR l x r ↔ z = x ∨ z ∈ r := by
  induction r with
  | nil => simp [insR]
  | cons y r ih =>
    unfold insR; split
    · simp [ih]; constructor <;> (rintro (h | h | h) <;> simp [h])
    · simp
theorem srtR_len (l : List Tk) : ∀ n, (srtR l n).length = n
  | 0 => rfl
  | n + 1 => by rw [srtR, insR_len, srtR_len l n]
theorem srtR_mem (l : List Tk) {z : Nat} : ∀ n, z ∈ srtR l n ↔ z < n
  | 0 => by simp [srtR]
  | n + 1 => by rw [srtR, insR_mem, srtR_mem l n]; omega
theorem srt_len (l : List Tk) (n : Nat) : (srt l n).length = n := by simp [srt, srtR_len]
theorem srt_mem (l : List Tk) {z n : Nat} : z ∈ srt l n ↔ z < n := by simp [srt, srtR_mem]
/-- Read from the back: each behind those that follow. -/
theorem insR_sorted {l : List Tk} {x : Nat} {r : List Nat} (hs : r.Pairwise fun a b => lt' l b a) (hx : ∀ y ∈ r, y < x) : (insR l x r).Pairwise fun a b => lt' l b a := by
  induction r with
  | nil => simp [insR]
  | cons y r ih =>
    obtain ⟨h1, h2⟩ := List.pairwise_cons.1 hs
    unfold insR; split
    · rename_i hlt
      refine List.pairwise_cons.2 ⟨fun z hz => ?_, ih h2 (fun z hz => hx z (by simp [hz]))⟩
      rcases insR_mem.1 hz with rfl | hz
      · left; exact hlt
      · exact h1 z hz
    · rename_i hlt
      have hyx := hx y (by simp)
      have hy : lt' l y x := by unfold lt'; omega
      refine List.pairwise_cons.2 ⟨fun z hz => ?_, hs⟩
      rcases List.mem_cons.1 hz with rfl | hz
      · exact hy
      · exact lt'_trans (h1 z hz) hy
theorem srtR_sorted (l : List Tk) : ∀ n, (srtR l n).Pairwise fun a b => lt' l b a
  | 0 => by simp [srtR]
  | n + 1 => insR_sorted (srtR_sorted l n) (fun y hy => (srtR_mem l n).1 hy)
theorem srt_sorted (l : List Tk) (n : Nat) : (srt l n).Pairwise (lt' l) := by
  unfold srt
  rw [List.pairwise_reverse]
  exact srtR_sorted l n
/-- Two lists in that order with the same members are the same. -/
theorem sorted_eq {l : List Tk} : ∀ {a b : List Nat}, a.Pairwise (lt' l) → b.Pairwise (lt' l) → (∀ x, x ∈ a ↔ x ∈ b) → a = b
  | [], [], _, _, _ => rfl
  | [], y :: b, _, _, h => by have := (h y).2 (by simp); simp at this
  | x :: a, [], _, _, h => by have := (h x).1 (by simp); simp at this
  | x :: a, y :: b, ha, hb, h => by
    obtain ⟨a1, a2⟩ := List.pairwise_cons.1 ha
    obtain ⟨b1, b2⟩ := List.pairwise_cons.1 hb
    have e : x = y := by
      rcases List.mem_cons.1 ((h x).1 (by simp)) with e | hx
      · exact e
      · rcases List.mem_cons.1 ((h y).2 (by simp)) with e | hy
        · exact e.symm
        · exact (lt'_asymm (a1 y hy) (b1 x hx)).elim
    subst e
    congr 1
    refine sorted_eq a2 b2 fun z => ?_
    have hz := h z
    simp only [List.mem_cons] at hz
    constructor
    · intro hza
      rcases hz.1 (.inr hza) with e | h'
      · subst e; exact (lt'_asymm (a1 z hza) (a1 z hza)).elim
      · exact h'
    · intro hzb
      rcases hz.2 (.inr hzb) with e | h'
      · subst e; exact (lt'_asymm (b1 z hzb) (b1 z hzb)).elim
      · exact h'
theorem sub_len : ∀ (a b : List Nat), a.Nodup → (∀ x, x ∈ a → x ∈ b) → a.length ≤ b.length
  | [], b, _, _ => by simp
  | x :: a, b, hn, h => by
    obtain ⟨h1, h2⟩ := List.nodup_cons.1 hn
    have hxb := h x (by simp)
    have := sub_len a (b.erase x) h2 (fun y hy => (List.mem_erase_of_ne (by rintro rfl; exact h1 hy)).2 (h y (by simp [hy])))
    rw [List.length_erase_of_mem hxb] at this
    have := List.length_pos_of_mem hxb
    simp
    omega
theorem sorted_nodup {l : List Tk} {a : List Nat} (h : a.Pairwise (lt' l)) : a.Nodup := h.imp (fun {x y} hxy e => by subst e; exact lt'_asymm hxy hxy)

/-- What has been picked: in order, and ahead of all that is left. -/
structure Picked (l : List Tk) (n : Nat) (o : List Nat) : Prop where
  sorted : o.Pairwise (lt' l)
  lt : ∀ x, x ∈ o → x < n
  ahead : ∀ a, a ∈ o → ∀ x, x < n → x ∉ o → lt' l a x
theorem Picked.nil (l : List Tk) (n : Nat) : Picked l n [] := ⟨by simp, by simp, by simp⟩
theorem Picked.left {l : List Tk} {n : Nat} {o : List Nat} (h : Picked l n o) (hl : o.length < n) : ∃ x, x < n ∧ x ∉ o := by
  refine Classical.byContradiction fun hx => ?_
  have := sub_len (List.range n) o List.nodup_range (fun x hx' => Classical.byContradiction fun hno => hx ⟨x, by simpa using hx', hno⟩)
  simp at this
  omega
theorem Picked.all {l : List Tk} {n : Nat} {o : List Nat} (h : Picked l n o) (hl : o.length = n) : o = srt l n := by
  refine sorted_eq h.sorted (srt_sorted l n) fun x => ?_
  rw [srt_mem]
  refine ⟨h.lt x, fun hx => Classical.byContradiction fun hno => ?_⟩
  have hd : (x :: o).Nodup := List.nodup_cons.2 ⟨hno, sorted_nodup h.sorted⟩
  have := sub_len (x :: o) (List.range n) hd (fun y hy => by
    rcases List.mem_cons.1 hy with rfl | hy
    · simpa using hx
    · simpa using h.lt y hy)
  simp at this
  omega
theorem Picked.more {l : List Tk} {n b : Nat} {o : List Nat} (h : Picked l n o) (hb : b < n) (hno : b ∉ o) (hmin : ∀ x, x < n → x ∉ o → x ≠ b → lt' l b x) : Picked l n (o ++ [b]) := by
  refine ⟨?_, fun x hx => ?_, fun a ha x hx hxo => ?_⟩
  · rw [List.pairwise_append]
    refine ⟨h.sorted, by simp, fun a ha c hc => ?_⟩
    simp at hc
    subst hc
    exact h.ahead a ha c hb hno
  · rcases List.mem_append.1 hx with hx | hx
    · exact h.lt x hx
    · simp at hx; subst hx; exact hb
  · simp at hxo
    rcases List.mem_append.1 ha with ha | ha
    · exact h.ahead a ha x hx hxo.1
    · simp at ha; subst ha; exact hmin x hx hxo.1 hxo.2

/-- Tasks in an order of places. -/
def inOrd (l : List Tk) (P : List Nat) : List Tk := P.map fun i => l.getD i tk0
def ordS (l : List Tk) : List Int × Int × Int :=
  if (lookS l).1 ≠ 0 then ([], lookS l)
  else if (respS (inOrd l (srt l l.length))).2.1 ≠ 0 then ([], (respS (inOrd l (srt l l.length))).2.1, ((srt l l.length).getD (respS (inOrd l (srt l l.length))).2.2.toNat 0 : Nat))
  else ((srt l l.length).map (fun x : Nat => (x : Int)), 0, 0)
end Go.Proofs.Ytholmeebkgpjjaa
