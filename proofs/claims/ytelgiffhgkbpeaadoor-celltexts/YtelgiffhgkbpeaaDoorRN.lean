/- The program's Read and the document's are the same, and the walk of CellTexts. -/
import Derived.Test.YtelgiffhgkbpeaaDoorRM
import Derived.Test.YtelgiffhgkbpeaaDoorRJ
namespace Go.Proofs.YtelgiffhgkbpeaaDoor
open Go.RowKit

theorem time_rel (l : List UInt8) : Rel (timeD l) (spanT l) := by
  unfold timeD behindD spanT
  rw [prefix_take l [116, 105, 109, 101, 35], prefix_take l [116, 35]]
  have start : ∀ L : List UInt8, L ≠ [] → L.length ≤ l.length → Rel (endT (feedT t0 L)) (spanR l.length 0 5 L) := fun L hne hlen =>
    span_rel l.length L t0 0 86400001 0 5 hlen rfl (.inl ⟨rfl, rfl⟩) (.inl ⟨rfl, by decide, by decide⟩) (by decide) (by decide) (fun h => absurd h hne) (fun _ _ _ _ _ => rfl)
  show Rel (if (if (l.take 5 == [116, 105, 109, 101, 35]) = true then (l.drop 5, true) else if (l.take 2 == [116, 35]) = true then (l.drop 2, true) else (l, false)).2 = true then
    endT (feedT t0 (if (l.take 5 == [116, 105, 109, 101, 35]) = true then (l.drop 5, true) else if (l.take 2 == [116, 35]) = true then (l.drop 2, true) else (l, false)).1) else (0, false)) _
  by_cases a : (l.take 5 == [116, 105, 109, 101, 35]) = true
  · rw [if_pos a]
    have hl : 5 ≤ l.length := by
      have := congrArg List.length (eq_of_beq a)
      simp at this; omega
    rw [if_pos (show 5 ≤ l.length ∧ (l.take 5 == [116, 105, 109, 101, 35]) = true from ⟨hl, a⟩)]
    show Rel (endT (feedT t0 (l.drop 5))) _
    by_cases he : l.length = 5
    · rw [if_pos he, List.drop_eq_nil_of_le (by omega)]
      exact rel_no (by decide) rfl
    · rw [if_neg he]
      exact start _ (by intro h; have := congrArg List.length h; simp at this; omega) (by rw [List.length_drop]; omega)
  · rw [if_neg a]
    rw [if_neg (show ¬ (5 ≤ l.length ∧ (l.take 5 == [116, 105, 109, 101, 35]) = true) from fun h => a h.2)]
    by_cases b : (l.take 2 == [116, 35]) = true
    · rw [if_pos b]
      have hl : 2 ≤ l.length := by
        have := congrArg List.length (eq_of_beq b)
        simp at this; omega
      rw [if_neg (show ¬ (l.length < 2 ∨ (l.take 2 == [116, 35]) = false) from fun h => by rw [b] at h; rcases h with h | h; omega; cases h)]
      show Rel (endT (feedT t0 (l.drop 2))) _
      by_cases he : l.length = 2
      · rw [if_pos he, List.drop_eq_nil_of_le (by omega)]
        exact rel_no (by decide) rfl
      · rw [if_neg he]
        exact start _ (by intro h; have := congrArg List.length h; simp at this; omega) (by rw [List.length_drop]; omega)
    · rw [if_neg b]
      rw [if_pos (show l.length < 2 ∨ (l.take 2 == [116, 35]) = false from .inr (by simpa using b))]
      exact rel_no rfl rfl

theorem fits_same (k v n : Int) (h : SameV v n) : fitsK k v = fitsK k n ∧ (fitsK k v = true → v = n) := by
  rcases h with ⟨rfl, h0, h1⟩ | ⟨h0, h1⟩
  · exact ⟨rfl, fun _ => rfl⟩
  · have big : ∀ x : Int, 4294967296 ≤ x → fitsK k x = false := fun x hx => by
      cases hf : fitsK k x with
      | false => rfl
      | true =>
        rcases kinds k with rfl | rfl | rfl | rfl | rfl | h
        · have := kfits1 hf; omega
        · have := kfits2 hf; omega
        · have := kfits3 hf; omega
        · have := kfits4 hf; omega
        · have := kfits5 hf; omega
        · have : isK k = false := by simp [isK]; omega
          simp [fitsK, this] at hf
    rw [big v h0, big n h1]
    exact ⟨rfl, fun h => by cases h⟩
theorem fits_neg (k v n : Int) (h : SameV v n) : fitsK k (-v) = fitsK k (-n) ∧ (fitsK k (-v) = true → -v = -n) := by
  rcases h with ⟨rfl, h0, h1⟩ | ⟨h0, h1⟩
  · exact ⟨rfl, fun _ => rfl⟩
  · have big : ∀ x : Int, 4294967296 ≤ x → fitsK k (-x) = false := fun x hx => by
      cases hf : fitsK k (-x) with
      | false => rfl
      | true =>
        rcases kinds k with rfl | rfl | rfl | rfl | rfl | h
        · have := kfits1 hf; omega
        · have := kfits2 hf; omega
        · have := kfits3 hf; omega
        · have := kfits4 hf; omega
        · have := kfits5 hf; omega
        · have : isK k = false := by simp [isK]; omega
          simp [fitsK, this] at hf
    rw [big v h0, big n h1]
    exact ⟨rfl, fun h => by cases h⟩

/-- What is asked of the two readings of a literal. -/
def Both (k : Int) (a b : Int × Bool) : Prop := a.2 = b.2 ∧ (a.2 = true → fitsK k a.1 = fitsK k b.1 ∧ (fitsK k a.1 = true → a.1 = b.1))
theorem rel_both (k : Int) {a b : Int × Bool} (h : Rel a b) : Both k a b := ⟨h.1, fun ha => fits_same k _ _ (h.2 ha)⟩
theorem as_both (k : Int) (l : List UInt8) (hk : isK k = true) : Both k (asD k l) (asR k l) := by
  have hk' : k = 1 ∨ k = 2 ∨ k = 3 ∨ k = 4 ∨ k = 5 := by
    simp only [isK, Bool.and_eq_true, decide_eq_true_eq] at hk; omega
  have neg : ∀ k, k = 2 ∨ k = 3 → Both k (asD k l) (asR k l) := fun k hk => by
    unfold asD asR
    rw [if_neg (by omega), if_neg (by omega), if_neg (show ¬ k = 1 by omega), if_neg (show ¬ k = 5 by omega)]
    have hp : Lib.hasPrefix l [45] = true ↔ (l.headD 0).toNat = 45 := by
      rw [prefix_take]
      match l with
      | [] => decide
      | c :: t =>
        show ([c] == [45]) = true ↔ c.toNat = 45
        rw [beq_iff_eq]
        constructor
        · intro h; rw [(List.cons.inj h).1]; rfl
        · intro h; rw [toNat_is h]; rfl
    by_cases h : Lib.hasPrefix l [45] = true
    · rw [if_pos ⟨hk, h⟩, if_pos ⟨by omega, hp.1 h⟩]
      have hl : 1 ≤ l.length := by
        match l, hp.1 h with
        | [], h => exact absurd h (by decide)
        | c :: t, _ => simp
      have := out_rel 10 (.inl rfl) l 1 hl
      exact ⟨this.1, fun ha => fits_neg k _ _ (this.2 ha)⟩
    · rw [if_neg (fun q => h q.2), if_neg (fun q => h (hp.2 q.2))]
      exact rel_both k (num_rel l)
  rcases hk' with rfl | rfl | rfl | rfl | rfl
  · exact ⟨rfl, fun _ => ⟨rfl, fun _ => rfl⟩⟩
  · exact neg 2 (.inl rfl)
  · exact neg 3 (.inr rfl)
  · exact rel_both 4 (num_rel l)
  · exact rel_both 5 (time_rel l)
theorem low_high (l : List UInt8) (h : ∃ b ∈ l, 128 ≤ b.toNat) : ∃ b ∈ lowL l, 128 ≤ b.toNat := by
  obtain ⟨b, hb, h1⟩ := h
  refine ⟨b, ?_, h1⟩
  have : Lib.lowerB b = b := Lib.lowerB_of_not b (by rw [Lib.isUpperB_int]; simp; omega)
  rw [← this]
  exact List.mem_map_of_mem hb
/-- The two read the same. -/
theorem read_same (k : Int) (l : List UInt8) (n : Nat) : readE k (mapS l) n = readR k (lowL l) n := by
  unfold readE readR
  cases hk : isK k with
  | false => rfl
  | true =>
    show (if 40 < n then _ else _) = (if 40 < n then _ else _)
    by_cases h40 : 40 < n
    · rw [if_pos h40, if_pos h40]
    · rw [if_neg h40, if_neg h40]
      have hb := as_both k (lowL l) hk
      by_cases ha : ∀ b ∈ l, b.toNat < 128
      · rw [mapS_ascii l ha]
        obtain ⟨h1, h2⟩ := hb
        rw [← h1]
        by_cases h3 : (asD k (lowL l)).2 = true
        · rw [if_pos h3, if_pos h3]
          obtain ⟨h4, h5⟩ := h2 h3
          rw [← h4]
          by_cases h6 : fitsK k (asD k (lowL l)).1 = true
          · rw [if_pos h6, if_pos h6, h5 h6]
          · rw [if_neg h6, if_neg h6]
        · rw [if_neg h3, if_neg h3]
      · have hh : ∃ b ∈ l, 128 ≤ b.toNat := by
          apply Classical.byContradiction
          intro hn
          exact ha (fun b hb' => by
            apply Classical.byContradiction
            intro h
            exact hn ⟨b, hb', by omega⟩)
        rw [if_neg (by rw [asD_high k _ (mapS_high l hh)]; decide)]
        have : (asR k (lowL l)).2 = false := by rw [← hb.1]; exact asD_high k _ (low_high l hh)
        rw [if_neg (by rw [this]; decide)]
end Go.Proofs.YtelgiffhgkbpeaaDoor
