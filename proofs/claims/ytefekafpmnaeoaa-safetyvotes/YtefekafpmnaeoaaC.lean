/- Places of numbers, numbers that are there twice. -/
import Derived.Test.YtefekafpmnaeoaaA
namespace Go.Proofs.Ytefekafpmnaeoaa
open Go.RowKit
attribute [local go_sem ↓] Go.wp_at_zero Go.wp_at_succ
set_option linter.unusedVariables false
set_option linter.unusedSimpArgs false

/-- The place of a number, or -1. -/
def ixOf : List Int → Int → Int
  | [], _ => -1
  | y :: l, x => if y = x then 0 else if ixOf l x = -1 then -1 else ixOf l x + 1
theorem ixOf_ge (l : List Int) (x : Int) : -1 ≤ ixOf l x := by
  induction l with
  | nil => simp [ixOf]
  | cons y l ih => simp only [ixOf]; split; · omega
                   · split <;> omega
theorem ixOf_none {l : List Int} {x : Int} (h : x ∉ l) : ixOf l x = -1 := by
  induction l with
  | nil => rfl
  | cons y l ih =>
    simp at h
    simp only [ixOf]
    rw [if_neg (fun e => h.1 e.symm), if_pos (ih h.2)]
theorem ixOf_at {l : List Int} {x : Int} (k : Nat) (hk : k < l.length) (h : x ∉ l.take k) (hx : l[k] = x) : ixOf l x = k := by
  induction l generalizing k with
  | nil => simp at hk
  | cons y l ih =>
    cases k with
    | zero => simp at hx; simp [ixOf, hx]
    | succ k =>
      simp at h hk hx
      simp only [ixOf]
      rw [if_neg (fun e => h.1 e.symm), ih k hk h.2 hx, if_neg (by omega)]
      omega
set_option maxHeartbeats 1000000 in
theorem index_any (l : List Int) (x : Int) (v : Value) (w : World) (hv : rd w v l) (hl : l.length ≤ 17592186044416) : Calls Try.prog 26 #[v, .int .i64 x] w fun e w' => e = .returned (.int .i64 (ixOf l x)) ∧ w = w' := by
  obtain ⟨a, cap, rfl, ha⟩ := hv
  have HA : Hid (l = [] ∨ ∃ b off, a = some ⟨b, off, none⟩ ∧ ∀ i, i < l.length → w.cell? ⟨b, off + i, none⟩ = some (.int .i64 (l.getD i 0))) := ha
  clear ha
  obtain ⟨n, hn⟩ : ∃ n, l.length = n := ⟨_, rfl⟩
  have HN : Hid (l.length = n) := hn
  rw [hn] at hl ⊢
  clear hn
  go_enter Try.func26, Try.ntmps26
  go_wp2
  go_loopg [8] n (fun gk s8 wx => ∃ k : Nat, s8 = .int .i64 k ∧ k ≤ n ∧ gk = n - k ∧ Hid (x ∉ l.take k) ∧ w = wx)
  case atStart => exact ⟨0, rfl, Nat.zero_le _, by omega, hidI (by simp), rfl⟩
  case round =>
    obtain ⟨k, rfl, hk, hgk, HK, hw⟩ := hrel
    subst hw
    have HG : Hid (gk = n - k) := hgk
    clear hgk
    by_cases hlt : k < n
    · have hkl : k < l.length := by rw [HN.out]; exact hlt
      rcases HA.out with h | ⟨b, off, rfl, hc⟩
      · subst h; simp at hkl
      have q0 := hc k hkl
      have HT : Hid (l.take (k + 1) = l.take k ++ [l.getD k 0]) := hidI (by
        rw [List.take_add_one]
        simp [List.getD, hkl])
      have HL : Hid (∃ h : k < l.length, l[k] = l.getD k 0) := hidI ⟨hkl, by simp [List.getD, hkl]⟩
      clear hc hkl
      generalize l.getD k 0 = y at *
      have i1 : (0 : Int) ≤ (k : Int) := by omega
      have i2 : (k : Int) < (n : Int) := by omega
      by_cases hx : x = y
      · subst hx
        go_wp2
        go_ret
        obtain ⟨hkl, hy⟩ := HL.out
        exact ⟨ret_int (ixOf_at k hkl HK.out hy).symm, rfl⟩
      · go_wp2
        have hgl := HG.out
        go_roundg (n - (k + 1))
        all_goals first | omega | exact ⟨k + 1, by go_num, by omega, by omega, hidI (by rw [HT.out]; simp only [List.mem_append, List.mem_singleton, not_or]; exact ⟨HK.out, hx⟩), rfl⟩
    · have hk' : ¬ ((k : Int) < (n : Int)) := by omega
      have hkn : l.take k = l := List.take_of_length_le (by rw [HN.out]; omega)
      rw [hkn] at HK
      go_wp2
      go_ret
      exact ⟨ret_int (ixOf_none HK.out).symm, rfl⟩

/-- Is a number there twice? -/
def twB : List Int → Bool
  | [] => false
  | x :: l => decide (x ∈ l) || twB l
theorem twB_no {l : List Int} : twB l = false ↔ l.Nodup := by
  induction l with
  | nil => simp [twB]
  | cons x l ih => simp [twB, ih]
theorem twB_take {l : List Int} {k : Nat} (hk : k < l.length) (h : l[k] ∈ l.take k) : twB l = true := by
  cases ht : twB l with
  | true => rfl
  | false =>
    have hn := twB_no.1 ht
    obtain ⟨j, hj, e⟩ := List.getElem_of_mem h
    simp at hj
    rw [List.getElem_take] at e
    have := (List.getElem_inj hn).1 e
    omega
/-- Which sensors were seen. -/
def seenA (l : List Int) : Array Value := (Array.range 64).map fun (i : Nat) => Value.bool (decide ((i : Int) ∈ l))
theorem seenA_get (l : List Int) (x : Nat) (hx : x < 64) : (seenA l)[x]? = some (.bool (decide ((x : Int) ∈ l))) := by
  simp [seenA, hx]
theorem seenA_nil : seenA [] = Array.replicate 64 (.bool false) := by
  apply Array.ext
  · simp [seenA]
  · intro i h1 h2
    simp [seenA]
theorem seenA_set (l : List Int) (x : Nat) (hx : x < 64) : (seenA l).setIfInBounds x (.bool true) = seenA (l ++ [(x : Int)]) := by
  apply Array.ext
  · simp [seenA]
  · intro i h1 h2
    simp [seenA] at h1 h2
    rw [Array.getElem_setIfInBounds (by simpa [seenA] using h1)]
    split
    · next e => subst e; simp [seenA]
    · next e =>
      have : ¬ (i : Int) = (x : Int) := by omega
      simp [seenA, this]
set_option maxRecDepth 10000 in
set_option maxHeartbeats 1000000 in
theorem twice_any (l : List Int) (v : Value) (w : World) (hv : rd w v l) (hl : l.length ≤ 17592186044416) (hr : ∀ x ∈ l, 0 ≤ x ∧ x < 64) : Calls Try.prog 31 #[v] w fun e w' => e = .returned (.bool (twB l)) ∧ w.grownBy w' none := by
  obtain ⟨a, cap, rfl, ha⟩ := hv
  have HA : Hid (l = [] ∨ ∃ b off, a = some ⟨b, off, none⟩ ∧ ∀ i, i < l.length → w.cell? ⟨b, off + i, none⟩ = some (.int .i64 (l.getD i 0))) := ha
  have HR := hidI hr
  clear ha hr
  obtain ⟨n, hn⟩ : ∃ n, l.length = n := ⟨_, rfl⟩
  have HN : Hid (l.length = n) := hn
  rw [hn] at hl ⊢
  clear hn
  have hg0 : ∀ o, w.grownBy (w.alloc o) none := fun o => gr_alloc (World.grownBy.refl _ _) o
  have hp0 : ∀ o, (w.alloc o).heap[w.heap.size]? = some o := fun o => heap_alloc_new w o
  obtain ⟨p, hp⟩ : ∃ p, w.heap.size = p := ⟨_, rfl⟩
  have HP := hidI hp
  rw [hp] at hp0
  have HG0 := hidI hg0
  have HP0 := hidI hp0
  clear hg0 hp0
  go_enter Try.func31, Try.ntmps31
  go_wp2
  go_loopg [8] n (fun gk s8 wx => ∃ k : Nat, s8 = .int .i64 k ∧ k ≤ n ∧ gk = n - k ∧ Hid ((l.take k).Nodup ∧ wx.heap[p]? = some (.cells (seenA (l.take k)) 68) ∧ w.grownBy wx none))
  case atStart => exact ⟨0, rfl, Nat.zero_le _, by omega, hidI ⟨by simp, by rw [List.take_zero, seenA_nil]; exact HP0.out _, HG0.out _⟩⟩
  case round =>
    obtain ⟨k, rfl, hk, hgk, HK⟩ := hrel
    have HG : Hid (gk = n - k) := hgk
    clear hgk
    by_cases hlt : k < n
    · have hkl : k < l.length := by rw [HN.out]; exact hlt
      rcases HA.out with h | ⟨b, off, rfl, hc⟩
      · subst h; simp at hkl
      have q0 := HK.out.2.2.cell (hc k hkl) (by simp)
      have HT : Hid (l.take (k + 1) = l.take k ++ [l.getD k 0]) := hidI (by
        rw [List.take_add_one]
        simp [List.getD, hkl])
      have HL : Hid (∃ h : k < l.length, l[k] = l.getD k 0) := hidI ⟨hkl, by simp [List.getD, hkl]⟩
      have hy : 0 ≤ l.getD k 0 ∧ l.getD k 0 < 64 := by
        obtain ⟨h1, h2⟩ := HL.out
        rw [← h2]
        exact HR.out _ (List.getElem_mem _)
      clear hc hkl
      generalize l.getD k 0 = y at *
      obtain ⟨x, rfl⟩ := Int.eq_ofNat_of_zero_le hy.1
      have hx : x < 64 := by omega
      have q1 : wr.cell? ⟨p, x, none⟩ = some (.bool (decide ((x : Int) ∈ l.take k))) := by rw [at_cell HK.out.2.1, seenA_get _ _ hx]
      have f1 := at_frozen HK.out.2.1 x
      have i1 : (0 : Int) ≤ (k : Int) := by omega
      have i2 : (k : Int) < (n : Int) := by omega
      have i3 : (0 : Int) ≤ (x : Int) := by omega
      have i4 : (x : Int) < 64 := by omega
      clear hy
      by_cases hin : (x : Int) ∈ l.take k
      · have hd : decide ((x : Int) ∈ l.take k) = true := by simpa using hin
        rw [hd] at q1
        have HI := hidI hin
        clear hd hin
        go_wp2
        go_ret
        obtain ⟨hkl, hy⟩ := HL.out
        exact ⟨ret_bool (twB_take hkl (by rw [hy]; exact HI.out)).symm, HK.out.2.2⟩
      · have hd : decide ((x : Int) ∈ l.take k) = false := by simpa using hin
        rw [hd] at q1
        have HI := hidI hin
        clear hd hin
        go_wp2
        have hgl := HG.out
        obtain ⟨h1, h2, h3⟩ := HK.out
        go_roundg (n - (k + 1))
        all_goals first | omega | exact ⟨k + 1, by go_num, by omega, by omega, hidI ⟨by rw [HT.out]; exact List.nodup_append.2 ⟨h1, by simp, fun a ha b hb => by simp at hb; subst hb; intro e; subst e; exact HI.out ha⟩, by rw [HT.out, ← seenA_set _ _ hx]; exact at_set h2 x _, gr_own h3 (by rw [HP.out]; exact Nat.le_refl _) _ _⟩⟩
    · have hk' : ¬ ((k : Int) < (n : Int)) := by omega
      have hkn : l.take k = l := List.take_of_length_le (by rw [HN.out]; omega)
      rw [hkn] at HK
      go_wp2
      go_ret
      exact ⟨ret_bool (twB_no.2 HK.out.1).symm, HK.out.2.2⟩
end Go.Proofs.Ytefekafpmnaeoaa
