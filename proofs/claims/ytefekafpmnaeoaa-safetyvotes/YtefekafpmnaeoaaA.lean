/- Numbers that lie outside; lists that hold one. -/
import Derived.Test.YtefekafpmnaeoaaD
namespace Go.Proofs.Ytefekafpmnaeoaa
open Go.RowKit
attribute [local go_sem ↓] Go.wp_at_zero Go.wp_at_succ
set_option linter.unusedVariables false
set_option linter.unusedSimpArgs false

def ou (lo hi n : Int) : Bool := decide (n < lo) || decide (hi < n)
theorem ou_iff {lo hi n : Int} : ou lo hi n = true ↔ n < lo ∨ hi < n := by simp [ou]
theorem ou_no {lo hi n : Int} : ou lo hi n = false ↔ lo ≤ n ∧ n ≤ hi := by simp [ou]
/-- What a closure holds that says of a number whether it lies outside. -/
def OutP (w : World) (lo hi : Int) (p q : Nat) : Prop := w.heap[p]? = some (.cells #[.int .i64 lo] 3) ∧ w.heap[q]? = some (.cells #[.int .i64 hi] 3)
theorem OutP.grown {w w' : World} {lo hi : Int} {p q : Nat} (h : OutP w lo hi p q) (hg : w.grownBy w' none) : OutP w' lo hi p q := ⟨kept hg h.1, kept hg h.2⟩
theorem outside_any (lo hi : Int) (w : World) : Calls Try.prog 29 #[.int .i64 lo, .int .i64 hi] w fun e w' => ∃ p q, e = .returned (.func (.func 35) #[] #[.pointer (some ⟨p, 0, none⟩), .pointer (some ⟨q, 0, none⟩)]) ∧ OutP w' lo hi p q ∧ w.grownBy w' none := by
  go_enter Try.func29, Try.ntmps29
  go_wp2
  go_ret
  refine ⟨w.heap.size, w.heap.size + 1, rfl, ⟨?_, ?_⟩, gr_alloc (gr_alloc (World.grownBy.refl _ _) _) _⟩
  · rw [hp_old (by simp)]; exact hp_new rfl _
  · exact hp_new (by simp) _
theorem out_any (lo hi n : Int) (p q : Nat) (w : World) (h : OutP w lo hi p q) : Calls Try.prog 35 #[.int .i64 n, .pointer (some ⟨p, 0, none⟩), .pointer (some ⟨q, 0, none⟩)] w fun e w' => e = .returned (.bool (ou lo hi n)) ∧ w = w' := by
  obtain ⟨h1, h2⟩ := h
  have c1 : w.cell? ⟨p, 0, none⟩ = some (.int .i64 lo) := at_cell h1 0
  have c2 : w.cell? ⟨q, 0, none⟩ = some (.int .i64 hi) := at_cell h2 0
  clear h1 h2
  unfold ou
  by_cases h : n < lo
  · go_enter Try.func35, Try.ntmps35
    go_wp2
    go_ret
    exact ⟨ret_bool (by rw [Bool.eq_iff_iff]; simp; omega), rfl⟩
  · go_enter Try.func35, Try.ntmps35
    go_wp2
    go_ret
    exact ⟨ret_bool (by rw [Bool.eq_iff_iff]; simp; omega), rfl⟩
def tl (n : Int) : Bool := decide (n ≠ 0 ∧ n ≠ 1 ∧ n ≠ 2)
theorem tell_any (n : Int) (w : World) : Calls Try.prog 32 #[.int .i64 n] w fun e w' => e = .returned (.bool (tl n)) ∧ w = w' := by
  unfold tl
  by_cases h : n = 0
  · subst h
    go_enter Try.func32, Try.ntmps32
    go_wp2
    go_ret
    exact ⟨ret_bool (by simp), rfl⟩
  · by_cases h1 : n = 1
    · subst h1
      go_enter Try.func32, Try.ntmps32
      go_wp2
      go_ret
      exact ⟨ret_bool (by simp), rfl⟩
    · go_enter Try.func32, Try.ntmps32
      go_wp2
      go_ret
      exact ⟨ret_bool (by rw [Bool.eq_iff_iff]; simp [and_assoc]), rfl⟩

set_option maxHeartbeats 1000000 in
theorem indexOut_any (l : List Int) (v : Value) (lo hi : Int) (p q : Nat) (w : World) (hv : rd w v l) (hl : l.length ≤ 17592186044416) (hf : OutP w lo hi p q) : Calls Try.prog 36 #[v, .func (.func 35) #[] #[.pointer (some ⟨p, 0, none⟩), .pointer (some ⟨q, 0, none⟩)]] w fun e w' => ∃ r : Int, e = .returned (.int .i64 r) ∧ decide (0 ≤ r) = l.any (ou lo hi) ∧ w = w' := by
  obtain ⟨a, cap, rfl, ha⟩ := hv
  have HA : Hid (l = [] ∨ ∃ b off, a = some ⟨b, off, none⟩ ∧ ∀ i, i < l.length → w.cell? ⟨b, off + i, none⟩ = some (.int .i64 (l.getD i 0))) := ha
  clear ha
  obtain ⟨n, hn⟩ : ∃ n, l.length = n := ⟨_, rfl⟩
  have HN : Hid (l.length = n) := hn
  rw [hn] at hl ⊢
  clear hn
  have cX := fun x => out_any lo hi x p q w hf
  go_enter Try.func36, Try.ntmps36
  go_wp2
  go_loopg [8] n (fun gk s8 wx => ∃ k : Nat, s8 = .int .i64 k ∧ k ≤ n ∧ gk = n - k ∧ Hid ((l.take k).any (ou lo hi) = false) ∧ w = wx)
  case atStart => exact ⟨0, rfl, Nat.zero_le _, by omega, hidI (by simp), rfl⟩
  case round =>
    obtain ⟨k, rfl, hk, hgk, HK, hw⟩ := hrel
    subst hw
    have HG : Hid (gk = n - k) := hgk
    clear hgk
    by_cases hlt : k < n
    · have hkl : k < l.length := by rw [HN.out]; exact hlt
      rcases HA.out with h | ⟨b, off, rfl, hc⟩
      · subst h; simp at hkl
      have q0 := hc k hkl
      have hT : l.take (k + 1) = l.take k ++ [l.getD k 0] := by
        rw [List.take_add_one]
        simp [List.getD, hkl]
      have hmem : l.getD k 0 ∈ l := by
        have : l.getD k 0 = l[k] := by simp [List.getD, hkl]
        rw [this]
        exact List.getElem_mem _
      have HT : Hid (_ = _) := hT
      have HMem : Hid (_ ∈ _) := hmem
      clear hc hkl hT hmem
      generalize l.getD k 0 = x at *
      have i1 : (0 : Int) ≤ (k : Int) := by omega
      have i2 : (k : Int) < (n : Int) := by omega
      have cx := cX x
      clear cX
      by_cases hx : ou lo hi x = true
      · simp only [hx] at cx
        go_wp2_with (first | (go_at_call 35; refine cx.mono ?_; rintro e w' ⟨rfl, rfl⟩))
        go_ret
        refine ⟨(k : Int), rfl, ?_, rfl⟩
        have h1 : l.any (ou lo hi) = true := List.any_eq_true.2 ⟨x, HMem.out, hx⟩
        rw [h1]
        simp
      · have hx' : ou lo hi x = false := by simpa using hx
        simp only [hx'] at cx
        go_wp2_with (first | (go_at_call 35; refine cx.mono ?_; rintro e w' ⟨rfl, rfl⟩))
        have hgl := HG.out
        go_roundg (n - (k + 1))
        all_goals first | omega | exact ⟨k + 1, by go_num, by omega, by omega, hidI (by rw [HT.out, List.any_append, HK.out]; simp [hx']), rfl⟩
    · have hk' : ¬ ((k : Int) < (n : Int)) := by omega
      have hkn : l.take k = l := List.take_of_length_le (by rw [HN.out]; omega)
      rw [hkn] at HK
      go_wp2
      go_ret
      exact ⟨-1, rfl, by rw [HK.out]; simp, rfl⟩

set_option maxHeartbeats 1000000 in
theorem indexTell_any (l : List Int) (v : Value) (w : World) (hv : rd w v l) (hl : l.length ≤ 17592186044416) : Calls Try.prog 36 #[v, .func (.func 32) #[] #[]] w fun e w' => ∃ r : Int, e = .returned (.int .i64 r) ∧ decide (0 ≤ r) = l.any (tl) ∧ w = w' := by
  obtain ⟨a, cap, rfl, ha⟩ := hv
  have HA : Hid (l = [] ∨ ∃ b off, a = some ⟨b, off, none⟩ ∧ ∀ i, i < l.length → w.cell? ⟨b, off + i, none⟩ = some (.int .i64 (l.getD i 0))) := ha
  clear ha
  obtain ⟨n, hn⟩ : ∃ n, l.length = n := ⟨_, rfl⟩
  have HN : Hid (l.length = n) := hn
  rw [hn] at hl ⊢
  clear hn
  have cX := fun x => tell_any x w
  go_enter Try.func36, Try.ntmps36
  go_wp2
  go_loopg [8] n (fun gk s8 wx => ∃ k : Nat, s8 = .int .i64 k ∧ k ≤ n ∧ gk = n - k ∧ Hid ((l.take k).any (tl) = false) ∧ w = wx)
  case atStart => exact ⟨0, rfl, Nat.zero_le _, by omega, hidI (by simp), rfl⟩
  case round =>
    obtain ⟨k, rfl, hk, hgk, HK, hw⟩ := hrel
    subst hw
    have HG : Hid (gk = n - k) := hgk
    clear hgk
    by_cases hlt : k < n
    · have hkl : k < l.length := by rw [HN.out]; exact hlt
      rcases HA.out with h | ⟨b, off, rfl, hc⟩
      · subst h; simp at hkl
      have q0 := hc k hkl
      have hT : l.take (k + 1) = l.take k ++ [l.getD k 0] := by
        rw [List.take_add_one]
        simp [List.getD, hkl]
      have hmem : l.getD k 0 ∈ l := by
        have : l.getD k 0 = l[k] := by simp [List.getD, hkl]
        rw [this]
        exact List.getElem_mem _
      have HT : Hid (_ = _) := hT
      have HMem : Hid (_ ∈ _) := hmem
      clear hc hkl hT hmem
      generalize l.getD k 0 = x at *
      have i1 : (0 : Int) ≤ (k : Int) := by omega
      have i2 : (k : Int) < (n : Int) := by omega
      have cx := cX x
      clear cX
      by_cases hx : tl x = true
      · simp only [hx] at cx
        go_wp2_with (first | (go_at_call 32; refine cx.mono ?_; rintro e w' ⟨rfl, rfl⟩))
        go_ret
        refine ⟨(k : Int), rfl, ?_, rfl⟩
        have h1 : l.any (tl) = true := List.any_eq_true.2 ⟨x, HMem.out, hx⟩
        rw [h1]
        simp
      · have hx' : tl x = false := by simpa using hx
        simp only [hx'] at cx
        go_wp2_with (first | (go_at_call 32; refine cx.mono ?_; rintro e w' ⟨rfl, rfl⟩))
        have hgl := HG.out
        go_roundg (n - (k + 1))
        all_goals first | omega | exact ⟨k + 1, by go_num, by omega, by omega, hidI (by rw [HT.out, List.any_append, HK.out]; simp [hx']), rfl⟩
    · have hk' : ¬ ((k : Int) < (n : Int)) := by omega
      have hkn : l.take k = l := List.take_of_length_le (by rw [HN.out]; omega)
      rw [hkn] at HK
      go_wp2
      go_ret
      exact ⟨-1, rfl, by rw [HK.out]; simp, rfl⟩

theorem hasOut_any (l : List Int) (v : Value) (lo hi : Int) (p q : Nat) (w : World) (hv : rd w v l) (hl : l.length ≤ 17592186044416) (hf : OutP w lo hi p q) : Calls Try.prog 30 #[v, .func (.func 35) #[] #[.pointer (some ⟨p, 0, none⟩), .pointer (some ⟨q, 0, none⟩)]] w fun e w' => e = .returned (.bool (l.any (ou lo hi))) ∧ w = w' := by
  have c := indexOut_any l v lo hi p q w hv hl hf
  obtain ⟨a, cap, rfl, _⟩ := id hv
  generalize l.any (ou lo hi) = B at *
  go_enter Try.func30, Try.ntmps30
  go_wp2_with fail
  refine c.mono ?_
  rintro e w' ⟨r, rfl, hr, rfl⟩
  go_wp2
  go_ret
  exact ⟨rfl, rfl⟩

theorem hasTell_any (l : List Int) (v : Value) (w : World) (hv : rd w v l) (hl : l.length ≤ 17592186044416) : Calls Try.prog 30 #[v, .func (.func 32) #[] #[]] w fun e w' => e = .returned (.bool (l.any (tl))) ∧ w = w' := by
  have c := indexTell_any l v w hv hl
  obtain ⟨a, cap, rfl, _⟩ := id hv
  generalize l.any (tl) = B at *
  go_enter Try.func30, Try.ntmps30
  go_wp2_with fail
  refine c.mono ?_
  rintro e w' ⟨r, rfl, hr, rfl⟩
  go_wp2
  go_ret
  exact ⟨rfl, rfl⟩
end Go.Proofs.Ytefekafpmnaeoaa
