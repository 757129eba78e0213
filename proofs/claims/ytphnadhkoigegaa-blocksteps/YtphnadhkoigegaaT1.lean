/- The document's taken. -/
import Derived.Test.YtphnadhkoigegaaS1
namespace Go.Proofs.Ytphnadhkoigegaa
open Go.RowKit
attribute [local go_sem ↓] Go.wp_at_zero Go.wp_at_succ
set_option linter.unusedVariables false
set_option linter.unusedSimpArgs false

theorem rwrap_keep (k n : Int) (w : World) : Calls Try.prog 22 #[.int .i64 k, .int .i64 n] w fun e w' => e = .returned (.int .i64 (wrapK k n)) ∧ w = w' := (rwrap_any k n w).mono fun _ _ h => ⟨h.1, h.2.symm⟩

theorem ck_set {W : World} {b i j p : Nat} {v x : Value} (hne : b ≠ p) (h : W.cell? ⟨b, j, none⟩ = some v) : (W.setCell ⟨p, i, none⟩ x).cell? ⟨b, j, none⟩ = some v := by
  rw [← h]
  exact World.cell?_of_block (Below.heap_setCell _ _ _ _ (by simpa using hne))

def MakesN (n : Nat) : Prop := ∀ w : World, (Instr.makeSlice 31 (.int .i64 n) (.int .i64 n)).run Try.prog w = .ok (.slice (some ⟨w.heap.size, 0, none⟩) n n) (w.alloc (.cells (intsA (List.replicate n 0)) 3))
theorem makesN {n : Nat} (h : n = 1 ∨ n = 2 ∨ n = 3 ∨ n = 4 ∨ n = 5) : MakesN n := by
  rcases h with rfl | rfl | rfl | rfl | rfl
  · exact make1
  · exact make2
  · exact make3
  · exact make4
  · exact make5

theorem intsA_set (l : List Int) (k : Nat) (x : Int) : (intsA l).setIfInBounds k (.int .i64 x) = intsA (l.set k x) := by
  unfold intsA
  simp [List.map_set]

set_option maxHeartbeats 2000000 in
theorem taken_yes (I : List (ByteArray × Int)) (hI : I.length = 1 ∨ I.length = 2 ∨ I.length = 3 ∨ I.length = 4 ∨ I.length = 5) (g b off cap : Nat) (l : List Int) (w : World) (hg : w.heap[g]? = some (.cells (pinArr I) 49)) (hl : l.length = I.length)
    (hc : ∀ i, i < l.length → w.cell? ⟨b, off + i, none⟩ = some (.int .i64 (l.getD i 0))) :
    Calls Try.prog 21 #[.slice (some ⟨b, off, none⟩) l.length cap, .slice (some ⟨g, 0, none⟩) I.length I.length] w (WrapPost I.length (wrapL (kindsOf I) l) w) := by
  have HG : Hid (w.heap[g]? = some (.cells (pinArr I) 49)) := hg
  have HC : Hid (∀ i, i < l.length → w.cell? ⟨b, off + i, none⟩ = some (.int .i64 (l.getD i 0))) := hc
  have hmk := makesN hI
  unfold MakesN at hmk
  have n1 : g ≠ w.heap.size := by have := at_lt hg; omega
  have n2 : b ≠ w.heap.size := by have := World.block_lt_of_cell? w _ (hc 0 (by omega)); simp at this; omega
  obtain ⟨n, hn⟩ : ∃ n, I.length = n := ⟨_, rfl⟩
  have HN : Hid (I.length = n) := hn
  have HL : Hid (l.length = n) := hl.trans hn
  rw [hl, hn]
  rw [hn] at hmk hI
  clear hg hc hl hn
  go_enter Try.func21, Try.ntmps21
  go_wp2
  go_loopg [6] n (fun gk s6 wx => ∃ (k : Nat) (ar : List Int), s6 = .int .i64 k ∧ k ≤ n ∧ gk = n - k ∧ wx.heap[w.heap.size]? = some (.cells (intsA ar) 3) ∧ ar.length = n ∧ (∀ i, i < k → ar.getD i 0 = wrapK ((kindsOf I).getD i 0) (l.getD i 0)) ∧ w.grownBy wx none)
  case atStart => exact ⟨0, _, rfl, Nat.zero_le _, by omega, heap_alloc_new _ _, by simp, by omega, gr_alloc (World.grownBy.refl _ _) _⟩
  case round =>
    obtain ⟨k, ar, rfl, hk, hgk, har, hal, hat, hgr⟩ := hrel
    have HGK : Hid (gk = n - k) := hgk
    have HA : Hid (wr.heap[w.heap.size]? = some (.cells (intsA ar) 3)) := har
    have HT : Hid (∀ i, i < k → ar.getD i 0 = wrapK ((kindsOf I).getD i 0) (l.getD i 0)) := hat
    clear hgk hat
    by_cases hlt : k < n
    · have hkI : k < I.length := by rw [HN.out]; exact hlt
      have hkl : k < l.length := by rw [HL.out]; exact hlt
      have q0 := (pin_at (kept hgr HG.out) k hkI).2
      have q1 := hgr.cell (HC.out k hkl) (by simp)
      have hkk : (kindsOf I).getD k 0 = (I[k]).2 := by simp [kindsOf, hkI]
      obtain ⟨kk, hkk'⟩ : ∃ z, (I[k]).2 = z := ⟨_, rfl⟩
      obtain ⟨x, hx⟩ : ∃ z, l.getD k 0 = z := ⟨_, rfl⟩
      rw [hkk'] at q0
      rw [hx] at q1
      have HK : Hid ((kindsOf I).getD k 0 = kk) := hkk.trans hkk'
      have HX : Hid (l.getD k 0 = x) := hx
      clear hkk hkk' hx
      have q2 : wr.cell? ⟨w.heap.size, k, none⟩ = some (.int .i64 (ar.getD k 0)) := by rw [at_cell har]; simp [intsA, show k < ar.length by omega]
      have f2 := at_frozen har k
      clear har
      have i1 : (0 : Int) ≤ (k : Int) := by omega
      have i2 : (k : Int) < (n : Int) := by omega
      go_wp2
      go_region_held3 (fun w' => w'.cell? ⟨g, k * 2 + 1, none⟩ = some (.int .i64 kk) ∧ w'.cell? ⟨b, off + k, none⟩ = some (.int .i64 x)) (refine ⟨?_, ?_⟩ <;> (repeat (first | assumption | with_reducible refine ck_drew ?_ | with_reducible refine ck_set (by assumption) ?_))) (first | (go_at_call 22; refine (rwrap_keep _ _ _).mono ?_; rintro e w' ⟨rfl, rfl⟩))
      go_wp2
      have hgl := HGK.out
      go_roundg (n - (k + 1))
      all_goals first | omega | (refine ⟨k + 1, ar.set k (wrapK kk x), by go_num, by omega, by omega, ?_, by simp [hal], ?_, ?_⟩)
      · rw [hp_drew, at_set HA.out, intsA_set]
      · intro i hi
        by_cases e : i = k
        · subst e
          rw [HK.out, HX.out]
          simp [hal, hlt]
        · have := HT.out i (by omega)
          rw [← this]
          simp [List.getD, List.getElem?_set, show ¬ k = i by omega]
      · exact gr_drew (gr_own hgr (Nat.le_refl _) _ _)
    · have hk' : ¬ ((k : Int) < (n : Int)) := by omega
      have hkn : k = n := by omega
      go_wp2
      go_ret
      refine ⟨rfl, ?_, hgr⟩
      rw [HA.out]
      have e : ar = wrapL (kindsOf I) l := by
        have e1 : (kindsOf I).length = n := by simp [kindsOf]; exact HN.out
        unfold wrapL
        rw [if_pos (by rw [e1]; exact HL.out)]
        refine List.ext_getElem (by simp [e1, HL.out, hal]) fun i h1 h2 => ?_
        have := HT.out i (by omega)
        have h3 : i < (kindsOf I).length := by rw [e1]; omega
        have h4 : i < l.length := by rw [HL.out]; omega
        simp [h1, h3, h4] at this
        simpa using this
      rw [e]

set_option maxHeartbeats 2000000 in
theorem taken_no (I : List (ByteArray × Int)) (hI : I.length = 1 ∨ I.length = 2 ∨ I.length = 3 ∨ I.length = 4 ∨ I.length = 5) (a : Option Addr) (g len cap : Nat) (w : World) (hl : len ≠ I.length) :
    Calls Try.prog 21 #[.slice a len cap, .slice (some ⟨g, 0, none⟩) I.length I.length] w (WrapPost I.length (List.replicate I.length 0) w) := by
  have hmk := makesN hI
  unfold MakesN at hmk
  obtain ⟨n, hn⟩ : ∃ n, I.length = n := ⟨_, rfl⟩
  rw [hn] at hmk hI hl ⊢
  clear hn
  have hl' : ((len : Int) == (n : Int)) = false := by simp; omega
  go_enter Try.func21, Try.ntmps21
  go_wp2
  go_loopg [6] n (fun gk s6 wx => ∃ (k : Nat), s6 = .int .i64 k ∧ k ≤ n ∧ gk = n - k ∧ wx.heap[w.heap.size]? = some (.cells (intsA (List.replicate n 0)) 3) ∧ w.grownBy wx none)
  case atStart => exact ⟨0, rfl, Nat.zero_le _, by omega, heap_alloc_new _ _, gr_alloc (World.grownBy.refl _ _) _⟩
  case round =>
    obtain ⟨k, rfl, hk, hgk, har, hgr⟩ := hrel
    have HGK : Hid (gk = n - k) := hgk
    clear hgk
    by_cases hlt : k < n
    · have i2 : (k : Int) < (n : Int) := by omega
      go_wp2
      have hgl := HGK.out
      go_roundg (n - (k + 1))
      all_goals first | omega | exact ⟨k + 1, by go_num, by omega, by omega, har, hgr⟩
    · have hk' : ¬ ((k : Int) < (n : Int)) := by omega
      go_wp2
      go_ret
      exact ⟨rfl, har, hgr⟩

/-- taken is what wrapped is. -/
theorem taken_all (I : List (ByteArray × Int)) (hI : I.length = 1 ∨ I.length = 2 ∨ I.length = 3 ∨ I.length = 4 ∨ I.length = 5) (g : Nat) (v : Value) (l : List Int) (w : World) (hg : w.heap[g]? = some (.cells (pinArr I) 49)) (hr : rd w v l) :
    Calls Try.prog 21 #[v, .slice (some ⟨g, 0, none⟩) I.length I.length] w (WrapPost I.length (wrapL (kindsOf I) l) w) := by
  by_cases hl : l.length = I.length
  · obtain ⟨b, off, cap, rfl, hc⟩ := rd_at hr (by omega)
    exact taken_yes I hI g b off cap l w hg hl hc
  · obtain ⟨a, cap, rfl, _⟩ := hr
    have e : (kindsOf I).length = I.length := by simp [kindsOf]
    rw [wrapL_no (by rw [e]; exact hl), e]
    exact taken_no I hI a g l.length cap w hl
end Go.Proofs.Ytphnadhkoigegaa
