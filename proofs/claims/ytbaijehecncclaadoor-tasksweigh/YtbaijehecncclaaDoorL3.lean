/- mayJumps, bound. -/
import Derived.Test.YtbaijehecncclaaDoorL1
namespace Go.Proofs.YtbaijehecncclaaDoor
open Go.RowKit
attribute [local go_sem ↓] Go.wp_at_zero Go.wp_at_succ
set_option linter.unusedVariables false
set_option linter.unusedSimpArgs false

def JumpsOk (t : List Ins) (B : List Int) : Prop := ∀ i, i < t.length → ((nth t i).d = 11 ∨ (nth t i).d = 12) → B.getD (nth t i).a.toNat 0 ≤ (i : Int)

set_option maxRecDepth 10000 in
set_option maxHeartbeats 4000000 in
theorem mayJumps_any (o bb : Nat) (t : List Ins) (B : List Int) (w : World) (hO : OvT w o t) (hl : t.length ≤ 100000) (hb : w.cell? ⟨o, 3, none⟩ = some (.slice (some ⟨bb, 0, none⟩) (t.length + 1) (t.length + 1))) (hB : w.heap[bb]? = some (.cells (intsA B) 3)) (hBl : B.length = t.length + 1)
    (hj : ∀ i, i < t.length → ((nth t i).d = 11 ∨ (nth t i).d = 12) → (i : Int) < (nth t i).a ∧ (nth t i).a ≤ t.length) :
    Calls Tryd.prog 30 #[.pointer (some ⟨o, 0, none⟩)] w (BoolOf (JumpsOk t B) w) := by
  obtain ⟨pb, po, tv, h1, h2, ta, tcap, rfl, hT⟩ := hO
  have HT : Hid (t = [] ∨ ∃ b off, ta = some ⟨b, off, none⟩ ∧ ∀ i, i < t.length →
    w.cell? ⟨b, off + i * 4, none⟩ = some (.int .i64 (nth t i).d) ∧ w.cell? ⟨b, off + i * 4 + 1, none⟩ = some (.int .i64 (nth t i).a) ∧
    w.cell? ⟨b, off + i * 4 + 2, none⟩ = some (.int .i64 (nth t i).b) ∧ w.cell? ⟨b, off + i * 4 + 3, none⟩ = some (.int .i64 (nth t i).c)) := hT
  have HJ : Hid (∀ i, i < t.length → ((nth t i).d = 11 ∨ (nth t i).d = 12) → (i : Int) < (nth t i).a ∧ (nth t i).a ≤ t.length) := hj
  have HB : Hid (w.heap[bb]? = some (.cells (intsA B) 3)) := hB
  have HBL : Hid (B.length = t.length + 1) := hBl
  clear hT hj hB hBl
  obtain ⟨n, hn⟩ : ∃ n, t.length = n := ⟨_, rfl⟩
  have HN : Hid (t.length = n) := hn
  rw [hn] at hl h2 hb
  have HO3 : Hid (w.cell? ⟨o, 3, none⟩ = some (.slice (some ⟨bb, 0, none⟩) (n + 1) (n + 1))) := hb
  clear hn hb
  go_enter Tryd.func30, Tryd.ntmps30
  go_wp2
  go_loopg [13] n (fun gk s13 wx => ∃ k : Nat, s13 = .int .i64 k ∧ k ≤ n ∧ gk = n - k ∧ (∀ i, i < k → ((nth t i).d = 11 ∨ (nth t i).d = 12) → B.getD (nth t i).a.toNat 0 ≤ (i : Int)) ∧ w.grownBy wx none)
  case atStart => exact ⟨0, rfl, Nat.zero_le _, by omega, fun i hi => by omega, World.grownBy.refl _ _⟩
  case round =>
    obtain ⟨k, rfl, hk, hgk, hgood, hgr⟩ := hrel
    have HG : Hid (gk = n - k) := hgk
    have HQ : Hid (∀ i, i < k → ((nth t i).d = 11 ∨ (nth t i).d = 12) → B.getD (nth t i).a.toNat 0 ≤ (i : Int)) := hgood
    clear hgk hgood
    by_cases hlt : k < n
    · have hkl : k < t.length := by rw [HN.out]; exact hlt
      rcases HT.out with h | ⟨b', off, rfl, hc⟩
      · subst h; simp at hkl
      obtain ⟨q0, q1, q2, q3⟩ := hc k hkl
      have q0 := hgr.cell q0 (by simp)
      have q1 := hgr.cell q1 (by simp)
      have q2 := hgr.cell q2 (by simp)
      have q3 := hgr.cell q3 (by simp)
      clear hc
      obtain ⟨d, hd⟩ : ∃ d, (nth t k).d = d := ⟨_, rfl⟩
      obtain ⟨a, ha⟩ : ∃ d, (nth t k).a = d := ⟨_, rfl⟩
      generalize (nth t k).b = b at *
      generalize (nth t k).c = c at *
      rw [hd] at q0
      rw [ha] at q1
      have HD : Hid ((nth t k).d = d ∧ (nth t k).a = a) := ⟨hd, ha⟩
      clear hd ha
      have i1 : (0 : Int) ≤ (k : Int) := by omega
      have i2 : (k : Int) < (n : Int) := by omega
      by_cases hjmp : d = 11 ∨ d = 12
      · have hja := HJ.out k hkl (by rw [HD.out.1]; exact hjmp)
        rw [HD.out.2, HN.out] at hja
        obtain ⟨m, hm⟩ := Int.eq_ofNat_of_zero_le (show 0 ≤ a by omega)
        subst hm
        have j1 : (0 : Int) ≤ (m : Int) := by omega
        have j2 : (m : Int) < ((n + 1 : Nat) : Int) := by omega
        have r0 := ints_get HB.out m (by rw [HBL.out, HN.out]; omega)
        have R0 : ∀ ob, (wr.alloc ob).cell? ⟨bb, m, none⟩ = some (.int .i64 (B.getD m 0)) := fun ob => (hgr.trans (gr1 wr ob)).cell r0 (by simp)
        have R3 : ∀ ob, (wr.alloc ob).cell? ⟨o, 3, none⟩ = some (.slice (some ⟨bb, 0, none⟩) (n + 1) (n + 1)) := fun ob => (hgr.trans (gr1 wr ob)).cell HO3.out (by simp)
        have HBM : Hid (B.getD (nth t k).a.toNat 0 = B.getD m 0) := (by rw [HD.out.2]; simp : B.getD (nth t k).a.toNat 0 = B.getD m 0)
        generalize B.getD m 0 = z at *
        clear r0
        by_cases hz : (k : Int) < z
        · have HX : Hid (¬ JumpsOk t B) := fun hr => by
            have := hr k hkl (by rw [HD.out.1]; exact hjmp)
            rw [HBM.out] at this
            omega
          rcases hjmp with rfl | rfl
          · go_wp2
            go_quiet (fail)
            go_wp2
            go_ret
            exact ⟨false, rfl, by simpa using HX.out, gr_drewN (gr_alloc hgr _) _⟩
          · go_wp2
            go_quiet (fail)
            go_wp2
            go_ret
            exact ⟨false, rfl, by simpa using HX.out, gr_drewN (gr_alloc hgr _) _⟩
        · have HK : Hid (∀ i, i < k + 1 → ((nth t i).d = 11 ∨ (nth t i).d = 12) → B.getD (nth t i).a.toNat 0 ≤ (i : Int)) := fun i hi hh => by
            by_cases e : i = k
            · subst e; rw [HBM.out]; omega
            · exact HQ.out i (by omega) hh
          rcases hjmp with rfl | rfl
          · go_wp2
            go_quiet (fail)
            go_wp2
            have hgl := HG.out
            go_roundg (n - (k + 1))
            all_goals first | omega | exact ⟨k + 1, by go_num, by omega, by omega, HK.out, gr_drewN (gr_alloc hgr _) _⟩
          · go_wp2
            go_quiet (fail)
            go_wp2
            have hgl := HG.out
            go_roundg (n - (k + 1))
            all_goals first | omega | exact ⟨k + 1, by go_num, by omega, by omega, HK.out, gr_drewN (gr_alloc hgr _) _⟩
      · have e11 : (d == 11) = false := by simp; omega
        have e12 : (d == 12) = false := by simp; omega
        have HK : Hid (∀ i, i < k + 1 → ((nth t i).d = 11 ∨ (nth t i).d = 12) → B.getD (nth t i).a.toNat 0 ≤ (i : Int)) := fun i hi hh => by
          by_cases e : i = k
          · subst e; rw [HD.out.1] at hh; exact absurd hh hjmp
          · exact HQ.out i (by omega) hh
        go_wp2
        go_quiet (fail)
        go_wp2
        have hgl := HG.out
        go_roundg (n - (k + 1))
        all_goals first | omega | exact ⟨k + 1, by go_num, by omega, by omega, HK.out, gr_drewN (gr_alloc hgr _) _⟩
    · have hk' : ¬ ((k : Int) < (n : Int)) := by omega
      have HX : Hid (JumpsOk t B) := fun i hi hh => HQ.out i (by rw [HN.out] at hi; omega) hh
      go_wp2
      go_ret
      exact ⟨true, rfl, by simpa using HX.out, hgr⟩
end Go.Proofs.YtbaijehecncclaaDoor
