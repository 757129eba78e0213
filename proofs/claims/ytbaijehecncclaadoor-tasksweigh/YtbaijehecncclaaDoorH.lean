/- Weigh, the program's and the document's, and the law. -/
import Derived.Test.YtbaijehecncclaaDoorG4
import Derived.Test.YtbaijehecncclaaDoorG2
namespace Go.Proofs.YtbaijehecncclaaDoor
open Go.RowKit
attribute [local go_sem ↓] Go.wp_at_zero Go.wp_at_succ
set_option linter.unusedVariables false
set_option linter.unusedSimpArgs false

theorem verS_bd (ps : List Pr) : ∀ m k (b : List Int), k + m = ps.length → b.length = k → (∀ x, x ∈ b → 0 ≤ x ∧ x ≤ 1000000000) → ∀ x, x ∈ (verS (Classical.propDecidable, ()) ps m k b).1 → 0 ≤ x ∧ x ≤ 1000000000
  | 0, k, b, _, _, hb, x, hx => hb x (by simpa [verS] using hx)
  | m + 1, k, b, hk, hl, hb, x, hx => by
    simp only [verS] at hx
    split at hx
    · rename_i h0
      refine verS_bd ps m (k + 1) _ (by omega) (by simp; omega) (fun y hy => ?_) x hx
      rcases List.mem_append.1 hy with h | h
      · exact hb y h
      · simp at h
        subst h
        exact lookS_bd hb (by rw [ahd_len ps k (by omega)]; exact hl) h0
    · simp at hx
theorem verR_bd (ps : List Pr) : ∀ x, x ∈ (verR (Classical.propDecidable, ()) ps).1 → 0 ≤ x ∧ x ≤ 1000000000 := by
  intro x hx
  unfold verR at hx
  split at hx
  · simp at hx
  · exact verS_bd ps ps.length 0 [] (by omega) rfl (by simp) x hx
theorem verS_len (ps : List Pr) : ∀ m k (b : List Int), (verS (Classical.propDecidable, ()) ps m k b).1.length ≤ b.length + m
  | 0, k, b => by simp [verS]
  | m + 1, k, b => by
    simp only [verS]
    split
    · have := verS_len ps m (k + 1) (b ++ [(unitS (Classical.propDecidable, ()) ps k b).1])
      simp at this
      omega
    · simp
theorem verR_len (ps : List Pr) : (verR (Classical.propDecidable, ()) ps).1.length ≤ 16 := by
  unfold verR
  split
  · simp
  · have := verS_len ps ps.length 0 []
    simp at this
    omega

def upT (n : Int) : Int := (n + 999) / 1000
def inBd (n lo hi : Int) : Bool := decide (lo ≤ n ∧ n ≤ hi)
/-- What Weigh answers. -/
def weiS (R : List Int × Int × Int) (unit step : Int) : Int × Int :=
  if step < 1 ∨ 1000 < step then (0, 4) else if R.2.1 ≠ 0 then (0, 12) else if unit < 0 ∨ (R.1.length : Int) ≤ unit then (0, 6) else (upT (R.1.getD unit.toNat 0 * step), 0)
theorem tint {a b c d : Int} (h : (c, d) = (a, b)) : Ending.returned (.tuple #[.int .i64 a, .int .i64 b]) = .returned (.tuple #[.int .i64 c, .int .i64 d]) := by injection h with h1 h2; rw [h1, h2]

theorem twithin_any (n lo hi : Int) (w : World) : Calls Tryd.prog 7 #[.int .i64 n, .int .i64 lo, .int .i64 hi] w fun e w' => e = .returned (.bool (inBd n lo hi)) ∧ w = w' := by
  by_cases h1 : lo ≤ n
  · by_cases h2 : n ≤ hi
    · go_enter Tryd.func7, Tryd.ntmps7
      go_wp2
      go_ret
      exact ⟨by simp [inBd, h1, h2], rfl⟩
    · go_enter Tryd.func7, Tryd.ntmps7
      go_wp2
      go_ret
      exact ⟨by simp [inBd, h1, h2], rfl⟩
  · go_enter Tryd.func7, Tryd.ntmps7
    go_wp2
    go_ret
    refine ⟨?_, rfl⟩
    have : inBd n lo hi = false := by unfold inBd; simp; omega
    simp [this]
theorem tdiv_any (n : Int) (w : World) (h0 : 0 ≤ n) (h1 : n ≤ 1000000000000000) : Calls Tryd.prog 9 #[.int .i64 n, .int .i64 1000] w fun e w' => e = .returned (.int .i64 (upT n)) ∧ w = w' := by
  go_enter Tryd.func9, Tryd.ntmps9
  go_wp2
  go_ret
  refine ⟨?_, rfl⟩
  have : (n + 1000 - 1) / 1000 = upT n := by unfold upT; omega
  simp [this]
theorem prodT {b s : Int} (h0 : 0 ≤ b) (h1 : b ≤ 1000000000) (h2 : 1 ≤ s) (h3 : s ≤ 1000) : 0 ≤ b * s ∧ b * s ≤ 1000000000000 := by
  refine ⟨Int.mul_nonneg h0 (by omega), ?_⟩
  have := Int.mul_le_mul h1 h3 (by omega) (by omega : (0 : Int) ≤ 1000000000)
  omega
theorem own_at {B : Nat} {w : World} {v : Value} {l : List Int} (h : OwnV B w v l) : ∃ a cap, v = .slice a l.length cap ∧ (l.length = 0 ∨ ∃ g, a = some ⟨g, 0, none⟩ ∧ ∀ i, i < l.length → w.cell? ⟨g, i, none⟩ = some (.int .i64 (l.getD i 0))) := by
  have h' := h
  obtain ⟨_, ⟨hx, hn⟩ | ⟨g, cap', cur, hv, hb, hc, _⟩⟩ := h
  · exact ⟨none, 0, by rw [hx, hn], .inl hn⟩
  · subst hv
    refine ⟨_, cap', rfl, .inr ⟨g, rfl, fun i hi => ?_⟩⟩
    rw [World.ownsRow.cellAt h' i (by omega)]
    simp [hi]

set_option maxHeartbeats 2000000 in
theorem weigh_any (cv : Value) (ps : List Pr) (unit step : Int) (w : World) (hC : CdP w cv ps) (hS : Stds w) (hl : ps.length ≤ 1000000000000000) :
    Calls Tryd.prog 5 #[.agg #[cv], .int .i64 unit, .int .i64 step] w fun e w' => e = .returned (.tuple #[.int .i64 (weiS (verR (Classical.propDecidable, ()) ps) unit step).1, .int .i64 (weiS (verR (Classical.propDecidable, ()) ps) unit step).2]) ∧ w.grownBy w' none := by
  have cV : ∀ W, w.grownBy W none → Calls Tryd.prog 8 #[.agg #[cv]] W (VerPost W (verR (Classical.propDecidable, ()) ps)) := fun W hW => verify_any cv ps W (hC.grown hW) (hS.grown hW) hl
  have hbd := verR_bd ps
  have hln := verR_len ps
  obtain ⟨ca, cc, rfl, _⟩ := id hC
  generalize verR (Classical.propDecidable, ()) ps = R at *
  obtain ⟨r, c, n⟩ := R
  dsimp only at *
  cases hst : inBd step 1 1000
  · have hst' : step < 1 ∨ 1000 < step := by unfold inBd at hst; simp at hst; omega
    have hw : weiS (r, c, n) unit step = (0, 4) := by unfold weiS; rw [if_pos hst']
    rw [hw]
    go_enter Tryd.func5, Tryd.ntmps5
    go_wp2_with (first | (go_at_call 7; refine (twithin_any _ _ _ _).mono ?_; rintro e w' ⟨rfl, rfl⟩))
    go_ret2
    exact ⟨rfl, gr_alloc (World.grownBy.refl _ _) _⟩
  have hst' : ¬ (step < 1 ∨ 1000 < step) := by unfold inBd at hst; simp at hst; omega
  by_cases hc : c = 0
  · subst hc
    cases hun : inBd unit 0 ((r.length : Int) - 1)
    · have hun' : unit < 0 ∨ (r.length : Int) ≤ unit := by unfold inBd at hun; simp at hun; omega
      have hw : weiS (r, 0, n) unit step = (0, 6) := by unfold weiS; rw [if_neg hst', if_neg (by simp), if_pos hun']
      rw [hw]
      go_enter Tryd.func5, Tryd.ntmps5
      go_wp2_with (first | (go_at_call 7; refine (twithin_any _ _ _ _).mono ?_; rintro e w' ⟨rfl, rfl⟩) | (go_at_call 8; refine (cV _ (gr_alloc (World.grownBy.refl _ _) _)).mono ?_; rintro e w1 ⟨v1, rfl, ho1, hg1⟩; obtain ⟨a1, cp1, rfl, hc1⟩ := own_at ho1; dsimp only))
      go_ret2
      exact ⟨rfl, grown_join (gr_alloc (World.grownBy.refl _ _) _) (gr_alloc hg1 _) (.inl rfl)⟩
    · have hun' : ¬ (unit < 0 ∨ (r.length : Int) ≤ unit) := by unfold inBd at hun; simp at hun; omega
      obtain ⟨k, rfl⟩ := Int.eq_ofNat_of_zero_le (by omega : 0 ≤ unit)
      have hkl : k < r.length := by omega
      have hw : weiS (r, 0, n) k step = (upT (r.getD k 0 * step), 0) := by unfold weiS; rw [if_neg hst', if_neg (by simp), if_neg hun']; simp
      rw [hw]
      have hx := hbd (r.getD k 0) (by rw [show r.getD k 0 = r[k] by simp [List.getD, hkl]]; exact List.getElem_mem hkl)
      have hp := prodT (s := step) hx.1 hx.2 (by omega) (by omega)
      clear hbd hw
      generalize hz : r.getD k 0 = z at *
      have HZ : Hid (r.getD k 0 = z) := hz
      clear hz
      have i1 : (0 : Int) ≤ (k : Int) := by omega
      have i2 : (k : Int) < (r.length : Int) := by omega
      go_enter Tryd.func5, Tryd.ntmps5
      go_wp2_with (first | (go_at_call 7; refine (twithin_any _ _ _ _).mono ?_; rintro e w' ⟨rfl, rfl⟩))
      refine (cV _ (gr_alloc (World.grownBy.refl _ _) _)).mono ?_
      rintro e w1 ⟨v1, rfl, ho1, hg1⟩
      obtain ⟨a1, cp1, rfl, hc1 | ⟨g, rfl, hc1⟩⟩ := own_at ho1
      · exfalso; dsimp only at hc1; omega
      have hcz := hc1 k hkl
      dsimp only at hcz
      rw [HZ.out] at hcz
      clear hc1
      have hcz' : ∀ o, (w1.alloc o).cell? ⟨g, k, none⟩ = some (.int .i64 z) := (fun o => (gr_alloc (World.grownBy.refl w1 none) o).cell hcz (by simp))
      dsimp only
      go_wp2_with (first | (go_at_call 7; refine (twithin_any _ _ _ _).mono ?_; rintro e w' ⟨rfl, rfl⟩) | (go_at_call 9; refine (tdiv_any _ _ (by omega) (by omega)).mono ?_; rintro e w' ⟨rfl, rfl⟩))
      go_ret2
      exact ⟨rfl, grown_join (gr_alloc (World.grownBy.refl _ _) _) (gr_alloc hg1 _) (.inl rfl)⟩
  · have hw : weiS (r, c, n) unit step = (0, 12) := by unfold weiS; rw [if_neg hst', if_pos hc]
    rw [hw]
    have hcb : (c != 0) = true := by simp [hc]
    go_enter Tryd.func5, Tryd.ntmps5
    go_wp2_with (first | (go_at_call 7; refine (twithin_any _ _ _ _).mono ?_; rintro e w' ⟨rfl, rfl⟩) | (go_at_call 8; refine (cV _ (gr_alloc (World.grownBy.refl _ _) _)).mono ?_; rintro e w1 ⟨v1, rfl, ho1, hg1⟩; obtain ⟨a1, cp1, rfl, hc1⟩ := own_at ho1; dsimp only))
    go_ret2
    exact ⟨rfl, grown_join (gr_alloc (World.grownBy.refl _ _) _) (gr_alloc hg1 _) (.inl rfl)⟩

set_option maxHeartbeats 2000000 in
theorem rweigh_any (cv : Value) (ps : List Pr) (unit step : Int) (w : World) (hC : CdP w cv ps) (hl : ps.length ≤ 1000000000000000) :
    Calls Tryd.prog 4 #[.agg #[cv], .int .i64 unit, .int .i64 step] w fun e w' => e = .returned (.tuple #[.int .i64 (weiS (verR (Classical.propDecidable, ()) ps) unit step).1, .int .i64 (weiS (verR (Classical.propDecidable, ()) ps) unit step).2]) ∧ w.grownBy w' none := by
  have cV : ∀ W, w.grownBy W none → Calls Tryd.prog 6 #[.agg #[cv]] W (VerPost W (verR (Classical.propDecidable, ()) ps)) := fun W hW => rverify_any rstack_any cv ps W (hC.grown hW) hl
  have hbd := verR_bd ps
  have hln := verR_len ps
  obtain ⟨ca, cc, rfl, _⟩ := id hC
  generalize verR (Classical.propDecidable, ()) ps = R at *
  obtain ⟨r, c, n⟩ := R
  dsimp only at *
  by_cases hst : step < 1 ∨ 1000 < step
  · have hw : weiS (r, c, n) unit step = (0, 4) := by unfold weiS; rw [if_pos hst]
    rw [hw]
    rcases hst with h1 | h1
    all_goals
      go_enter Tryd.func4, Tryd.ntmps4
      go_wp2
      go_ret2
      exact ⟨rfl, gr_alloc (World.grownBy.refl _ _) _⟩
  have hs1 : ¬ step < 1 := by omega
  have hs2 : ¬ 1000 < step := by omega
  by_cases hc : c = 0
  · subst hc
    by_cases hun : unit < 0 ∨ (r.length : Int) ≤ unit
    · have hw : weiS (r, 0, n) unit step = (0, 6) := by unfold weiS; rw [if_neg hst, if_neg (by simp), if_pos hun]
      rw [hw]
      rcases hun with h1 | h1
      all_goals
        go_enter Tryd.func4, Tryd.ntmps4
        go_wp2_with fail
        refine (cV _ (gr_alloc (World.grownBy.refl _ _) _)).mono ?_
        rintro e w1 ⟨v1, rfl, ho1, hg1⟩
        obtain ⟨a1, cp1, rfl, hc1⟩ := own_at ho1
        dsimp only
        go_wp2
        go_ret2
        exact ⟨rfl, grown_join (gr_alloc (World.grownBy.refl _ _) _) (gr_alloc hg1 _) (.inl rfl)⟩
    · obtain ⟨k, rfl⟩ := Int.eq_ofNat_of_zero_le (by omega : 0 ≤ unit)
      have hkl : k < r.length := by omega
      have hw : weiS (r, 0, n) k step = (upT (r.getD k 0 * step), 0) := by unfold weiS; rw [if_neg hst, if_neg (by simp), if_neg hun]; simp
      rw [hw]
      have hx := hbd (r.getD k 0) (by rw [show r.getD k 0 = r[k] by simp [List.getD, hkl]]; exact List.getElem_mem hkl)
      have hp := prodT (s := step) hx.1 hx.2 (by omega) (by omega)
      clear hbd hw
      generalize hz : r.getD k 0 = z at *
      have HZ : Hid (r.getD k 0 = z) := hz
      clear hz
      have i1 : (0 : Int) ≤ (k : Int) := by omega
      have i2 : (k : Int) < (r.length : Int) := by omega
      have i3 : ¬ (k : Int) < 0 := by omega
      have i4 : ¬ (r.length : Int) ≤ (k : Int) := by omega
      have hup : upT (z * step) = if 0 < z * step % 1000 then z * step / 1000 + 1 else z * step / 1000 := by unfold upT; split <;> omega
      have HUP : Hid (upT (z * step) = if 0 < z * step % 1000 then z * step / 1000 + 1 else z * step / 1000) := hup
      clear hup
      by_cases hm : 0 < z * step % 1000
      all_goals
        go_enter Tryd.func4, Tryd.ntmps4
        go_wp2_with fail
        refine (cV _ (gr_alloc (World.grownBy.refl _ _) _)).mono ?_
        rintro e w1 ⟨v1, rfl, ho1, hg1⟩
        obtain ⟨a1, cp1, rfl, hc1 | ⟨g, rfl, hc1⟩⟩ := own_at ho1
        · exfalso; dsimp only at hc1; omega
        have hcz := hc1 k hkl
        dsimp only at hcz
        rw [HZ.out] at hcz
        clear hc1
        have hcz' : ∀ o, (w1.alloc o).cell? ⟨g, k, none⟩ = some (.int .i64 z) := (fun o => (gr_alloc (World.grownBy.refl w1 none) o).cell hcz (by simp))
        dsimp only
        go_wp2
        go_ret2
        refine ⟨?_, grown_join (gr_alloc (World.grownBy.refl _ _) _) (gr_alloc hg1 _) (.inl rfl)⟩
        rw [HUP.out]
        first | rw [if_pos hm] | rw [if_neg (Int.not_lt.2 hm)]
        simp
  · have hw : weiS (r, c, n) unit step = (0, 12) := by unfold weiS; rw [if_neg hst, if_pos hc]
    rw [hw]
    have hcb : (c != 0) = true := by simp [hc]
    go_enter Tryd.func4, Tryd.ntmps4
    go_wp2_with fail
    refine (cV _ (gr_alloc (World.grownBy.refl _ _) _)).mono ?_
    rintro e w1 ⟨v1, rfl, ho1, hg1⟩
    obtain ⟨a1, cp1, rfl, hc1⟩ := own_at ho1
    dsimp only
    go_wp2
    go_ret2
    exact ⟨rfl, grown_join (gr_alloc (World.grownBy.refl _ _) _) (gr_alloc hg1 _) (.inl rfl)⟩

set_option maxHeartbeats 2000000 in
theorem law_any (cv : Value) (ps : List Pr) (unit step : Int) (w : World) (hC : CdP w cv ps) (hS : Stds w) (hl : ps.length ≤ 1000000000000000) :
    Calls Tryd.prog 3 #[.agg #[cv], .int .i64 unit, .int .i64 step] w fun e w' => e = .returned (.bool true) ∧ w.grownBy w' none := by
  have cR : ∀ W, w.grownBy W none → Calls Tryd.prog 4 #[.agg #[cv], .int .i64 unit, .int .i64 step] W _ := fun W hW => rweigh_any cv ps unit step W (hC.grown hW) hl
  have cW : ∀ W, w.grownBy W none → Calls Tryd.prog 5 #[.agg #[cv], .int .i64 unit, .int .i64 step] W _ := fun W hW => weigh_any cv ps unit step W (hC.grown hW) (hS.grown hW) hl
  obtain ⟨ca, cc, rfl, _⟩ := id hC
  generalize (weiS (verR (Classical.propDecidable, ()) ps) unit step).1 = x at *
  generalize (weiS (verR (Classical.propDecidable, ()) ps) unit step).2 = y at *
  go_enter Tryd.func3, Tryd.ntmps3
  go_wp2_with fail
  refine (cR _ (gr_alloc (World.grownBy.refl _ _) _)).mono ?_
  rintro e w1 ⟨rfl, hg1⟩
  have hc := hg1.cell (at_cell (heap_alloc_new w (.cells #[.slice ca ps.length cc] 24)) 0) (by simp)
  have hc' : w1.cell? ⟨w.heap.size, 0, none⟩ = some (.slice ca ps.length cc) := hc
  clear hc
  have hg1' := grown_join (gr_alloc (World.grownBy.refl w none) _) hg1 (.inl rfl)
  dsimp only
  go_wp2_with fail
  refine (cW _ hg1').mono ?_
  rintro e w2 ⟨rfl, hg2⟩
  dsimp only
  go_wp2
  go_ret
  exact ⟨by simp, grown_join hg1' hg2 (.inl rfl)⟩
end Go.Proofs.YtbaijehecncclaaDoor
