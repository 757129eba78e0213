/- mayRounds. -/
import Derived.Test.YtbaijehecncclaaDoorA4
namespace Go.Proofs.YtbaijehecncclaaDoor
open Go.RowKit
attribute [local go_sem ↓] Go.wp_at_zero Go.wp_at_succ
set_option linter.unusedVariables false
set_option linter.unusedSimpArgs false

def cntL (t : List Ins) (k : Nat) : List Int := (List.range t.length).map (fun f => (cnt t k (f + 1) : Int))
theorem cntL_len (t : List Ins) (k : Nat) : (cntL t k).length = t.length := by simp [cntL]
theorem cntL_get (t : List Ins) (k f : Nat) (hf : f < t.length) : (cntL t k).getD f 0 = (cnt t k (f + 1) : Int) := by simp [cntL, hf]
theorem cntL_zero (t : List Ins) : cntL t 0 = List.replicate t.length 0 := by
  apply List.ext_getElem
  · simp [cntL]
  · intro i h1 h2
    simp [cntL, cnt]
theorem cntL_skip (t : List Ins) (k : Nat) (hk : k < t.length) (h : isR t k = false) : cntL t (k + 1) = cntL t k := by
  unfold cntL
  apply List.map_congr_left
  intro f _
  rw [cnt_succ t k (f + 1) hk, if_neg]
  · simp
  · intro hg
    rw [(goes_at.1 hg).1] at h
    simp at h
theorem cntL_hit (t : List Ins) (k f : Nat) (hk : k < t.length) (h : isR t k = true) (hb : (nth t k).b = ((f + 1 : Nat) : Int)) : cntL t (k + 1) = (cntL t k).set f ((cnt t k (f + 1) : Int) + 1) := by
  apply List.ext_getElem
  · simp [cntL]
  · intro i h1 h2
    have hi : i < t.length := by simpa [cntL] using h1
    rw [List.getElem_set]
    simp only [cntL, List.getElem_map, List.getElem_range]
    rw [cnt_succ t k (i + 1) hk]
    by_cases e : f = i
    · subst e
      rw [if_pos rfl, if_pos (goes_at.2 ⟨h, hb⟩)]
      simp
    · rw [if_neg e, if_neg]
      · simp
      · intro hg
        have := (goes_at.1 hg).2
        rw [hb] at this
        omega
theorem cnt_le (t : List Ins) (k f : Nat) : cnt t k f ≤ t.length := by
  unfold cnt
  have := List.countP_le_length (p := goes f) (l := t.take k)
  simp at this
  omega

/-- A unit's text, as the one has it who looks it over. -/
def OvT (w : World) (o : Nat) (t : List Ins) : Prop :=
  ∃ pb po tv, w.cell? ⟨o, 2, none⟩ = some (.pointer (some ⟨pb, po, none⟩)) ∧ w.cell? ⟨pb, po + 4, none⟩ = some tv ∧ TxtAt w tv t
theorem OvT.grown {w w' : World} {o : Nat} {t : List Ins} (h : OvT w o t) (hg : w.grownBy w' none) : OvT w' o t := by
  obtain ⟨pb, po, tv, h1, h2, h3⟩ := h
  exact ⟨pb, po, tv, hg.cell h1 (by simp), hg.cell h2 (by simp), h3.grown hg⟩

theorem made_ints (n : Nat) : madeCells (Value.int .i64 0).cells n = intsA (List.replicate n 0) := by
  have e : (Value.int .i64 0).cells = #[Value.int .i64 0] := rfl
  rw [e]
  unfold madeCells intsA
  apply Array.ext
  · simp
  · intro i h1 h2
    simp [Nat.mod_one]
theorem make_ints (n : Nat) (hn : n ≤ 1000000000000) (w : World) : (Instr.makeSlice 29 (.int .i64 (n : Int)) (.int .i64 (n : Int))).run Tryd.prog w = .ok (.slice (some ⟨w.heap.size, 0, none⟩) n n) (w.alloc (.cells (intsA (List.replicate n 0)) 3)) := by
  obtain ⟨i0, hi, hz0, hz1, hz2⟩ := info_parts info3
  have h := run_make (P := Tryd.prog) w 29 3 i0 (.int .i64 0) Tryd.underlying29 hi hz0 .i64 .i64 (n : Int) (n : Int) (by omega) (by omega) (by rw [hz2]; simp; omega) (by omega)
  rw [hz1, made_ints] at h
  simpa using h
theorem ints_get {w : World} {c : Nat} {l : List Int} (h : w.heap[c]? = some (.cells (intsA l) 3)) (i : Nat) (hi : i < l.length) : w.cell? ⟨c, i, none⟩ = some (.int .i64 (l.getD i 0)) := by
  rw [at_cell h]
  simp [intsA, hi]

def goodR (t : List Ins) (i : Nat) : Prop := isR t i = true → 1 ≤ (nth t i).b ∧ (nth t i).b ≤ i ∧ isE t ((nth t i).b - 1).toNat = true ∧ (nth t ((nth t i).b - 1).toNat).a = (nth t i).a

def BoolOf (p : Prop) (w : World) (e : Ending) (w' : World) : Prop := ∃ r : Bool, e = .returned (.bool r) ∧ (r = true ↔ p) ∧ w.grownBy w' none

set_option maxRecDepth 10000 in
set_option maxHeartbeats 4000000 in
theorem mayRounds_any (o : Nat) (t : List Ins) (w : World) (hO : OvT w o t) (hl : t.length ≤ 100000) :
    Calls Tryd.prog 36 #[.pointer (some ⟨o, 0, none⟩)] w (BoolOf (RdOk t) w) := by
  obtain ⟨pb, po, tv, h1, h2, ta, tcap, rfl, hT⟩ := hO
  have HT : Hid (t = [] ∨ ∃ b off, ta = some ⟨b, off, none⟩ ∧ ∀ i, i < t.length →
    w.cell? ⟨b, off + i * 4, none⟩ = some (.int .i64 (nth t i).d) ∧ w.cell? ⟨b, off + i * 4 + 1, none⟩ = some (.int .i64 (nth t i).a) ∧
    w.cell? ⟨b, off + i * 4 + 2, none⟩ = some (.int .i64 (nth t i).b) ∧ w.cell? ⟨b, off + i * 4 + 3, none⟩ = some (.int .i64 (nth t i).c)) := hT
  clear hT
  obtain ⟨n, hn⟩ : ∃ n, t.length = n := ⟨_, rfl⟩
  have HN : Hid (t.length = n) := hn
  rw [hn] at hl h2
  have hmk := make_ints n (by omega)
  clear hn
  go_enter Tryd.func36, Tryd.ntmps36
  go_wp2
  clear hmk
  go_loopg [21] n (fun gk s21 wx => ∃ k : Nat, s21 = .int .i64 k ∧ k ≤ n ∧ gk = n - k ∧ wx.heap[w.heap.size]? = some (.cells (intsA (cntL t k)) 3) ∧ (∀ i, i < k → goodR t i) ∧ w.grownBy wx none)
  case atStart => exact ⟨0, rfl, Nat.zero_le _, by omega, by rw [cntL_zero, HN.out]; exact heap_alloc_new _ _, fun i hi => by omega, gr1 _ _⟩
  case round =>
    obtain ⟨k, rfl, hk, hgk, har, hgood, hgr⟩ := hrel
    have HG : Hid (gk = n - k) := hgk
    have HA : Hid (wr.heap[w.heap.size]? = some (.cells (intsA (cntL t k)) 3)) := har
    have HQ : Hid (∀ i, i < k → goodR t i) := hgood
    clear hgk har hgood
    by_cases hlt : k < n
    · have hkl : k < t.length := by rw [HN.out]; exact hlt
      rcases HT.out with h | ⟨b', off, rfl, hc⟩
      · subst h; simp at hkl
      obtain ⟨q0, q1, q2, q3⟩ := hc k hkl
      have q0 := hgr.cell q0 (by simp)
      have q1 := hgr.cell q1 (by simp)
      have q2 := hgr.cell q2 (by simp)
      have q3 := hgr.cell q3 (by simp)
      have HC : Hid (∀ i, i < t.length → wr.cell? ⟨b', off + i * 4, none⟩ = some (.int .i64 (nth t i).d) ∧ wr.cell? ⟨b', off + i * 4 + 1, none⟩ = some (.int .i64 (nth t i).a)) := fun i hi => ⟨hgr.cell (hc i hi).1 (by simp), hgr.cell (hc i hi).2.1 (by simp)⟩
      clear hc
      obtain ⟨d, hd⟩ : ∃ d, (nth t k).d = d := ⟨_, rfl⟩
      obtain ⟨a, ha⟩ : ∃ d, (nth t k).a = d := ⟨_, rfl⟩
      obtain ⟨b, hb⟩ : ∃ d, (nth t k).b = d := ⟨_, rfl⟩
      obtain ⟨c, hc⟩ : ∃ d, (nth t k).c = d := ⟨_, rfl⟩
      rw [hd] at q0
      rw [ha] at q1
      rw [hb] at q2
      rw [hc] at q3
      have HD : Hid ((nth t k).d = d ∧ (nth t k).a = a ∧ (nth t k).b = b) := ⟨hd, ha, hb⟩
      clear hd ha hb hc
      have i1 : (0 : Int) ≤ (k : Int) := by omega
      have i2 : (k : Int) < (n : Int) := by omega
      by_cases h14 : d = 14
      · subst h14
        have hR : isR t k = true := by simp [isR, HD.out.1]
        by_cases hw : isW b 1 (k : Int) = true
        · have hw2 : 1 ≤ b ∧ b ≤ (k : Int) := by simpa [isW] using hw
          obtain ⟨f, hf⟩ : ∃ f : Nat, b = (f : Int) + 1 := ⟨(b - 1).toNat, by omega⟩
          subst hf
          obtain ⟨u0, u1⟩ := HC.out f (by omega)
          obtain ⟨df, hdf⟩ : ∃ d, (nth t f).d = d := ⟨_, rfl⟩
          obtain ⟨af, haf⟩ : ∃ d, (nth t f).a = d := ⟨_, rfl⟩
          rw [hdf] at u0
          rw [haf] at u1
          have U0 : ∀ ob, (wr.alloc ob).cell? ⟨b', off + f * 4, none⟩ = some (.int .i64 df) := fun ob => (gr1 wr ob).cell u0 (by simp)
          have U1 : ∀ ob, (wr.alloc ob).cell? ⟨b', off + f * 4 + 1, none⟩ = some (.int .i64 af) := fun ob => (gr1 wr ob).cell u1 (by simp)
          clear u0 u1
          have HF : Hid ((nth t f).d = df ∧ (nth t f).a = af) := ⟨hdf, haf⟩
          have HFN : Hid (((nth t k).b - 1).toNat = f) := (by rw [HD.out.2.2]; omega : ((nth t k).b - 1).toNat = f)
          clear hdf haf
          have j1 : (0 : Int) ≤ (f : Int) := by omega
          have j2 : (f : Int) < (n : Int) := by omega
          have j3 : wrap64 ((f : Int) + 1 - 1) = (f : Int) := by unfold wrap64; omega
          have j4 : IntKind.i64.wrap ((f : Int) + 1 - 1) = (f : Int) := by rw [IntWalk.i64_left]; exact j3
          by_cases h13 : df = 13
          · subst h13
            by_cases haa : af = a
            · subst haa
              have r0 := ints_get HA.out f (by rw [cntL_len]; omega)
              rw [cntL_get t k f (by omega)] at r0
              have rf : ∀ ob, (wr.alloc ob).frozen? ⟨w.heap.size, f, none⟩ = false := fun ob => at_frozen ((hp_old (at_lt HA.out) ob).trans HA.out) f
              have hcl := cnt_le t k (f + 1)
              generalize hcn : cnt t k (f + 1) = m at *
              have R0 : ∀ ob, (wr.alloc ob).cell? ⟨w.heap.size, f, none⟩ = some (.int .i64 m) := fun ob => (gr1 wr ob).cell r0 (by simp)
              clear r0
              have j5 : wrap64 ((m : Int) + 1) = (m : Int) + 1 := by unfold wrap64; rw [HN.out] at hcl; omega
              have hlw := at_lt HA.out
              go_wp2
              go_quiet (first | (go_at_call 42; exact Calls.quiet_of_same ((within_any _ _ _ _).mono fun _ _ h => ⟨h.1.trans (ret_bool hw), h.2.symm⟩)))
              go_wp2
              have hgl := HG.out
              go_roundg (n - (k + 1))
              all_goals first | omega | (refine ⟨k + 1, by go_num, by omega, by omega, ?_, ?_, ?_⟩)
              · rw [cntL_hit t k f hkl hR (by rw [HD.out.2.2]; simp), hcn, ← intsA_set]
                exact at_set ((hp_old (at_lt HA.out) _).trans HA.out) _ _
              · intro i hi
                by_cases e : i = k
                · subst e
                  intro _
                  rw [HFN.out, HD.out.2.2, HD.out.2.1, HF.out.2]
                  exact ⟨by omega, by omega, by simp [isE, HF.out.1], rfl⟩
                · exact HQ.out i (by omega)
              · exact gr_own (gr_drewN (gr_alloc hgr _) _) (Nat.le_refl _) _ _
            · have eaa : (af == a) = false := by simpa using haa
              have HX : Hid (¬ RdOk t) := fun hr => by
                have := (hr.rounds k hR).2.2.2
                rw [HFN.out, HF.out.2, HD.out.2.1] at this
                exact haa this
              go_wp2
              go_quiet (first | (go_at_call 42; exact Calls.quiet_of_same ((within_any _ _ _ _).mono fun _ _ h => ⟨h.1.trans (ret_bool hw), h.2.symm⟩)))
              go_wp2
              go_ret
              exact ⟨false, rfl, by simpa using HX.out, gr_drewN (gr_alloc hgr _) _⟩
          · have e13 : (df == 13) = false := by simpa using h13
            have e13b : (df != 13) = true := by simpa using h13
            have e13c : (!(df == 13)) = true := by rw [e13]; rfl
            have e13d : decide (df = 13) = false := by simpa using h13
            have HX : Hid (¬ RdOk t) := fun hr => by
              have := (hr.rounds k hR).2.2.1
              rw [HFN.out] at this
              simp [isE, HF.out.1] at this
              exact h13 this
            go_wp2
            go_quiet (first | (go_at_call 42; exact Calls.quiet_of_same ((within_any _ _ _ _).mono fun _ _ h => ⟨h.1.trans (ret_bool hw), h.2.symm⟩)))
            go_wp2
            go_ret
            exact ⟨false, rfl, by simpa using HX.out, gr_drewN (gr_alloc hgr _) _⟩
        · have hw' : isW b 1 (k : Int) = false := by simpa using hw
          have HX : Hid (¬ RdOk t) := fun hr => by
            have := hr.rounds k hR
            rw [HD.out.2.2] at this
            simp [isW] at hw
            omega
          clear hw
          go_wp2
          go_quiet (first | (go_at_call 42; exact Calls.quiet_of_same ((within_any _ _ _ _).mono fun _ _ h => ⟨h.1.trans (ret_bool hw'), h.2.symm⟩)))
          go_wp2
          go_ret
          exact ⟨false, rfl, by simpa using HX.out, gr_drewN (gr_alloc hgr _) _⟩
      · have e14 : (d == 14) = false := by simpa using h14
        have hR : isR t k = false := by simp [isR, HD.out.1]; exact h14
        go_wp2
        have hgl := HG.out
        go_roundg (n - (k + 1))
        all_goals first | omega | (refine ⟨k + 1, by go_num, by omega, by omega, ?_, ?_, gr_alloc hgr _⟩)
        · rw [cntL_skip t k hkl hR]; exact (hp_old (at_lt HA.out) _).trans HA.out
        · intro i hi
          by_cases e : i = k
          · subst e; intro hr; rw [hR] at hr; simp at hr
          · exact HQ.out i (by omega)
    · have hk' : ¬ ((k : Int) < (n : Int)) := by omega
      have hkn : k = n := by omega
      subst hkn
      clear HG
      have HGR : Hid (w.grownBy wr none) := hgr
      go_wp2
      go_loopg [67] k (fun gk s67 wx => ∃ j : Nat, s67 = .int .i64 j ∧ j ≤ k ∧ gk = k - j ∧ wr.grownBy wx none ∧ ∀ i, i < j → isE t i = true → cnt t t.length (i + 1) = 1)
      case atStart => exact ⟨0, rfl, Nat.zero_le _, by omega, World.grownBy.refl _ _, fun i hi => by omega⟩
      case round =>
        obtain ⟨j, rfl, hj, hgj, hgx, hen⟩ := hrel
        have HG : Hid (_ = k - j) := hgj
        have HE : Hid (∀ i, i < j → isE t i = true → cnt t t.length (i + 1) = 1) := hen
        clear hgj hen
        by_cases hlt2 : j < k
        · have hjl : j < t.length := by rw [HN.out]; exact hlt2
          rcases HT.out with h | ⟨b', off, rfl, hc⟩
          · subst h; simp at hjl
          obtain ⟨q0, q1, q2, q3⟩ := hc j hjl
          have q0 := hgx.cell (hgr.cell q0 (by simp)) (by simp)
          have q1 := hgx.cell (hgr.cell q1 (by simp)) (by simp)
          have q2 := hgx.cell (hgr.cell q2 (by simp)) (by simp)
          have q3 := hgx.cell (hgr.cell q3 (by simp)) (by simp)
          have r0 := ints_get (kept hgx HA.out) j (by rw [cntL_len]; omega)
          rw [cntL_get t k j hjl] at r0
          clear hc
          obtain ⟨d, hd⟩ : ∃ d, (nth t j).d = d := ⟨_, rfl⟩
          rw [hd] at q0
          generalize (nth t j).a = a at *
          generalize (nth t j).b = b at *
          generalize (nth t j).c = c at *
          have HD : Hid ((nth t j).d = d) := hd
          clear hd
          have i1 : (0 : Int) ≤ (j : Int) := by omega
          have i2 : (j : Int) < (k : Int) := by omega
          obtain ⟨m, hm⟩ : ∃ m, cnt t k (j + 1) = m := ⟨_, rfl⟩
          rw [hm] at r0
          have HM : Hid (cnt t t.length (j + 1) = m) := (by rw [HN.out]; exact hm : cnt t t.length (j + 1) = m)
          clear hm
          have R0 : ∀ ob, (wr.alloc ob).cell? ⟨w.heap.size, j, none⟩ = some (.int .i64 m) := fun ob => (gr1 wr ob).cell r0 (by simp)
          by_cases h13 : d = 13
          · subst h13
            by_cases hm1 : m = 1
            · subst hm1
              go_wp2
              have hgl := HG.out
              go_roundg (k - (j + 1))
              all_goals first | omega | (refine ⟨j + 1, by go_num, by omega, by omega, gr_alloc hgx _, ?_⟩)
              intro i hi he
              by_cases e : i = j
              · subst e; exact HM.out
              · exact HE.out i (by omega) he
            · have em : ((m : Int) == 1) = false := by simp; omega
              have em2 : ((m : Int) != 1) = true := by simp; omega
              have HX : Hid (¬ RdOk t) := fun hr => by
                have := hr.enters j (by simp [isE, HD.out])
                rw [HM.out] at this
                exact hm1 this
              go_wp2
              go_ret
              exact ⟨false, rfl, by simpa using HX.out, HGR.out.trans (gr_alloc hgx _)⟩
          · have e13 : (d == 13) = false := by simpa using h13
            go_wp2
            have hgl := HG.out
            go_roundg (k - (j + 1))
            all_goals first | omega | (refine ⟨j + 1, by go_num, by omega, by omega, gr_alloc hgx _, ?_⟩)
            intro i hi he
            by_cases e : i = j
            · subst e
              simp [isE, HD.out] at he
              exact absurd he h13
            · exact HE.out i (by omega) he
        · have hj' : ¬ ((j : Int) < (k : Int)) := by omega
          have HX : Hid (RdOk t) := ⟨fun i hi => HQ.out i (by have := isR_lt hi; rw [HN.out] at this; exact this) hi, fun i hi => HE.out i (by have := isE_lt hi; rw [HN.out] at this; omega) hi⟩
          go_wp2
          go_ret
          exact ⟨true, rfl, by simpa using HX.out, HGR.out.trans hgx⟩
end Go.Proofs.YtbaijehecncclaaDoor
