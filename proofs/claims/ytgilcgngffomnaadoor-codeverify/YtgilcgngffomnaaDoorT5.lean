/- roomy, sameInts, left. -/
import Derived.Test.YtgilcgngffomnaaDoorL1
namespace Go.Proofs.YtgilcgngffomnaaDoor
open Go.RowKit
attribute [local go_sem ↓] Go.wp_at_zero Go.wp_at_succ
set_option linter.unusedVariables false
set_option linter.unusedSimpArgs false






/-- Two lists that are the same. -/
theorem sameInts_yes (v u : Value) (l : List Int) (w : World) (hv : rd w v l) (hu : rd w u l) (hb : l.length ≤ 17592186044416) :
    Calls Tryd.prog 7 #[v, u] w fun e w' => e = .returned (.bool true) ∧ w.grownBy w' none := by
  obtain ⟨a, cap, rfl, ha⟩ := hv
  obtain ⟨a', cap', rfl, ha'⟩ := hu
  have HA : Hid (l = [] ∨ ∃ b off, a = some ⟨b, off, none⟩ ∧ ∀ i, i < l.length → w.cell? ⟨b, off + i, none⟩ = some (.int .i64 (l.getD i 0))) := ha
  have HA' : Hid (l = [] ∨ ∃ b off, a' = some ⟨b, off, none⟩ ∧ ∀ i, i < l.length → w.cell? ⟨b, off + i, none⟩ = some (.int .i64 (l.getD i 0))) := ha'
  clear ha ha'
  obtain ⟨n, hn⟩ : ∃ n, l.length = n := ⟨_, rfl⟩
  have HN : Hid (l.length = n) := hn
  rw [hn] at hb ⊢
  clear hn
  go_enter Tryd.func7, Tryd.ntmps7
  go_wp2
  go_loopg [5] n (fun gk s5 wx => ∃ k : Nat, s5 = .int .i64 k ∧ k ≤ n ∧ gk = n - k ∧ w.grownBy wx none)
  case atStart => exact ⟨0, rfl, Nat.zero_le _, by omega, World.grownBy.refl _ _⟩
  case round =>
    obtain ⟨k, rfl, hk, hgk, hgr⟩ := hrel
    have HG : Hid (gk = n - k) := hgk
    clear hgk
    by_cases hlt : k < n
    · have hkl : k < l.length := by rw [HN.out]; exact hlt
      rcases HA.out with h | ⟨b, off, rfl, hc⟩
      · subst h; simp at hkl
      rcases HA'.out with h | ⟨b', off', rfl, hc'⟩
      · subst h; simp at hkl
      have q0 := hgr.cell (hc k hkl) (by simp)
      have q1 := hgr.cell (hc' k hkl) (by simp)
      clear hc hc'
      generalize l.getD k 0 = x at q0 q1
      have i1 : (0 : Int) ≤ (k : Int) := by omega
      have i2 : (k : Int) < (n : Int) := by omega
      go_wp2
      go_region_held3 (fun w' => w'.cell? ⟨b, off + k, none⟩ = some (.int .i64 x) ∧ w'.cell? ⟨b', off' + k, none⟩ = some (.int .i64 x)) (go_keep) (fail)
      go_wp2
      have hgl := HG.out
      go_roundg (n - (k + 1))
      all_goals first | omega | exact ⟨k + 1, by go_num, by omega, by omega, gr_drew hgr⟩
    · have hk' : ¬ ((k : Int) < (n : Int)) := by omega
      go_wp2
      go_ret
      exact ⟨rfl, hgr⟩

/-- A list with five marks behind it. -/
def RoomAt (w : World) (c : Nat) (l : List Int) : Prop := ∃ ar : List Int, w.heap[c]? = some (.cells (intsA ar) 3) ∧ ar.length = l.length + 5 ∧ (∀ i, i < l.length → ar.getD i 0 = l.getD i 0) ∧ ∀ j, j < 5 → ar.getD (l.length + j) 0 = -90 - ((l.length + j : Nat) : Int)
theorem RoomAt.rd {w : World} {c : Nat} {l : List Int} (h : RoomAt w c l) : rd w (.slice (some ⟨c, 0, none⟩) l.length (l.length + 5)) l := by
  obtain ⟨ar, h1, h2, h3, _⟩ := h
  refine ⟨_, _, rfl, .inr ⟨c, 0, rfl, fun i hi => ?_⟩⟩
  rw [at_cell h1, ← h3 i hi]
  simp [intsA, show i < ar.length by omega]
theorem RoomAt.kept {w w' : World} {c : Nat} {l : List Int} (h : RoomAt w c l) (hg : w.grownBy w' none) : RoomAt w' c l := by
  obtain ⟨ar, h1, h2⟩ := h
  exact ⟨ar, YtgilcgngffomnaaDoor.kept hg h1, h2⟩
theorem RoomAt.but {w w' : World} {c p : Nat} {l : List Int} (h : RoomAt w c l) (hg : w.grownBy w' (some p)) (hne : c ≠ p) : RoomAt w' c l := by
  obtain ⟨ar, h1, h2⟩ := h
  exact ⟨ar, keptBut hg h1 hne, h2⟩


set_option maxRecDepth 10000 in
set_option maxHeartbeats 2000000 in
theorem roomy_any (v : Value) (l : List Int) (w : World) (hr : rd w v l) (hb : l.length ≤ 17592186043904) :
    Calls Tryd.prog 16 #[v] w fun e w' => e = .returned (.slice (some ⟨w.heap.size, 0, none⟩) l.length (l.length + 5)) ∧ RoomAt w' w.heap.size l ∧ w.grownBy w' none := by
  obtain ⟨a, cap, rfl, ha⟩ := hr
  obtain ⟨n, hn⟩ : ∃ n, l.length = n := ⟨_, rfl⟩
  have HN : Hid (l.length = n) := hn
  obtain ⟨i0, hi, hz0, hz1, hz2⟩ := info_parts info3
  have hmk : ∀ w : World, (Instr.makeSlice 25 (.int .i64 ((n : Int) + 5)) (.int .i64 ((n : Int) + 5))).run Tryd.prog w = .ok (.slice (some ⟨w.heap.size, 0, none⟩) (n + 5) (n + 5)) (w.alloc (.cells (intsA (List.replicate (n + 5) 0)) 3)) := fun w => by
    have h := run_make (P := Tryd.prog) w 25 3 i0 (.int .i64 0) Tryd.underlying25 hi hz0 .i64 .i64 ((n : Int) + 5) ((n : Int) + 5) (by omega) (by omega) (by rw [hz2]; simp; omega) (by omega)
    rw [hz1, made_ints] at h
    have e : ((n : Int) + 5).toNat = n + 5 := by omega
    rw [e] at h
    simpa using h
  have HA : Hid (l = [] ∨ ∃ b off, a = some ⟨b, off, none⟩ ∧ ∀ i, i < l.length → w.cell? ⟨b, off + i, none⟩ = some (.int .i64 (l.getD i 0))) := ha
  rw [hn] at hb ⊢
  clear ha hi hz0 hz1 hz2
  have hcp : ∃ w2, (Builtin.copy_ #[25, 25] 3 #[.slice (some ⟨w.heap.size, 0, none⟩) (n + 5) (n + 5), .slice a n cap]).run Tryd.prog (w.alloc (.cells (intsA (List.replicate (n + 5) 0)) 3)) = .ok (.int .i64 n) w2 ∧ w2.heap[w.heap.size]? = some (.cells (intsA (l ++ List.replicate 5 0)) 3) ∧ w.grownBy w2 none := by
    have hs : (Tryd.prog.info? 3).map (·.size) = some 1 := by kernel_rfl
    rcases HA.out with h | ⟨b, off, rfl, hc⟩
    · have h0 : n = 0 := by rw [← HN.out, h]; rfl
      subst h0
      refine ⟨_, run_copy_none _ 25 25 3 3 _ a 5 5 0 cap Tryd.underlying25 hs (by simp), ?_, gr_alloc (World.grownBy.refl _ _) _⟩
      rw [h]
      exact heap_alloc_new _ _
    · have hcell : ∀ j v, (l.map (Value.int .i64))[j]? = some v → (w.alloc (.cells (intsA (List.replicate (n + 5) 0)) 3)).cell? ((⟨b, off, none⟩ : Addr).add j) = some v := fun j u hj => by
        have hjl : j < l.length := by
          rcases Nat.lt_or_ge j l.length with h | h
          · exact h
          · simp [List.getElem?_eq_none (show (l.map (Value.int .i64)).length ≤ j by simpa using h)] at hj
        rw [addn]
        have := (gr_alloc (World.grownBy.refl w none) (.cells (intsA (List.replicate (n + 5) 0)) 3)).cell (hc j hjl) (by simp)
        rw [this]
        simp [List.getElem?_eq_getElem hjl] at hj
        subst hj
        simp [hjl]
      have hr := run_copy_row (P := Tryd.prog) (w.alloc (.cells (intsA (List.replicate (n + 5) 0)) 3)) 25 25 3 3 w.heap.size 0 (n + 5) (n + 5) ⟨b, off, none⟩ n cap (intsA (List.replicate (n + 5) 0)) 3 (l.map (Value.int .i64)) Tryd.underlying25 hs (heap_alloc_new _ _) (by rw [List.length_map, HN.out]; exact (Nat.min_eq_left (by omega)).symm) hcell (by simp [intsA, HN.out]) (by simp [Value.oneCell'])
      rw [List.length_map, HN.out] at hr
      refine ⟨_, hr, ?_, ?_⟩
      · rw [setRow_heap _ _ _ _ 3 _ (heap_alloc_new _ _)]
        congr 2
        simp [intsA, HN.out]
      · exact gr_below (below_setRow (below_gr (gr_alloc (World.grownBy.refl _ _) _)) (Nat.le_refl _) _)
  obtain ⟨w2, hcopy, hg2, hb2⟩ := hcp
  have HG2 : Hid (w2.heap[w.heap.size]? = some (.cells (intsA (l ++ List.replicate 5 0)) 3)) := hg2
  clear hg2 HA
  go_enter Tryd.func16, Tryd.ntmps16
  go_wp2
  clear hmk hcopy
  go_loopg [4] 5 (fun gk s4 wx => ∃ (k : Nat) (ar : List Int), s4 = .int .i64 ((n + k : Nat) : Int) ∧ k ≤ 5 ∧ gk = 5 - k ∧ wx.heap[w.heap.size]? = some (.cells (intsA ar) 3) ∧ ar.length = n + 5 ∧ (∀ i, i < n → ar.getD i 0 = l.getD i 0) ∧ (∀ j, j < k → ar.getD (n + j) 0 = -90 - ((n + j : Nat) : Int)) ∧ w.grownBy wx none)
  case atStart => exact ⟨0, _, rfl, by omega, by omega, HG2.out, by simp [HN.out], fun i hi => by
      have : i < l.length := by rw [HN.out]; exact hi
      simp [List.getD, List.getElem?_append, this], by omega, hb2⟩
  case round =>
    obtain ⟨k, ar, rfl, hk, hgk, har, hal, ha1, ha2, hgr⟩ := hrel
    have HGK : Hid (gk = 5 - k) := hgk
    have HAR : Hid (wr.heap[w.heap.size]? = some (.cells (intsA ar) 3)) := har
    have H1 : Hid (∀ i, i < n → ar.getD i 0 = l.getD i 0) := ha1
    have H2 : Hid (∀ j, j < k → ar.getD (n + j) 0 = -90 - ((n + j : Nat) : Int)) := ha2
    clear hgk ha1 ha2
    by_cases hlt : k < 5
    · have q2 : wr.cell? ⟨w.heap.size, n + k, none⟩ = some (.int .i64 (ar.getD (n + k) 0)) := by rw [at_cell har]; simp [intsA, show n + k < ar.length by omega]
      have f2 := at_frozen har (n + k)
      clear har
      have i1 : (0 : Int) ≤ ((n + k : Nat) : Int) := by omega
      have i2 : ((n + k : Nat) : Int) < ((n + 5 : Nat) : Int) := by omega
      go_wp2
      have hgl := HGK.out
      go_roundg (5 - (k + 1))
      all_goals first | omega | (refine ⟨k + 1, ar.set (n + k) (-90 - ((n : Int) + (k : Int))), by go_num, by omega, by omega, ?_, by simp [hal], ?_, ?_, ?_⟩)
      · rw [at_set HAR.out, intsA_set]
      · intro i hi
        rw [← H1.out i hi]
        simp [List.getD, List.getElem?_set, show ¬ n + k = i by omega]
      · intro j hj
        by_cases e : j = k
        · subst e
          simp [List.getD, List.getElem?_set, show n + j < ar.length by omega]
        · rw [← H2.out j (by omega)]
          simp [List.getD, List.getElem?_set, show ¬ k = j by omega]
      · exact gr_own hgr (Nat.le_refl _) _ _
    · have hk' : ¬ (((n + k : Nat) : Int) < ((n + 5 : Nat) : Int)) := by omega
      go_wp2
      go_ret
      refine ⟨rfl, ⟨ar, HAR.out, by rw [HN.out]; exact hal, fun i hi => H1.out i (by rw [← HN.out]; exact hi), fun j hj => ?_⟩, hgr⟩
      rw [HN.out]
      exact H2.out j (by omega)

set_option maxRecDepth 10000 in
set_option maxHeartbeats 2000000 in
theorem left_yes (c : Nat) (u : Value) (l : List Int) (w : World) (hR : RoomAt w c l) (hu : rd w u l) (hb : l.length ≤ 17592186044416) :
    Calls Tryd.prog 18 #[.slice (some ⟨c, 0, none⟩) l.length (l.length + 5), u] w fun e w' => e = .returned (.bool true) ∧ w.grownBy w' none := by
  obtain ⟨a, cap, rfl, ha⟩ := hu
  have HA : Hid (l = [] ∨ ∃ b off, a = some ⟨b, off, none⟩ ∧ ∀ i, i < l.length → w.cell? ⟨b, off + i, none⟩ = some (.int .i64 (l.getD i 0))) := ha
  have HR : Hid (RoomAt w c l) := hR
  clear ha hR
  obtain ⟨n, hn⟩ : ∃ n, l.length = n := ⟨_, rfl⟩
  have HN : Hid (l.length = n) := hn
  rw [hn] at hb ⊢
  clear hn
  go_enter Tryd.func18, Tryd.ntmps18
  go_wp2
  go_loopg [6] (n + 5) (fun gk s6 wx => ∃ k : Nat, s6 = .int .i64 k ∧ k ≤ n + 5 ∧ gk = n + 5 - k ∧ w.grownBy wx none)
  case atStart => exact ⟨0, rfl, Nat.zero_le _, by omega, World.grownBy.refl _ _⟩
  case round =>
    obtain ⟨k, rfl, hk, hgk, hgr⟩ := hrel
    have HG : Hid (gk = n + 5 - k) := hgk
    clear hgk
    by_cases hlt : k < n + 5
    · obtain ⟨ar, h1, h2, h3, h4⟩ := HR.out.kept hgr
      rw [HN.out] at h2
      have q0 : wr.cell? ⟨c, k, none⟩ = some (.int .i64 (ar.getD k 0)) := by rw [at_cell h1]; simp [intsA, show k < ar.length by omega]
      have i1 : (0 : Int) ≤ (k : Int) := by omega
      have i2 : (k : Int) < ((n + 5 : Nat) : Int) := by omega
      by_cases hkn : k < n
      · have hkl : k < l.length := by rw [HN.out]; exact hkn
        rw [h3 k hkl] at q0
        rcases HA.out with h | ⟨b, off, rfl, hc⟩
        · subst h; simp at hkl
        have q1 := hgr.cell (hc k hkl) (by simp)
        generalize l.getD k 0 = x at q0 q1
        have i3 : decide ((k : Int) < (n : Int)) = true := by simp; omega
        have i4 : decide ((n : Int) ≤ (k : Int)) = false := by simp; omega
        have i5 : decide (k < n) = true := by simp; omega
        have i6 : decide (n ≤ k) = false := by simp; omega
        clear hc h1 h2 h3 h4
        go_wp2
        go_quiet (fail)
        go_wp2
        have hgl := HG.out
        go_roundg (n + 5 - (k + 1))
        all_goals first | omega | exact ⟨k + 1, by go_num, by omega, by omega, gr_drewN hgr _⟩
      · have h5 := h4 (k - n) (by omega)
        rw [HN.out, show n + (k - n) = k by omega] at h5
        rw [h5] at q0
        have i3 : decide ((k : Int) < (n : Int)) = false := by simp; omega
        have i4 : decide ((n : Int) ≤ (k : Int)) = true := by simp; omega
        have i5 : decide (k < n) = false := by simp; omega
        have i6 : decide (n ≤ k) = true := by simp; omega
        clear h1 h2 h3 h4 h5
        go_wp2
        go_quiet (fail)
        go_wp2
        have hgl := HG.out
        go_roundg (n + 5 - (k + 1))
        all_goals first | omega | exact ⟨k + 1, by go_num, by omega, by omega, gr_drewN hgr _⟩
    · have hk' : ¬ ((k : Int) < ((n + 5 : Nat) : Int)) := by omega
      go_wp2
      go_ret
      exact ⟨rfl, hgr⟩

end Go.Proofs.YtgilcgngffomnaaDoor
