/- Could a link be? -/
import Derived.Test.YtaiicehifailhabN
namespace Go.Proofs.Ytaiicehifailhab
open Go.RowKit
attribute [local go_sem ↓] Go.wp_at_zero Go.wp_at_succ
set_option linter.unusedVariables false
set_option linter.unusedSimpArgs false

theorem take_next {l : List Int} {k : Nat} (h : k < l.length) : l.take (k + 1) = l.take k ++ [l.getD k 0] := by
  rw [List.take_add_one]
  simp [List.getD, h]
theorem take_eq_next {l m : List Int} {k : Nat} (h : k < l.length) (h' : k < m.length) (e : l.take k = m.take k) (x : l.getD k 0 = m.getD k 0) : l.take (k + 1) = m.take (k + 1) := by
  rw [take_next h, take_next h', e, x]
theorem ne_of_getD {l m : List Int} {k : Nat} (x : l.getD k 0 ≠ m.getD k 0) : l ≠ m := fun e => x (by rw [e])
set_option maxHeartbeats 1000000 in
theorem equal_any (l m : List Int) (u v : Value) (w : World) (hu : rd w u l) (hv : rd w v m) (hl : l.length ≤ 17592186044416) : Calls Try.prog 25 #[u, v] w fun e w' => e = .returned (.bool (l == m)) ∧ w.grownBy w' none := by
  obtain ⟨a, cap, rfl, ha⟩ := hu
  obtain ⟨a', cap', rfl, ha'⟩ := hv
  by_cases hn : l.length = m.length
  case neg =>
    have hb : (l == m) = false := by
      rw [beq_eq_false_iff_ne]
      exact fun e => hn (by rw [e])
    have i0 : ((l.length : Int) != (m.length : Int)) = true := by simpa using (show ¬ ((l.length : Int) = (m.length : Int)) by omega)
    rw [hb]
    go_enter Try.func25, Try.ntmps25
    go_wp2
    go_ret
    exact ⟨rfl, World.grownBy.refl _ _⟩
  have HA : Hid ((l = [] ∨ ∃ b off, a = some ⟨b, off, none⟩ ∧ ∀ i, i < l.length → w.cell? ⟨b, off + i, none⟩ = some (.int .i64 (l.getD i 0))) ∧ (m = [] ∨ ∃ b off, a' = some ⟨b, off, none⟩ ∧ ∀ i, i < m.length → w.cell? ⟨b, off + i, none⟩ = some (.int .i64 (m.getD i 0)))) := hidI ⟨ha, ha'⟩
  clear ha ha'
  obtain ⟨n, hnn⟩ : ∃ n, l.length = n := ⟨_, rfl⟩
  have HN : Hid (l.length = n ∧ m.length = n) := hidI ⟨hnn, by rw [← hn, hnn]⟩
  rw [← hn, hnn]
  rw [hnn] at hl
  clear hn hnn
  go_enter Try.func25, Try.ntmps25
  go_wp2
  go_loopg [13] n (fun gk s13 wx => ∃ k : Nat, s13 = .int .i64 k ∧ k ≤ n ∧ gk = n - k ∧ Hid (l.take k = m.take k) ∧ w.grownBy wx none)
  case atStart => exact ⟨0, rfl, Nat.zero_le _, by omega, hidI (by simp), World.grownBy.refl _ _⟩
  case round =>
    obtain ⟨k, rfl, hk, hgk, HK, hgr⟩ := hrel
    have HG : Hid (gk = n - k) := hgk
    clear hgk
    by_cases hlt : k < n
    · have hkl : k < l.length := by rw [HN.out.1]; exact hlt
      have hkm : k < m.length := by rw [HN.out.2]; exact hlt
      rcases HA.out.1 with h | ⟨b, off, rfl, hc⟩
      · subst h; simp at hkl
      rcases HA.out.2 with h | ⟨b', off', rfl, hc'⟩
      · subst h; simp at hkm
      have q0 := hgr.cell (hc k hkl) (by simp)
      have q1 := hgr.cell (hc' k hkm) (by simp)
      have HT := hidI (fun e => take_eq_next hkl hkm HK.out e)
      have HX := hidI (fun e => ne_of_getD (l := l) (m := m) (k := k) e)
      clear hc hc' hkl hkm
      generalize l.getD k 0 = x at *
      generalize m.getD k 0 = y at *
      have i1 : (0 : Int) ≤ (k : Int) := by omega
      have i2 : (k : Int) < (n : Int) := by omega
      by_cases hxy : x = y
      · subst hxy
        have HT2 := hidI (HT.out rfl)
        clear HT HX
        go_wp2
        go_quiet (fail)
        go_wp2
        have hgl := HG.out
        go_roundg (n - (k + 1))
        all_goals first | omega | exact ⟨k + 1, by go_num, by omega, by omega, HT2, gr_drewN hgr _⟩
      · have hne := HX.out hxy
        have hb : (l == m) = false := by rw [beq_eq_false_iff_ne]; exact hne
        have HB := hidI hb
        clear hne hb HX HT
        have e1 : (x != y) = true := by simpa using hxy
        go_wp2
        go_quiet (fail)
        go_wp2
        go_ret
        exact ⟨by rw [HB.out]; rfl, gr_drewN hgr _⟩
    · have hk' : ¬ ((k : Int) < (n : Int)) := by omega
      have e := HK.out
      rw [List.take_of_length_le (by rw [HN.out.1]; omega), List.take_of_length_le (by rw [HN.out.2]; omega)] at e
      have hb : (l == m) = true := by simpa using e
      have HB := hidI hb
      clear hb e
      go_wp2
      go_ret
      exact ⟨by rw [HB.out]; rfl, hgr⟩
/-- Could a link be? -/
def couldB (L : Lk) : Bool := decide (startE L.st L.wa L.sa = 0) && (decide (L.wo.length = L.sa.length) && (L.wo.all okW && (wi 0 255 L.sq && (wi 0 (L.wa - 1) L.ag && (L.fr || (decide (L.ag = 0) && (L.wo == L.sa)))))))
theorem startE_wa {st wa : Int} {sa : List Int} (h : startE st wa sa = 0) : 1 ≤ wa ∧ wa ≤ 1000 ∧ 0 ≤ st ∧ st ≤ 247 ∧ sa.length ≤ 60 ∧ sa.all okW = true := by
  unfold startE at h
  split at h
  · rename_i k
    rw [Bool.and_eq_true, wi_iff, wi_iff] at k
    refine ⟨k.2.1, k.2.2, k.1.1, k.1.2, ?_⟩
    unfold lookE at h
    split at h
    · omega
    · split at h
      · rename_i k2; exact ⟨by omega, k2⟩
      · omega
  · omega
set_option maxRecDepth 10000 in
set_option maxHeartbeats 1000000 in
theorem mayBe_any (L : Lk) (s t : Value) (w : World) (h : LkR w L s t) (hl1 : L.sa.length ≤ 17592186043904) (hl2 : L.wo.length ≤ 17592186043904) : Calls Try.prog 19 #[lkV L s t] w fun e w' => e = .returned (.bool (couldB L)) ∧ w.grownBy w' none := by
  obtain ⟨st, wa, sa, wo, sq, ag, fr⟩ := L
  obtain ⟨h1, h2⟩ := h
  dsimp only [lkV, lkA] at *
  obtain ⟨p, hp⟩ : ∃ p, w.heap.size = p := ⟨_, rfl⟩
  have hW : (w.alloc (.cells #[.int .i64 st, .int .i64 wa, s, t, .int .i64 sq, .int .i64 ag, .bool fr] 26)).heap[p]? = some (.cells #[.int .i64 st, .int .i64 wa, s, t, .int .i64 sq, .int .i64 ag, .bool fr] 26) := hp_new hp.symm _
  have hgW : w.grownBy (w.alloc (.cells #[.int .i64 st, .int .i64 wa, s, t, .int .i64 sq, .int .i64 ag, .bool fr] 26)) none := gr_alloc (World.grownBy.refl _ _) _
  have HC : Hid (couldB ⟨st, wa, sa, wo, sq, ag, fr⟩ = (decide (startE st wa sa = 0) && (decide (wo.length = sa.length) && (wo.all okW && (wi 0 255 sq && (wi 0 (wa - 1) ag && (fr || (decide (ag = 0) && (wo == sa))))))))) := hidI rfl
  generalize couldB ⟨st, wa, sa, wo, sq, ag, fr⟩ = RES at *
  obtain ⟨sa1, sc1, rfl, _⟩ := id h1
  obtain ⟨ta1, tc1, rfl, _⟩ := id h2
  go_enter Try.func19, Try.ntmps19
  go_upto_region 1 with fail
  clear hp
  generalize w.alloc (.cells #[.int .i64 st, .int .i64 wa, .slice sa1 sa.length sc1, .slice ta1 wo.length tc1, .int .i64 sq, .int .i64 ag, .bool fr] 26) = W at *
  obtain ⟨i0, i1, i2, i3, i4, i5, i6⟩ := at7 hW
  have c1 := lookAtStart_any st wa sa _ W (rd_grown h1 hgW) (by omega)
  have c2 := areWithin_any wo 0 65535 _ W (rd_grown h2 hgW) (by omega)
  have c3 := fun X => within_any sq 0 255 X
  have c4 := fun X => within_any ag 0 (wa - 1) X
  have c5 := equal_any wo sa _ _ W (rd_grown h2 hgW) (rd_grown h1 hgW) (by omega)
  have HW := hidI hgW
  clear hW hgW h1 h2
  go_wp2_with fail
  refine c1.mono ?_
  rintro e w' ⟨rfl, rfl⟩
  by_cases k1 : startE st wa sa = 0
  case neg =>
    have hR : RES = false := by rw [HC.out]; simp [k1]
    have HR := hidI hR
    clear hR HC c1
    generalize startE st wa sa = E at *
    have e1 : ((E : Int) != 0) = true := by simpa using k1
    go_wp2
    go_ret
    exact ⟨by rw [HR.out]; rfl, HW.out⟩
  obtain ⟨wa1, wa2, _, _, _, _⟩ := startE_wa k1
  rw [k1] at HC ⊢
  clear k1 c1
  by_cases k2 : wo.length = sa.length
  case neg =>
    have hR : RES = false := by rw [HC.out]; simp [k2]
    have HR := hidI hR
    clear hR HC
    have e1 : ((wo.length : Int) != (sa.length : Int)) = true := by simpa using (show ¬ ((wo.length : Int) = (sa.length : Int)) by omega)
    clear k2
    go_wp2
    go_ret
    exact ⟨by rw [HR.out]; rfl, HW.out⟩
  rw [k2] at HC i3 c2 c5
  have HK2 := hidI k2
  clear k2
  go_wp2_with fail
  refine c2.mono ?_
  rintro e w' ⟨rfl, rfl⟩
  cases k3 : wo.all (wi 0 65535) with
  | false =>
    have hR : RES = false := by rw [HC.out]; simp [k3]
    have HR := hidI hR
    clear hR HC k3
    go_wp2
    go_ret
    exact ⟨by rw [HR.out]; rfl, HW.out⟩
  | true =>
  rw [k3] at HC
  clear k3 c2
  go_wp2_with fail
  refine (c3 _).mono ?_
  rintro e w' ⟨rfl, rfl⟩
  cases k4 : wi 0 255 sq with
  | false =>
    have hR : RES = false := by rw [HC.out]; simp [k4]
    have HR := hidI hR
    clear hR HC k4
    go_wp2
    go_ret
    exact ⟨by rw [HR.out]; rfl, HW.out⟩
  | true =>
  rw [k4] at HC
  clear k4 c3
  go_wp2_with fail
  refine (c4 _).mono ?_
  rintro e w' ⟨rfl, rfl⟩
  cases k5 : wi 0 (wa - 1) ag with
  | false =>
    have hR : RES = false := by rw [HC.out]; simp [k5]
    have HR := hidI hR
    clear hR HC k5
    go_wp2
    go_ret
    exact ⟨by rw [HR.out]; rfl, HW.out⟩
  | true =>
  rw [k5] at HC
  clear k5 c4
  cases fr with
  | true =>
    have hR : RES = true := by rw [HC.out]; simp
    have HR := hidI hR
    clear hR HC
    go_wp2
    go_ret
    exact ⟨by rw [HR.out]; rfl, HW.out⟩
  | false =>
  by_cases k6 : ag = 0
  case neg =>
    have hR : RES = false := by rw [HC.out]; simp [k6]
    have HR := hidI hR
    clear hR HC
    have e1 : (ag == 0) = false := by simpa using k6
    go_wp2
    go_ret
    exact ⟨by rw [HR.out]; rfl, HW.out⟩
  subst k6
  have hR : RES = (wo == sa) := by rw [HC.out]; simp
  have HR := hidI hR
  clear hR HC
  go_wp2_with fail
  refine c5.mono ?_
  rintro e w2 ⟨rfl, g2⟩
  go_wp2
  go_ret
  exact ⟨by rw [HR.out]; rfl, grown_join HW.out g2 (.inl rfl)⟩
end Go.Proofs.Ytaiicehifailhab
