/- Could a link be? The document's answer. -/
import Derived.Test.YtaiicehifailhaaQ
namespace Go.Proofs.Ytaiicehifailhaa
open Go.RowKit
attribute [local go_sem ↓] Go.wp_at_zero Go.wp_at_succ
set_option linter.unusedVariables false
set_option linter.unusedSimpArgs false

set_option maxRecDepth 10000 in
set_option maxHeartbeats 2000000 in
theorem couldBe_any (L : Lk) (s t : Value) (w : World) (h : LkR w L s t) (hl1 : L.sa.length ≤ 17592186043904) (hl2 : L.wo.length ≤ 17592186043904) : Calls Try.prog 44 #[lkV L s t] w fun e w' => e = .returned (.bool (couldB L)) ∧ w.grownBy w' none := by
  obtain ⟨st, wa, sa, wo, sq, ag, fr⟩ := L
  obtain ⟨h1, h2⟩ := h
  dsimp only [lkV, lkA] at *
  obtain ⟨p, hp⟩ : ∃ p, w.heap.size = p := ⟨_, rfl⟩
  have hW : (w.alloc (.cells #[.int .i64 st, .int .i64 wa, s, t, .int .i64 sq, .int .i64 ag, .bool fr] 40)).heap[p]? = some (.cells #[.int .i64 st, .int .i64 wa, s, t, .int .i64 sq, .int .i64 ag, .bool fr] 40) := hp_new hp.symm _
  have hgW : w.grownBy (w.alloc (.cells #[.int .i64 st, .int .i64 wa, s, t, .int .i64 sq, .int .i64 ag, .bool fr] 40)) none := gr_alloc (World.grownBy.refl _ _) _
  have HC : Hid (couldB ⟨st, wa, sa, wo, sq, ag, fr⟩ = (decide (startE st wa sa = 0) && (decide (wo.length = sa.length) && (wo.all okW && (wi 0 255 sq && (wi 0 (wa - 1) ag && (fr || (decide (ag = 0) && (wo == sa))))))))) := hidI rfl
  generalize couldB ⟨st, wa, sa, wo, sq, ag, fr⟩ = RES at *
  obtain ⟨sa1, sc1, rfl, _⟩ := id h1
  obtain ⟨ta1, tc1, rfl, _⟩ := id h2
  go_enter Try.func44, Try.ntmps44
  go_upto_region 1 with fail
  clear hp
  generalize w.alloc (.cells #[.int .i64 st, .int .i64 wa, .slice sa1 sa.length sc1, .slice ta1 wo.length tc1, .int .i64 sq, .int .i64 ag, .bool fr] 40) = W at *
  obtain ⟨i0, i1, i2, i3, i4, i5, i6⟩ := at7 hW
  have c1 := linked_any st wa sa _ W (rd_grown h1 hgW) hl1
  generalize startL st wa sa = R at c1
  go_wp2_with fail
  refine c1.mono ?_
  rintro e w1 ⟨V, rfl, a1, c1, a2, c2, rfl, o1, o2, e6, g1⟩
  dsimp only [lkV, lkA] at *
  go_upto_region 2 with fail
  have gX : w.grownBy (w1.alloc (.cells #[.int .i64 R.st, .int .i64 R.wa, .slice a1 R.sa.length c1, .slice a2 R.wo.length c2, .int .i64 R.sq, .int .i64 R.ag, .bool R.fr] 40)) none := gr_alloc (grown_join hgW g1 (.inl rfl)) _
  have hX : (w1.alloc (.cells #[.int .i64 R.st, .int .i64 R.wa, .slice a1 R.sa.length c1, .slice a2 R.wo.length c2, .int .i64 R.sq, .int .i64 R.ag, .bool R.fr] 40)).heap[p]? = some (.cells #[.int .i64 st, .int .i64 wa, .slice sa1 sa.length sc1, .slice ta1 wo.length tc1, .int .i64 sq, .int .i64 ag, .bool fr] 40) := (hp_old (at_lt (kept g1 hW)) _).trans (kept g1 hW)
  clear i0 i1 i2 i3 i4 i5 i6 o1 o2 e6 g1 hW hgW
  generalize w1.alloc (.cells #[.int .i64 R.st, .int .i64 R.wa, .slice a1 R.sa.length c1, .slice a2 R.wo.length c2, .int .i64 R.sq, .int .i64 R.ag, .bool R.fr] 40) = X at *
  obtain ⟨i0, i1, i2, i3, i4, i5, i6⟩ := at7 hX
  have c2 := spelt_any wo _ X (rd_grown h2 gX)
  have HW := hidI gX
  by_cases k1 : startE st wa sa = 0
  case neg =>
    have hR : RES = false := by rw [HC.out]; simp [k1]
    have HR := hidI hR
    clear hR HC
    generalize startE st wa sa = E at *
    have e1 : ((E : Int) != 0) = true := by simpa using k1
    go_wp2
    go_ret
    exact ⟨by rw [HR.out]; rfl, HW.out⟩
  obtain ⟨wa1, wa2, st1, st2, sl60, sok⟩ := startE_wa k1
  rw [k1] at HC ⊢
  clear k1
  by_cases k2 : lookE wo = 0
  case neg =>
    have hR : RES = false := by
      rw [HC.out]
      by_cases q1 : wo.length = sa.length
      · have : wo.all okW = false := by
          cases q2 : wo.all okW with
          | false => rfl
          | true => exact absurd (show lookE wo = 0 by unfold lookE; rw [if_neg (by omega), q2]; rfl) k2
        simp [this]
      · simp [q1]
    have HR := hidI hR
    clear hR HC
    generalize lookE wo = E at *
    have e1 : ((E : Int) != 0) = true := by simpa using k2
    go_wp2_with fail
    refine c2.mono ?_
    rintro e w' ⟨rfl, rfl⟩
    go_wp2
    go_ret
    exact ⟨by rw [HR.out]; rfl, HW.out⟩
  have wok : wo.all okW = true := by
    unfold lookE at k2
    split at k2
    · omega
    · split at k2
      · assumption
      · omega
  rw [k2] at c2
  rw [wok] at HC
  clear k2 wok sok
  by_cases k3 : wo.length = sa.length
  case neg =>
    have hR : RES = false := by rw [HC.out]; simp [k3]
    have HR := hidI hR
    clear hR HC
    have e1 : ((wo.length : Int) != (sa.length : Int)) = true := by simpa using (show ¬ ((wo.length : Int) = (sa.length : Int)) by omega)
    clear k3
    go_wp2_with fail
    refine c2.mono ?_
    rintro e w' ⟨rfl, rfl⟩
    go_wp2
    go_ret
    exact ⟨by rw [HR.out]; rfl, HW.out⟩
  rw [k3] at i3 c2 h2 hX hl2
  obtain ⟨n, hn⟩ : ∃ n, sa.length = n := ⟨_, rfl⟩
  have HN : Hid (wo.length = n ∧ sa.length = n) := hidI ⟨by rw [k3, hn], hn⟩
  have hR0 : RES = (wi 0 255 sq && (wi 0 (wa - 1) ag && (fr || (decide (ag = 0) && (wo == sa))))) := by rw [HC.out]; simp [k3]
  have HD := hidI hR0
  clear HC
  rw [hn] at i2 i3 c2 h1 h2 hX sl60
  rw [k3, hn]
  clear k3 hn hR0 hl1 hl2
  have HH := hidI (And.intro h1 h2)
  clear h1 h2
  by_cases k4 : 0 ≤ sq ∧ sq ≤ 255 ∧ 0 ≤ ag ∧ ag < wa
  case neg =>
    have hR : RES = false := by
      rw [HD.out]
      by_cases q1 : 0 ≤ sq ∧ sq ≤ 255
      · have : wi 0 (wa - 1) ag = false := by
          cases q2 : wi 0 (wa - 1) ag with
          | false => rfl
          | true => rw [wi_iff] at q2; omega
        simp [this]
      · have : wi 0 255 sq = false := by
          cases q2 : wi 0 255 sq with
          | false => rfl
          | true => rw [wi_iff] at q2; exact absurd q2 q1
        simp [this]
    have HR := hidI hR
    have k5 : sq < 0 ∨ (¬ sq < 0 ∧ 255 < sq) ∨ (¬ sq < 0 ∧ ¬ 255 < sq ∧ ag < 0) ∨ (¬ sq < 0 ∧ ¬ 255 < sq ∧ ¬ ag < 0 ∧ wa ≤ ag) := by omega
    clear hR HD k4
    rcases k5 with k5 | ⟨k5, k6⟩ | ⟨k5, k6, k7⟩ | ⟨k5, k6, k7, k8⟩
    all_goals (
      go_wp2_with fail
      refine c2.mono ?_
      rintro e w' ⟨rfl, rfl⟩
      go_wp2
      go_ret
      exact ⟨by rw [HR.out]; rfl, HW.out⟩)
  obtain ⟨k4, k5, k6, k7⟩ := k4
  have t1 : ¬ sq < 0 := by omega
  have t2 : ¬ 255 < sq := by omega
  have t3 : ¬ ag < 0 := by omega
  have t4 : ¬ wa ≤ ag := by omega
  have hR0 : RES = (fr || (decide (ag = 0) && (wo == sa))) := by rw [HD.out, wi_yes k4 k5, wi_yes k6 (by omega)]; simp
  have HF := hidI hR0
  clear hR0 HD
  have HX := hidI hX
  clear hX gX
  go_wp2_with fail
  refine c2.mono ?_
  rintro e w' ⟨rfl, rfl⟩
  clear c2
  go_wp2_with fail
  clear i0 i1 i2 i3 i4 i5 i6
  go_loopg [5] n (fun gk s5 wx => ∃ k : Nat, s5 = .int .i64 k ∧ k ≤ n ∧ gk = n - k ∧ Hid (fr = true ∨ wo.take k = sa.take k) ∧ Hid (X.grownBy wx none))
  case atStart => exact ⟨0, rfl, Nat.zero_le _, by omega, hidI (.inr (by simp)), hidI (World.grownBy.refl _ _)⟩
  case round =>
    obtain ⟨k, rfl, hk, hgk, HK, HGR⟩ := hrel
    have HG : Hid (gk = n - k) := hgk
    clear hgk
    obtain ⟨i0, i1, i2, i3, i4, i5, i6⟩ := at7 (kept HGR.out HX.out)
    by_cases hlt : k < n
    · have j1 : (0 : Int) ≤ (k : Int) := by omega
      have j2 : (k : Int) < (n : Int) := by omega
      cases fr with
      | true =>
        have HK2 : Hid (true = true ∨ wo.take (k + 1) = sa.take (k + 1)) := hidI (.inl rfl)
        go_wp2
        go_quiet (fail)
        go_wp2
        have hgl := HG.out
        go_roundg (n - (k + 1))
        all_goals first | omega | exact ⟨k + 1, by go_num, by omega, by omega, HK2, hidI (gr_drewN HGR.out _)⟩
      | false =>
        have hkl : k < wo.length := by rw [HN.out.1]; exact hlt
        have hkm : k < sa.length := by rw [HN.out.2]; exact hlt
        obtain ⟨h1, h2⟩ := HH.out
        obtain ⟨b, off, cp, he, hc⟩ := rd_at h2 (by omega)
        obtain ⟨b', off', cp', he', hc'⟩ := rd_at h1 (by omega)
        injection he with he _ _
        injection he' with he' _ _
        subst he he'
        have hgw := grown_join HW.out HGR.out (.inl rfl)
        have q0 := hgw.cell (hc k hkl) (by simp)
        have q1 := hgw.cell (hc' k hkm) (by simp)
        have hke : wo.take k = sa.take k := by
          rcases HK.out with h | h
          · simp at h
          · exact h
        have HT := hidI (fun e => take_eq_next hkl hkm hke e)
        have HXn := hidI (fun e => ne_of_getD (l := wo) (m := sa) (k := k) e)
        clear hc hc' hkl hkm hke h1 h2 hgw
        generalize wo.getD k 0 = x at *
        generalize sa.getD k 0 = y at *
        by_cases hxy : x = y
        · subst hxy
          have HK2 : Hid (false = true ∨ wo.take (k + 1) = sa.take (k + 1)) := hidI (.inr (HT.out rfl))
          clear HT HXn
          go_wp2
          go_quiet (fail)
          go_wp2
          have hgl := HG.out
          go_roundg (n - (k + 1))
          all_goals first | omega | exact ⟨k + 1, by go_num, by omega, by omega, HK2, hidI (gr_drewN HGR.out _)⟩
        · have hne := HXn.out hxy
          have hR : RES = false := by
            rw [HF.out]
            have : (wo == sa) = false := by rw [beq_eq_false_iff_ne]; exact hne
            simp [this]
          have HR := hidI hR
          clear hR hne HT HXn
          have e1 : (x != y) = true := by simpa using hxy
          go_wp2
          go_quiet (fail)
          go_wp2
          go_ret
          exact ⟨by rw [HR.out]; rfl, gr_drewN (grown_join HW.out HGR.out (.inl rfl)) _⟩
    · have hk' : ¬ ((k : Int) < (n : Int)) := by omega
      cases fr with
      | true =>
        have hR : RES = true := by rw [HF.out]; simp
        have HR := hidI hR
        clear hR
        go_wp2
        go_ret
        exact ⟨by rw [HR.out]; rfl, grown_join HW.out HGR.out (.inl rfl)⟩
      | false =>
        have hke : wo = sa := by
          rcases HK.out with h | h
          · simp at h
          · rw [List.take_of_length_le (by rw [HN.out.1]; omega), List.take_of_length_le (by rw [HN.out.2]; omega)] at h
            exact h
        by_cases h0 : ag = 0
        · subst h0
          have hR : RES = true := by rw [HF.out, hke]; simp
          have HR := hidI hR
          clear hR hke
          go_wp2
          go_ret
          exact ⟨by rw [HR.out]; rfl, grown_join HW.out HGR.out (.inl rfl)⟩
        · have hR : RES = false := by rw [HF.out]; simp [h0]
          have HR := hidI hR
          have e1 : (ag == 0) = false := by simpa using h0
          clear hR hke
          go_wp2
          go_ret
          exact ⟨by rw [HR.out]; rfl, grown_join HW.out HGR.out (.inl rfl)⟩
end Go.Proofs.Ytaiicehifailhaa
