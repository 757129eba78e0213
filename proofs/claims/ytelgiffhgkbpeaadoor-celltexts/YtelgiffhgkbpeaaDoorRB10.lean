/- The document's answer: a run of digits of base 10. -/
import Derived.Test.YtelgiffhgkbpeaaDoorRA
namespace Go.Proofs.YtelgiffhgkbpeaaDoor
open Go.RowKit

set_option maxHeartbeats 4000000 in
theorem run10_any (s : ByteArray) (at0 : Nat) (w : World) (hsz : s.size < 35184372088832) (hat : at0 ≤ s.size) :
    Calls Tryd.prog 21 #[.string s, .int .i64 at0, .int .i64 10] w fun e w' =>
      e = .returned (.tuple #[.int .i64 (feedR 10 r0 (s.data.toList.drop at0)).1.n, .int .i64 (at0 + (feedR 10 r0 (s.data.toList.drop at0)).2 : Nat), .bool (endR (feedR 10 r0 (s.data.toList.drop at0)).1)]) ∧ w' = w := by
  obtain ⟨F, hF⟩ : ∃ F, feedR 10 r0 (s.data.toList.drop at0) = F := ⟨_, rfl⟩
  rw [hF]
  obtain ⟨Z, hZ⟩ : ∃ Z : Int, ((at0 + F.2 : Nat) : Int) = Z := ⟨_, rfl⟩
  rw [hZ]
  have HZ : Hid (((at0 + F.2 : Nat) : Int) = Z) := hZ
  clear hZ
  go_enter Tryd.func21, Tryd.ntmps21
  go_wp2
  go_loopg [1, 9, 10, 11] s.size (fun gk s1 s9 s10 s11 wx => ∃ (pos : Nat) (st : RSt), s1 = .int .i64 pos ∧ s9 = .int .i64 st.n ∧ s10 = .int .i64 st.cnt ∧ s11 = .bool st.ok ∧ wx = w ∧
    (feedR 10 st (s.data.toList.drop pos)).1 = F.1 ∧ pos + (feedR 10 st (s.data.toList.drop pos)).2 = at0 + F.2 ∧ RBd s pos st ∧ s.size ≤ pos + gk ∧ pos ≤ s.size)
  case atStart =>
    exact ⟨at0, r0, rfl, rfl, rfl, rfl, rfl, by rw [hF], by rw [hF], ⟨by decide, by decide, by decide, by show (0 : Int) ≤ _; omega, fun h => absurd h (by decide)⟩, by omega, hat⟩
  case round =>
    obtain ⟨pos, st, rfl, rfl, rfl, rfl, rfl, h1, h2, hbd, hfu, hps⟩ := hrel
    have hbd' := hbd
    obtain ⟨n0, n1, c0, c1, hus⟩ := hbd
    by_cases hlt : pos < s.size
    · obtain ⟨g', rfl⟩ : ∃ g', gk = g' + 1 := ⟨gk - 1, by omega⟩
      by_cases hu : (s[pos]'hlt).toNat = 95
      · have e : stepR 10 st ((s[pos]'hlt).toNat : Int) = some ⟨st.n, st.cnt, true, st.ok && !(st.cnt == 0 || st.us)⟩ := by
          rw [stepR, if_pos (by omega)]
        have hb2 := hbd'.on hlt (by omega) e
        have hf := feedR_some hlt e
        rw [hf] at h1 h2
        obtain ⟨K, hK⟩ : ∃ K, (st.ok && !(st.cnt == 0 || st.us)) = K := ⟨_, rfl⟩
        rw [hK] at hb2 h1 h2
        have HB : Hid (RBd s (pos + 1) ⟨st.n, st.cnt, true, K⟩) := hb2
        have H1 : Hid ((feedR 10 ⟨st.n, st.cnt, true, K⟩ (s.data.toList.drop (pos + 1))).1 = F.1) := h1
        have H2 : Hid (pos + ((feedR 10 ⟨st.n, st.cnt, true, K⟩ (s.data.toList.drop (pos + 1))).2 + 1) = at0 + F.2) := h2
        clear e hf hb2 h1 h2 hF hbd'
        by_cases hc : (st.cnt == 0) = true
        · have hK' : K = false := by rw [← hK, hc]; simp
          subst hK'
          clear hus hK
          go_wp2
          all_goals go_roundg g'
          all_goals first
            | omega
            | exact ⟨pos + 1, ⟨st.n, st.cnt, true, false⟩, rfl, rfl, by first | rfl | (have : st.cnt = 0 := by simpa using hc; rw [this]), rfl, rfl, H1.out, by have := H2.out; omega, HB.out, by omega, by omega⟩
        · have hc' : (st.cnt == 0) = false := by simpa using hc
          obtain ⟨hp, hge, hpi⟩ := us_is hus c0 hc hps
          clear hus
          cases hq : st.us with
          | true =>
            have hK' : K = false := by rw [← hK, hq]; simp
            subst hK'
            rw [hq] at hpi
            clear hK hq
            go_wp2
            all_goals go_roundg g'
            all_goals first
              | omega
              | exact ⟨pos + 1, ⟨st.n, st.cnt, true, false⟩, rfl, rfl, rfl, rfl, rfl, H1.out, by have := H2.out; omega, HB.out, by omega, by omega⟩
          | false =>
            have hK' : K = st.ok := by rw [← hK, hq, hc']; simp
            subst hK'
            rw [hq] at hpi
            clear hK hq
            go_wp2
            all_goals go_roundg g'
            all_goals first
              | omega
              | exact ⟨pos + 1, ⟨st.n, st.cnt, true, st.ok⟩, rfl, rfl, rfl, rfl, rfl, H1.out, by have := H2.out; omega, HB.out, by omega, by omega⟩
      · obtain ⟨C, hC⟩ : ∃ C, (s[pos]'hlt).toNat = C := ⟨_, rfl⟩
        have hC1 : C < 256 := hC ▸ (s[pos]'hlt).toNat_lt
        rw [hC] at hu
        have e0 : stepR 10 st ((s[pos]'hlt).toNat : Int) = if digR 10 C < 0 ∨ 10 ≤ digR 10 C then none else some ⟨min (st.n * 10 + digR 10 C) 4398046511104, st.cnt + 1, false, st.ok⟩ := by
          rw [hC, stepR, if_neg (by omega)]
        by_cases hd : digR 10 C < 0 ∨ 10 ≤ digR 10 C
        · rw [if_pos hd] at e0
          have hf := feedR_none hlt e0
          rw [hf] at h1 h2
          have H1 : Hid (st = F.1) := h1
          have H2 : Hid (pos + 0 = at0 + F.2) := h2
          clear e0 hf h1 h2 hF hbd'
          have hd' : C < 48 ∨ 57 < C := by
            unfold digR at hd
            by_cases q1 : 48 ≤ (C : Int) ∧ (C : Int) ≤ 57
            · rw [if_pos q1] at hd; omega
            · rw [if_neg q1] at hd
              by_cases q2 : (10 : Int) = 16 ∧ 97 ≤ (C : Int) ∧ (C : Int) ≤ 102
              · rw [if_pos q2] at hd; omega
              · rw [if_neg q2] at hd; omega
          clear hd
          by_cases hc : (st.cnt == 0) = true
          · have HE : Hid (endR st = false) := by show _ = _; simp [endR, hc]
            clear hus
            rcases hd' with q1 | q1
            all_goals go_wp2
            all_goals go_ret3
            all_goals exact ⟨by rw [← H1.out, show Z = (pos : Int) by have := H2.out; have := HZ.out; omega, HE.out]; rfl, rfl⟩
          · have hc' : (st.cnt == 0) = false := by simpa using hc
            obtain ⟨hp, hge, hpi⟩ := us_is hus c0 hc hps
            clear hus
            cases hq : st.us with
            | true =>
              have HE : Hid (endR st = false) := by show _ = _; simp [endR, hq]
              rw [hq] at hpi
              clear hq
              rcases hd' with q1 | q1
              all_goals go_wp2
              all_goals go_ret3
              all_goals exact ⟨by rw [← H1.out, show Z = (pos : Int) by have := H2.out; have := HZ.out; omega, HE.out]; rfl, rfl⟩
            | false =>
              have HE : Hid (endR st = st.ok) := by show _ = _; simp [endR, hq, hc']
              rw [hq] at hpi
              clear hq
              rcases hd' with q1 | q1
              all_goals go_wp2
              all_goals go_ret3
              all_goals exact ⟨by rw [← H1.out, show Z = (pos : Int) by have := H2.out; have := HZ.out; omega, HE.out]; rfl, rfl⟩
        · rw [if_neg hd] at e0
          have hb2 := hbd'.on hlt (by omega) e0
          have hf := feedR_some hlt e0
          rw [hf] at h1 h2
          have hd' : 48 ≤ C ∧ C ≤ 57 ∧ digR 10 C = (C : Int) - 48 := by
            unfold digR at hd ⊢
            by_cases q1 : 48 ≤ (C : Int) ∧ (C : Int) ≤ 57
            · rw [if_pos q1] at hd ⊢; omega
            · rw [if_neg q1] at hd ⊢
              by_cases q2 : (10 : Int) = 16 ∧ 97 ≤ (C : Int) ∧ (C : Int) ≤ 102
              · rw [if_pos q2] at hd ⊢; omega
              · rw [if_neg q2] at hd; omega
          clear hd e0 hf hF hbd' hus
          obtain ⟨q1, q2, q4⟩ := hd'
          rw [q4] at hb2 h1 h2
          have HB : Hid (RBd s (pos + 1) ⟨min (st.n * 10 + ((C : Int) - 48)) 4398046511104, st.cnt + 1, false, st.ok⟩) := hb2
          have H1 : Hid ((feedR 10 ⟨min (st.n * 10 + ((C : Int) - 48)) 4398046511104, st.cnt + 1, false, st.ok⟩ (s.data.toList.drop (pos + 1))).1 = F.1) := h1
          have H2 : Hid (pos + ((feedR 10 ⟨min (st.n * 10 + ((C : Int) - 48)) 4398046511104, st.cnt + 1, false, st.ok⟩ (s.data.toList.drop (pos + 1))).2 + 1) = at0 + F.2) := h2
          clear hb2 h1 h2 q4
          go_wp2
          all_goals go_roundg g'
          all_goals first
            | omega
            | exact ⟨pos + 1, ⟨min (st.n * 10 + ((C : Int) - 48)) 4398046511104, st.cnt + 1, false, st.ok⟩, rfl, by congr 1; show _ = min _ _; omega, rfl, rfl, rfl, H1.out, by have := H2.out; omega, HB.out, by omega, by omega⟩
    · have hf := feedR_end (base := 10) (st := st) hlt
      rw [hf] at h1 h2
      have H1 : Hid (st = F.1) := h1
      have H2 : Hid (pos + 0 = at0 + F.2) := h2
      clear hf h1 h2 hF hbd'
      by_cases hc : (st.cnt == 0) = true
      · have HE : Hid (endR st = false) := by show _ = _; simp [endR, hc]
        clear hus
        go_wp2
        all_goals go_ret3
        all_goals exact ⟨by rw [← H1.out, show Z = (pos : Int) by have := H2.out; have := HZ.out; omega, HE.out]; rfl, rfl⟩
      · have hc' : (st.cnt == 0) = false := by simpa using hc
        obtain ⟨hp, hge, hpi⟩ := us_is hus c0 hc hps
        clear hus
        cases hq : st.us with
        | true =>
          have HE : Hid (endR st = false) := by show _ = _; simp [endR, hq]
          rw [hq] at hpi
          clear hq
          go_wp2
          all_goals go_ret3
          all_goals exact ⟨by rw [← H1.out, show Z = (pos : Int) by have := H2.out; have := HZ.out; omega, HE.out]; rfl, rfl⟩
        | false =>
          have HE : Hid (endR st = st.ok) := by show _ = _; simp [endR, hq, hc']
          rw [hq] at hpi
          clear hq
          go_wp2
          all_goals go_ret3
          all_goals exact ⟨by rw [← H1.out, show Z = (pos : Int) by have := H2.out; have := HZ.out; omega, HE.out]; rfl, rfl⟩
end Go.Proofs.YtelgiffhgkbpeaaDoor
