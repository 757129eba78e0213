/- The document's answer: the loop of a time's literal, from place 5 on. -/
import Derived.Test.YtelgiffhgkbpeaaDoorRE
namespace Go.Proofs.YtelgiffhgkbpeaaDoor
open Go.RowKit

set_option maxHeartbeats 8000000 in
set_option maxRecDepth 100000 in
theorem loop5_any (s : ByteArray) (w : World) (hsz : s.size ≤ 40) (hat : 5 < s.size) (hpre : ((s.extract 0 5).toList == [116, 105, 109, 101, 35]) = true) :
    Calls Tryd.prog 20 #[.string s] w fun e w' => e = .returned (.tuple #[.int .i64 (spanR s.size 0 5 (s.data.toList.drop 5)).1, .bool (spanR s.size 0 5 (s.data.toList.drop 5)).2]) ∧ Below w.heap.size w w' := by
  obtain ⟨F, hF⟩ : ∃ F, spanR s.size 0 5 (s.data.toList.drop 5) = F := ⟨_, rfl⟩
  rw [hF]
  have hF0 : Hid (spanR s.size 0 5 (s.data.toList.drop 5) = F) := hF
  clear hF
  have hz : ((5 : Int) == (s.size : Int)) = false := by rw [beq_eq_false_iff_ne]; omega
  go_enter Tryd.func20, Tryd.ntmps20
  go_wp2
  go_loopg [4, 5, 6] s.size (fun gk s4 s5 s6 wx => ∃ (pos : Nat) (sum least : Int), s4 = .int .i64 pos ∧ s5 = .int .i64 sum ∧ s6 = .int .i64 least ∧ Below w.heap.size w wx ∧ spanR gk sum least (s.data.toList.drop pos) = F ∧ s.size ≤ pos + gk ∧ pos ≤ s.size ∧ 0 ≤ sum ∧ sum ≤ 4398046511104 ∧ 0 ≤ least ∧ least ≤ 5)
  case atStart => exact ⟨5, 0, 5, rfl, rfl, rfl, Below.refl _ _, hF0.out, by omega, by omega, by omega, by omega, by omega, by omega⟩
  case round =>
    obtain ⟨pos, sum, least, rfl, rfl, rfl, hbl, hF2, hfu, hps, s0, s1, l0, l1⟩ := hrel
    clear hF0 hz hpre
    by_cases hlt : pos < s.size
    · obtain ⟨g', rfl⟩ : ∃ g', gk = g' + 1 := ⟨gk - 1, by omega⟩
      have hlen : (s.data.toList.drop pos).length = s.size - pos := by rw [List.length_drop, Array.length_toList]; rfl
      have hne : s.data.toList.drop pos ≠ [] := by
        intro h; rw [h] at hlen; simp at hlen; omega
      have c := fun W => run10_any s pos W (by omega) hps
      obtain ⟨N, hN⟩ : ∃ N, feedR 10 r0 (s.data.toList.drop pos) = N := ⟨_, rfl⟩
      have hle : N.2 ≤ s.size - pos := by rw [← hlen, ← hN]; exact feedR_le 10 _ _
      have hn := feedR_n 10 (.inl rfl) (s.data.toList.drop pos) r0 (by decide) (by decide)
      rw [hN] at c hn
      obtain ⟨n0, n1⟩ := hn
      obtain ⟨E, hE⟩ : ∃ E, pos + N.2 = E := ⟨_, rfl⟩
      rw [hE] at c
      have hEs : E ≤ s.size := by omega
      cases hok : endR N.1 with
      | false =>
        rw [hok] at c
        rw [spanR_fail1 hN hne (.inl hok)] at hF2
        clear hne hN hlen hok
        go_wp2_with (go_at_call 21; go_must (refine (c _).mono ?_; rintro e w' ⟨rfl, rfl⟩))
        all_goals go_ret2
        all_goals exact ⟨by rw [← hF2]; rfl, hbl⟩
      | true =>
        rw [hok] at c
        by_cases hEe : E < s.size
        · have hdr : (s.data.toList.drop pos).drop N.2 = (s[E]'hEe) :: s.data.toList.drop (E + 1) := by
            rw [List.drop_drop, hE, drop_at s E hEe]
          have hre : (s.data.toList.drop pos).drop N.2 ≠ [] := by rw [hdr]; simp
          obtain ⟨C, hC⟩ : ∃ C, (s[E]'hEe).toNat = C := ⟨_, rfl⟩
          have hC1 : C < 256 := hC ▸ (s[E]'hEe).toNat_lt
          clear hlen hle
          by_cases c1 : C = 100
          · skip
            have hrk : rankR ((s.data.toList.drop pos).drop N.2) = (4, 1) := by
              rw [hdr, rankR, hC, if_pos c1]
            by_cases hl : 4 < least
            · skip
              have hst := spanR_step (f := g') (sum := sum) (least := least) (r := (4, 1)) hN hne hok hre hrk (by omega)
              rw [hst] at hF2
              have ewd : worthR 4 = 86400000 := by decide
              rw [show ((4, 1) : Int × Nat).1 = 4 from rfl, show ((4, 1) : Int × Nat).2 = 1 from rfl, ewd, List.drop_drop, List.drop_drop, show pos + (N.2 + 1) = E + 1 by omega] at hF2
              have HF : Hid (spanR g' (min (sum + clipR N.1.n 86400000 * 86400000) 4398046511104) 4 (s.data.toList.drop (E + 1)) = F) := hF2
              clear hst hF2 hrk ewd hre hne hN
              go_wp2_with (go_at_call 21; go_must (refine (c _).mono ?_; rintro e w' ⟨rfl, rfl⟩))
              all_goals go_roundg g'
              all_goals first
                | omega
                | exact ⟨E + 1, min (sum + clipR N.1.n 86400000 * 86400000) 4398046511104, 4, rfl, by congr 1; unfold clipR; split <;> omega, rfl, hbl.alloc hbl.size _, HF.out, by omega, by omega, by unfold clipR; split <;> omega, by omega, by omega, by omega⟩
            · skip
              have hst := spanR_fail2 (f := g') (sum := sum) (least := least) hN hne hok hre hrk (by first | (exact .inl (by decide)) | (exact .inr (by show least ≤ _; omega)))
              rw [hst] at hF2
              clear hst hrk hre hne hN
              go_wp2_with (go_at_call 21; go_must (refine (c _).mono ?_; rintro e w' ⟨rfl, rfl⟩))
              all_goals go_ret2
              all_goals exact ⟨by rw [← hF2]; rfl, hbl⟩
          · by_cases c2 : C = 104
            · skip
              have hrk : rankR ((s.data.toList.drop pos).drop N.2) = (3, 1) := by
                rw [hdr, rankR, hC, if_neg c1, if_pos c2]
              by_cases hl : 3 < least
              · skip
                have hst := spanR_step (f := g') (sum := sum) (least := least) (r := (3, 1)) hN hne hok hre hrk (by omega)
                rw [hst] at hF2
                have ewd : worthR 3 = 3600000 := by decide
                rw [show ((3, 1) : Int × Nat).1 = 3 from rfl, show ((3, 1) : Int × Nat).2 = 1 from rfl, ewd, List.drop_drop, List.drop_drop, show pos + (N.2 + 1) = E + 1 by omega] at hF2
                have HF : Hid (spanR g' (min (sum + clipR N.1.n 3600000 * 3600000) 4398046511104) 3 (s.data.toList.drop (E + 1)) = F) := hF2
                clear hst hF2 hrk ewd hre hne hN
                go_wp2_with (go_at_call 21; go_must (refine (c _).mono ?_; rintro e w' ⟨rfl, rfl⟩))
                all_goals go_roundg g'
                all_goals first
                  | omega
                  | exact ⟨E + 1, min (sum + clipR N.1.n 3600000 * 3600000) 4398046511104, 3, rfl, by congr 1; unfold clipR; split <;> omega, rfl, hbl.alloc hbl.size _, HF.out, by omega, by omega, by unfold clipR; split <;> omega, by omega, by omega, by omega⟩
              · skip
                have hst := spanR_fail2 (f := g') (sum := sum) (least := least) hN hne hok hre hrk (by first | (exact .inl (by decide)) | (exact .inr (by show least ≤ _; omega)))
                rw [hst] at hF2
                clear hst hrk hre hne hN
                go_wp2_with (go_at_call 21; go_must (refine (c _).mono ?_; rintro e w' ⟨rfl, rfl⟩))
                all_goals go_ret2
                all_goals exact ⟨by rw [← hF2]; rfl, hbl⟩
            · by_cases c3 : C = 109
              · by_cases hE1 : E + 1 < s.size
                · have hdr2 := drop_at s (E + 1) hE1
                  obtain ⟨C2, hC2⟩ : ∃ C2, (s[E + 1]'hE1).toNat = C2 := ⟨_, rfl⟩
                  by_cases c5 : C2 = 115
                  · skip
                    have hrk : rankR ((s.data.toList.drop pos).drop N.2) = (0, 2) := by
                      rw [hdr, rankR, hC, if_neg c1, if_neg c2, if_pos c3, hdr2, List.headD_cons, hC2, if_pos c5]
                    by_cases hl : 0 < least
                    · skip
                      have hst := spanR_step (f := g') (sum := sum) (least := least) (r := (0, 2)) hN hne hok hre hrk (by omega)
                      rw [hst] at hF2
                      have ewd : worthR 0 = 1 := by decide
                      rw [show ((0, 2) : Int × Nat).1 = 0 from rfl, show ((0, 2) : Int × Nat).2 = 2 from rfl, ewd, List.drop_drop, List.drop_drop, show pos + (N.2 + 2) = E + 2 by omega] at hF2
                      have HF : Hid (spanR g' (min (sum + clipR N.1.n 1 * 1) 4398046511104) 0 (s.data.toList.drop (E + 2)) = F) := hF2
                      clear hdr2 hst hF2 hrk ewd hre hne hN
                      go_wp2_with (go_at_call 21; go_must (refine (c _).mono ?_; rintro e w' ⟨rfl, rfl⟩))
                      all_goals go_roundg g'
                      all_goals first
                        | omega
                        | exact ⟨E + 2, min (sum + clipR N.1.n 1 * 1) 4398046511104, 0, rfl, by congr 1; unfold clipR; split <;> omega, rfl, hbl.alloc hbl.size _, HF.out, by omega, by omega, by unfold clipR; split <;> omega, by omega, by omega, by omega⟩
                    · skip
                      have hst := spanR_fail2 (f := g') (sum := sum) (least := least) hN hne hok hre hrk (by first | (exact .inl (by decide)) | (exact .inr (by show least ≤ _; omega)))
                      rw [hst] at hF2
                      clear hst hrk hre hne hN
                      go_wp2_with (go_at_call 21; go_must (refine (c _).mono ?_; rintro e w' ⟨rfl, rfl⟩))
                      all_goals go_ret2
                      all_goals exact ⟨by rw [← hF2]; rfl, hbl⟩
                  · skip
                    have hrk : rankR ((s.data.toList.drop pos).drop N.2) = (2, 1) := by
                      rw [hdr, rankR, hC, if_neg c1, if_neg c2, if_pos c3, hdr2, List.headD_cons, hC2, if_neg c5]
                    by_cases hl : 2 < least
                    · skip
                      have hst := spanR_step (f := g') (sum := sum) (least := least) (r := (2, 1)) hN hne hok hre hrk (by omega)
                      rw [hst] at hF2
                      have ewd : worthR 2 = 60000 := by decide
                      rw [show ((2, 1) : Int × Nat).1 = 2 from rfl, show ((2, 1) : Int × Nat).2 = 1 from rfl, ewd, List.drop_drop, List.drop_drop, show pos + (N.2 + 1) = E + 1 by omega] at hF2
                      have HF : Hid (spanR g' (min (sum + clipR N.1.n 60000 * 60000) 4398046511104) 2 (s.data.toList.drop (E + 1)) = F) := hF2
                      clear hdr2 hst hF2 hrk ewd hre hne hN
                      go_wp2_with (go_at_call 21; go_must (refine (c _).mono ?_; rintro e w' ⟨rfl, rfl⟩))
                      all_goals go_roundg g'
                      all_goals first
                        | omega
                        | exact ⟨E + 1, min (sum + clipR N.1.n 60000 * 60000) 4398046511104, 2, rfl, by congr 1; unfold clipR; split <;> omega, rfl, hbl.alloc hbl.size _, HF.out, by omega, by omega, by unfold clipR; split <;> omega, by omega, by omega, by omega⟩
                    · skip
                      have hst := spanR_fail2 (f := g') (sum := sum) (least := least) hN hne hok hre hrk (by first | (exact .inl (by decide)) | (exact .inr (by show least ≤ _; omega)))
                      rw [hst] at hF2
                      clear hst hrk hre hne hN
                      go_wp2_with (go_at_call 21; go_must (refine (c _).mono ?_; rintro e w' ⟨rfl, rfl⟩))
                      all_goals go_ret2
                      all_goals exact ⟨by rw [← hF2]; rfl, hbl⟩
                · have hnil : s.data.toList.drop (E + 1) = [] := List.drop_eq_nil_of_le (by rw [Array.length_toList]; show s.size ≤ _; omega)
                  have hrk : rankR ((s.data.toList.drop pos).drop N.2) = (2, 1) := by
                    rw [hdr, rankR, hC, if_neg c1, if_neg c2, if_pos c3, hnil, List.headD_nil, if_neg (by decide)]
                  by_cases hl : 2 < least
                  · skip
                    have hst := spanR_step (f := g') (sum := sum) (least := least) (r := (2, 1)) hN hne hok hre hrk (by omega)
                    rw [hst] at hF2
                    have ewd : worthR 2 = 60000 := by decide
                    rw [show ((2, 1) : Int × Nat).1 = 2 from rfl, show ((2, 1) : Int × Nat).2 = 1 from rfl, ewd, List.drop_drop, List.drop_drop, show pos + (N.2 + 1) = E + 1 by omega] at hF2
                    have HF : Hid (spanR g' (min (sum + clipR N.1.n 60000 * 60000) 4398046511104) 2 (s.data.toList.drop (E + 1)) = F) := hF2
                    clear hnil hst hF2 hrk ewd hre hne hN
                    go_wp2_with (go_at_call 21; go_must (refine (c _).mono ?_; rintro e w' ⟨rfl, rfl⟩))
                    all_goals go_roundg g'
                    all_goals first
                      | omega
                      | exact ⟨E + 1, min (sum + clipR N.1.n 60000 * 60000) 4398046511104, 2, rfl, by congr 1; unfold clipR; split <;> omega, rfl, hbl.alloc hbl.size _, HF.out, by omega, by omega, by unfold clipR; split <;> omega, by omega, by omega, by omega⟩
                  · skip
                    have hst := spanR_fail2 (f := g') (sum := sum) (least := least) hN hne hok hre hrk (by first | (exact .inl (by decide)) | (exact .inr (by show least ≤ _; omega)))
                    rw [hst] at hF2
                    clear hst hrk hre hne hN
                    go_wp2_with (go_at_call 21; go_must (refine (c _).mono ?_; rintro e w' ⟨rfl, rfl⟩))
                    all_goals go_ret2
                    all_goals exact ⟨by rw [← hF2]; rfl, hbl⟩
              · by_cases c4 : C = 115
                · skip
                  have hrk : rankR ((s.data.toList.drop pos).drop N.2) = (1, 1) := by
                    rw [hdr, rankR, hC, if_neg c1, if_neg c2, if_neg c3, if_pos c4]
                  by_cases hl : 1 < least
                  · skip
                    have hst := spanR_step (f := g') (sum := sum) (least := least) (r := (1, 1)) hN hne hok hre hrk (by omega)
                    rw [hst] at hF2
                    have ewd : worthR 1 = 1000 := by decide
                    rw [show ((1, 1) : Int × Nat).1 = 1 from rfl, show ((1, 1) : Int × Nat).2 = 1 from rfl, ewd, List.drop_drop, List.drop_drop, show pos + (N.2 + 1) = E + 1 by omega] at hF2
                    have HF : Hid (spanR g' (min (sum + clipR N.1.n 1000 * 1000) 4398046511104) 1 (s.data.toList.drop (E + 1)) = F) := hF2
                    clear hst hF2 hrk ewd hre hne hN
                    go_wp2_with (go_at_call 21; go_must (refine (c _).mono ?_; rintro e w' ⟨rfl, rfl⟩))
                    all_goals go_roundg g'
                    all_goals first
                      | omega
                      | exact ⟨E + 1, min (sum + clipR N.1.n 1000 * 1000) 4398046511104, 1, rfl, by congr 1; unfold clipR; split <;> omega, rfl, hbl.alloc hbl.size _, HF.out, by omega, by omega, by unfold clipR; split <;> omega, by omega, by omega, by omega⟩
                  · skip
                    have hst := spanR_fail2 (f := g') (sum := sum) (least := least) hN hne hok hre hrk (by first | (exact .inl (by decide)) | (exact .inr (by show least ≤ _; omega)))
                    rw [hst] at hF2
                    clear hst hrk hre hne hN
                    go_wp2_with (go_at_call 21; go_must (refine (c _).mono ?_; rintro e w' ⟨rfl, rfl⟩))
                    all_goals go_ret2
                    all_goals exact ⟨by rw [← hF2]; rfl, hbl⟩
                · have hrk : rankR ((s.data.toList.drop pos).drop N.2) = (-1, 1) := by
                    rw [hdr, rankR, hC, if_neg c1, if_neg c2, if_neg c3, if_neg c4]
                  clear hdr
                  have hst := spanR_fail2 (f := g') (sum := sum) (least := least) hN hne hok hre hrk (by first | (exact .inl (by decide)) | (exact .inr (by show least ≤ _; omega)))
                  rw [hst] at hF2
                  clear hst hrk hre hne hN
                  go_wp2_with (go_at_call 21; go_must (refine (c _).mono ?_; rintro e w' ⟨rfl, rfl⟩))
                  all_goals go_ret2
                  all_goals exact ⟨by rw [← hF2]; rfl, hbl⟩
        · have hEq : E = s.size := by omega
          have hnil : (s.data.toList.drop pos).drop N.2 = [] := List.drop_eq_nil_of_le (by omega)
          rw [spanR_fail1 hN hne (.inr hnil)] at hF2
          clear hne hN hlen hnil
          go_wp2_with (go_at_call 21; go_must (refine (c _).mono ?_; rintro e w' ⟨rfl, rfl⟩))
          all_goals go_ret2
          all_goals exact ⟨by rw [← hF2]; rfl, hbl⟩
    · have hnil : s.data.toList.drop pos = [] := List.drop_eq_nil_of_le (by rw [Array.length_toList]; show s.size ≤ pos; omega)
      rw [hnil, spanR_nil] at hF2
      clear hnil
      go_wp2
      go_ret2
      exact ⟨by rw [← hF2]; rfl, hbl⟩
end Go.Proofs.YtelgiffhgkbpeaaDoor
