/- Record, the document's. -/
import Derived.Test.YtlbipcecdcmgdaaDoorRj
import Derived.Lib.SlBytesConst
namespace Go.Proofs.YtlbipcecdcmgdaaDoor
open Go.RowKit
attribute [local go_sem ↓] Go.wp_at_zero Go.wp_at_succ
set_option linter.unusedVariables false
set_option linter.unusedSimpArgs false

def bodyT (l : List Int) : List Nat := fourL (nN (l.filter okW))
theorem bodyT_len (l : List Int) : (bodyT l).length ≤ l.length * 4 := by
  unfold bodyT
  rw [fourL_len, nN_len]
  exact Nat.mul_le_mul_right _ (List.length_filter_le _ _)
theorem bodyT_all {l : List Int} (h : l.all okW = true) : bodyT l = fourL (nN l) := by
  unfold bodyT
  rw [List.filter_eq_self.2 (fun x hx => List.all_eq_true.1 h x hx)]
theorem bodyT_yes (l : List Int) (x : Int) (h : okW x = true) : bodyT (l ++ [x]) = bodyT l ++ four x.toNat := by
  unfold bodyT
  rw [List.filter_append]
  simp [h, nN, fourL]
theorem bodyT_no (l : List Int) (x : Int) (h : okW x = false) : bodyT (l ++ [x]) = bodyT l := by
  unfold bodyT
  rw [List.filter_append]
  simp [h]
/-- Four bytes behind a list without room. -/
theorem grow4 {w : World} {g : Nat} {a' : Option Addr} {c' : Nat} {y : Nat} {fr : Nat × Nat} (h : w.heap[g]? = some (.cells #[.int .u8 80, .int .u8 87, .int .u8 82, .int .u8 49] 5 fr)) (h' : rdB w (.slice a' (four y).length c') (four y)) :
    ∃ b d w', (Builtin.append_ #[23, 23] 23 #[.slice (some ⟨g, 0, none⟩) 4 4, .slice a' 4 c']).run Tryd.prog w = .ok (.slice b 8 d) w' ∧ OwnB w.heap.size w' b d ([80, 87, 82, 49] ++ four y) ∧ w.grownBy w' none := by
  obtain ⟨i0, hi, hz0, hz1, hz2⟩ := info_parts info5
  rcases h'.cells with h0 | ⟨b, off, rfl, hc⟩
  · rw [four_len] at h0; omega
  obtain ⟨v', w', r1, r2, r3⟩ := run_append_arg_grows (P := Tryd.prog) w 23 23 5 i0 _ 1 1 Tryd.underlying23 hi hz0 hz1 hz2 rfl (by omega) ⟨g, 0, none⟩ 4 4 (bV [80, 87, 82, 49]) rfl
    (fun j u hj => by
      have hj4 : j < 4 := by have := (List.getElem?_eq_some_iff.1 hj).1; simpa [bV] using this
      rw [addn, World.cell?, h]
      have h4 : j = 0 ∨ j = 1 ∨ j = 2 ∨ j = 3 := by omega
      rcases h4 with rfl | rfl | rfl | rfl <;> simpa [bV] using hj)
    ⟨b, off, none⟩ 4 c' (bV (four y)) rfl hc (by omega) (by unfold maxLen; omega) (by omega)
  have r2' := r2
  obtain ⟨_, ⟨hx, hn⟩ | ⟨g', cap', cur, rfl, _⟩⟩ := r2'
  · omega
  · exact ⟨_, cap', w', r1, r2, r3⟩
set_option maxRecDepth 10000 in
set_option maxHeartbeats 1000000 in
theorem refRecord_any (l : List Int) (s : Int) (u : Value) (w : World) (hu : rd w u l) : Calls Tryd.prog 9 #[u, .int .i64 s] w fun e w' => RecP w w' e (recS l s) (lookE l s) := by
  obtain ⟨a, cap, rfl, ha⟩ := id hu
  by_cases h : 2000 < l.length
  · have hE : lookE l s = 4 := by unfold lookE; rw [if_pos h]
    have hR : recS l s = [] := by unfold recS; rw [if_neg (by omega)]
    rw [hE, hR]
    have i0 : (2000 : Int) < (l.length : Int) := by omega
    go_enter Tryd.func9, Tryd.ntmps9
    go_wp2
    go_ret2
    exact ⟨_, _, rfl, OwnB.nil _ _, World.grownBy.refl _ _⟩
  have HA : Hid (l = [] ∨ ∃ b off, a = some ⟨b, off, none⟩ ∧ ∀ i, i < l.length → w.cell? ⟨b, off + i, none⟩ = some (.int .i64 (l.getD i 0))) := ha
  have HE : Hid (lookE l s = if okW s && l.all okW then 0 else 3) := hidI (by unfold lookE; rw [if_neg h])
  clear ha hu
  obtain ⟨n, hn⟩ : ∃ n, l.length = n := ⟨_, rfl⟩
  have HN : Hid (l.length = n) := hn
  rw [hn] at h ⊢
  clear hn
  have i0 : ¬ (2000 : Int) < (n : Int) := by omega
  obtain ⟨ks, hks⟩ : ∃ b, okW s = b := ⟨_, rfl⟩
  have hcase : (0 ≤ s ∧ s ≤ 4294967295 ∧ ks = true) ∨ (0 ≤ s ∧ ¬ s ≤ 4294967295 ∧ ks = false) ∨ (¬ 0 ≤ s ∧ ks = false) := by
    rw [← hks]
    unfold okW
    by_cases h1 : 0 ≤ s <;> by_cases h2 : s ≤ 4294967295 <;> simp [h1, h2] <;> omega
  have HK : Hid (okW s = ks) := hks
  clear hks
  rcases hcase with ⟨s1, s2, rfl⟩ | ⟨s1, s2, rfl⟩ | ⟨s1, rfl⟩
  all_goals (
    go_enter Tryd.func9, Tryd.ntmps9
    go_wp2_with fail
    go_loopg [6, 7, 8] n (fun gk s6 s7 s8 wx => ∃ (k : Nat) (ok : Bool) (ba : Option Addr) (bc L : Nat), s8 = .int .i64 k ∧ s6 = .bool ok ∧ s7 = .slice ba L bc ∧ k ≤ n ∧ gk = n - k ∧ Hid (L = (bodyT (l.take k)).length ∧ ok = (okW s && (l.take k).all okW) ∧ OwnB w.heap.size wx ba bc (bodyT (l.take k))) ∧ w.grownBy wx none)
    case atStart => exact ⟨0, _, none, 0, 0, rfl, rfl, rfl, Nat.zero_le _, by omega, hidI ⟨rfl, by rw [HK.out]; rfl, OwnB.nil _ _⟩, World.grownBy.refl _ _⟩
    case round =>
      obtain ⟨k, ok, ba, bc, L, rfl, rfl, rfl, hk, hgk, HB, hgr⟩ := hrel
      have HG : Hid (gk = n - k) := hgk
      clear hgk
      by_cases hlt : k < n
      · have hkl : k < l.length := by rw [HN.out]; exact hlt
        rcases HA.out with h | ⟨b, off, rfl, hc⟩
        · subst h; simp at hkl
        have q0 := hgr.cell (hc k hkl) (by simp)
        have hT : l.take (k + 1) = l.take k ++ [l.getD k 0] := by
          rw [List.take_add_one]
          simp [List.getD, hkl]
        have HT : Hid (_ = _) := hT
        clear hc hkl hT
        generalize l.getD k 0 = x at *
        have j1 : (0 : Int) ≤ (k : Int) := by omega
        have j2 : (k : Int) < (n : Int) := by omega
        have hx3 : (0 ≤ x ∧ x ≤ 4294967295 ∧ okW x = true) ∨ (0 ≤ x ∧ ¬ x ≤ 4294967295 ∧ okW x = false) ∨ (¬ 0 ≤ x ∧ okW x = false) := by
          unfold okW
          by_cases h1 : 0 ≤ x <;> by_cases h2 : x ≤ 4294967295 <;> simp [h1, h2] <;> omega
        rcases hx3 with ⟨x1, x2, hx⟩ | ⟨x1, x2, hx⟩ | ⟨x1, hx⟩
        · have HX : Hid (okW x = true) := hx
          obtain ⟨y, rfl⟩ := Int.eq_ofNat_of_zero_le x1
          have cF := four_any y wr (by omega)
          clear hx
          go_wp2_with fail
          refine cF.mono ?_
          rintro e w4 ⟨g, rfl, ho4, hg4⟩
          have hg04 := grown_join hgr hg4 (.inl rfl)
          have HL : Hid (_ ≤ _) := bodyT_len (l.take k)
          obtain ⟨b', d', w5, hrun, ho5, hgg⟩ := run_join (HB.out.2.2.kept hg4) ho4.rd (by rw [four_len]; omega) (by have h1 := HL.out; rw [List.length_take] at h1; rw [four_len]; omega) hg04.size
          have hg05 := hgg w (Nat.le_refl _) hg04
          rw [← HB.out.1, four_len, List.length_append, ← HB.out.1, four_len] at hrun
          have HRUN : Hid (_ = _) := hrun
          have HNEW : Hid (L + 4 = (bodyT (l.take (k + 1))).length ∧ ok = (okW s && (l.take (k + 1)).all okW) ∧ OwnB w.heap.size w5 b' d' (bodyT (l.take (k + 1)))) := hidI (by
            rw [HT.out, bodyT_yes _ _ HX.out, List.all_append]
            refine ⟨?_, ?_, ho5⟩
            · rw [List.length_append, ← HB.out.1, Int.toNat_natCast, four_len]
            · rw [HB.out.2.1]; simp [HX.out])
          clear hrun ho5 hgg ho4 cF
          go_wp2_with (first | (at_builtin; refine hidG ?_))
          refine hidI ?_
          refine wpList_append_run rfl _ _ 23 rfl _ _ _ w5 rfl rfl HRUN.out ?_
          go_wp2
          have hgl := HG.out
          go_roundg (n - (k + 1))
          all_goals first | omega | exact ⟨k + 1, ok, b', d', L + 4, by go_num, rfl, rfl, by omega, by omega, HNEW, hg05⟩
        all_goals (
          have HNEW : Hid (L = (bodyT (l.take (k + 1))).length ∧ false = (okW s && (l.take (k + 1)).all okW) ∧ OwnB w.heap.size wr ba bc (bodyT (l.take (k + 1)))) := hidI (by
            rw [HT.out, bodyT_no _ _ hx, List.all_append]
            refine ⟨HB.out.1, ?_, HB.out.2.2⟩
            simp [hx])
          clear hx
          go_wp2
          have hgl := HG.out
          go_roundg (n - (k + 1))
          all_goals first | omega | exact ⟨k + 1, false, ba, bc, L, by go_num, rfl, rfl, by omega, by omega, HNEW, hgr⟩)
      · have j2 : ¬ ((k : Int) < (n : Int)) := by omega
        have hkn : l.take k = l := List.take_of_length_le (by rw [HN.out]; omega)
        rw [hkn] at HB
        cases ok with
        | false =>
          have hE : lookE l s = 3 := by rw [HE.out, ← HB.out.2.1]; rfl
          have HR : Hid (recS l s = []) := hidI (by unfold recS; rw [if_neg (by omega)])
          have HE3 : Hid (lookE l s = 3) := hE
          clear hE
          go_wp2
          go_ret2
          rw [HE3.out, HR.out]
          exact ⟨_, _, rfl, OwnB.nil _ _, hgr⟩
        | true =>
          have hh := HB.out.2.1
          rw [HK.out] at hh
          first
          | (exfalso; simp at hh; done)
          | (
            have hall : l.all okW = true := by simpa using hh.symm
            have HALL : Hid (l.all okW = true) := hall
            clear hh hall
            obtain ⟨y, rfl⟩ := Int.eq_ofNat_of_zero_le s1
            have hconv := Lib.run_convert_bytes_const (P := Tryd.prog) wr 23 5 #[.int .u8 80, .int .u8 87, .int .u8 82, .int .u8 49] 4 4 Tryd.underlying23 Tryd.underlying5
            have cF := fun W => four_any y W (by omega)
            have hgA := gr_alloc hgr (.cells #[.int .u8 80, .int .u8 87, .int .u8 82, .int .u8 49] 5 (4, 5))
            have hA : (wr.alloc (.cells #[.int .u8 80, .int .u8 87, .int .u8 82, .int .u8 49] 5 (4, 5))).heap[wr.heap.size]? = some (.cells #[.int .u8 80, .int .u8 87, .int .u8 82, .int .u8 49] 5 (4, 5)) := heap_alloc_new _ _
            have hWA : wr.grownBy (wr.alloc (.cells #[.int .u8 80, .int .u8 87, .int .u8 82, .int .u8 49] 5 (4, 5))) none := gr_alloc (World.grownBy.refl _ _) _
            have HWA := hidI (And.intro hgA (And.intro hA hWA))
            clear hgA hA hWA
            go_wp2_with fail
            refine (cF _).mono ?_
            rintro e w1 ⟨g1, rfl, ho1, hg1⟩
            obtain ⟨hgA, hA, hWA⟩ := HWA.out
            have hr1 := grown_join hWA hg1 (.inl rfl)
            obtain ⟨b2, d2, w2, hrun2, ho2, hg2⟩ := grow4 (kept hg1 hA) ho1.rd
            have hr2 := grown_join hr1 hg2 (.inl rfl)
            have ho2' := own_low ho2 hr1.size
            have HRUN2 : Hid (_ = _) := hrun2
            clear hrun2 ho2 hgA hA hWA hconv HWA
            go_wp2_with (first | (at_builtin; refine hidG ?_))
            refine hidI ?_
            refine wpList_append_run rfl _ _ 23 rfl _ _ _ w2 rfl rfl HRUN2.out ?_
            have cF2 := fun W => four_any n W (by omega)
            go_wp2_with fail
            refine (cF2 _).mono ?_
            rintro e w3 ⟨g3, rfl, ho3, hg3⟩
            have hr3 := grown_join hr2 hg3 (.inl rfl)
            obtain ⟨b4, d4, w4, hrun4, ho4, hgg4⟩ := run_joinZ (x := 8) (y := 4) (z := 12) rfl rfl rfl (own_keep ho2' hg3) ho3.rd (by omega) (by omega) hr3.size
            have hr4 := hgg4 wr (Nat.le_refl _) hr3
            have HRUN4 : Hid (_ = _) := hrun4
            have HLB := hidI (And.intro HB.out.1 (And.intro (bodyT_all HALL.out) HB.out.2.2))
            clear hrun4 ho3 hgg4 ho2' HRUN2 HB ho1 cF
            go_wp2_with (first | (at_builtin; refine hidG ?_))
            refine hidI ?_
            refine wpList_append_run rfl _ _ 23 rfl _ _ _ w4 rfl rfl HRUN4.out ?_
            have hHB : isB ([80, 87, 82, 49] ++ four y ++ four n) := isB_app (isB_app (by intro x hx; simp at hx; omega) (four_B _)) (four_B _)
            have cC : Calls Tryd.prog 28 #[.slice b4 12 d4] w4 _ := crc_any ([80, 87, 82, 49] ++ four y ++ four n) _ w4 hHB ho4.rd (by simp [four_len]; unfold maxLen; omega)
            have hcl := crc_lt ([80, 87, 82, 49] ++ four y ++ four n)
            have HH : Hid (headS l y = ([80, 87, 82, 49] ++ four y ++ four n) ++ four (crc ([80, 87, 82, 49] ++ four y ++ four n))) := hidI (by unfold headS summedS; rw [HN.out]; simp [fourL])
            have hH12 : ([80, 87, 82, 49] ++ four y ++ four n).length = 12 := rfl
            have HH12 : Hid (_ = _) := hH12
            clear hH12
            generalize ([80, 87, 82, 49] ++ four y ++ four n) = H12 at *
            have cF3 := fun W => four_any (crc H12) W hcl
            go_wp2_with fail
            refine cC.mono ?_
            rintro e w' ⟨rfl, rfl⟩
            go_wp2_with fail
            refine (cF3 _).mono ?_
            rintro e w5 ⟨g5, rfl, ho5, hg5⟩
            have hr5 := grown_join hr4 hg5 (.inl rfl)
            obtain ⟨b6, d6, w6, hrun6, ho6, hgg6⟩ := run_joinZ (x := 12) (y := 4) (z := 16) HH12.out rfl rfl (own_keep ho4 hg5) ho5.rd (by omega) (by omega) hr5.size
            have hr6 := hgg6 wr (Nat.le_refl _) hr5
            have HRUN6 : Hid (_ = _) := hrun6
            rw [← HH.out] at ho6
            clear hrun6 ho5 hgg6 ho4 HRUN4 cF3 cC cF2
            go_wp2_with (first | (at_builtin; refine hidG ?_))
            refine hidI ?_
            refine wpList_append_run rfl _ _ 23 rfl _ _ _ w6 rfl rfl HRUN6.out ?_
            obtain ⟨hL, hbt, hoB⟩ := HLB.out
            have hob6 := hoB.kept hr6
            have hbl : L ≤ 8000 := by rw [hL, hbt, fourL_len, nN_len, HN.out]; omega
            have cC2 := crc_any (bodyT l) _ w6 (by rw [hbt]; exact fourL_B _) hob6.rd (by rw [← hL]; unfold maxLen; omega)
            rw [← hL] at cC2
            have HBS : Hid (bodyS l = bodyT l ++ four (crc (bodyT l))) := hidI (by unfold bodyS summedS; rw [hbt]; rfl)
            have hcl2 := crc_lt (bodyT l)
            have hrb := hob6.rd
            rw [← hL] at hrb
            obtain ⟨b7, d7, w7, hrun7, ho7, hgg7⟩ := run_joinZ (x := 16) (y := L) (z := 16 + L) (headS_len l y) hL.symm rfl ho6 hrb (by omega) (by omega) hr6.size
            have hr7 := hgg7 wr (Nat.le_refl _) hr6
            have HRUN7 : Hid (_ = _) := hrun7
            have HL2 : Hid (_ = _) := hL
            clear hrun7 hgg7 ho6 HRUN6 hbt hoB hob6 hrb hL HLB
            have cF4 := fun W => four_any (crc (bodyT l)) W hcl2
            go_wp2_with fail
            refine cC2.mono ?_
            rintro e w' ⟨rfl, rfl⟩
            go_wp2_with (first | (at_builtin; refine hidG ?_))
            refine hidI ?_
            refine wpList_append_run rfl _ _ 23 rfl _ _ _ w7 rfl rfl HRUN7.out ?_
            go_wp2_with fail
            refine (cF4 _).mono ?_
            rintro e w8 ⟨g8, rfl, ho8, hg8⟩
            have hr8 := grown_join hr7 hg8 (.inl rfl)
            obtain ⟨b9, d9, w9, hrun9, ho9, hgg9⟩ := run_joinZ (x := 16 + L) (y := 4) (z := 16 + L + 4) (by rw [List.length_append, headS_len, ← HL2.out]) rfl rfl (own_keep ho7 hg8) ho8.rd (by omega) (by omega) hr8.size
            have hr9 := hgg9 wr (Nat.le_refl _) hr8
            have HRUN9 : Hid (_ = _) := hrun9
            clear hrun9 ho8 hgg9 ho7 HRUN7 cF4 cC2
            go_wp2_with (first | (at_builtin; refine hidG ?_))
            refine hidI ?_
            refine wpList_append_run rfl _ _ 23 rfl _ _ _ w9 rfl rfl HRUN9.out ?_
            have HZ : Hid (lookE l (y : Int) = 0) := hidI (by rw [HE.out, HK.out, HALL.out]; rfl)
            have HREC : Hid (recS l (y : Int) = headS l y ++ bodyT l ++ four (crc (bodyT l))) := hidI (by unfold recS; rw [if_pos HZ.out, HBS.out, List.append_assoc]; rfl)
            go_wp2
            go_ret2
            rw [HZ.out, HREC.out]
            exact ⟨b9, d9, by rw [List.length_append, List.length_append, headS_len, ← HL2.out, four_len]; rfl, own_low ho9 hgr.size, grown_join hgr hr9 (.inl rfl)⟩))
end Go.Proofs.YtlbipcecdcmgdaaDoor
