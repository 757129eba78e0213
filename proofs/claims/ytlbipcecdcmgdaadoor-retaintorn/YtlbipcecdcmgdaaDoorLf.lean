/- The law of bits that are turned. -/
import Derived.Test.YtlbipcecdcmgdaaDoorKp
namespace Go.Proofs.YtlbipcecdcmgdaaDoor
open Go.RowKit
attribute [local go_sem ↓] Go.wp_at_zero Go.wp_at_succ
set_option linter.unusedVariables false
set_option linter.unusedSimpArgs false

theorem look_words (l : List Int) (n : Nat) (hn : n < 2 ^ 32) : lookE (wordsS l) (n : Int) = 0 := by
  have h1 := wordsS_len l
  have h2 := wordsS_ok l
  have h3 : okW (n : Int) = true := by rw [okW_iff]; omega
  unfold lookE
  rw [if_neg (by omega), h2, h3]
  rfl
theorem OwnB.put {B : Nat} {w : World} {g c : Nat} {T : List Nat} (h : OwnB B w (some ⟨g, 0, none⟩) c T) (p y : Nat) : OwnB B (w.setCell ⟨g, p, none⟩ (.int .u8 (y : Int))) (some ⟨g, 0, none⟩) c (T.set p y) := by
  obtain ⟨h1, h2 | ⟨g', cap', cur, e', hb, hc, hn, hm, hs, ht⟩⟩ := h
  · simp at h2
  · simp at e'
    obtain ⟨rfl, rfl⟩ := e'
    refine ⟨by simp [bV], .inr ⟨g, c, cur.setIfInBounds p (.int .u8 (y : Int)), by simp, hb, at_set hc p _, by simpa using hn, hm, by simpa using hs, ?_⟩⟩
    rw [List.length_set, Array.toList_setIfInBounds, List.take_set, ht]
    simp [bV, List.map_set]
theorem xor8 (x t : Nat) (hx : x < 256) (ht : t < 8) : bits BinOp.xor IntKind.u8 (x : Int) (2 ^ t % 256) = ((x ^^^ 2 ^ t : Nat) : Int) := by
  have h2 : 2 ^ t < 256 := by
    have : 2 ^ t ≤ 2 ^ 7 := Nat.pow_le_pow_right (by omega) (by omega)
    omega
  have e : ((2 : Int) ^ t % 256) = ((2 ^ t : Nat) : Int) := by
    have h3 : ((2 ^ t : Nat) : Int) < 256 := Int.ofNat_lt.2 h2
    have h4 : ((2 ^ t : Nat) : Int) = (2 : Int) ^ t := Int.natCast_pow 2 t
    rw [← h4]
    exact Int.emod_eq_of_lt (Int.natCast_nonneg _) h3
  rw [e]
  have hxx : x ^^^ 2 ^ t < 2 ^ 8 := Nat.xor_lt_two_pow (by omega) (by omega)
  have h1 : (BitVec.ofInt 8 (x : Int)).toNat = x := by rw [BitVec.ofInt_natCast, BitVec.toNat_ofNat]; exact Nat.mod_eq_of_lt (by omega)
  have h3 : (BitVec.ofInt 8 ((2 ^ t : Nat) : Int)).toNat = 2 ^ t := by rw [BitVec.ofInt_natCast, BitVec.toNat_ofNat]; exact Nat.mod_eq_of_lt (by omega)
  show IntKind.u8.wrap ((BitVec.ofInt 8 (x : Int) ^^^ BitVec.ofInt 8 ((2 ^ t : Nat) : Int)).toNat : Int) = _
  rw [BitVec.toNat_xor, h1, h3, IntKind.wrap_u8]
  omega
theorem bit_put (T : List Nat) (p t j : Nat) (hj : ¬ (j / 8 = p ∧ j % 8 = t)) : bitAt (T.set p (T.getD p 0 ^^^ 2 ^ t)) j = bitAt T j := by
  unfold bitAt
  by_cases h : j / 8 = p
  · by_cases hp : p < T.length
    · have e : (T.set p (T.getD p 0 ^^^ 2 ^ t)).getD (j / 8) 0 = T.getD p 0 ^^^ 2 ^ t := by rw [h]; simp [List.getD, hp]
      rw [e, h]
      have hb := Nat.testBit_xor (T.getD p 0) (2 ^ t) (j % 8)
      rw [Nat.testBit_two_pow_of_ne (fun e => hj ⟨h, e.symm⟩), Bool.xor_false, Nat.testBit_eq_decide_div_mod_eq, Nat.testBit_eq_decide_div_mod_eq, decide_eq_decide] at hb
      omega
    · rw [List.set_eq_of_length_le (by omega)]
  · have e : (T.set p (T.getD p 0 ^^^ 2 ^ t)).getD (j / 8) 0 = T.getD (j / 8) 0 := by
      simp only [List.getD]
      rw [List.getElem?_set_ne (fun e => h e.symm)]
    rw [e]
set_option maxRecDepth 10000 in
set_option maxHeartbeats 4000000 in
theorem flipLaw_any (l : List Int) (s at_ bt : Int) (u : Value) (w : World) (hu : rd w u l) (hz : ∀ x ∈ l, in64 x) (hl : l.length ≤ 17592186043904) (hs : in64 s) (hat : in64 at_) (hbt : in64 bt) (hB : Beg w) : Calls Tryd.prog 8 #[u, .int .i64 s, .int .i64 at_, .int .i64 bt] w fun e w' => e = .returned (.bool true) ∧ w.grownBy w' none := by
  obtain ⟨ua, ucap, rfl, _⟩ := id hu
  have cW := words_any l _ w hu hz (by omega)
  have hn := pk_lt s (m := 4294967296) (by omega)
  have cS := fun W => picked_any s 4294967296 W hs (by omega) (by omega)
  obtain ⟨n, hnn⟩ : ∃ n, pk s 4294967296 = n := ⟨_, rfl⟩
  simp only [hnn] at cS hn
  have hlook := look_words l n hn
  have hrec : recS (wordsS l) (n : Int) = headS (wordsS l) n ++ bodyS (wordsS l) := by unfold recS; rw [if_pos hlook]; rfl
  have hP := parts_rec (l := wordsS l) (n := n) (by have := wordsS_len l; omega) hn (wordsS_ok l)
  have hwl := wordsS_len l
  rw [← hrec] at hP
  have cRc := fun (W : World) (x : Value) (h : rd W x (wordsS l)) (hB : Beg W) => record_any (wordsS l) (n : Int) x W h (by omega) hB
  simp only [hlook] at cRc
  obtain ⟨r1, r2, r3⟩ := hP.reads (by omega)
  generalize recS (wordsS l) (n : Int) = b at *
  have hbl := hP.len
  have cRd := fun (W : World) (x : Value) (h : rdB W x b) (hB : Beg W) => read_any b x W hP.by_ h (by unfold maxLen; omega) hB
  simp only [r1, r2, r3] at cRd
  have HP := hidI hP
  clear hlook hrec hnn r1 r2 r3 hP
  generalize wordsS l = ws at *
  obtain ⟨N, hN⟩ : ∃ N, b.length = N := ⟨_, rfl⟩
  have HN : Hid (b.length = N) := hN
  have HNW : Hid (N = 16 + (ws.length * 4 + 4)) := hidI (by omega)
  have hNl : 20 ≤ N := by omega
  have hNu : N ≤ 1000 := by omega
  have cA := fun W => picked_any at_ (8 * N) W hat (by omega) (by omega)
  have cB := fun W => picked_any bt 4294967295 W hbt (by omega) (by omega)
  have hk := pk_lt at_ (m := 8 * N) (by omega)
  have hm := pk_lt bt (m := 4294967295) (by omega)
  generalize pk at_ (8 * N) = k at *
  generalize pk bt 4294967295 = m at *
  have cA' : ∀ W, Calls Tryd.prog 23 #[.int .i64 at_, .int .i64 (8 * (N : Int))] W fun e w' => e = .returned (.int .i64 (k : Int)) ∧ W = w' := fun W => by
    have := cA W
    simpa using this
  clear cA
  go_enter Tryd.func8, Tryd.ntmps8
  go_wp2_with fail
  refine cW.mono ?_
  rintro e w1 ⟨a1, c1, rfl, ho1, hg1⟩
  go_wp2_with fail
  refine (cS _).mono ?_
  rintro e w' ⟨rfl, rfl⟩
  go_wp2_with fail
  refine (cRc _ _ ho1.rd (hB.grown hg1)).mono ?_
  rintro e w2 ⟨a2, c2, rfl, ho2, hg2⟩
  have hg02 := grown_join hg1 hg2 (.inl rfl)
  rw [hN]
  have i1 : ¬ (N : Int) < 20 := by omega
  go_wp2_with fail
  have hrd2 := ho2.rd
  rw [hN] at hrd2
  refine (cRd _ _ hrd2 (hB.grown hg02)).mono ?_
  rintro e w3 ⟨a3, c3, rfl, ho3, hg3⟩
  have hg03 := grown_join hg02 hg3 (.inl rfl)
  have hg13 := grown_join hg2 hg3 (.inl rfl)
  go_wp2_with fail
  refine (equal_any ws ws _ _ _ ho3.rd (ho1.kept hg13).rd (by omega) (by omega)).mono ?_
  rintro e w4 ⟨rfl, hg4⟩
  have hg04 := grown_join hg03 hg4 (.inl rfl)
  have hg24 := grown_join hg3 hg4 (.inl rfl)
  simp only [decide_true]
  go_wp2_with fail
  refine (cA' _).mono ?_
  rintro e w' ⟨rfl, rfl⟩
  go_wp2_with fail
  refine (cB _).mono ?_
  rintro e w' ⟨rfl, rfl⟩
  obtain ⟨oa, oc, w5, hrun, hown, hg5⟩ := copyB (ho2.kept hg24).rd (by omega)
  rw [hN] at hrun
  have hg05 := grown_join hg04 hg5 (.inl rfl)
  have ho25 := (ho2.kept hg24).kept hg5
  have hbb : ∀ x, (Value.slice a2 b.length c2).ownBlock = some x → x < w2.heap.size := fun x hx => (World.ownsRow.lt ho2 x hx).2
  have hbo : ∀ x, (Value.slice oa b.length oc).ownBlock = some x → w4.heap.size ≤ x := fun x hx => (World.ownsRow.lt hown x hx).1
  have s24 := hg24.size
  obtain ⟨g, rfl⟩ : ∃ g, oa = some ⟨g, 0, none⟩ := by
    obtain ⟨_, ⟨_, h0⟩ | ⟨g, cc, cur, e, _⟩⟩ := id hown
    · omega
    · injection e with e1 _ _
      exact ⟨g, e1⟩
  have hg4lt := hbo g rfl
  have HRUN : Hid (_ = _) := hrun
  have s04 := hg04.size
  clear hrun cW cS cRc cB cA' ho1 ho2 ho3 hg1 hg2 hg3 hg4 hg5 hg13 hg24 hg03 hg02 hrd2
  go_wp2_with (first | (at_builtin; refine hidG ?_))
  refine hidI ?_
  refine wpList_append_run rfl _ _ 23 rfl _ _ _ w5 rfl rfl HRUN.out ?_
  have HB5 := hidI ho25
  have HBB := hidI hbb
  have HPB := hidI HP.out.by_
  clear ho25 hbb hbo
  go_wp2_with fail
  go_loopg [18] 32 (fun gk s18 wx => ∃ (i : Nat) (T : List Nat), s18 = .int .i64 i ∧ i ≤ 32 ∧ gk = 32 - i ∧ Hid (OwnB w4.heap.size wx (some ⟨g, 0, none⟩) oc T ∧ isB T ∧ T.length = N ∧ (∀ j, j < k ∨ k + 32 ≤ j → bitAt T j = bitAt b j)) ∧ Hid (w5.grownBy wx (some g)))
  case atStart => exact ⟨0, b, rfl, by omega, by omega, hidI ⟨hown, HPB.out, HN.out, fun _ _ => rfl⟩, hidI (World.grownBy.refl _ _)⟩
  case round =>
    obtain ⟨i, T, rfl, hi, hgk, HT, HGR⟩ := hrel
    have HG : Hid (gk = 32 - i) := hgk
    clear hgk
    by_cases hin : i < 32 ∧ k + i < 8 * N
    · obtain ⟨hi1, hi2⟩ := hin
      obtain ⟨q, hq⟩ : ∃ q, k + i = q := ⟨_, rfl⟩
      obtain ⟨oT, bT, lT, wT⟩ := HT.out
      have hcell : wr.cell? ⟨g, q / 8, none⟩ = some (.int .u8 ((T.getD (q / 8) 0 : Nat) : Int)) := by
        rw [World.ownsRow.cellAt oT (q / 8) (by rw [lT]; omega)]
        simp [bV, List.getD, show q / 8 < T.length by omega]
      have hfz : wr.frozen? ⟨g, q / 8, none⟩ = false := by
        obtain ⟨_, ⟨e, _⟩ | ⟨g', cc, cur, e, _, hc, _⟩⟩ := id oT
        · cases e
        · injection e with e1 _ _
          injection e1 with e1
          injection e1 with e1
          subst e1
          exact at_frozen hc _
      have hxb := at_byte bT (q / 8)
      have j1 : (i : Int) < 32 := by omega
      have j2 : (k : Int) + (i : Int) < 8 * (N : Int) := by omega
      have j3 : (i : Int) ≤ 64 := by omega
      have j0 : (0 : Int) ≤ (i : Int) := by omega
      by_cases hbit : bits BinOp.and IntKind.i64 ((1 + (m : Int)) / 2 ^ i) 1 = 1
      · have d1 : ((k : Int) + (i : Int)) / 8 = ((q / 8 : Nat) : Int) := by omega
        have d2 : ((k : Int) + (i : Int)) % 8 = ((q % 8 : Nat) : Int) := by omega
        obtain ⟨p, hp⟩ : ∃ p, q / 8 = p := ⟨_, rfl⟩
        obtain ⟨t, ht⟩ : ∃ t, q % 8 = t := ⟨_, rfl⟩
        rw [hp] at d1 hcell hfz hxb
        rw [ht] at d2
        have p0 : (0 : Int) ≤ (p : Int) := by omega
        have p1 : (p : Int) < (N : Int) := by omega
        have t0 : (0 : Int) ≤ (t : Int) := by omega
        have t1 : (t : Int) ≤ 8 := by omega
        have ex := xor8 (T.getD p 0) t hxb (by omega)
        have hyb : T.getD p 0 ^^^ 2 ^ t < 2 ^ 8 := Nat.xor_lt_two_pow (by omega) (Nat.pow_lt_pow_right (by omega) (by omega))
        have HNEW : Hid (OwnB w4.heap.size ((wr.setCell ⟨g, p, none⟩ (.int .u8 ((T.getD p 0 ^^^ 2 ^ t : Nat) : Int))).drew) (some ⟨g, 0, none⟩) oc (T.set p (T.getD p 0 ^^^ 2 ^ t)) ∧ isB (T.set p (T.getD p 0 ^^^ 2 ^ t)) ∧ (T.set p (T.getD p 0 ^^^ 2 ^ t)).length = N ∧ (∀ j, j < k ∨ k + 32 ≤ j → bitAt (T.set p (T.getD p 0 ^^^ 2 ^ t)) j = bitAt b j)) := hidI ⟨own_keep (oT.put p _) (gr_drew (World.grownBy.refl _ _)), fun y hy => by
            rcases List.mem_or_eq_of_mem_set hy with hy | rfl
            · exact bT y hy
            · omega, by rw [List.length_set]; exact lT, fun j hj => by
            rw [bit_put T p t j (by omega)]
            exact wT j hj⟩
        have HGR2 : Hid (w5.grownBy ((wr.setCell ⟨g, p, none⟩ (.int .u8 ((T.getD p 0 ^^^ 2 ^ t : Nat) : Int))).drew) (some g)) := hidI (gr_drew (gr_set HGR.out _ _))
        generalize T.set p (T.getD p 0 ^^^ 2 ^ t) = T' at *
        generalize T.getD p 0 ^^^ 2 ^ t = y at *
        generalize T.getD p 0 = x at *
        clear oT bT lT wT HT HGR
        go_wp2_with fail
        go_region
        go_wp2
        have hgl := HG.out
        go_roundg (32 - (i + 1))
        all_goals first | omega | exact ⟨i + 1, T', by go_num, by omega, by omega, HNEW, HGR2⟩
      · go_wp2
        have hgl := HG.out
        go_roundg (32 - (i + 1))
        all_goals first | omega | exact ⟨i + 1, T, by go_num, by omega, by omega, HT, HGR⟩
    · have hin2 : (i < 32 ∧ ¬ k + i < 8 * N) ∨ ¬ i < 32 := by omega
      obtain ⟨oT, bT, lT, wT⟩ := HT.out
      have HTOLD : Hid (readE T = 0 → T = b) := hidI (fun h => flip_told HP.out bT (by rw [lT, HN.out]) k wT h)
      have cT := fun (W : World) (h : rdB W (.slice (some ⟨g, 0, none⟩) T.length oc) T) (hB : Beg W) => read_any T _ W bT h (by rw [lT]; unfold maxLen; omega) hB
      have HEQ : Hid (T = b → readE T = 0) := hidI (fun h => by rw [h]; exact (HP.out.reads (by have := HNW.out; omega)).1)
      have HRW : Hid (readE T ≠ 0 → readW T = []) := hidI (fun h => (read_no h).1)
      have hob : OwnB _ wr a2 c2 b := own_ne HB5.out HGR.out (fun x hx e => by have := HBB.out x hx; injection e with e; omega)
      have hg0r : w.grownBy wr none := grown_join hg05 HGR.out (.inr fun x hx => by injection hx with hx; omega)
      have HOT := hidI oT
      have HOB := hidI hob
      have hlT : T.length = N := lT
      obtain ⟨gb, rfl⟩ : ∃ gb, a2 = some ⟨gb, 0, none⟩ := by
        obtain ⟨_, ⟨_, h0⟩ | ⟨gb, cc, cur, e, _⟩⟩ := id hob
        · omega
        · injection e with e1 _ _
          exact ⟨gb, e1⟩
      have HLT : Hid (T.length = N) := hlT
      have HGR3 := hidI hg0r
      have cellT : ∀ q, q < N → wr.cell? ⟨g, q, none⟩ = some (.int .u8 ((T.getD q 0 : Nat) : Int)) := fun q hq => by
        rw [World.ownsRow.cellAt oT q (by rw [lT]; omega)]
        simp [bV, List.getD, show q < T.length by omega]
      have cellB : ∀ q, q < N → wr.cell? ⟨gb, q, none⟩ = some (.int .u8 ((b.getD q 0 : Nat) : Int)) := fun q hq => by
        rw [World.ownsRow.cellAt hob q (by omega)]
        simp [bV, List.getD, show q < b.length by omega]
      have HCT := hidI cellT
      have HCB := hidI cellB
      clear HT oT bT lT wT hob HGR hg0r hlT cellT cellB hin
      rcases hin2 with ⟨hi1, hi2⟩ | hi1
      all_goals (
        have j1 : (i : Int) < 32 ∨ ¬ (i : Int) < 32 := by omega
        try (have j2 : ¬ (k : Int) + (i : Int) < 8 * (N : Int) := by omega)
        try (have j3 : (i : Int) < 32 := by omega)
        try (have j4 : ¬ (i : Int) < 32 := by omega)
        clear j1
        go_wp2_with fail
        go_loopg [19, 20] N (fun gk s19 s20 wx => ∃ (j : Nat) (sm : Bool), s20 = .int .i64 j ∧ s19 = .bool sm ∧ j ≤ N ∧ gk = N - j ∧ Hid (sm = decide (T.take j = b.take j)) ∧ Hid (∃ n, wx = wr.drewN n))
        case atStart => exact ⟨0, true, rfl, rfl, Nat.zero_le _, by omega, hidI (by simp), hidI ⟨0, rfl⟩⟩
        case round =>
          obtain ⟨j, sm, rfl, rfl, hj, hgj, HSM, HWX⟩ := hrel
          obtain ⟨nd, hnd⟩ := HWX.out
          subst hnd
          have HJ : Hid (_ = _) := hgj
          clear hgj
          by_cases hlj : j < N
          · have q0 := HCT.out j hlj
            have q1 := HCB.out j hlj
            have j5 : (0 : Int) ≤ (j : Int) := by omega
            have j6 : (j : Int) < (N : Int) := by omega
            have eA : T.take (j + 1) = T.take j ++ [T.getD j 0] := by rw [List.take_add_one]; simp [List.getD, show j < T.length by rw [HLT.out]; omega]
            have eB : b.take (j + 1) = b.take j ++ [b.getD j 0] := by rw [List.take_add_one]; simp [List.getD, show j < b.length by rw [HN.out]; omega]
            have HST : Hid ((T.take (j + 1) = b.take (j + 1)) ↔ (T.take j = b.take j ∧ T.getD j 0 = b.getD j 0)) := hidI (by
              rw [eA, eB]
              constructor
              · intro h
                have h2 := List.append_inj' h rfl
                exact ⟨h2.1, by simpa using h2.2⟩
              · rintro ⟨h1, h2⟩
                rw [h1, h2])
            clear eA eB
            generalize T.getD j 0 = x at *
            generalize b.getD j 0 = y at *
            cases sm with
            | false =>
              have HNS : Hid (false = decide (T.take (j + 1) = b.take (j + 1))) := hidI (by
                have h1 := HSM.out.symm
                rw [decide_eq_false_iff_not] at h1
                symm
                rw [decide_eq_false_iff_not]
                exact fun h => h1 (HST.out.1 h).1)
              go_wp2_with fail
              go_quiet (fail)
              go_wp2
              have hgl := HJ.out
              go_roundg (N - (j + 1))
              all_goals first | omega | exact ⟨j + 1, false, by go_num, rfl, by omega, by omega, HNS, hidI ⟨_, rfl⟩⟩
            | true =>
              have h1 := of_decide_eq_true HSM.out.symm
              have HNS : Hid (((x : Int) == (y : Int)) = decide (T.take (j + 1) = b.take (j + 1))) := hidI (by
                rw [Bool.eq_iff_iff]
                simp only [beq_iff_eq, decide_eq_true_iff]
                rw [HST.out]
                constructor
                · intro h; exact ⟨h1, by omega⟩
                · intro h; have := h.2; omega)
              clear h1
              go_wp2_with fail
              go_quiet (fail)
              go_wp2
              have hgl := HJ.out
              go_roundg (N - (j + 1))
              all_goals first | omega | exact ⟨j + 1, _, by go_num, rfl, by omega, by omega, HNS, hidI ⟨_, rfl⟩⟩
          · have j6 : ¬ (j : Int) < (N : Int) := by omega
            have hsm := HSM.out
            rw [List.take_of_length_le (by rw [HLT.out]; omega), List.take_of_length_le (by rw [HN.out]; omega)] at hsm
            have hgw : wr.grownBy (wr.drewN nd) none := gr_drewN (World.grownBy.refl _ _) nd
            have cT2 := cT (wr.drewN nd) (HOT.out.kept hgw).rd ((hB.grown HGR3.out).grown hgw)
            rw [HLT.out] at cT2
            have hgend := grown_join HGR3.out hgw (.inl rfl)
            by_cases hE : readE T = 0
            · have hTb := HTOLD.out hE
              have hs1 : sm = true := by rw [hsm, hTb]; simp
              subst hs1
              rw [hE] at cT2
              clear hsm hTb hE cT HTOLD HEQ HRW
              go_wp2_with fail
              refine cT2.mono ?_
              rintro e w9 ⟨a9, c9, rfl, ho9, hg9⟩
              go_wp2
              go_ret
              exact ⟨rfl, grown_join hgend hg9 (.inl rfl)⟩
            · have hTb : ¬ T = b := fun h => hE (HEQ.out h)
              have hs1 : sm = false := by rw [hsm]; simpa using hTb
              subst hs1
              have hE0 : ¬ ((readE T : Nat) : Int) = 0 := by omega
              rw [HRW.out hE] at cT2
              generalize readE T = E at *
              clear hsm hTb hE cT HTOLD HEQ HRW
              go_wp2_with fail
              refine cT2.mono ?_
              rintro e w9 ⟨a9, c9, rfl, ho9, hg9⟩
              go_wp2
              go_ret
              exact ⟨ret_bool (by simp; omega), grown_join hgend hg9 (.inl rfl)⟩)
end Go.Proofs.YtlbipcecdcmgdaaDoor
