/- Order, the program's. -/
import Derived.Test.YtholmeebkgpjjaaG3
namespace Go.Proofs.Ytholmeebkgpjjaa
open Go.RowKit
attribute [local go_sem ↓] Go.wp_at_zero Go.wp_at_succ
set_option linter.unusedVariables false
set_option linter.unusedSimpArgs false

theorem OwnN.kept {B : Nat} {w w' : World} {g cap n : Nat} {L : List Nat} (h : OwnN B w g cap n L) (hg : w.grownBy w' none) : OwnN B w' g cap n L := ⟨h.1, own_keep h.2 hg⟩
theorem look_zero {l : List Tk} (h16 : l.length ≤ 16) (h1 : 1 ≤ l.length) (ho : Oks l) : lookS l = (0, 0) := look_none (by omega) (fun i hi => ho.at i hi)
theorem inOrd_len (l : List Tk) (P : List Nat) : (inOrd l P).length = P.length := by simp [inOrd]
theorem inOrd_oks {l : List Tk} (ho : Oks l) (P : List Nat) (hP : ∀ x, x ∈ P → x < l.length) : Oks (inOrd l P) := fun t ht => by
  obtain ⟨i, hi, rfl⟩ := List.mem_map.1 ht
  exact ho.at i (hP i hi)
theorem resp_unit {l : List Tk} (h : (lookS l).1 = 0) (hc : (respS l).2.1 ≠ 0) : ∃ i, i < l.length ∧ (respS l).2.2 = (i : Int) := by
  unfold respS at *
  rw [if_neg (by simp [h])] at *
  cases hf : firstB (fun i => (rep l i).isSome) l.length with
  | none => rw [hf] at hc; simp at hc
  | some i => exact ⟨i, (firstB_some.1 hf).1, by simp⟩
theorem inOrd_more {l : List Tk} {P : List Nat} {k : Nat} (hk : k < P.length) : inOrd l (P.take (k + 1)) = inOrd l (P.take k) ++ [l.getD (P.getD k 0) tk0] := by
  unfold inOrd
  rw [List.take_succ_eq_append_getElem hk, List.map_append]
  simp [List.getD, hk]
theorem ord_look {l : List Tk} (h : (lookS l).1 ≠ 0) : ordS l = ([], lookS l) := by unfold ordS; rw [if_pos h]
theorem ord_slow {l : List Tk} (h : (lookS l).1 = 0) (hc : (respS (inOrd l (srt l l.length))).2.1 ≠ 0) : ordS l = ([], (respS (inOrd l (srt l l.length))).2.1, (((srt l l.length).getD (respS (inOrd l (srt l l.length))).2.2.toNat 0 : Nat) : Int)) := by
  unfold ordS; rw [if_neg (by simp [h]), if_pos hc]
theorem ord_all {l : List Tk} (h : (lookS l).1 = 0) (hc : (respS (inOrd l (srt l l.length))).2.1 = 0) : ordS l = (nums (srt l l.length), 0, 0) := by
  unfold ordS; rw [if_neg (by simp [h]), if_neg (by simp [hc])]; rfl
theorem nums_get {L : List Nat} {k : Nat} (hk : k < L.length) : (nums L).getD k 0 = ((L.getD k 0 : Nat) : Int) := by simp [nums, List.getD, hk]

set_option maxHeartbeats 4000000 in
theorem order_any (l : List Tk) (v : Value) (w : World) (hm : l.length ≤ maxLen) (hv : TsAt w v l) :
    Calls Try.prog 12 #[v] w fun e w' => RespP w w' e (ordS l) := by
  obtain ⟨a, cap, rfl, hcap, _⟩ := id hv
  have cL : ∀ W, w.grownBy W none → Calls Try.prog 24 #[.slice a l.length cap] W fun e w' => e = .returned (flV (lookS l)) ∧ W.grownBy w' none := fun W hW => lookAt_any l _ W hm (hv.grown hW)
  unfold maxLen at hm
  have hfine := @look_fine l
  have hrl := @ord_look l
  have hrs := @ord_slow l
  have hra := @ord_all l
  unfold flV at cL
  generalize lookS l = p at *
  obtain ⟨c, u⟩ := p
  dsimp only at *
  by_cases hf : c = 0
  · subst hf
    obtain ⟨h16, h1, hok⟩ := hfine rfl
    have HS := hrs rfl
    have HA := hra rfl
    clear hrs hra hrl hfine
    have hPl := srt_len l l.length
    have hPm : ∀ x, x ∈ srt l l.length → x < l.length := fun x hx => (srt_mem l).1 hx
    have cB := fun W (hW : w.grownBy W none) => byDead_any l (.slice a l.length cap) W h1 h16 (hv.grown hW)
    have hoO := inOrd_oks hok (srt l l.length) hPm
    have hlO : (inOrd l (srt l l.length)).length = l.length := by rw [inOrd_len, hPl]
    have hun := resp_unit (l := inOrd l (srt l l.length)) (by rw [look_zero (by omega) (by omega) hoO])
    have cR : ∀ W x, TsAt W x (inOrd l (srt l l.length)) → Calls Try.prog 10 #[x] W fun e w' => RespP W w' e (respS (inOrd l (srt l l.length))) := fun W x hx => respond_any _ x W (by unfold maxLen; omega) hx
    rw [hlO] at hun
    have HPM : Hid (∀ x, x ∈ srt l l.length → x < l.length) := hPm
    have HINO : Hid (∀ k, k < l.length → inOrd l ((srt l l.length).take (k + 1)) = inOrd l ((srt l l.length).take k) ++ [l.getD ((srt l l.length).getD k 0) tk0]) := fun k hk => inOrd_more (by omega)
    have HTAKE : Hid ((srt l l.length).take l.length = srt l l.length) := List.take_of_length_le (by omega)
    generalize srt l l.length = P at *
    generalize respS (inOrd l P) = R at *
    obtain ⟨r, c, x⟩ := R
    dsimp only at *
    have HHS : Hid (c ≠ 0 → ordS l = ([], c, ((P.getD x.toNat 0 : Nat) : Int))) := HS
    have HHA : Hid (c = 0 → ordS l = (nums P, 0, 0)) := HA
    have HUN : Hid (c ≠ 0 → ∃ i, i < l.length ∧ x = (i : Int)) := hun
    have HPL : Hid (P.length = l.length) := hPl
    have HLO : Hid ((inOrd l P).length = l.length) := hlO
    clear HS HA hun hPl hPm hoO hlO
    go_enter Try.func12, Try.ntmps12
    go_wp2_with (first | (go_at_call 24; refine (cL _ (gr_alloc (World.grownBy.refl _ _) _)).mono ?_; rintro e w1 ⟨rfl, hg1⟩))
    have hg1a := gr_alloc hg1 (.cells #[.int .i64 0, .int .i64 u, .int .i64 0] 26)
    obtain ⟨_, _, _, _, _, _, _, hgw1⟩ := flt hg1a
    refine (cB _ hgw1).mono ?_
    rintro e w2 ⟨a1, cp1, rfl, ho1, hg2⟩
    dsimp only
    have hg02 := grown_join hg1a hg2 (.inl rfl)
    have hB1 : w.heap.size + 1 ≤ w1.heap.size := by have := hg1.size; simpa using this
    have ho1' := own_low ho1 (B' := w.heap.size + 1) (by simp; omega)
    have HO1 : Hid (OwnL (w.heap.size + 1) w2 a1 cp1 (nums P)) := ho1'
    have HGF : Hid ((w.alloc (.cells #[.int .i64 0, .int .i64 0, .int .i64 0] 26)).grownBy w2 none) := hg02
    have HV : Hid (TsAt w (.slice a l.length cap) l) := hv
    obtain ⟨n, hn⟩ : ∃ n, n = l.length := ⟨_, rfl⟩
    have HN : Hid (n = l.length) := hn
    rw [← hn] at hm h1 h16 hcap HPL HLO HINO HTAKE HPM HV HUN ⊢
    have hON : ∃ g1, a1 = some ⟨g1, 0, none⟩ ∧ OwnN (w.heap.size + 1) w2 g1 cp1 n P := by
      have hown := ho1'
      have hl2 : (nums P).length = n := by simp [nums, HPL.out]
      have hmap : (nums P).map (Value.int .i64) = P.map fun x : Nat => Value.int .i64 (x : Int) := by simp [nums]
      rw [hl2, hmap] at hown
      have hown' := hown
      obtain ⟨_, ⟨_, h0⟩ | ⟨g, c2, cur, hvv, _⟩⟩ := hown
      · omega
      · injection hvv with e1 e2 e3
        subst e1
        exact ⟨g, rfl, HPL.out, hown'⟩
    obtain ⟨g1, rfl, hON⟩ := hON
    have HON : Hid (OwnN (w.heap.size + 1) w2 g1 cp1 n P) := hON
    clear hn hv cL cB hg1 hg1a hgw1 hg2 hg02 ho1 ho1' hON
    go_wp2_with fail
    go_loopw [6, 21] (fun s i wx => ∃ (k : Nat) (a' : Option Addr) (cap' : Nat), k ≤ n ∧ i = .int .i64 k ∧ s = .slice a' k cap' ∧ Hid (OwnT w2.heap.size wx a' cap' (inOrd l (P.take k))) ∧ w2.grownBy wx none) (fun _ i _ => n - (intOf i).toNat)
    case atStart => exact ⟨0, none, 0, Nat.zero_le _, rfl, rfl, OwnT.nil _ _, World.grownBy.refl _ _⟩
    case round =>
      obtain ⟨k, a', cap', hk, rfl, rfl, HO, hg⟩ := hrel
      have hsz := hg.size
      have hPn := HPL.out
      have hlk : (inOrd l (P.take k)).length = k := by rw [inOrd_len]; simp; omega
      have hgf := grown_join HGF.out hg (.inl rfl)
      by_cases hlt : k < n
      · have hcP : wr.cell? ⟨g1, k, none⟩ = some (.int .i64 (P.getD k 0 : Nat)) := hg.cell (HON.out.get k hlt) (by simp)
        have hq : P.getD k 0 < n := HPM.out _ (by rw [show P.getD k 0 = P[k] by simp [List.getD, show k < P.length by omega]]; exact List.getElem_mem _)
        have hgw := grown_join (gr_alloc (World.grownBy.refl _ _) _) hgf (.inl rfl)
        have hvr := HV.out.grown hgw
        rw [HN.out] at hvr
        obtain ⟨b, off, capx, he, hc⟩ := hvr.at (by have := HN.out; omega)
        injection he with e1 e2 e3
        subst e1 e3
        obtain ⟨c0, c1, c2, c3, c4⟩ := hc (P.getD k 0) (by have := HN.out; omega)
        obtain ⟨a2, cap2, w3, hrun, hown3, hgr3⟩ := HO.out.more (l.getD (P.getD k 0) tk0) (by omega) (by omega)
        rw [hlk] at hrun
        rw [← HINO.out k hlt] at hown3
        have hg3 := hgr3 w2 (Nat.le_refl _) hg
        clear hc hPn hgr3
        generalize P.getD k 0 = q at *
        generalize l.getD q tk0 = t at *
        have HO3 : Hid (OwnT w2.heap.size w3 a2 cap2 (inOrd l (P.take (k + 1)))) := hown3
        have HRUN : Hid ((Builtin.append_ #[22, 22] 22 #[.slice a' k cap', .slice (some ⟨wr.heap.size, 0, none⟩) 1 1]).run Try.prog (wr.alloc (.cells #[.string t.name, .int .i64 t.per, .int .i64 t.off, .int .i64 t.cost, .int .i64 t.dead] 42)) = .ok (.slice a2 (k + 1) cap2) w3) := hrun
        have i1 : (0 : Int) ≤ (q : Int) := by omega
        have i2 : (q : Int) < (n : Int) := by omega
        clear hrun hown3 hlk hgf hgw hvr
        go_wp2_with (first | (at_builtin; refine wpList_append_run rfl _ _ 22 rfl _ _ _ w3 rfl rfl HRUN.out ?_))
        go_roundw
        case rel => exact ⟨k + 1, a2, cap2, by omega, by go_num, rfl, HO3.out, hg3⟩
        case measure => simp [intOf]; omega
      · obtain rfl : k = n := by omega
        have hT := HO.out.ts
        rw [hlk, HTAKE.out] at hT
        have cR' := cR wr _ hT
        clear hPn hlk cR
        go_wp2_with fail
        refine cR'.mono ?_
        rintro e w4 ⟨a4, cp4, rfl, ho4, hg4⟩
        dsimp only at ho4 ⊢
        have hgf4 := grown_join hgf hg4 (.inl rfl)
        obtain ⟨hlt4, f0, f1, f2, z0, z1, z2, hgw4⟩ := flt hgf4
        have hon4 := HON.out.kept (grown_join hg hg4 (.inl rfl))
        have hg1B := (World.ownsRow.lt hon4.2 g1 rfl).1
        have hg1l := hon4.lt
        by_cases hc : c = 0
        · subst hc
          have HF : Hid (ordS l = (nums P, 0, 0)) := HHA.out rfl
          have HON4 : Hid (OwnN (w.heap.size + 1) w4 g1 cp1 k P) := hon4
          clear hon4 cR' hT ho4
          go_wp2
          refine bodyPost_ret (v := .tuple #[.slice (some ⟨g1, 0, none⟩) k cp1, .agg #[.int .i64 0, .int .i64 0, .int .i64 0]]) (by simp [results, Try.results12, go_sem, f0, f1, f2, hlt4]) rfl ?_
          rw [HF.out]
          have hl2 : (nums P).length = k := by simp [nums, HPL.out]
          have hmap : (nums P).map (Value.int .i64) = P.map fun x : Nat => Value.int .i64 (x : Int) := by simp [nums]
          refine ⟨some ⟨g1, 0, none⟩, cp1, by rw [hl2], ?_, ?_⟩
          · unfold OwnL
            rw [hl2, hmap]
            exact own_low (own_but HON4.out.2 (gr_alloc (gr_set (gr_set (gr_set (World.grownBy.refl _ _) _ _) _ _) _ _) _) (Nat.lt_succ_self _)) (Nat.le_succ _)
          · exact gr_alloc (gr_own (gr_own (gr_own hgw4 (Nat.le_refl _) _ _) (Nat.le_refl _) _ _) (Nat.le_refl _) _ _) _
        · obtain ⟨i, hi, hxi⟩ := HUN.out hc
          subst hxi
          have HF : Hid (ordS l = ([], c, ((P.getD i 0 : Nat) : Int))) := HHS.out hc
          have hcP := hon4.get i hi
          have hcb : (c != 0) = true := by simp [hc]
          generalize P.getD i 0 = q at *
          have i1 : (0 : Int) ≤ (i : Int) := by omega
          have i2 : (i : Int) < (k : Int) := by omega
          have hne1 : g1 ≠ w.heap.size := by omega
          have hne2 : w.heap.size ≠ g1 := by omega
          clear hon4 cR' hT ho4 hc
          go_wp2_with fail
          go_region
          go_wp2
          refine bodyPost_ret (v := .tuple #[.slice none 0 0, .agg #[.int .i64 c, .int .i64 q, .int .i64 0]]) (by simp [results, Try.results12, go_sem, f0, f1, f2, hlt4]) rfl ?_
          rw [HF.out]
          exact ⟨none, 0, rfl, OwnL.nil _ _, gr_drew (gr_alloc (gr_own (gr_own (gr_own hgw4 (Nat.le_refl _) _ _) (Nat.le_refl _) _ _) (Nat.le_refl _) _ _) _)⟩
  · have HR : Hid (ordS l = ([], c, u)) := hrl hf
    have hne : (c != 0) = true := by simp [hf]
    clear hf hrs hra hrl hfine
    go_enter Try.func12, Try.ntmps12
    go_wp2_with (first | (go_at_call 24; refine (cL _ (gr_alloc (World.grownBy.refl _ _) _)).mono ?_; rintro e w1 ⟨rfl, hg1⟩; obtain ⟨hlt, f0, f1, f2, z0, z1, z2, hgw⟩ := flt hg1))
    go_region
    go_wp2
    refine bodyPost_ret (v := .tuple #[.slice none 0 0, .agg #[.int .i64 c, .int .i64 u, .int .i64 0]]) (by simp [results, Try.results12, go_sem, f0, f1, f2, hlt]) rfl ?_
    rw [HR.out]
    exact ⟨none, 0, rfl, OwnL.nil _ _, gr_drew (gr_alloc (gr_own (gr_own (gr_own hgw (Nat.le_refl _) _ _) (Nat.le_refl _) _ _) (Nat.le_refl _) _ _) _)⟩
end Go.Proofs.Ytholmeebkgpjjaa
