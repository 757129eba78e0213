/- A step that writes, or just its first bytes. -/
import Derived.Test.YtlbipcecdcmgdaaDoorTd
namespace Go.Proofs.YtlbipcecdcmgdaaDoor
open Go.RowKit
attribute [local go_sem ↓] Go.wp_at_zero Go.wp_at_succ
set_option linter.unusedVariables false
set_option linter.unusedSimpArgs false

/-- Grown with erased bytes. -/
def pad (T : List Nat) (m : Nat) : List Nat := T ++ List.replicate (m - T.length) 255
theorem pad_len (T : List Nat) (m : Nat) : (pad T m).length = max T.length m := by simp [pad]; omega
theorem pad_self (T : List Nat) (m : Nat) (h : m ≤ T.length) : pad T m = T := by simp [pad, show m - T.length = 0 by omega]
theorem pad_more (T : List Nat) (m : Nat) (h : T.length ≤ m) : pad T m ++ [255] = pad T (m + 1) := by
  unfold pad
  rw [List.append_assoc, show m + 1 - T.length = (m - T.length) + 1 by omega, List.replicate_succ']
theorem pad_B {T : List Nat} (h : isB T) (m : Nat) : isB (pad T m) := isB_app h (fun x hx => by have := (List.mem_replicate.1 hx).2; omega)
/-- A slot into which the first bytes of a list were written. -/
def wrS (S : List Nat) (a : Nat) (D : List Nat) : Nat → List Nat
  | 0 => S
  | i + 1 => (pad (wrS S a D i) (a + i + 1)).set (a + i) (D.getD i 0)
def free (S : List Nat) (a : Nat) (D : List Nat) (c : Nat) : Prop := ∀ i, i < c → (pad (wrS S a D i) (a + i + 1)).getD (a + i) 0 = 255
theorem wrS_len (S : List Nat) (a : Nat) (D : List Nat) : ∀ c, (wrS S a D c).length ≤ max S.length (a + c)
  | 0 => by simp [wrS]; omega
  | c + 1 => by
    have := wrS_len S a D c
    simp only [wrS, List.length_set, pad_len]
    omega
theorem OwnB.one {B : Nat} {w : World} {a : Option Addr} {cap : Nat} {l : List Nat} (h : OwnB B w a cap l) (x n : Nat) (hn : l.length = n) (hl : n ≤ 1000000) (hB : B ≤ w.heap.size) :
    ∃ a' cap' w', (Builtin.append_ #[23, 23] 23 #[.slice a n cap, .slice (some ⟨w.heap.size, 0, none⟩) 1 1]).run Tryd.prog (w.alloc (.cells #[.int .u8 (x : Int)] 5)) = .ok (.slice a' (n + 1) cap') w' ∧
      OwnB B w' a' cap' (l ++ [x]) ∧ (∀ k, k < B → w'.heap[k]? = w.heap[k]?) ∧ ∀ w0 : World, w0.heap.size ≤ B → w0.grownBy w none → w0.grownBy w' none := by
  subst hn
  exact Gw.more (l0 := []) (.inl h) x hl hB
set_option maxRecDepth 10000 in
set_option maxHeartbeats 4000000 in
theorem done_write (A B D : List Nat) (a b x : Value) (sl at0 : Nat) (pt : Int) (w : World) (ha : rdB w a A) (hb : rdB w b B) (hx : rdB w x D) (hsl : sl = 0 ∨ sl = 1) (la : A.length ≤ 100000) (lb : B.length ≤ 100000) (lD : at0 + D.length ≤ 100000) (S : List Nat) (hS : S = if sl = 0 then A else B) (hf : free S at0 D (upToN pt D.length)) :
    Calls Tryd.prog 26 #[.agg #[a, b], .agg #[.int .i64 (sl : Int), .bool false, .int .i64 (at0 : Int), x], .int .i64 pt] w fun e w' => DoneP w w' e sl a b (wrS S at0 D (upToN pt D.length)) := by
  obtain ⟨aa, ac, rfl, _, _⟩ := id ha
  obtain ⟨ba, bc, rfl, _, _⟩ := id hb
  obtain ⟨xa, xc, rfl, _, hxc⟩ := id hx
  have hgB : w.grownBy (((w.alloc (.cells #[.slice aa A.length ac, .slice ba B.length bc] 46)).alloc (.cells #[.int .i64 (sl : Int), .bool false, .int .i64 (at0 : Int), .slice xa D.length xc] 43)).alloc (.cells #[.slice none 0 0, .slice none 0 0] 46)) none := gr_alloc (gr_alloc (gr_alloc (World.grownBy.refl _ _) _) _) _
  have hsz : (((w.alloc (.cells #[.slice aa A.length ac, .slice ba B.length bc] 46)).alloc (.cells #[.int .i64 (sl : Int), .bool false, .int .i64 (at0 : Int), .slice xa D.length xc] 43)).alloc (.cells #[.slice none 0 0, .slice none 0 0] 46)).heap.size = w.heap.size + 3 := by simp
  have b0 : (((w.alloc (.cells #[.slice aa A.length ac, .slice ba B.length bc] 46)).alloc (.cells #[.int .i64 (sl : Int), .bool false, .int .i64 (at0 : Int), .slice xa D.length xc] 43)).alloc (.cells #[.slice none 0 0, .slice none 0 0] 46)).heap[w.heap.size]? = some (.cells #[.slice aa A.length ac, .slice ba B.length bc] 46) := by
    rw [hp_old (by simp; omega), hp_old (by simp)]; exact heap_alloc_new _ _
  have b1 : (((w.alloc (.cells #[.slice aa A.length ac, .slice ba B.length bc] 46)).alloc (.cells #[.int .i64 (sl : Int), .bool false, .int .i64 (at0 : Int), .slice xa D.length xc] 43)).alloc (.cells #[.slice none 0 0, .slice none 0 0] 46)).heap[w.heap.size + 1]? = some (.cells #[.int .i64 (sl : Int), .bool false, .int .i64 (at0 : Int), .slice xa D.length xc] 43) := by
    rw [hp_old (by simp)]; exact hp_new (by simp) _
  have b2 : (((w.alloc (.cells #[.slice aa A.length ac, .slice ba B.length bc] 46)).alloc (.cells #[.int .i64 (sl : Int), .bool false, .int .i64 (at0 : Int), .slice xa D.length xc] 43)).alloc (.cells #[.slice none 0 0, .slice none 0 0] 46)).heap[w.heap.size + 1 + 1]? = some (.cells #[.slice none 0 0, .slice none 0 0] 46) := hp_new (by simp) _
  have HXC : Hid (D = [] ∨ ∃ b off, xa = some ⟨b, off, none⟩ ∧ ∀ i, i < D.length → w.cell? ⟨b, off + i, none⟩ = some (.int .u8 ((D.getD i 0 : Nat) : Int))) := hxc
  clear hxc hx
  obtain ⟨N, hN⟩ : ∃ N, D.length = N := ⟨_, rfl⟩
  have HNN : Hid (D.length = N) := hN
  rw [hN] at hgB hsz b0 b1 b2 lD hf ⊢
  clear hN
  rcases hsl with rfl | rfl
  · simp only [if_true] at hS
    subst hS
    obtain ⟨oa, oc, w1, hrun, hown, hg1⟩ := copyB (rdB_grown ha hgB) (by omega)
    have c0 := kept hg1 b0
    have c1 := kept hg1 b1
    have c2 := kept hg1 b2
    rw [hsz] at hown
    have hg01 := grown_join hgB hg1 (.inl rfl)
    have s1 := hg1.size
    rw [hsz] at s1
    have HRUN : Hid (_ = _) := hrun
    clear hrun b0 b1 b2 hgB hsz hg1
    have q0 : w1.cell? ⟨w.heap.size + 1, 0, none⟩ = some (.int .i64 0) := at_cell c1 0
    have q1 : w1.cell? ⟨w.heap.size + 1, 1, none⟩ = some (.bool false) := at_cell c1 1
    have HF := hidI hf
    have HOW : Hid (OwnB (w.heap.size + 3) w1 oa oc S) := hown
    have HC0 := hidI c0
    have HC1 := hidI c1
    have HC2 := hidI c2
    have HS1 := hidI s1
    have HG01 := hidI hg01
    clear hown c0 c1 c2 hf s1
    go_enter Tryd.func26, Tryd.ntmps26
    go_wp2_with (first | (at_builtin; refine hidG ?_))
    refine hidI ?_
    refine wpList_append_run rfl _ _ 23 rfl _ _ _ w1 rfl rfl HRUN.out ?_
    obtain ⟨n, hn⟩ : ∃ n, S.length = n := ⟨_, rfl⟩
    have HN : Hid (S.length = n) := hn
    rw [hn] at la ⊢
    clear hn
    go_wp2_with fail
    go_loopg [8, 10, 11] N (fun gk s8 s10 s11 wx => ∃ (i m : Nat) (ob : Option Addr) (od : Nat), s10 = .int .i64 i ∧ s8 = .slice ob m od ∧ i ≤ N ∧ i ≤ upToN pt N ∧ gk = N - i ∧ Hid (m = (wrS S at0 D i).length ∧ OwnB (w.heap.size + 3) wx ob od (wrS S at0 D i)) ∧ Hid ((∀ k, k < w.heap.size + 3 → wx.heap[k]? = w1.heap[k]?) ∧ w.grownBy wx none ∧ w.heap.size + 3 ≤ wx.heap.size))
    case atStart => exact ⟨0, n, oa, oc, rfl, rfl, Nat.zero_le _, Nat.zero_le _, by omega, hidI ⟨HN.out.symm, HOW.out⟩, hidI ⟨fun _ _ => rfl, HG01.out, HS1.out⟩⟩
    case round =>
      obtain ⟨i, m, ob, od, rfl, rfl, hi, hic, hgk, HO, HK⟩ := hrel
      have HG : Hid (gk = N - i) := hgk
      have c0 := (HK.out.1 _ (by omega)).trans HC0.out
      have c1 := (HK.out.1 _ (by omega)).trans HC1.out
      have c2 := (HK.out.1 _ (by omega)).trans HC2.out
      have q0 : wr.cell? ⟨w.heap.size + 1, 0, none⟩ = some (.int .i64 0) := at_cell c1 0
      have q2 : wr.cell? ⟨w.heap.size + 1, 2, none⟩ = some (.int .i64 (at0 : Int)) := at_cell c1 2
      have q3 : wr.cell? ⟨w.heap.size + 1, 3, none⟩ = some (.slice xa N xc) := at_cell c1 3
      clear hgk
      have hcN : upToN pt N ≤ N := by unfold upToN; split <;> omega
      by_cases hin : i < upToN pt N
      · have j1 : (i : Int) < (N : Int) := by omega
        have j0 : (0 : Int) ≤ (i : Int) := by omega
        have hpt3 : pt < 0 ∨ ¬ pt < 0 ∧ (i : Int) < pt := by
          by_cases h : pt < 0
          · exact .inl h
          · refine .inr ⟨h, ?_⟩
            unfold upToN at hin
            rw [if_neg h] at hin
            omega
        obtain ⟨at1, hat⟩ : ∃ t, at0 + i = t := ⟨_, rfl⟩
        have a0 : (0 : Int) ≤ (at1 : Int) := by omega
        have a1 : (at1 : Int) ≤ 100000 := by omega
        have e1 : (at0 : Int) + (i : Int) = (at1 : Int) := by omega
        have HAT : Hid (at0 + i = at1) := hat
        have hw := wrS_len S at0 D i
        rw [HN.out] at hw
        have hm : m ≤ 200000 := by rw [HO.out.1]; omega
        clear c0 c1 c2 hat hw
        rcases hpt3 with hpt | ⟨hpt, hip⟩
        all_goals (
          go_wp2_with fail
          go_loopg [8] (at1 + 1 - m) (fun gk s8 wx => ∃ (p : Nat) (oe : Option Addr) (og : Nat), s8 = .slice oe p og ∧ m ≤ p ∧ p ≤ 300000 ∧ gk = at1 + 1 - p ∧ Hid (OwnB (w.heap.size + 3) wx oe og (pad (wrS S at0 D i) p) ∧ (pad (wrS S at0 D i) p).length = p ∧ (p = m ∨ p ≤ at1 + 1)) ∧ Hid ((∀ k, k < w.heap.size + 3 → wx.heap[k]? = w1.heap[k]?) ∧ w.grownBy wx none ∧ w.heap.size + 3 ≤ wx.heap.size))
          case atStart =>
            refine ⟨m, ob, od, rfl, Nat.le_refl _, by omega, rfl, hidI ?_, HK⟩
            have := HO.out
            rw [this.1, pad_self _ _ (Nat.le_refl _)]
            exact ⟨this.2, rfl, .inl rfl⟩
          case round =>
            obtain ⟨p, oe, og, rfl, hmp, hp3, hgp, HP2, HK2⟩ := hrel
            have HGP : Hid (_ = _) := hgp
            clear hgp
            by_cases hge : p ≤ at1
            · have g1 : (p : Int) ≤ (at1 : Int) := by omega
              obtain ⟨oe', og', w5, hrun5, ho5, hk5, hgg5⟩ := HP2.out.1.one 255 p HP2.out.2.1 (by omega) HK2.out.2.2
              rw [pad_more _ _ (by have := HO.out.1; omega)] at ho5
              have hpl : (pad (wrS S at0 D i) (p + 1)).length = p + 1 := by rw [pad_len]; have := HO.out.1; omega
              have HNEW : Hid (OwnB (w.heap.size + 3) w5 oe' og' (pad (wrS S at0 D i) (p + 1)) ∧ (pad (wrS S at0 D i) (p + 1)).length = p + 1 ∧ (p + 1 = m ∨ p + 1 ≤ at1 + 1)) := hidI ⟨ho5, hpl, .inr (by omega)⟩
              have hg5 := hgg5 w (by omega) HK2.out.2.1
              have HK5 : Hid ((∀ k, k < w.heap.size + 3 → w5.heap[k]? = w1.heap[k]?) ∧ w.grownBy w5 none ∧ w.heap.size + 3 ≤ w5.heap.size) := hidI ⟨fun k hk => (hk5 k hk).trans (HK2.out.1 k hk), hg5, by
                obtain ⟨_, ⟨_, h0⟩ | ⟨gg, _, _, _, hgb, hgc, _⟩⟩ := id ho5
                · rw [hpl] at h0; omega
                · have := at_lt hgc; omega⟩
              have HRUN5 : Hid (_ = _) := hrun5
              clear hrun5 ho5 hk5 hgg5 hg5 hpl HP2 HK2
              go_wp2_with (first | (at_builtin; refine hidG ?_))
              refine hidI ?_
              refine wpList_append_run rfl _ _ 23 rfl _ _ _ w5 rfl rfl HRUN5.out ?_
              go_wp2
              have hgl := HGP.out
              go_roundg (at1 + 1 - (p + 1))
              all_goals first | omega | exact ⟨p + 1, oe', og', rfl, by omega, by omega, by omega, HNEW, HK5⟩
            · have g1 : ¬ (p : Int) ≤ (at1 : Int) := by omega
              have hU : pad (wrS S at0 D i) p = pad (wrS S at0 D i) (at1 + 1) := by
                rcases HP2.out.2.2 with h | h
                · rw [pad_self _ p (by have := HO.out.1; omega), pad_self _ (at1 + 1) (by have := HO.out.1; omega)]
                · rw [show p = at1 + 1 by omega]
              have hfr := HF.out i hin
              rw [HAT.out] at hfr
              have hW : wrS S at0 D (i + 1) = (pad (wrS S at0 D i) (at1 + 1)).set at1 (D.getD i 0) := by
                rw [← HAT.out]; rfl
              have hP := HP2.out
              rw [hU] at hP
              obtain ⟨gq, rfl, hcq, hfq⟩ : ∃ g, oe = some ⟨g, 0, none⟩ ∧ wr.cell? ⟨g, at1, none⟩ = some (.int .u8 255) ∧ wr.frozen? ⟨g, at1, none⟩ = false := by
                obtain ⟨_, ⟨_, h0⟩ | ⟨g, cc, cur, e, _, hc, _⟩⟩ := id hP.1
                · rw [hP.2.1] at h0; omega
                · injection e with e3 _ _
                  have hown := hP.1
                  rw [e3] at hown
                  have hlen := hP.2.1
                  refine ⟨g, e3, ?_, at_frozen hc at1⟩
                  rw [World.ownsRow.cellAt hown at1 (by rw [hlen]; omega)]
                  have e4 : (bV (pad (wrS S at0 D i) (at1 + 1)))[at1]? = some (.int .u8 (((pad (wrS S at0 D i) (at1 + 1)).getD at1 0 : Nat) : Int)) := by
                    simp [bV, List.getD, show at1 < (pad (wrS S at0 D i) (at1 + 1)).length by omega]
                  rw [e4, hfr]
                  rfl
              obtain ⟨xb, xo, rfl, hxd⟩ : ∃ b off, xa = some ⟨b, off, none⟩ ∧ wr.cell? ⟨b, off + i, none⟩ = some (.int .u8 ((D.getD i 0 : Nat) : Int)) := by
                rcases HXC.out with h | ⟨b, off, rfl, hc⟩
                · have := HNN.out
                  rw [h] at this
                  simp at this
                  omega
                · exact ⟨b, off, rfl, HK2.out.2.1.cell (hc i (by rw [HNN.out]; omega)) (by simp)⟩
              have d1 := (HK2.out.1 _ (by omega)).trans HC1.out
              have q0 : wr.cell? ⟨w.heap.size + 1, 0, none⟩ = some (.int .i64 0) := at_cell d1 0
              have q3 : wr.cell? ⟨w.heap.size + 1, 3, none⟩ = some (.slice (some ⟨xb, xo, none⟩) N xc) := at_cell d1 3
              have hgq : w.heap.size + 3 ≤ gq := by
                have := World.ownsRow.lt hP.1 gq rfl
                omega
              have HNEW : Hid (p = (wrS S at0 D (i + 1)).length ∧ OwnB (w.heap.size + 3) (wr.setCell ⟨gq, at1, none⟩ (.int .u8 ((D.getD i 0 : Nat) : Int))) (some ⟨gq, 0, none⟩) og (wrS S at0 D (i + 1))) := hidI ⟨by rw [hW, List.length_set, hP.2.1], by rw [hW]; exact hP.1.put at1 _⟩
              have HK5 : Hid ((∀ k, k < w.heap.size + 3 → (wr.setCell ⟨gq, at1, none⟩ (.int .u8 ((D.getD i 0 : Nat) : Int))).heap[k]? = w1.heap[k]?) ∧ w.grownBy (wr.setCell ⟨gq, at1, none⟩ (.int .u8 ((D.getD i 0 : Nat) : Int))) none ∧ w.heap.size + 3 ≤ (wr.setCell ⟨gq, at1, none⟩ (.int .u8 ((D.getD i 0 : Nat) : Int))).heap.size) := hidI ⟨fun k hk => (Below.heap_setCell _ _ _ _ (by simp; omega)).trans (HK2.out.1 k hk), gr_own HK2.out.2.1 (by omega) _ _, by simpa using HK2.out.2.2⟩
              have hpp : (at1 : Int) < (p : Int) := by omega
              clear hP hfr hW hU HP2 HK2 HO HK d1
              generalize D.getD i 0 = y at *
              go_wp2
              have hgl := HG.out
              go_roundg (N - (i + 1))
              all_goals first | omega | exact ⟨i + 1, p, some ⟨gq, 0, none⟩, og, by go_num, rfl, by omega, by omega, by omega, HNEW, HK5⟩)
      · have hieq : i = upToN pt N := by omega
        have hend : ¬ i < N ∨ i < N ∧ ¬ pt < 0 ∧ ¬ (i : Int) < pt := by
          by_cases h1 : i < N
          · right
            unfold upToN at hin
            by_cases h2 : pt < 0
            · rw [if_pos h2] at hin; omega
            · rw [if_neg h2] at hin
              exact ⟨h1, h2, by omega⟩
          · exact .inl h1
        have hO := HO.out
        have p0 : wr.cell? ⟨w.heap.size, 0, none⟩ = some (.slice aa n ac) := by have := at_cell c0 0; rwa [HN.out] at this
        have p1 : wr.cell? ⟨w.heap.size, 1, none⟩ = some (.slice ba B.length bc) := at_cell c0 1
        have r0 : wr.cell? ⟨w.heap.size + 1 + 1, 0, none⟩ = some (.slice none 0 0) := at_cell c2 0
        have r1 : wr.cell? ⟨w.heap.size + 1 + 1, 1, none⟩ = some (.slice none 0 0) := at_cell c2 1
        have fz0 := at_frozen c0 0
        have fz2 := at_frozen c2 0
        have fz3 := at_frozen c2 1
        have HO2 := hidI hO
        have HC22 := hidI c2
        have HIE := hidI hieq
        have hg0r := HK.out.2.1
        clear hO HO HK c0 c1 c2 hieq
        rcases hend with hx1 | ⟨hx1, hx2, hx3⟩
        all_goals (
          try (have j1 : ¬ (i : Int) < (N : Int) := by omega)
          try (have j1 : (i : Int) < (N : Int) := by omega)
          go_wp2
          have d2 := at_set (at_set ((Below.heap_setCell wr ⟨w.heap.size, 0, none⟩ (.slice ob m od) (w.heap.size + 1 + 1) (by simp; omega)).trans HC22.out) 0 (.slice ob m od)) 1 (.slice ba B.length bc)
          refine bodyPost_ret (results26 _ _ (w.heap.size + 1 + 1) (.slice ob m od) (.slice ba B.length bc) rfl d2) rfl ?_
          refine ⟨ob, od, by rw [← HIE.out, ← HO2.out.1]; rfl, ?_, gr_own (gr_own (gr_own hg0r (Nat.le_refl _) _ _) (by omega) _ _) (by omega) _ _⟩
          rw [← HIE.out]
          exact own_low (own_but (own_but (own_but HO2.out.2 (gr_set (World.grownBy.refl _ _) _ _) (by omega)) (gr_set (World.grownBy.refl _ _) _ _) (by omega)) (gr_set (World.grownBy.refl _ _) _ _) (by omega)) (by omega))
  · simp only [Nat.one_ne_zero, if_false] at hS
    subst hS
    obtain ⟨oa, oc, w1, hrun, hown, hg1⟩ := copyB (rdB_grown hb hgB) (by omega)
    have c0 := kept hg1 b0
    have c1 := kept hg1 b1
    have c2 := kept hg1 b2
    rw [hsz] at hown
    have hg01 := grown_join hgB hg1 (.inl rfl)
    have s1 := hg1.size
    rw [hsz] at s1
    have HRUN : Hid (_ = _) := hrun
    clear hrun b0 b1 b2 hgB hsz hg1
    have q0 : w1.cell? ⟨w.heap.size + 1, 0, none⟩ = some (.int .i64 1) := at_cell c1 0
    have q1 : w1.cell? ⟨w.heap.size + 1, 1, none⟩ = some (.bool false) := at_cell c1 1
    have HF := hidI hf
    have HOW : Hid (OwnB (w.heap.size + 3) w1 oa oc S) := hown
    have HC0 := hidI c0
    have HC1 := hidI c1
    have HC2 := hidI c2
    have HS1 := hidI s1
    have HG01 := hidI hg01
    clear hown c0 c1 c2 hf s1
    go_enter Tryd.func26, Tryd.ntmps26
    go_wp2_with (first | (at_builtin; refine hidG ?_))
    refine hidI ?_
    refine wpList_append_run rfl _ _ 23 rfl _ _ _ w1 rfl rfl HRUN.out ?_
    obtain ⟨n, hn⟩ : ∃ n, S.length = n := ⟨_, rfl⟩
    have HN : Hid (S.length = n) := hn
    rw [hn] at lb ⊢
    clear hn
    go_wp2_with fail
    go_loopg [8, 10, 11] N (fun gk s8 s10 s11 wx => ∃ (i m : Nat) (ob : Option Addr) (od : Nat), s10 = .int .i64 i ∧ s8 = .slice ob m od ∧ i ≤ N ∧ i ≤ upToN pt N ∧ gk = N - i ∧ Hid (m = (wrS S at0 D i).length ∧ OwnB (w.heap.size + 3) wx ob od (wrS S at0 D i)) ∧ Hid ((∀ k, k < w.heap.size + 3 → wx.heap[k]? = w1.heap[k]?) ∧ w.grownBy wx none ∧ w.heap.size + 3 ≤ wx.heap.size))
    case atStart => exact ⟨0, n, oa, oc, rfl, rfl, Nat.zero_le _, Nat.zero_le _, by omega, hidI ⟨HN.out.symm, HOW.out⟩, hidI ⟨fun _ _ => rfl, HG01.out, HS1.out⟩⟩
    case round =>
      obtain ⟨i, m, ob, od, rfl, rfl, hi, hic, hgk, HO, HK⟩ := hrel
      have HG : Hid (gk = N - i) := hgk
      have c0 := (HK.out.1 _ (by omega)).trans HC0.out
      have c1 := (HK.out.1 _ (by omega)).trans HC1.out
      have c2 := (HK.out.1 _ (by omega)).trans HC2.out
      have q0 : wr.cell? ⟨w.heap.size + 1, 0, none⟩ = some (.int .i64 1) := at_cell c1 0
      have q2 : wr.cell? ⟨w.heap.size + 1, 2, none⟩ = some (.int .i64 (at0 : Int)) := at_cell c1 2
      have q3 : wr.cell? ⟨w.heap.size + 1, 3, none⟩ = some (.slice xa N xc) := at_cell c1 3
      clear hgk
      have hcN : upToN pt N ≤ N := by unfold upToN; split <;> omega
      by_cases hin : i < upToN pt N
      · have j1 : (i : Int) < (N : Int) := by omega
        have j0 : (0 : Int) ≤ (i : Int) := by omega
        have hpt3 : pt < 0 ∨ ¬ pt < 0 ∧ (i : Int) < pt := by
          by_cases h : pt < 0
          · exact .inl h
          · refine .inr ⟨h, ?_⟩
            unfold upToN at hin
            rw [if_neg h] at hin
            omega
        obtain ⟨at1, hat⟩ : ∃ t, at0 + i = t := ⟨_, rfl⟩
        have a0 : (0 : Int) ≤ (at1 : Int) := by omega
        have a1 : (at1 : Int) ≤ 100000 := by omega
        have e1 : (at0 : Int) + (i : Int) = (at1 : Int) := by omega
        have HAT : Hid (at0 + i = at1) := hat
        have hw := wrS_len S at0 D i
        rw [HN.out] at hw
        have hm : m ≤ 200000 := by rw [HO.out.1]; omega
        clear c0 c1 c2 hat hw
        rcases hpt3 with hpt | ⟨hpt, hip⟩
        all_goals (
          go_wp2_with fail
          go_loopg [8] (at1 + 1 - m) (fun gk s8 wx => ∃ (p : Nat) (oe : Option Addr) (og : Nat), s8 = .slice oe p og ∧ m ≤ p ∧ p ≤ 300000 ∧ gk = at1 + 1 - p ∧ Hid (OwnB (w.heap.size + 3) wx oe og (pad (wrS S at0 D i) p) ∧ (pad (wrS S at0 D i) p).length = p ∧ (p = m ∨ p ≤ at1 + 1)) ∧ Hid ((∀ k, k < w.heap.size + 3 → wx.heap[k]? = w1.heap[k]?) ∧ w.grownBy wx none ∧ w.heap.size + 3 ≤ wx.heap.size))
          case atStart =>
            refine ⟨m, ob, od, rfl, Nat.le_refl _, by omega, rfl, hidI ?_, HK⟩
            have := HO.out
            rw [this.1, pad_self _ _ (Nat.le_refl _)]
            exact ⟨this.2, rfl, .inl rfl⟩
          case round =>
            obtain ⟨p, oe, og, rfl, hmp, hp3, hgp, HP2, HK2⟩ := hrel
            have HGP : Hid (_ = _) := hgp
            clear hgp
            by_cases hge : p ≤ at1
            · have g1 : (p : Int) ≤ (at1 : Int) := by omega
              obtain ⟨oe', og', w5, hrun5, ho5, hk5, hgg5⟩ := HP2.out.1.one 255 p HP2.out.2.1 (by omega) HK2.out.2.2
              rw [pad_more _ _ (by have := HO.out.1; omega)] at ho5
              have hpl : (pad (wrS S at0 D i) (p + 1)).length = p + 1 := by rw [pad_len]; have := HO.out.1; omega
              have HNEW : Hid (OwnB (w.heap.size + 3) w5 oe' og' (pad (wrS S at0 D i) (p + 1)) ∧ (pad (wrS S at0 D i) (p + 1)).length = p + 1 ∧ (p + 1 = m ∨ p + 1 ≤ at1 + 1)) := hidI ⟨ho5, hpl, .inr (by omega)⟩
              have hg5 := hgg5 w (by omega) HK2.out.2.1
              have HK5 : Hid ((∀ k, k < w.heap.size + 3 → w5.heap[k]? = w1.heap[k]?) ∧ w.grownBy w5 none ∧ w.heap.size + 3 ≤ w5.heap.size) := hidI ⟨fun k hk => (hk5 k hk).trans (HK2.out.1 k hk), hg5, by
                obtain ⟨_, ⟨_, h0⟩ | ⟨gg, _, _, _, hgb, hgc, _⟩⟩ := id ho5
                · rw [hpl] at h0; omega
                · have := at_lt hgc; omega⟩
              have HRUN5 : Hid (_ = _) := hrun5
              clear hrun5 ho5 hk5 hgg5 hg5 hpl HP2 HK2
              go_wp2_with (first | (at_builtin; refine hidG ?_))
              refine hidI ?_
              refine wpList_append_run rfl _ _ 23 rfl _ _ _ w5 rfl rfl HRUN5.out ?_
              go_wp2
              have hgl := HGP.out
              go_roundg (at1 + 1 - (p + 1))
              all_goals first | omega | exact ⟨p + 1, oe', og', rfl, by omega, by omega, by omega, HNEW, HK5⟩
            · have g1 : ¬ (p : Int) ≤ (at1 : Int) := by omega
              have hU : pad (wrS S at0 D i) p = pad (wrS S at0 D i) (at1 + 1) := by
                rcases HP2.out.2.2 with h | h
                · rw [pad_self _ p (by have := HO.out.1; omega), pad_self _ (at1 + 1) (by have := HO.out.1; omega)]
                · rw [show p = at1 + 1 by omega]
              have hfr := HF.out i hin
              rw [HAT.out] at hfr
              have hW : wrS S at0 D (i + 1) = (pad (wrS S at0 D i) (at1 + 1)).set at1 (D.getD i 0) := by
                rw [← HAT.out]; rfl
              have hP := HP2.out
              rw [hU] at hP
              obtain ⟨gq, rfl, hcq, hfq⟩ : ∃ g, oe = some ⟨g, 0, none⟩ ∧ wr.cell? ⟨g, at1, none⟩ = some (.int .u8 255) ∧ wr.frozen? ⟨g, at1, none⟩ = false := by
                obtain ⟨_, ⟨_, h0⟩ | ⟨g, cc, cur, e, _, hc, _⟩⟩ := id hP.1
                · rw [hP.2.1] at h0; omega
                · injection e with e3 _ _
                  have hown := hP.1
                  rw [e3] at hown
                  have hlen := hP.2.1
                  refine ⟨g, e3, ?_, at_frozen hc at1⟩
                  rw [World.ownsRow.cellAt hown at1 (by rw [hlen]; omega)]
                  have e4 : (bV (pad (wrS S at0 D i) (at1 + 1)))[at1]? = some (.int .u8 (((pad (wrS S at0 D i) (at1 + 1)).getD at1 0 : Nat) : Int)) := by
                    simp [bV, List.getD, show at1 < (pad (wrS S at0 D i) (at1 + 1)).length by omega]
                  rw [e4, hfr]
                  rfl
              obtain ⟨xb, xo, rfl, hxd⟩ : ∃ b off, xa = some ⟨b, off, none⟩ ∧ wr.cell? ⟨b, off + i, none⟩ = some (.int .u8 ((D.getD i 0 : Nat) : Int)) := by
                rcases HXC.out with h | ⟨b, off, rfl, hc⟩
                · have := HNN.out
                  rw [h] at this
                  simp at this
                  omega
                · exact ⟨b, off, rfl, HK2.out.2.1.cell (hc i (by rw [HNN.out]; omega)) (by simp)⟩
              have d1 := (HK2.out.1 _ (by omega)).trans HC1.out
              have q0 : wr.cell? ⟨w.heap.size + 1, 0, none⟩ = some (.int .i64 1) := at_cell d1 0
              have q3 : wr.cell? ⟨w.heap.size + 1, 3, none⟩ = some (.slice (some ⟨xb, xo, none⟩) N xc) := at_cell d1 3
              have hgq : w.heap.size + 3 ≤ gq := by
                have := World.ownsRow.lt hP.1 gq rfl
                omega
              have HNEW : Hid (p = (wrS S at0 D (i + 1)).length ∧ OwnB (w.heap.size + 3) (wr.setCell ⟨gq, at1, none⟩ (.int .u8 ((D.getD i 0 : Nat) : Int))) (some ⟨gq, 0, none⟩) og (wrS S at0 D (i + 1))) := hidI ⟨by rw [hW, List.length_set, hP.2.1], by rw [hW]; exact hP.1.put at1 _⟩
              have HK5 : Hid ((∀ k, k < w.heap.size + 3 → (wr.setCell ⟨gq, at1, none⟩ (.int .u8 ((D.getD i 0 : Nat) : Int))).heap[k]? = w1.heap[k]?) ∧ w.grownBy (wr.setCell ⟨gq, at1, none⟩ (.int .u8 ((D.getD i 0 : Nat) : Int))) none ∧ w.heap.size + 3 ≤ (wr.setCell ⟨gq, at1, none⟩ (.int .u8 ((D.getD i 0 : Nat) : Int))).heap.size) := hidI ⟨fun k hk => (Below.heap_setCell _ _ _ _ (by simp; omega)).trans (HK2.out.1 k hk), gr_own HK2.out.2.1 (by omega) _ _, by simpa using HK2.out.2.2⟩
              have hpp : (at1 : Int) < (p : Int) := by omega
              clear hP hfr hW hU HP2 HK2 HO HK d1
              generalize D.getD i 0 = y at *
              go_wp2
              have hgl := HG.out
              go_roundg (N - (i + 1))
              all_goals first | omega | exact ⟨i + 1, p, some ⟨gq, 0, none⟩, og, by go_num, rfl, by omega, by omega, by omega, HNEW, HK5⟩)
      · have hieq : i = upToN pt N := by omega
        have hend : ¬ i < N ∨ i < N ∧ ¬ pt < 0 ∧ ¬ (i : Int) < pt := by
          by_cases h1 : i < N
          · right
            unfold upToN at hin
            by_cases h2 : pt < 0
            · rw [if_pos h2] at hin; omega
            · rw [if_neg h2] at hin
              exact ⟨h1, h2, by omega⟩
          · exact .inl h1
        have hO := HO.out
        have p0 : wr.cell? ⟨w.heap.size, 0, none⟩ = some (.slice aa A.length ac) := at_cell c0 0
        have p1 : wr.cell? ⟨w.heap.size, 1, none⟩ = some (.slice ba n bc) := by have := at_cell c0 1; rwa [HN.out] at this
        have r0 : wr.cell? ⟨w.heap.size + 1 + 1, 0, none⟩ = some (.slice none 0 0) := at_cell c2 0
        have r1 : wr.cell? ⟨w.heap.size + 1 + 1, 1, none⟩ = some (.slice none 0 0) := at_cell c2 1
        have fz0 := at_frozen c0 1
        have fz2 := at_frozen c2 0
        have fz3 := at_frozen c2 1
        have HO2 := hidI hO
        have HC22 := hidI c2
        have HIE := hidI hieq
        have hg0r := HK.out.2.1
        clear hO HO HK c0 c1 c2 hieq
        rcases hend with hx1 | ⟨hx1, hx2, hx3⟩
        all_goals (
          try (have j1 : ¬ (i : Int) < (N : Int) := by omega)
          try (have j1 : (i : Int) < (N : Int) := by omega)
          go_wp2
          have d2 := at_set (at_set ((Below.heap_setCell wr ⟨w.heap.size, 1, none⟩ (.slice ob m od) (w.heap.size + 1 + 1) (by simp; omega)).trans HC22.out) 0 (.slice aa A.length ac)) 1 (.slice ob m od)
          refine bodyPost_ret (results26 _ _ (w.heap.size + 1 + 1) (.slice aa A.length ac) (.slice ob m od) rfl d2) rfl ?_
          refine ⟨ob, od, by rw [← HIE.out, ← HO2.out.1]; rfl, ?_, gr_own (gr_own (gr_own hg0r (Nat.le_refl _) _ _) (by omega) _ _) (by omega) _ _⟩
          rw [← HIE.out]
          exact own_low (own_but (own_but (own_but HO2.out.2 (gr_set (World.grownBy.refl _ _) _ _) (by omega)) (gr_set (World.grownBy.refl _ _) _ _) (by omega)) (gr_set (World.grownBy.refl _ _) _ _) (by omega)) (by omega))
end Go.Proofs.YtlbipcecdcmgdaaDoor
