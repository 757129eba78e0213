/- Guards out of raw ballots. -/
import Derived.Test.YtefekafpmnaeoaaAb
import Derived.Test.YtefekafpmnaeoaaX
namespace Go.Proofs.Ytefekafpmnaeoaa
open Go.RowKit
attribute [local go_sem ↓] Go.wp_at_zero Go.wp_at_succ
set_option linter.unusedVariables false
set_option linter.unusedSimpArgs false

/-- What guard tells. -/
def GdP (w w' : World) (e : Ending) (D : Nat) (L : List (Int × List Int)) : Prop := ∃ a c ns, e = .returned (.agg #[.int .i64 6, .int .i64 (D : Int), .slice a L.length c]) ∧ Row2 w.heap.size w.heap.size w' a c L ns ∧ w.grownBy w' none
theorem own_lt3 {B : Nat} {w : World} {a : Option Addr} {c n : Nat} {xs : List Value} {e size : Nat} (h : w.ownsRow B e size (.slice a n c) n xs) : ∀ x, (Value.slice a n c).ownBlock = some x → B ≤ x ∧ x < w.heap.size := World.ownsRow.lt h
theorem row_first {w : World} {p : Nat} (h1 : w.heap[p + 1]? = some (.cells #[.int .i64 0, .int .i64 1, .int .i64 2] 3)) (h2 : w.heap[p + 2]? = some (.cells #[.int .i64 2, .slice (some ⟨p + 1, 0, none⟩) 3 3] 50)) : Row2 (p + 1) (p + 3) w (some ⟨p + 2, 0, none⟩) 1 [(2, [0, 1, 2])] [(2, .slice (some ⟨p + 1, 0, none⟩) 3 3)] := by
  refine ⟨⟨rfl, ⟨by simp [vC], .inr ⟨p + 2, 1, #[.int .i64 2, .slice (some ⟨p + 1, 0, none⟩) 3 3], rfl, by omega, h2, Nat.le_refl _, by unfold maxLen; omega, by simp, by simp [vC]⟩⟩, fun i hi => ?_⟩, fun x hx => ?_, fun i hi x hx => ?_, fun i j hij hj => ?_⟩
  · have hi0 : i = 0 := by simp at hi; omega
    subst hi0
    refine ⟨rfl, some ⟨p + 1, 0, none⟩, 3, rfl, ⟨rfl, .inr ⟨p + 1, 3, #[.int .i64 0, .int .i64 1, .int .i64 2], rfl, Nat.le_refl _, h1, Nat.le_refl _, by unfold maxLen; decide, rfl, rfl⟩⟩, fun x hx h2 => ?_⟩
    simp [Value.ownBlock] at hx h2
    omega
  · simp [Value.ownBlock] at hx
    omega
  · have hi0 : i = 0 := by simp at hi; omega
    subst hi0
    simp [Value.ownBlock] at hx
    omega
  · simp at hj
    omega
theorem step_more2 {w : World} {ops : Array Oper} {o : Oper} {a : Act} {K : Act → World → Prop} {Q : Exit → Act → World → Prop} {E : Prop} (hgd : o.guard = none) (s x : Operand)
    (ho : o.op = .call { callee := .builtin .append, args := #[s, x], argTypes := #[22, 22] }) (hty : o.type = 22) {B t : Nat} (va : Option Addr) (k cap q : Nat) (l : List (Int × List Int)) (ns : List (Int × Value)) (need : Int) (of : List Int) (ua : Option Addr) (uc B2 : Nat)
    (hs : a.eval s = .slice va k cap) (hx : a.eval x = .slice (some ⟨q, 0, none⟩) 1 1) (hk : l.length = k) (hr : Row2 B t w va cap l ns) (hl : l.length ≤ 1000000)
    (hu : OwnL B2 w ua uc of) (hB2 : B ≤ B2) (htB : t < B2) (hnew : ∀ x, (Value.slice va ns.length cap).ownBlock = some x → x < B2) (hold : ∀ i, i < ns.length → ∀ x, (ns.getD i (0, undef)).2.ownBlock = some x → x < B2) (hq : w.heap[q]? = some (.cells #[.int .i64 need, .slice ua of.length uc] 50)) (hB : B ≤ w.heap.size) (ht : t < w.heap.size)
    (h : ∀ a' cap' w', Row2 B t w' a' cap' (l ++ [(need, of)]) (ns ++ [(need, .slice ua of.length uc)]) → w.grownBy w' (Value.slice va ns.length cap).ownBlock → (∀ x, (Value.slice va ns.length cap).ownBlock = some x → B ≤ x ∧ x ≠ t) → K (a.put o.dst (.slice a' (k + 1) cap')) w') : if Region.wanted o (yielded ops a.tmps) = true then Oper.wp Try.prog o a w K Q else E := by
  subst hk
  obtain ⟨a', cap', w', h1, h2, h3, h4⟩ := hr.more need of ua uc q B2 hl hu hB2 htB hnew hold hq hB ht
  exact step_append_run hgd s x 22 ho _ _ _ w' hs hx (by rw [hty]; exact h1) (h a' cap' w' h2 h3 h4)
set_option maxRecDepth 10000 in
set_option maxHeartbeats 8000000 in
theorem guard_any (bl : List (Int × List Int)) (delay : Int) (v : Value) (w : World) (hv : rdVs w v bl) (hdl : in64 delay) (hz : ∀ b ∈ bl, in64 b.1 ∧ ∀ x ∈ b.2, in64 x) (hl : OkL bl) :
    Calls Try.prog 18 #[v, .int .i64 delay] w fun e w' => GdP w w' e (pk delay 4) (gvs bl) := by
  obtain ⟨va, vc, rfl, _⟩ := id hv
  have cD := fun X => picked_any delay 4 X hdl (by omega) (by omega)
  have hD4 := pk_lt delay (m := 4) (by omega)
  obtain ⟨D, hD⟩ : ∃ d, pk delay 4 = d := ⟨_, rfl⟩
  rw [hD] at cD hD4
  have HDD := hidI hD
  obtain ⟨n, hn⟩ : ∃ n, bl.length = n := ⟨_, rfl⟩
  have HN := hidI hn
  have HIN := hidI (And.intro hv (And.intro hz hl))
  rw [hn]
  have hn0 : n ≤ 17592186043904 := by have := hl.1; omega
  clear hD hn hv hz hl
  obtain ⟨p, hp⟩ : ∃ p, w.heap.size = p := ⟨_, rfl⟩
  have hW0 : ((((w.alloc (.cells #[.int .i64 0, .int .i64 0, .slice none 0 0] 24)).alloc (.cells #[.int .i64 0, .int .i64 1, .int .i64 2] 3)).alloc (.cells #[.int .i64 2, .slice (some ⟨p + 1, 0, none⟩) 3 3] 50)).alloc (.cells #[.int .i64 6, .int .i64 (D : Int), .slice (some ⟨p + 1 + 1, 0, none⟩) 1 1] 24)).heap[p]? = some (.cells #[.int .i64 0, .int .i64 0, .slice none 0 0] 24) := by
    rw [hp_old (by simp; omega), hp_old (by simp; omega), hp_old (by simp; omega)]; exact hp_new hp.symm _
  have hW1 : ((((w.alloc (.cells #[.int .i64 0, .int .i64 0, .slice none 0 0] 24)).alloc (.cells #[.int .i64 0, .int .i64 1, .int .i64 2] 3)).alloc (.cells #[.int .i64 2, .slice (some ⟨p + 1, 0, none⟩) 3 3] 50)).alloc (.cells #[.int .i64 6, .int .i64 (D : Int), .slice (some ⟨p + 1 + 1, 0, none⟩) 1 1] 24)).heap[p + 1]? = some (.cells #[.int .i64 0, .int .i64 1, .int .i64 2] 3) := by
    rw [hp_old (by simp; omega), hp_old (by simp; omega)]; exact hp_new (by simp; omega) _
  have hW2 : ((((w.alloc (.cells #[.int .i64 0, .int .i64 0, .slice none 0 0] 24)).alloc (.cells #[.int .i64 0, .int .i64 1, .int .i64 2] 3)).alloc (.cells #[.int .i64 2, .slice (some ⟨p + 1, 0, none⟩) 3 3] 50)).alloc (.cells #[.int .i64 6, .int .i64 (D : Int), .slice (some ⟨p + 1 + 1, 0, none⟩) 1 1] 24)).heap[p + 2]? = some (.cells #[.int .i64 2, .slice (some ⟨p + 1, 0, none⟩) 3 3] 50) := by
    rw [hp_old (by simp; omega)]; exact hp_new (by simp; omega) _
  have hW3 : ((((w.alloc (.cells #[.int .i64 0, .int .i64 0, .slice none 0 0] 24)).alloc (.cells #[.int .i64 0, .int .i64 1, .int .i64 2] 3)).alloc (.cells #[.int .i64 2, .slice (some ⟨p + 1, 0, none⟩) 3 3] 50)).alloc (.cells #[.int .i64 6, .int .i64 (D : Int), .slice (some ⟨p + 1 + 1, 0, none⟩) 1 1] 24)).heap[p + 3]? = some (.cells #[.int .i64 6, .int .i64 (D : Int), .slice (some ⟨p + 1 + 1, 0, none⟩) 1 1] 24) := hp_new (by simp; omega) _
  have hgW : w.grownBy ((((w.alloc (.cells #[.int .i64 0, .int .i64 0, .slice none 0 0] 24)).alloc (.cells #[.int .i64 0, .int .i64 1, .int .i64 2] 3)).alloc (.cells #[.int .i64 2, .slice (some ⟨p + 1, 0, none⟩) 3 3] 50)).alloc (.cells #[.int .i64 6, .int .i64 (D : Int), .slice (some ⟨p + 1 + 1, 0, none⟩) 1 1] 24)) none := gr_alloc (gr_alloc (gr_alloc (gr_alloc (World.grownBy.refl _ _) _) _) _) _
  have hsW : ((((w.alloc (.cells #[.int .i64 0, .int .i64 0, .slice none 0 0] 24)).alloc (.cells #[.int .i64 0, .int .i64 1, .int .i64 2] 3)).alloc (.cells #[.int .i64 2, .slice (some ⟨p + 1, 0, none⟩) 3 3] 50)).alloc (.cells #[.int .i64 6, .int .i64 (D : Int), .slice (some ⟨p + 1 + 1, 0, none⟩) 1 1] 24)).heap.size = p + 4 := by simp; omega
  go_enter Try.func18, Try.ntmps18
  go_wp2_with fail
  refine (cD _).mono ?_
  rintro e w' ⟨rfl, rfl⟩
  go_upto_region 2 with fail
  have HP := hidI hp
  clear hp
  generalize ((((w.alloc (.cells #[.int .i64 0, .int .i64 0, .slice none 0 0] 24)).alloc (.cells #[.int .i64 0, .int .i64 1, .int .i64 2] 3)).alloc (.cells #[.int .i64 2, .slice (some ⟨p + 1, 0, none⟩) 3 3] 50)).alloc (.cells #[.int .i64 6, .int .i64 (D : Int), .slice (some ⟨p + 1 + 1, 0, none⟩) 1 1] 24)) = W at *
  have hR0 : Row2 (p + 1) (p + 3) W (some ⟨p + 1 + 1, 0, none⟩) 1 [(2, [0, 1, 2])] [(2, .slice (some ⟨p + 1, 0, none⟩) 3 3)] := row_first hW1 hW2
  obtain ⟨pg, hpg⟩ : ∃ x, p + 1 + 1 + 1 = x := ⟨_, rfl⟩
  have hW3 : W.heap[p + 1 + 1 + 1]? = some (.cells #[.int .i64 6, .int .i64 (D : Int), .slice (some ⟨p + 1 + 1, 0, none⟩) 1 1] 24) := hW3
  have hR0 : Row2 (p + 1) (p + 1 + 1 + 1) W (some ⟨p + 1 + 1, 0, none⟩) 1 [(2, [0, 1, 2])] [(2, .slice (some ⟨p + 1, 0, none⟩) 3 3)] := hR0
  rw [hpg] at hW3 hR0 ⊢
  have hpg3 : pg = p + 3 := by omega
  have HPG := hidI hpg3
  -- the first part of the world: what came in, and the box of the answer
  have HW := hidI (And.intro hW0 (And.intro hW3 (And.intro hR0 (And.intro hgW hsW))))
  clear hW0 hW1 hW2 hW3 hR0 hgW hsW hpg hpg3 cD
  go_wp2_with fail
  go_loopg [6] 8 (fun gk s6 wx => ∃ (k : Nat) (a : Option Addr) (c : Nat) (ns : List (Int × Value)), s6 = .int .i64 k ∧ k ≤ n ∧ k ≤ 8 ∧ gk = 8 - k ∧ Hid (wx.heap[pg]? = some (.cells #[.int .i64 6, .int .i64 (D : Int), .slice a (gvK bl k).length c] 24) ∧ Row2 (p + 1) pg wx a c (gvK bl k) ns ∧ w.grownBy wx none ∧ wx.heap[p]? = some (.cells #[.int .i64 0, .int .i64 0, .slice none 0 0] 24)))
  case atStart => exact ⟨0, some ⟨p + 1 + 1, 0, none⟩, 1, _, rfl, Nat.zero_le _, by omega, by omega, hidI ⟨HW.out.2.1, HW.out.2.2.1, HW.out.2.2.2.1, HW.out.1⟩⟩
  case round =>
    clear HW
    obtain ⟨k, a, c, ns, rfl, hkn, hk8, hgk, HK⟩ := hrel
    have HG := hidI hgk
    clear hgk
    by_cases hstop : k < n ∧ k < 8
    · obtain ⟨hlt, hl8⟩ := hstop
      have hkl : k < bl.length := by rw [HN.out]; exact hlt
      obtain ⟨hbox, hrow, hgw, hb0⟩ := HK.out
      obtain ⟨va1, vc1, ev, h | ⟨b, off, rfl, hc⟩⟩ := rdVs_grown HIN.out.1 hgw
      · subst h; simp at hkl
      simp at ev
      obtain ⟨rfl, rfl⟩ := ev
      obtain ⟨u, q0, q1, hu⟩ := hc k hkl
      have hVl : bl.getD k (0, []) = bl[k] := by simp [List.getD, hkl]
      have hof : (bl.getD k (0, [])).2.length ≤ 17592186043904 := by
        rw [hVl]; exact HIN.out.2.2.2 _ (List.getElem_mem hkl)
      have hin : in64 (bl.getD k (0, [])).1 ∧ ∀ x ∈ (bl.getD k (0, [])).2, in64 x := by rw [hVl]; exact HIN.out.2.1 _ (List.getElem_mem hkl)
      have HSUC : Hid (gvK bl (k + 1) = gvK bl k ++ gvF (bl.getD k (0, []))) := hidI (gvK_succ bl k hkl)
      clear hc hkl hVl
      generalize bl.getD k (0, []) = V at *
      obtain ⟨need, of⟩ := V
      dsimp only at *
      obtain ⟨ua2, uc2, rfl, _⟩ := id hu
      obtain ⟨mo, hmo⟩ : ∃ x, of.length = x := ⟨_, rfl⟩
      have HMO := hidI hmo
      rw [hmo] at hu q1 hof
      have y3 : (0 : Int) ≤ (k : Int) := by omega
      have y4 : (k : Int) < (n : Int) := by omega
      have y5 : (k : Int) < 8 := by omega
      -- the array of those that were seen
      have gA : wr.grownBy (wr.alloc (.cells #[.bool false, .bool false, .bool false, .bool false, .bool false, .bool false] 61)) none := gr_alloc (World.grownBy.refl _ _) _
      have kA : (wr.alloc (.cells #[.bool false, .bool false, .bool false, .bool false, .bool false, .bool false] 61)).heap[wr.heap.size]? = _ := heap_alloc_new wr _
      have HU := hidI (And.intro hu (And.intro hin (And.intro gA kA)))
      clear hu hin gA kA hmo hbox hrow hgw hb0
      go_upto_region 7 with fail
      obtain ⟨pa, hpa⟩ : ∃ x, wr.heap.size = x := ⟨_, rfl⟩
      have HPA := hidI hpa
      rw [hpa]
      rw [hpa] at HU
      clear hpa
      generalize wr.alloc (.cells #[.bool false, .bool false, .bool false, .bool false, .bool false, .bool false] 61) = WA at *
      go_wp2_with fail
      go_loopg [7, 9] mo (fun gk s7 s9 wx => ∃ (j : Nat) (a7 : Option Addr) (c7 : Nat), s9 = .int .i64 j ∧ s7 = .slice a7 (uq (of.take j)).length c7 ∧ j ≤ mo ∧ gk = mo - j ∧ Hid (wr.grownBy wx none ∧ wx.heap[pa]? = some (.cells (seenB (uq (of.take j))) 61) ∧ OwnL (pa + 1) wx a7 c7 (uq (of.take j))))
      case atStart => exact ⟨0, none, 0, rfl, rfl, Nat.zero_le _, by omega, hidI ⟨HU.out.2.2.1, by rw [List.take_zero, show uq [] = [] from rfl, seenB_nil]; exact HU.out.2.2.2, OwnL.nil _ _⟩⟩
      case round =>
      obtain ⟨j, a7, c7, rfl, rfl, hjm, hgj, HJ⟩ := hrel
      have HGJ := hidI hgj
      clear hgj
      obtain ⟨hgJ, hseen, hoJ⟩ := HJ.out
      have c1 := hgJ.cell q1 (by simp)
      by_cases hltj : j < mo
      · have hkl : j < of.length := by rw [HMO.out]; exact hltj
        obtain ⟨ua', uc', ev, h | ⟨b3, off3, rfl, hc⟩⟩ := rd_grown HU.out.1 hgJ
        · subst h; simp at hkl
        simp at ev
        obtain ⟨rfl, -, rfl⟩ := ev
        have q5 := hc j hkl
        have hxi : in64 (of.getD j 0) := HU.out.2.1.2 _ (by
          have : of.getD j 0 = of[j] := by simp [List.getD, hkl]
          rw [this]; exact List.getElem_mem _)
        have HTK : Hid (of.take (j + 1) = of.take j ++ [of.getD j 0]) := hidI (by
          rw [List.take_add_one]
          simp [List.getD, hkl])
        have cP := picked_any (of.getD j 0) 6 wr hxi (by omega) (by omega)
        have hx6 := pk_lt (of.getD j 0) (m := 6) (by omega)
        have HUQ : Hid (uq (of.take (j + 1)) = if (pk (of.getD j 0) 6 : Int) ∈ uq (of.take j) then uq (of.take j) else uq (of.take j) ++ [(pk (of.getD j 0) 6 : Int)]) := hidI (by rw [HTK.out, uq_snoc]; rfl)
        have hul := uq_len (of.take j)
        generalize pk (of.getD j 0) 6 = x at *
        generalize of.getD j 0 = z at *
        generalize uq (of.take j) = U at *
        have y6 : (0 : Int) ≤ (j : Int) := by omega
        have y7 : (j : Int) < (mo : Int) := by omega
        have y8 : (0 : Int) ≤ (x : Int) := by omega
        have y9 : (x : Int) < 6 := by omega
        have s1 : wr.cell? ⟨pa, x, none⟩ = some (.bool (decide ((x : Int) ∈ U))) := by rw [at_cell hseen, seenB_get _ _ hx6]
        have s2 := at_frozen hseen x
        have hpl : pa + 1 ≤ wr.heap.size := at_lt hseen
        clear hc hkl hxi HTK
        by_cases hmem : (x : Int) ∈ U
        · have hdm : decide ((x : Int) ∈ U) = true := by simpa using hmem
          rw [hdm] at s1
          rw [if_pos hmem] at HUQ
          have HNJ : Hid (World.grownBy _ (wr.setCell ⟨pa, x, none⟩ (.bool true)) none ∧ (wr.setCell ⟨pa, x, none⟩ (.bool true)).heap[pa]? = some (.cells (seenB (uq (of.take (j + 1)))) 61) ∧ OwnL (pa + 1) (wr.setCell ⟨pa, x, none⟩ (.bool true)) a7 c7 (uq (of.take (j + 1)))) := hidI ⟨gr_own hgJ (by rw [HPA.out]; exact Nat.le_refl _) _ _, by rw [at_set hseen, seenB_add _ _ hx6, if_pos hmem, HUQ.out], by rw [HUQ.out]; exact own_but (p := pa) hoJ (gr_set (World.grownBy.refl _ _) _ _) (by omega)⟩
          have HLU : Hid (U.length = (uq (of.take (j + 1))).length) := hidI (by rw [HUQ.out])
          clear hgJ hseen hoJ HJ hmem hdm
          go_wp2_with fail
          refine cP.mono ?_
          rintro e w' ⟨rfl, rfl⟩
          go_wp2
          have hgl := HGJ.out
          go_roundg (mo - (j + 1))
          all_goals first | omega | exact ⟨j + 1, a7, c7, by go_num, by rw [HLU.out], by omega, by omega, HNJ⟩
        · have hdm : decide ((x : Int) ∈ U) = false := by simpa using hmem
          rw [hdm] at s1
          rw [if_neg hmem] at HUQ
          obtain ⟨a8, c8, w8, hrun, ho8, g8, hb8⟩ := own_plus hoJ (x : Int) (by omega) hpl
          have HRUN : Hid (_ = _) := hrun
          have hs8 : w8.heap[pa]? = some (.cells (seenB U) 61) := (g8.block pa (by omega) (fun e => by have := hb8 _ e.symm; omega)).trans hseen
          have s3 : w8.cell? ⟨pa, x, none⟩ = some (.bool false) := by rw [at_cell hs8, seenB_get _ _ hx6, hdm]
          have s4 := at_frozen hs8 x
          have HNJ : Hid (World.grownBy _ (w8.setCell ⟨pa, x, none⟩ (.bool true)) none ∧ (w8.setCell ⟨pa, x, none⟩ (.bool true)).heap[pa]? = some (.cells (seenB (uq (of.take (j + 1)))) 61) ∧ OwnL (pa + 1) (w8.setCell ⟨pa, x, none⟩ (.bool true)) a8 c8 (uq (of.take (j + 1)))) := hidI ⟨gr_own (grown_join hgJ g8 (.inr (fun y hy => by have := hb8 y hy; have := HPA.out; omega))) (by rw [HPA.out]; exact Nat.le_refl _) _ _, by rw [at_set hs8, seenB_add _ _ hx6, if_neg hmem, HUQ.out], by rw [HUQ.out]; exact own_but (p := pa) ho8 (gr_set (World.grownBy.refl _ _) _ _) (by omega)⟩
          have HLU : Hid (U.length + 1 = (uq (of.take (j + 1))).length) := hidI (by rw [HUQ.out]; simp)
          clear hgJ hseen hoJ HJ hmem hdm hrun ho8 g8 hb8 hs8
          go_wp2_with fail
          refine cP.mono ?_
          rintro e w' ⟨rfl, rfl⟩
          go_wp2_with (first | (at_builtin; refine wpList_append_run rfl _ _ 26 rfl _ _ _ w8 rfl rfl HRUN.out ?_))
          have hgl := HGJ.out
          go_roundg (mo - (j + 1))
          all_goals first | omega | exact ⟨j + 1, a8, c8, by go_num, by rw [← HLU.out], by omega, by omega, HNJ⟩
      have hjn : ¬ ((j : Int) < (mo : Int)) := by omega
      have HGJ2 := hidI hgJ
      rw [List.take_of_length_le (by rw [HMO.out]; omega)] at hseen hoJ ⊢
      obtain ⟨hbox, hrow, hgw, hb0⟩ := HK.out
      have hboxJ := kept hgJ hbox
      have hrowJ := hrow.grown hgJ
      have hgwJ := grown_join hgw hgJ (.inl rfl)
      have hb0J := kept hgJ hb0
      have hpgl : pg < pa := by rw [← HPA.out]; exact at_lt hbox
      have hrl : ∀ x, (Value.slice a ns.length c).ownBlock = some x → x < pa := fun x hx => by rw [← HPA.out]; exact (World.ownsRow.lt hrow.row.own x hx).2
      have hel : ∀ i, i < ns.length → ∀ x, (ns.getD i (0, undef)).2.ownBlock = some x → x < pa := fun i hi x hx => by rw [← HPA.out]; exact (hrow.lt i hi x hx).2
      have hpas : pa < wr.heap.size := at_lt hseen
      have HALL := hidI (And.intro hboxJ (And.intro hrowJ (And.intro hgwJ (And.intro hb0J (And.intro hpgl (And.intro hrl (And.intro hel (And.intro hpas hoJ))))))))
      have hwp : p + 1 ≤ pa := by have := HPG.out; omega
      obtain ⟨U, hU⟩ : ∃ U, uq of = U := ⟨_, rfl⟩
      rw [hU] at HALL ⊢
      have HUE := hidI hU
      have HFF : Hid (gvF (need, of) = if U = [] then [] else [(1 + (pk need U.length : Int), U)]) := hidI (by unfold gvF; rw [hU])
      have hUl : U.length ≤ 6 := by rw [← hU]; exact uq_len of
      clear hbox hrow hgw hb0 hboxJ hrowJ hgwJ hb0J hpgl hrl hel hpas hoJ hgJ hseen HJ hU c1
      by_cases hU0 : U.length = 0
      · have hUn : U = [] := List.length_eq_zero_iff.1 hU0
        have HKS : Hid (gvK bl (k + 1) = gvK bl k) := hidI (by rw [HSUC.out, HFF.out, if_pos hUn]; simp)
        have c1 := (show World.grownBy _ wr none from HGJ2.out).cell q1 (by simp)
        have hU0' : ¬ (0 : Int) < (U.length : Int) := by omega
        go_wp2
        have hgl := HG.out
        obtain ⟨z1, z2, z3, z4, _⟩ := HALL.out
        go_roundg (8 - (k + 1))
        all_goals first | omega | exact ⟨k + 1, a, c, ns, by go_num, by omega, by omega, by omega, hidI (by rw [HKS.out]; exact ⟨z1, z2, z3, z4⟩)⟩
      · have hUne : U ≠ [] := fun e => hU0 (by rw [e]; rfl)
        have HKS : Hid (gvK bl (k + 1) = gvK bl k ++ [(1 + (pk need U.length : Int), U)]) := hidI (by rw [HSUC.out, HFF.out, if_neg hUne])
        have cQ := fun X => picked_any need U.length X HU.out.2.1.1 (by omega) (by omega)
        have hpk := pk_lt need (m := U.length) (by omega)
        generalize pk need U.length = x at *
        have hglen := gvK_len bl k
        have c1 := (show World.grownBy _ wr none from HGJ2.out).cell q1 (by simp)
        have c0 := (show World.grownBy _ wr none from HGJ2.out).cell q0 (by simp)
        have hU0' : (0 : Int) < (U.length : Int) := by omega
        have mX : IntKind.i64.wrap (1 + (x : Int)) = 1 + x := i64_id (by omega) (by omega)
        obtain ⟨_, _, e2⟩ := at3 HALL.out.1
        have L3 : ∀ ob, (wr.alloc ob).cell? ⟨pg, 2, none⟩ = some (.slice a (gvK bl k).length c) := fun ob => (gr_alloc (World.grownBy.refl wr none) ob).cell e2 (by simp)
        have L4 : ∀ ob, (wr.alloc ob).cell? ⟨b, off + k * 2, none⟩ = some (.int .i64 need) := fun ob => (gr_alloc (World.grownBy.refl wr none) ob).cell c0 (by simp)
        have L1 : ∀ ob, (wr.drew.alloc ob).cell? ⟨pg, 2, none⟩ = some (.slice a (gvK bl k).length c) := fun ob => (gr_alloc (gr_drew (World.grownBy.refl wr none)) ob).cell e2 (by simp)
        have L2 : ∀ ob, (wr.drew.alloc ob).cell? ⟨b, off + k * 2, none⟩ = some (.int .i64 need) := fun ob => (gr_alloc (gr_drew (World.grownBy.refl wr none)) ob).cell c0 (by simp)
        generalize hgl' : (gvK bl k).length = gl at *
        have HGL := hidI hgl'
        clear hgl' hUne
        go_wp2_with fail
        go_region_law (first | (go_simp; go_at_call 21; refine (cQ _).mono ?_; rintro e w' ⟨rfl, rfl⟩) | (refine step_more2 (by rfl) _ _ (by rfl) (by rfl) (B := p + 1) (t := pg) a gl c _ (gvK bl k) ns (1 + (x : Int)) U a7 c7 pa (by rfl) (by rfl) HGL.out (Row2.grown HALL.out.2.1 (by first | exact World.grownBy.refl _ _ | exact gr_drew (World.grownBy.refl _ _) | exact gr_alloc (World.grownBy.refl _ _) _ | exact gr_alloc (gr_drew (World.grownBy.refl _ _)) _ | exact gr_drew (gr_alloc (World.grownBy.refl _ _) _) | exact gr_drew (gr_alloc (gr_drew (World.grownBy.refl _ _)) _))) (by rw [HGL.out]; omega) (OwnL.kept (own_low HALL.out.2.2.2.2.2.2.2.2 (by omega)) (by first | exact World.grownBy.refl _ _ | exact gr_drew (World.grownBy.refl _ _) | exact gr_alloc (World.grownBy.refl _ _) _ | exact gr_alloc (gr_drew (World.grownBy.refl _ _)) _ | exact gr_drew (gr_alloc (World.grownBy.refl _ _) _) | exact gr_drew (gr_alloc (gr_drew (World.grownBy.refl _ _)) _))) hwp HALL.out.2.2.2.2.1 HALL.out.2.2.2.2.2.1 HALL.out.2.2.2.2.2.2.1 (heap_alloc_new _ _) (by have := HALL.out.2.2.2.2.2.2.2.1; simp; omega) (by have := HALL.out.2.2.2.2.1; have := HALL.out.2.2.2.2.2.2.2.1; simp; omega) ?_; intro a9 c9 w9 hr9 g9' hb9; have g9 : wr.grownBy w9 (Value.slice a ns.length c).ownBlock := grown_join (by first | exact World.grownBy.refl _ _ | exact gr_drew (World.grownBy.refl _ _) | exact gr_alloc (World.grownBy.refl _ _) _ | exact gr_alloc (gr_drew (World.grownBy.refl _ _)) _ | exact gr_drew (gr_alloc (World.grownBy.refl _ _) _) | exact gr_drew (gr_alloc (gr_drew (World.grownBy.refl _ _)) _)) g9' (.inl rfl); have B9 : w9.heap[pg]? = _ := ((g9.block pg (at_lt HALL.out.1) (fun e => (hb9 _ e.symm).2 rfl)).trans HALL.out.1); obtain ⟨_, _, e5⟩ := at3 B9; have e6 := at_frozen B9 2; have H9 := hidI (And.intro hr9 (And.intro g9 (And.intro hb9 B9))); clear hr9 g9 hb9 B9 g9'))
        all_goals (
          obtain ⟨hr9, g9, hb9, B9⟩ := H9.out
          obtain ⟨z1, z2, z3, z4, _⟩ := HALL.out
          have hpp := HPG.out
          have P9 : w9.heap[p]? = _ := (g9.block p (at_lt z4) (fun e => by have := (hb9 _ e.symm).1; omega)).trans z4
          have HNK : Hid ((w9.setCell ⟨pg, 2, none⟩ (.slice a9 (gl + 1) c9)).heap[pg]? = some (.cells #[.int .i64 6, .int .i64 (D : Int), .slice a9 (gvK bl (k + 1)).length c9] 24) ∧ Row2 (p + 1) pg (w9.setCell ⟨pg, 2, none⟩ (.slice a9 (gl + 1) c9)) a9 c9 (gvK bl (k + 1)) (ns ++ [(1 + (x : Int), .slice a7 U.length c7)]) ∧ w.grownBy (w9.setCell ⟨pg, 2, none⟩ (.slice a9 (gl + 1) c9)) none ∧ (w9.setCell ⟨pg, 2, none⟩ (.slice a9 (gl + 1) c9)).heap[p]? = some (.cells #[.int .i64 0, .int .i64 0, .slice none 0 0] 24)) := hidI ⟨by
              have hq9 := at_set B9 2 (.slice a9 (gl + 1) c9)
              have hle : (gvK bl (k + 1)).length = gl + 1 := by rw [HKS.out, List.length_append, HGL.out]; rfl
              rw [hle]
              simpa using hq9, by
              rw [HKS.out]
              exact hr9.box (gr_set (World.grownBy.refl _ _) _ _), gr_own (grown_join z3 g9 (.inr (fun y hy => by have := (hb9 y hy).1; have := HP.out; omega))) (by have := HP.out; omega) _ _, by
              rw [Below.heap_setCell _ _ _ _ (by simp; omega)]
              exact P9⟩
          clear hr9 g9 hb9 B9 z1 z2 z3 z4 P9 hpp
          go_wp2
          have hgl := HG.out
          go_roundg (8 - (k + 1))
          all_goals first | omega | exact ⟨k + 1, a9, c9, _, by go_num, by omega, by omega, by omega, HNK⟩)
    · obtain ⟨hbox, hrow, hgw, hb0⟩ := HK.out
      have hend : gvK bl k = gvs bl := gvK_end bl k (by rw [HN.out]; omega)
      rw [hend] at hbox hrow
      have HR := hidI (And.intro hrow (And.intro hgw (And.intro hb0 hbox)))
      obtain ⟨e0, e1, e2⟩ := at3 hbox
      obtain ⟨t0, t1, t2⟩ := at3 hb0
      obtain ⟨f0, f1, f2⟩ := fz3 hb0
      clear hbox hrow hgw hb0 HK hend
      have hway : ¬ (k : Int) < (n : Int) ∨ ((k : Int) < (n : Int) ∧ ¬ (k : Int) < 8) := by omega
      clear hstop
      rcases hway with h1 | ⟨h1, h2⟩
      all_goals (
        go_wp2
        obtain ⟨hrow, hgw, hb0, hbox⟩ := HR.out
        refine bodyPost_ret (results24 (k := 4) rfl _ _ p _ _ _ rfl (box3 hb0)) rfl ?_
        rw [HDD.out]
        have hpp := HP.out
        have hpq := HPG.out
        refine ⟨a, c, ns, rfl, ?_, gr3n hgw (by omega)⟩
        rw [hpp]
        have g3 : wr.grownBy (((wr.setCell ⟨p, 0, none⟩ (.int .i64 6)).setCell ⟨p, 1, none⟩ (.int .i64 (D : Int))).setCell ⟨p, 2, none⟩ (.slice a (gvs bl).length c)) (some p) := gr_set (gr_set (gr_set (World.grownBy.refl _ _) _ _) _ _) _ _
        have hr1 : Row2 (p + 1) pg _ a c (gvs bl) ns := ⟨⟨hrow.row.len, own_but hrow.row.own g3 (by omega), fun i hi => by
          obtain ⟨h1, ua, uc, h2, h3, h4⟩ := hrow.row.each i hi
          exact ⟨h1, ua, uc, h2, own_but h3 g3 (by omega), h4⟩⟩, hrow.rowne, hrow.eachne, hrow.apart⟩
        exact ⟨⟨hr1.row.len, own_low hr1.row.own (by omega), fun i hi => by
          obtain ⟨h1, ua, uc, h2, h3, h4⟩ := hr1.row.each i hi
          exact ⟨h1, ua, uc, h2, own_low h3 (by omega), h4⟩⟩, fun x hx => by have := (World.ownsRow.lt hr1.row.own x hx).1; omega, fun i hi x hx => by have := (hr1.lt i hi x hx).1; omega, hr1.apart⟩)
end Go.Proofs.Ytefekafpmnaeoaa
