/- A step is done, or just its first bytes. -/
import Derived.Test.YtlbipcecdcmgdaaDoorLf
namespace Go.Proofs.YtlbipcecdcmgdaaDoor
open Go.RowKit
attribute [local go_sem ↓] Go.wp_at_zero Go.wp_at_succ
set_option linter.unusedVariables false
set_option linter.unusedSimpArgs false

/-- A slot of which the first m bytes are erased. -/
def erS (S : List Nat) (m : Nat) : List Nat := (List.range S.length).map fun i => if i < m then 255 else S.getD i 0
theorem erS_len (S : List Nat) (m : Nat) : (erS S m).length = S.length := by simp [erS]
theorem erS_get (S : List Nat) (m i : Nat) (h : i < S.length) : (erS S m).getD i 0 = if i < m then 255 else S.getD i 0 := by simp [erS, List.getD, h]
theorem erS_zero (S : List Nat) : erS S 0 = S := by
  apply List.ext_getElem
  · simp [erS]
  · intro i h1 h2
    simp [erS, List.getD, h2]
theorem erS_set (S : List Nat) (k : Nat) : (erS S k).set k 255 = erS S (k + 1) := by
  apply List.ext_getElem
  · simp [erS]
  · intro i h1 h2
    rw [List.getElem_set]
    simp only [erS, List.getElem_map, List.getElem_range]
    by_cases e : k = i
    · subst e; simp
    · rw [if_neg e]
      by_cases h : i < k
      · rw [if_pos h, if_pos (by omega)]
      · rw [if_neg h, if_neg (by omega)]
theorem erS_more (S : List Nat) (m : Nat) (h : S.length ≤ m) : erS S m = erS S S.length := by
  apply List.ext_getElem
  · simp [erS]
  · intro i h1 h2
    have hi : i < S.length := by simpa [erS] using h1
    simp [erS, hi, show i < m by omega]
theorem ran46 (W : World) (b : Nat) (cs : Array Value) (hs : cs.size = 2) (hg : W.heap[b]? = some (.cells cs 46)) : (((asAddr (.pointer (some ⟨b, 0, none⟩))).run Tryd.prog W).andThen fun a w' => (loadVar 46 a).run Tryd.prog w') = .ok (.agg cs) W := by
  have hi : (Tryd.prog.info? 46).map (·.size) = some 2 := by kernel_rfl
  have h := run_loadVar_row (P := Tryd.prog) W b 46 46 cs (0, 0) _ hg Tryd.underlying46 rfl (by rw [hs]; exact hi)
  simp [asAddr, h, Result.andThen]
/-- How far a step goes. -/
def upToN (pt : Int) (n : Nat) : Nat := if pt < 0 then n else min pt.toNat n
/-- The two slots behind a step that wrote one of them. -/
def put2 (sl : Nat) (a b x : Value) : Value := if sl = 0 then .agg #[x, b] else .agg #[a, x]
def DoneP (w w' : World) (e : Ending) (sl : Nat) (a b : Value) (T : List Nat) : Prop := ∃ x c, e = .returned (.tuple #[put2 sl a b (.slice x T.length c), .bool true]) ∧ OwnB w.heap.size w' x c T ∧ w.grownBy w' none

theorem results26 (tmps : Array Value) (W : World) (p : Nat) (x y : Value) (h6 : tmps.getD 6 undef = .pointer (some ⟨p, 0, none⟩)) (hg : W.heap[p]? = some (.cells #[x, y] 46)) :
    (results Tryd.f26 tmps).run Tryd.prog W = .ok (.tuple #[.agg #[x, y], tmps.getD 7 undef]) W := by
  have h := ran46 W p #[x, y] rfl hg
  have hr : Tryd.f26.results = #[.cell 6 46, .tmp 7] := rfl
  have hi : (Tryd.prog.info? 46).map (·.size) = some 2 := by kernel_rfl
  have hl := run_loadVar_row (P := Tryd.prog) W p 46 46 #[x, y] (0, 0) _ hg Tryd.underlying46 rfl hi
  have h6' : tmps[6]?.getD undef = .pointer (some ⟨p, 0, none⟩) := by simpa using h6
  simp [results, hr]
  rw [h6']
  simp [asAddr, hl, Result.andThen]
set_option maxRecDepth 10000 in
set_option maxHeartbeats 4000000 in
theorem done_erase (A B : List Nat) (a b : Value) (sl : Nat) (pt : Int) (w : World) (ha : rdB w a A) (hb : rdB w b B) (hsl : sl = 0 ∨ sl = 1) (la : A.length ≤ 100000) (lb : B.length ≤ 100000) (S : List Nat) (hS : S = if sl = 0 then A else B) :
    Calls Tryd.prog 26 #[.agg #[a, b], .agg #[.int .i64 (sl : Int), .bool true, .int .i64 0, .slice none 0 0], .int .i64 pt] w fun e w' => DoneP w w' e sl a b (erS S (upToN pt S.length)) := by
  obtain ⟨aa, ac, rfl, _, _⟩ := id ha
  obtain ⟨ba, bc, rfl, _, _⟩ := id hb
  have hgB : w.grownBy (((w.alloc (.cells #[.slice aa A.length ac, .slice ba B.length bc] 46)).alloc (.cells #[.int .i64 (sl : Int), .bool true, .int .i64 0, .slice none 0 0] 43)).alloc (.cells #[.slice none 0 0, .slice none 0 0] 46)) none := gr_alloc (gr_alloc (gr_alloc (World.grownBy.refl _ _) _) _) _
  have hsz : (((w.alloc (.cells #[.slice aa A.length ac, .slice ba B.length bc] 46)).alloc (.cells #[.int .i64 (sl : Int), .bool true, .int .i64 0, .slice none 0 0] 43)).alloc (.cells #[.slice none 0 0, .slice none 0 0] 46)).heap.size = w.heap.size + 3 := by simp
  have b0 : (((w.alloc (.cells #[.slice aa A.length ac, .slice ba B.length bc] 46)).alloc (.cells #[.int .i64 (sl : Int), .bool true, .int .i64 0, .slice none 0 0] 43)).alloc (.cells #[.slice none 0 0, .slice none 0 0] 46)).heap[w.heap.size]? = some (.cells #[.slice aa A.length ac, .slice ba B.length bc] 46) := by
    rw [hp_old (by simp; omega), hp_old (by simp)]; exact heap_alloc_new _ _
  have b1 : (((w.alloc (.cells #[.slice aa A.length ac, .slice ba B.length bc] 46)).alloc (.cells #[.int .i64 (sl : Int), .bool true, .int .i64 0, .slice none 0 0] 43)).alloc (.cells #[.slice none 0 0, .slice none 0 0] 46)).heap[w.heap.size + 1]? = some (.cells #[.int .i64 (sl : Int), .bool true, .int .i64 0, .slice none 0 0] 43) := by
    rw [hp_old (by simp)]; exact hp_new (by simp) _
  have b2 : (((w.alloc (.cells #[.slice aa A.length ac, .slice ba B.length bc] 46)).alloc (.cells #[.int .i64 (sl : Int), .bool true, .int .i64 0, .slice none 0 0] 43)).alloc (.cells #[.slice none 0 0, .slice none 0 0] 46)).heap[w.heap.size + 1 + 1]? = some (.cells #[.slice none 0 0, .slice none 0 0] 46) := hp_new (by simp) _
  have hB1 := hb
  rcases hsl with rfl | rfl
  · simp only [if_true] at hS
    subst hS
    obtain ⟨oa, oc, w1, hrun, hown, hg1⟩ := copyB (rdB_grown ha hgB) (by omega)
    have c0 := kept hg1 b0
    have c1 := kept hg1 b1
    have c2 := kept hg1 b2
    rw [hsz] at hown
    have hg01 := grown_join hgB hg1 (.inl rfl)
    have s1 := hg1.size
    rw [hsz] at s1
    have HRUN : Hid (_ = _) := hrun
    clear hrun b0 b1 b2 hgB hsz hg1
    have q0 : w1.cell? ⟨w.heap.size + 1, 0, none⟩ = some (.int .i64 0) := at_cell c1 0
    have q1 : w1.cell? ⟨w.heap.size + 1, 1, none⟩ = some (.bool true) := at_cell c1 1
    go_enter Tryd.func26, Tryd.ntmps26
    go_wp2_with (first | (at_builtin; refine hidG ?_))
    refine hidI ?_
    refine wpList_append_run rfl _ _ 23 rfl _ _ _ w1 rfl rfl HRUN.out ?_
    obtain ⟨n, hn⟩ : ∃ n, S.length = n := ⟨_, rfl⟩
    have HN : Hid (S.length = n) := hn
    have HOW : Hid (OwnB (w.heap.size + 3) w1 oa oc S) := hown
    have HC0 := hidI c0
    have HC1 := hidI c1
    have HC2 := hidI c2
    have HBL : Hid (∀ x, (Value.slice oa n oc).ownBlock = some x → w.heap.size + 3 ≤ x) := hidI (fun x hx => by rw [← hn] at hx; exact (World.ownsRow.lt hown x hx).1)
    have HSB := hidI hB1
    rw [hn] at la ⊢
    clear hown c0 c1 c2 hn hB1
    go_wp2_with fail
    go_loopg [9] n (fun gk s9 wx => ∃ k : Nat, s9 = .int .i64 k ∧ k ≤ n ∧ gk = n - k ∧ Hid (OwnB (w.heap.size + 3) wx oa oc (erS S (min k (upToN pt n)))) ∧ Hid (w1.grownBy wx (Value.slice oa n oc).ownBlock))
    case atStart => exact ⟨0, rfl, Nat.zero_le _, by omega, hidI (by rw [Nat.zero_min, erS_zero]; exact HOW.out), hidI (World.grownBy.refl _ _)⟩
    case round =>
      obtain ⟨k, rfl, hk, hgk, HO, HGR⟩ := hrel
      have HG : Hid (gk = n - k) := hgk
      clear hgk
      by_cases hlt : k < n
      · have j1 : (k : Int) < (n : Int) := by omega
        have j0 : (0 : Int) ≤ (k : Int) := by omega
        by_cases hin : k < upToN pt n
        · have hmin : min k (upToN pt n) = k := by omega
          have hmin2 : min (k + 1) (upToN pt n) = k + 1 := by omega
          have hO := HO.out
          rw [hmin] at hO
          obtain ⟨g, rfl, hcell, hfz⟩ : ∃ g, oa = some ⟨g, 0, none⟩ ∧ (∃ y, wr.cell? ⟨g, k, none⟩ = some y) ∧ wr.frozen? ⟨g, k, none⟩ = false := by
            obtain ⟨_, ⟨_, h0⟩ | ⟨g, cc, cur, e, _, hc, hnn, _, hss, _⟩⟩ := id hO
            · rw [erS_len, HN.out] at h0; omega
            · injection e with e1 e2 e3
              rw [erS_len, HN.out] at hnn
              exact ⟨g, e1, ⟨cur[k]'(by omega), by rw [at_cell hc]; exact Array.getElem?_eq_getElem _⟩, at_frozen hc k⟩
          obtain ⟨y, hcell⟩ := hcell
          have HNEW : Hid (OwnB (w.heap.size + 3) (wr.setCell ⟨g, k, none⟩ (.int .u8 255)) (some ⟨g, 0, none⟩) oc (erS S (min (k + 1) (upToN pt n)))) := hidI (by
            rw [hmin2, ← erS_set]
            exact hO.put k 255)
          have HGR2 : Hid (w1.grownBy (wr.setCell ⟨g, k, none⟩ (.int .u8 255)) (some g)) := hidI (gr_set HGR.out _ _)
          clear hO HO HGR hmin hmin2
          by_cases hpt : pt < 0
          · go_wp2
            have hgl := HG.out
            go_roundg (n - (k + 1))
            all_goals first | omega | exact ⟨k + 1, by go_num, by omega, by omega, HNEW, HGR2⟩
          · have hkp : (k : Int) < pt := by unfold upToN at hin; rw [if_neg hpt] at hin; omega
            go_wp2
            have hgl := HG.out
            go_roundg (n - (k + 1))
            all_goals first | omega | exact ⟨k + 1, by go_num, by omega, by omega, HNEW, HGR2⟩
        · have hmin : min (k + 1) (upToN pt n) = min k (upToN pt n) := by omega
          have HNEW : Hid (OwnB (w.heap.size + 3) wr oa oc (erS S (min (k + 1) (upToN pt n)))) := hidI (by rw [hmin]; exact HO.out)
          have hpt : ¬ pt < 0 := fun h => by unfold upToN at hin; rw [if_pos h] at hin; omega
          have hkp : ¬ (k : Int) < pt := by unfold upToN at hin; rw [if_neg hpt] at hin; omega
          clear hmin HO
          go_wp2
          have hgl := HG.out
          go_roundg (n - (k + 1))
          all_goals first | omega | exact ⟨k + 1, by go_num, by omega, by omega, HNEW, HGR⟩
      · have j1 : ¬ (k : Int) < (n : Int) := by omega
        have hmin : min k (upToN pt n) = upToN pt n := by unfold upToN; split <;> omega
        have hO := HO.out
        rw [hmin] at hO
        have hne : ∀ x, x < w.heap.size + 3 → (Value.slice oa n oc).ownBlock ≠ some x := fun x hx e => by have := HBL.out x e; omega
        have c0 := blk_ne HGR.out HC0.out (hne _ (by omega))
        have c1 := blk_ne HGR.out HC1.out (hne _ (by omega))
        have c2 := blk_ne HGR.out HC2.out (hne _ (by omega))
        have hg0r : w.grownBy wr none := grown_join hg01 HGR.out (.inr fun x hx => by have := HBL.out x hx; omega)
        have q0 : wr.cell? ⟨w.heap.size + 1, 0, none⟩ = some (.int .i64 0) := at_cell c1 0
        have p0 : wr.cell? ⟨w.heap.size, 0, none⟩ = some (.slice aa n ac) := by have := at_cell c0 0; rwa [HN.out] at this
        have p1 : wr.cell? ⟨w.heap.size, 1, none⟩ = some (.slice ba B.length bc) := at_cell c0 1
        have r0 : wr.cell? ⟨w.heap.size + 1 + 1, 0, none⟩ = some (.slice none 0 0) := at_cell c2 0
        have r1 : wr.cell? ⟨w.heap.size + 1 + 1, 1, none⟩ = some (.slice none 0 0) := at_cell c2 1
        have fz0 := at_frozen c0 0
        have fz2 := at_frozen c2 0
        have fz3 := at_frozen c2 1
        have HO2 := hidI hO
        have HC02 := hidI c0
        have HC22 := hidI c2
        clear hO HO HGR hmin c0 c1 c2 hne
        go_wp2
        have d2 := at_set (at_set ((Below.heap_setCell wr ⟨w.heap.size, 0, none⟩ (.slice oa n oc) (w.heap.size + 1 + 1) (by simp; omega)).trans HC22.out) 0 (.slice oa n oc)) 1 (.slice ba B.length bc)
        refine bodyPost_ret (results26 _ _ (w.heap.size + 1 + 1) (.slice oa n oc) (.slice ba B.length bc) rfl d2) rfl ?_
        refine ⟨oa, oc, by rw [erS_len, HN.out]; rfl, ?_, gr_own (gr_own (gr_own hg0r (Nat.le_refl _) _ _) (by omega) _ _) (by omega) _ _⟩
        rw [HN.out]
        exact own_low (own_but (own_but (own_but HO2.out (gr_set (World.grownBy.refl _ _) _ _) (by omega)) (gr_set (World.grownBy.refl _ _) _ _) (by omega)) (gr_set (World.grownBy.refl _ _) _ _) (by omega)) (by omega)
  · simp only [Nat.one_ne_zero, if_false] at hS
    subst hS
    obtain ⟨oa, oc, w1, hrun, hown, hg1⟩ := copyB (rdB_grown hb hgB) (by omega)
    have c0 := kept hg1 b0
    have c1 := kept hg1 b1
    have c2 := kept hg1 b2
    rw [hsz] at hown
    have hg01 := grown_join hgB hg1 (.inl rfl)
    have s1 := hg1.size
    rw [hsz] at s1
    have HRUN : Hid (_ = _) := hrun
    clear hrun b0 b1 b2 hgB hsz hg1
    have q0 : w1.cell? ⟨w.heap.size + 1, 0, none⟩ = some (.int .i64 1) := at_cell c1 0
    have q1 : w1.cell? ⟨w.heap.size + 1, 1, none⟩ = some (.bool true) := at_cell c1 1
    go_enter Tryd.func26, Tryd.ntmps26
    go_wp2_with (first | (at_builtin; refine hidG ?_))
    refine hidI ?_
    refine wpList_append_run rfl _ _ 23 rfl _ _ _ w1 rfl rfl HRUN.out ?_
    obtain ⟨n, hn⟩ : ∃ n, S.length = n := ⟨_, rfl⟩
    have HN : Hid (S.length = n) := hn
    have HOW : Hid (OwnB (w.heap.size + 3) w1 oa oc S) := hown
    have HC0 := hidI c0
    have HC1 := hidI c1
    have HC2 := hidI c2
    have HBL : Hid (∀ x, (Value.slice oa n oc).ownBlock = some x → w.heap.size + 3 ≤ x) := hidI (fun x hx => by rw [← hn] at hx; exact (World.ownsRow.lt hown x hx).1)
    have HSB := hidI hB1
    rw [hn] at lb ⊢
    clear hown c0 c1 c2 hn hB1
    go_wp2_with fail
    go_loopg [9] n (fun gk s9 wx => ∃ k : Nat, s9 = .int .i64 k ∧ k ≤ n ∧ gk = n - k ∧ Hid (OwnB (w.heap.size + 3) wx oa oc (erS S (min k (upToN pt n)))) ∧ Hid (w1.grownBy wx (Value.slice oa n oc).ownBlock))
    case atStart => exact ⟨0, rfl, Nat.zero_le _, by omega, hidI (by rw [Nat.zero_min, erS_zero]; exact HOW.out), hidI (World.grownBy.refl _ _)⟩
    case round =>
      obtain ⟨k, rfl, hk, hgk, HO, HGR⟩ := hrel
      have HG : Hid (gk = n - k) := hgk
      clear hgk
      by_cases hlt : k < n
      · have j1 : (k : Int) < (n : Int) := by omega
        have j0 : (0 : Int) ≤ (k : Int) := by omega
        by_cases hin : k < upToN pt n
        · have hmin : min k (upToN pt n) = k := by omega
          have hmin2 : min (k + 1) (upToN pt n) = k + 1 := by omega
          have hO := HO.out
          rw [hmin] at hO
          obtain ⟨g, rfl, hcell, hfz⟩ : ∃ g, oa = some ⟨g, 0, none⟩ ∧ (∃ y, wr.cell? ⟨g, k, none⟩ = some y) ∧ wr.frozen? ⟨g, k, none⟩ = false := by
            obtain ⟨_, ⟨_, h0⟩ | ⟨g, cc, cur, e, _, hc, hnn, _, hss, _⟩⟩ := id hO
            · rw [erS_len, HN.out] at h0; omega
            · injection e with e1 e2 e3
              rw [erS_len, HN.out] at hnn
              exact ⟨g, e1, ⟨cur[k]'(by omega), by rw [at_cell hc]; exact Array.getElem?_eq_getElem _⟩, at_frozen hc k⟩
          obtain ⟨y, hcell⟩ := hcell
          have HNEW : Hid (OwnB (w.heap.size + 3) (wr.setCell ⟨g, k, none⟩ (.int .u8 255)) (some ⟨g, 0, none⟩) oc (erS S (min (k + 1) (upToN pt n)))) := hidI (by
            rw [hmin2, ← erS_set]
            exact hO.put k 255)
          have HGR2 : Hid (w1.grownBy (wr.setCell ⟨g, k, none⟩ (.int .u8 255)) (some g)) := hidI (gr_set HGR.out _ _)
          clear hO HO HGR hmin hmin2
          by_cases hpt : pt < 0
          · go_wp2
            have hgl := HG.out
            go_roundg (n - (k + 1))
            all_goals first | omega | exact ⟨k + 1, by go_num, by omega, by omega, HNEW, HGR2⟩
          · have hkp : (k : Int) < pt := by unfold upToN at hin; rw [if_neg hpt] at hin; omega
            go_wp2
            have hgl := HG.out
            go_roundg (n - (k + 1))
            all_goals first | omega | exact ⟨k + 1, by go_num, by omega, by omega, HNEW, HGR2⟩
        · have hmin : min (k + 1) (upToN pt n) = min k (upToN pt n) := by omega
          have HNEW : Hid (OwnB (w.heap.size + 3) wr oa oc (erS S (min (k + 1) (upToN pt n)))) := hidI (by rw [hmin]; exact HO.out)
          have hpt : ¬ pt < 0 := fun h => by unfold upToN at hin; rw [if_pos h] at hin; omega
          have hkp : ¬ (k : Int) < pt := by unfold upToN at hin; rw [if_neg hpt] at hin; omega
          clear hmin HO
          go_wp2
          have hgl := HG.out
          go_roundg (n - (k + 1))
          all_goals first | omega | exact ⟨k + 1, by go_num, by omega, by omega, HNEW, HGR⟩
      · have j1 : ¬ (k : Int) < (n : Int) := by omega
        have hmin : min k (upToN pt n) = upToN pt n := by unfold upToN; split <;> omega
        have hO := HO.out
        rw [hmin] at hO
        have hne : ∀ x, x < w.heap.size + 3 → (Value.slice oa n oc).ownBlock ≠ some x := fun x hx e => by have := HBL.out x e; omega
        have c0 := blk_ne HGR.out HC0.out (hne _ (by omega))
        have c1 := blk_ne HGR.out HC1.out (hne _ (by omega))
        have c2 := blk_ne HGR.out HC2.out (hne _ (by omega))
        have hg0r : w.grownBy wr none := grown_join hg01 HGR.out (.inr fun x hx => by have := HBL.out x hx; omega)
        have q0 : wr.cell? ⟨w.heap.size + 1, 0, none⟩ = some (.int .i64 1) := at_cell c1 0
        have p0 : wr.cell? ⟨w.heap.size, 0, none⟩ = some (.slice aa A.length ac) := at_cell c0 0
        have p1 : wr.cell? ⟨w.heap.size, 1, none⟩ = some (.slice ba n bc) := by have := at_cell c0 1; rwa [HN.out] at this
        have r0 : wr.cell? ⟨w.heap.size + 1 + 1, 0, none⟩ = some (.slice none 0 0) := at_cell c2 0
        have r1 : wr.cell? ⟨w.heap.size + 1 + 1, 1, none⟩ = some (.slice none 0 0) := at_cell c2 1
        have fz0 := at_frozen c0 1
        have fz2 := at_frozen c2 0
        have fz3 := at_frozen c2 1
        have HO2 := hidI hO
        have HC02 := hidI c0
        have HC22 := hidI c2
        clear hO HO HGR hmin c0 c1 c2 hne
        go_wp2
        have d2 := at_set (at_set ((Below.heap_setCell wr ⟨w.heap.size, 1, none⟩ (.slice oa n oc) (w.heap.size + 1 + 1) (by simp; omega)).trans HC22.out) 0 (.slice aa A.length ac)) 1 (.slice oa n oc)
        refine bodyPost_ret (results26 _ _ (w.heap.size + 1 + 1) (.slice aa A.length ac) (.slice oa n oc) rfl d2) rfl ?_
        refine ⟨oa, oc, by rw [erS_len, HN.out]; rfl, ?_, gr_own (gr_own (gr_own hg0r (Nat.le_refl _) _ _) (by omega) _ _) (by omega) _ _⟩
        rw [HN.out]
        exact own_low (own_but (own_but (own_but HO2.out (gr_set (World.grownBy.refl _ _) _ _) (by omega)) (gr_set (World.grownBy.refl _ _) _ _) (by omega)) (gr_set (World.grownBy.refl _ _) _ _) (by omega)) (by omega)
end Go.Proofs.YtlbipcecdcmgdaaDoor
