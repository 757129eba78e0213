/- Words are kept, all steps done. -/
import Derived.Test.YtlbipcecdcmgdaaDoorPu
namespace Go.Proofs.YtlbipcecdcmgdaaDoor
open Go.RowKit
attribute [local go_sem ↓] Go.wp_at_zero Go.wp_at_succ
set_option linter.unusedVariables false
set_option linter.unusedSimpArgs false

theorem save_p (la lb : List Nat) (l : List Int) (u v x : Value) (w : World) (ba : isB la) (bb : isB lb) (hu : rdB w u la) (hv : rdB w v lb) (hx : rd w x l) (ma : la.length ≤ maxLen) (mb : lb.length ≤ maxLen) (ml : l.length ≤ 17592186044416) (hB : Beg w) :
    Calls Tryd.prog 20 #[u, v, x] w fun e w' => SvP w w' e (lookE l ((nextS la lb).2 : Int)) (nextS la lb).1 (bodyS l) (headS l (nextS la lb).2) := save_any la lb l u v x w ba bb hu hv hx ma mb ml hB
def stS (S BD HD : List Nat) : Nat → List Nat
  | 0 => S
  | 1 => erS S S.length
  | 2 => bodyW S BD BD.length
  | _ => headW S BD HD HD.length
theorem next_le (A B : List Nat) : (nextS A B).1 = 0 ∨ (nextS A B).1 = 1 := by
  have := newS_slot A B
  unfold nextS
  split
  · dsimp only; omega
  · left; rfl
theorem results24 (tmps : Array Value) (W : World) (p : Nat) (x y : Value) (h6 : tmps.getD 4 undef = .pointer (some ⟨p, 0, none⟩)) (hg : W.heap[p]? = some (.cells #[x, y] 46)) :
    (results Tryd.f24 tmps).run Tryd.prog W = .ok (.tuple #[.agg #[x, y], tmps.getD 5 undef]) W := by
  have hr : Tryd.f24.results = #[.cell 4 46, .tmp 5] := rfl
  have hi : (Tryd.prog.info? 46).map (·.size) = some 2 := by kernel_rfl
  have hl := run_loadVar_row (P := Tryd.prog) W p 46 46 #[x, y] (0, 0) _ hg Tryd.underlying46 rfl hi
  have h6' : tmps[4]?.getD undef = .pointer (some ⟨p, 0, none⟩) := by simpa using h6
  simp [results, hr]
  rw [h6']
  simp [asAddr, hl, Result.andThen]
set_option maxRecDepth 10000 in
set_option maxHeartbeats 4000000 in
theorem saved_any (A B : List Nat) (l : List Int) (a b u : Value) (w : World) (ba : isB A) (bb : isB B) (ha : rdB w a A) (hb : rdB w b B) (hu : rd w u l) (la : A.length ≤ 50000) (lb : B.length ≤ 50000) (hlook : lookE l ((nextS A B).2 : Int) = 0) (hB : Beg w) :
    Calls Tryd.prog 24 #[.agg #[a, b], u] w fun e w' => DoneP w w' e (nextS A B).1 a b (headW (if (nextS A B).1 = 0 then A else B) (bodyS l) (headS l (nextS A B).2) (headS l (nextS A B).2).length) := by
  have hl2 := (look_ok hlook).1
  have hsl := next_le A B
  have hbd := bodyS_len l
  have hhd := headS_len l (nextS A B).2
  obtain ⟨aa, ac, rfl, _, _⟩ := id ha
  obtain ⟨ca, cc, rfl, _, _⟩ := id hb
  have hgB : w.grownBy ((w.alloc (.cells #[.slice aa A.length ac, .slice ca B.length cc] 46)).alloc (.cells #[.slice none 0 0, .slice none 0 0] 46)) none := gr_alloc (gr_alloc (World.grownBy.refl _ _) _) _
  have b0 : ((w.alloc (.cells #[.slice aa A.length ac, .slice ca B.length cc] 46)).alloc (.cells #[.slice none 0 0, .slice none 0 0] 46)).heap[w.heap.size]? = some (.cells #[.slice aa A.length ac, .slice ca B.length cc] 46) := by
    rw [hp_old (by simp)]; exact heap_alloc_new _ _
  have b1 : ((w.alloc (.cells #[.slice aa A.length ac, .slice ca B.length cc] 46)).alloc (.cells #[.slice none 0 0, .slice none 0 0] 46)).heap[w.heap.size + 1]? = some (.cells #[.slice none 0 0, .slice none 0 0] 46) := hp_new (by simp) _
  have hsz : ((w.alloc (.cells #[.slice aa A.length ac, .slice ca B.length cc] 46)).alloc (.cells #[.slice none 0 0, .slice none 0 0] 46)).heap.size = w.heap.size + 2 := by simp
  have cS := save_p A B l _ _ u _ ba bb (rdB_grown ha hgB) (rdB_grown hb hgB) (rd_grown hu hgB) (by unfold maxLen; omega) (by unfold maxLen; omega) (by omega) (hB.grown hgB)
  rw [hlook] at cS
  have bBD := bodyS_B l
  have bHD := headS_B l (nextS A B).2
  generalize headS l (nextS A B).2 = HD at *
  generalize bodyS l = BD at *
  generalize (nextS A B).1 = sl at *
  have HH : Hid (HD.length = 16 ∧ BD.length ≤ 9000 ∧ 0 < BD.length) := hidI ⟨hhd, by omega, by omega⟩
  clear hhd hbd hlook
  go_enter Tryd.func24, Tryd.ntmps24
  go_wp2_with fail
  generalize (w.alloc (.cells #[.slice aa A.length ac, .slice ca B.length cc] 46)).alloc (.cells #[.slice none 0 0, .slice none 0 0] 46) = W0 at *
  refine cS.mono ?_
  rintro e w1 ⟨hg1, ⟨hbad, _⟩ | ⟨_, g, va, vc, va', vc', B1, rfl, hV⟩⟩
  · exact absurd rfl hbad
  have hrow := hV.row
  have x0 := kept hg1 b0
  have x1 := kept hg1 b1
  have hg01 := grown_join hgB hg1 (.inl rfl)
  have hs1 := hg1.size
  have hgl := at_lt hrow
  have hgB1 := hV.glt
  have hgB2 := hV.base
  clear b0 b1 cS
  rcases hsl with rfl | rfl
  · simp only [if_true]
    have hstep : ∀ (W : World), SvOk W0 W g 0 BD HD va vc va' vc' B1 → ∀ k, k < 3 → ∃ (er : Bool) (at_ : Nat) (da : Option Addr) (dn dc : Nat), W.cell? ⟨g, k * 4, none⟩ = some (.int .i64 0) ∧ W.cell? ⟨g, k * 4 + 1, none⟩ = some (.bool er) ∧ W.cell? ⟨g, k * 4 + 2, none⟩ = some (.int .i64 (at_ : Int)) ∧ W.cell? ⟨g, k * 4 + 3, none⟩ = some (.slice da dn dc) ∧
        ∀ X, rdB W X (stS A BD HD k) → w.grownBy W none → Calls Tryd.prog 26 #[.agg #[X, .slice ca B.length cc], .agg #[.int .i64 0, .bool er, .int .i64 (at_ : Int), .slice da dn dc], .int .i64 (-1)] W.drew fun e w' => DoneP W.drew w' e 0 X (.slice ca B.length cc) (stS A BD HD (k + 1)) := fun W hW k hk => by
      have hrow := hW.row
      have h3 : k = 0 ∨ k = 1 ∨ k = 2 := by omega
      have hH := HH.out
      rcases h3 with rfl | rfl | rfl
      · refine ⟨true, 0, none, 0, 0, at_cell hrow _, at_cell hrow _, at_cell hrow _, at_cell hrow _, fun X hX hg => ?_⟩
        have := done_erase (stS A BD HD 0) B _ _ 0 (-1) W.drew (rdB_grown hX (gr_drew (World.grownBy.refl _ _))) (rdB_grown hb (gr_drew hg)) (by omega) (by first | omega | (simp only [stS]; omega)) (by first | omega | (simp only [stS]; omega)) (stS A BD HD 0) (if_pos rfl).symm
        rw [upTo_neg] at this
        simp only [stS] at this ⊢
        exact this
      · refine ⟨false, 16, va', BD.length, vc', at_cell hrow _, at_cell hrow _, at_cell hrow _, at_cell hrow _, fun X hX hg => ?_⟩
        have := done_write (stS A BD HD 1) B BD _ _ _ 0 16 (-1) W.drew (rdB_grown hX (gr_drew (World.grownBy.refl _ _))) (rdB_grown hb (gr_drew hg)) (rdB_grown hW.obd.rd (gr_drew (World.grownBy.refl _ _))) (by omega) (by first | omega | (simp only [stS, erS_len]; omega)) (by first | omega | (simp only [stS, erS_len]; omega)) (by omega) (stS A BD HD 1) (if_pos rfl).symm (by simp only [stS]; exact bodyW_free A BD _)
        rw [upTo_neg] at this
        simp only [stS] at this ⊢
        exact this
      · refine ⟨false, 0, va, HD.length, vc, at_cell hrow _, at_cell hrow _, at_cell hrow _, at_cell hrow _, fun X hX hg => ?_⟩
        have hbl := bodyW_len A BD hH.2.2
        have := done_write (stS A BD HD 2) B HD _ _ _ 0 0 (-1) W.drew (rdB_grown hX (gr_drew (World.grownBy.refl _ _))) (rdB_grown hb (gr_drew hg)) (rdB_grown hW.ohd.rd (gr_drew (World.grownBy.refl _ _))) (by omega) (by first | omega | (simp only [stS]; omega)) (by first | omega | (simp only [stS]; omega)) (by omega) (stS A BD HD 2) (if_pos rfl).symm (by rw [upTo_neg]; simp only [stS]; exact headW_free A BD HD _ (by omega))
        rw [upTo_neg] at this
        simp only [stS, headW] at this ⊢
        exact this
    have HST := hidI hstep
    have HSV := hidI hV
    have HX0 := hidI x0
    have HX1 := hidI x1
    clear hstep hV hrow x0 x1
    go_wp2_with fail
    go_loopg [8, 9] 3 (fun gk s8 s9 wx => ∃ (k : Nat), s9 = .int .i64 k ∧ s8 = .bool true ∧ k ≤ 3 ∧ gk = 3 - k ∧ Hid (∃ (X : Value), wx.heap[w.heap.size]? = some (.cells #[X, .slice ca B.length cc] 46) ∧ rdB wx X (stS A BD HD k) ∧ (0 < k → ∃ xa xc, X = .slice xa (stS A BD HD k).length xc ∧ OwnB (w.heap.size + 2) wx xa xc (stS A BD HD k))) ∧ Hid (SvOk W0 wx g 0 BD HD va vc va' vc' B1 ∧ wx.heap[w.heap.size + 1]? = some (.cells #[.slice none 0 0, .slice none 0 0] 46) ∧ w.grownBy wx none ∧ w1.heap.size ≤ wx.heap.size))
    case atStart => exact ⟨0, rfl, rfl, by omega, by omega, hidI ⟨_, HX0.out, rdB_grown ha hg01, fun h => absurd h (by omega)⟩, hidI ⟨HSV.out, HX1.out, hg01, Nat.le_refl _⟩⟩
    case round =>
      obtain ⟨k, rfl, rfl, hk, hgk, HXB, HK⟩ := hrel
      have HG : Hid (gk = 3 - k) := hgk
      clear hgk
      obtain ⟨X, hbox, hX, hXo⟩ := HXB.out
      obtain ⟨hSv, hres, hgr, hszr⟩ := HK.out
      by_cases hlt : k < 3
      · obtain ⟨er, at_, da, dn, dc, q0, q1, q2, q3, cK⟩ := HST.out wr hSv k hlt
        have cX := cK X hX hgr
        obtain ⟨xa0, xc0, rfl, _, _⟩ := hX
        have y0 : wr.cell? ⟨w.heap.size, 0, none⟩ = some (.slice xa0 (stS A BD HD k).length xc0) := at_cell hbox 0
        have y1 : wr.cell? ⟨w.heap.size, 1, none⟩ = some (.slice ca B.length cc) := at_cell hbox 1
        have j0 : (0 : Int) ≤ (k : Int) := by omega
        have j1 : (k : Int) < 3 := by omega
        have gd := fun (W : World) => gr_drew (World.grownBy.refl W none)
        have HBOX := hidI hbox
        have HRES := hidI hres
        have HSVK := hidI hSv
        obtain ⟨T', hT'⟩ : ∃ T', stS A BD HD (k + 1) = T' := ⟨_, rfl⟩
        have HT' : Hid (stS A BD HD (k + 1) = T') := hT'
        rw [hT'] at cX
        clear hT'
        clear cK hXo HXB HK hbox hres hSv
        go_wp2_with fail
        go_region_with (go_at_call 26; refine cX.mono ?_; rintro e w2 ⟨xa, xc, rfl, ho2, hg2⟩; simp only [put2, if_true]; have hg2' : wr.grownBy w2 none := grown_join (gd wr) hg2 (.inl rfl); have bx2 := kept hg2' HBOX.out; have f0 := at_frozen bx2 0; have f1 := at_frozen bx2 1; have z0 : w2.cell? ⟨w.heap.size, 0, none⟩ = some (.slice xa0 (stS A BD HD k).length xc0) := at_cell bx2 0; have z1 : w2.cell? ⟨w.heap.size, 1, none⟩ = some (.slice ca B.length cc) := at_cell bx2 1)
        all_goals (
          have gS : w2.grownBy ((w2.setCell ⟨w.heap.size, 0, none⟩ (.slice xa T'.length xc)).setCell ⟨w.heap.size, 1, none⟩ (.slice ca B.length cc)) (some w.heap.size) := gr_set (gr_set (World.grownBy.refl _ _) _ _) _ _
          have hsz2 := hg2'.size
          have hszw := hgr.size
          have oT : OwnB (w.heap.size + 2) ((w2.setCell ⟨w.heap.size, 0, none⟩ (.slice xa T'.length xc)).setCell ⟨w.heap.size, 1, none⟩ (.slice ca B.length cc)) xa xc T' := own_low (own_but ho2 gS (by show w.heap.size < wr.heap.size; omega)) (show w.heap.size + 2 ≤ wr.heap.size by omega)
          have NEW1 : Hid (∃ (X : Value), ((w2.setCell ⟨w.heap.size, 0, none⟩ (.slice xa T'.length xc)).setCell ⟨w.heap.size, 1, none⟩ (.slice ca B.length cc)).heap[w.heap.size]? = some (.cells #[X, .slice ca B.length cc] 46) ∧ rdB ((w2.setCell ⟨w.heap.size, 0, none⟩ (.slice xa T'.length xc)).setCell ⟨w.heap.size, 1, none⟩ (.slice ca B.length cc)) X (stS A BD HD (k + 1)) ∧ (0 < k + 1 → ∃ xe xf, X = .slice xe (stS A BD HD (k + 1)).length xf ∧ OwnB (w.heap.size + 2) ((w2.setCell ⟨w.heap.size, 0, none⟩ (.slice xa T'.length xc)).setCell ⟨w.heap.size, 1, none⟩ (.slice ca B.length cc)) xe xf (stS A BD HD (k + 1)))) := hidI (by
            rw [HT'.out]
            exact ⟨.slice xa T'.length xc, at_set (at_set bx2 0 _) 1 _, oT.rd, fun _ => ⟨xa, xc, rfl, oT⟩⟩)
          have NEW2 : Hid (SvOk W0 ((w2.setCell ⟨w.heap.size, 0, none⟩ (.slice xa T'.length xc)).setCell ⟨w.heap.size, 1, none⟩ (.slice ca B.length cc)) g 0 BD HD va vc va' vc' B1 ∧ ((w2.setCell ⟨w.heap.size, 0, none⟩ (.slice xa T'.length xc)).setCell ⟨w.heap.size, 1, none⟩ (.slice ca B.length cc)).heap[w.heap.size + 1]? = some (.cells #[.slice none 0 0, .slice none 0 0] 46) ∧ w.grownBy ((w2.setCell ⟨w.heap.size, 0, none⟩ (.slice xa T'.length xc)).setCell ⟨w.heap.size, 1, none⟩ (.slice ca B.length cc)) none ∧ w1.heap.size ≤ ((w2.setCell ⟨w.heap.size, 0, none⟩ (.slice xa T'.length xc)).setCell ⟨w.heap.size, 1, none⟩ (.slice ca B.length cc)).heap.size) := hidI ⟨(HSVK.out.step hg2' (by simp)).step gS (fun x hx => by injection hx with hx; omega), blk_ne gS (kept hg2' HRES.out) (by simp), gr_own (gr_own (grown_join hgr hg2' (.inl rfl)) (Nat.le_refl _) _ _) (Nat.le_refl _) _ _, by simp; omega⟩
          clear oT gS
          go_wp2
          have hgl := HG.out
          go_roundg (3 - (k + 1))
          all_goals first | omega | exact ⟨k + 1, by go_num, rfl, by omega, by omega, NEW1, NEW2⟩)
      · have hk3 : k = 3 := by omega
        subst hk3
        obtain ⟨xa, xc, rfl, hown⟩ := hXo (by omega)
        have y0 : wr.cell? ⟨w.heap.size, 0, none⟩ = some (.slice xa (stS A BD HD 3).length xc) := at_cell hbox 0
        have y1 : wr.cell? ⟨w.heap.size, 1, none⟩ = some (.slice ca B.length cc) := at_cell hbox 1
        have r0 : wr.cell? ⟨w.heap.size + 1, 0, none⟩ = some (.slice none 0 0) := at_cell hres 0
        have r1 : wr.cell? ⟨w.heap.size + 1, 1, none⟩ = some (.slice none 0 0) := at_cell hres 1
        have f0 := at_frozen hres 0
        have f1 := at_frozen hres 1
        have HRES := hidI hres
        have HOW := hidI (own_low hown (show w.heap.size ≤ w.heap.size + 2 by omega))
        have HOL : Hid (∀ x, (Value.slice xa (stS A BD HD 3).length xc).ownBlock = some x → w.heap.size + 2 ≤ x) := hidI (fun x hx => (World.ownsRow.lt hown x hx).1)
        clear hbox hres hown hX hXo HXB HK hSv
        go_wp2_with fail
        have d2 := at_set (at_set HRES.out 0 (.slice xa (stS A BD HD 3).length xc)) 1 (.slice ca B.length cc)
        refine bodyPost_ret (results24 _ _ (w.heap.size + 1) (.slice xa (stS A BD HD 3).length xc) (.slice ca B.length cc) rfl d2) rfl ?_
        have hszw := hgr.size
        exact ⟨xa, xc, rfl, own_ne (own_ne HOW.out (gr_set (World.grownBy.refl _ _) 0 (.slice xa (stS A BD HD 3).length xc)) (fun x hx e => by have := HOL.out x hx; injection e with e; omega)) (gr_set (World.grownBy.refl _ _) 1 (.slice ca B.length cc)) (fun x hx e => by have := HOL.out x hx; injection e with e; omega), gr_own (gr_own hgr (by omega) _ _) (by omega) _ _⟩
  · simp only [Nat.one_ne_zero, if_false]
    have hstep : ∀ (W : World), SvOk W0 W g 1 BD HD va vc va' vc' B1 → ∀ k, k < 3 → ∃ (er : Bool) (at_ : Nat) (da : Option Addr) (dn dc : Nat), W.cell? ⟨g, k * 4, none⟩ = some (.int .i64 1) ∧ W.cell? ⟨g, k * 4 + 1, none⟩ = some (.bool er) ∧ W.cell? ⟨g, k * 4 + 2, none⟩ = some (.int .i64 (at_ : Int)) ∧ W.cell? ⟨g, k * 4 + 3, none⟩ = some (.slice da dn dc) ∧
        ∀ X, rdB W X (stS B BD HD k) → w.grownBy W none → Calls Tryd.prog 26 #[.agg #[.slice aa A.length ac, X], .agg #[.int .i64 1, .bool er, .int .i64 (at_ : Int), .slice da dn dc], .int .i64 (-1)] W.drew fun e w' => DoneP W.drew w' e 1 (.slice aa A.length ac) X (stS B BD HD (k + 1)) := fun W hW k hk => by
      have hrow := hW.row
      have h3 : k = 0 ∨ k = 1 ∨ k = 2 := by omega
      have hH := HH.out
      rcases h3 with rfl | rfl | rfl
      · refine ⟨true, 0, none, 0, 0, at_cell hrow _, at_cell hrow _, at_cell hrow _, at_cell hrow _, fun X hX hg => ?_⟩
        have := done_erase A (stS B BD HD 0) _ _ 1 (-1) W.drew (rdB_grown ha (gr_drew hg)) (rdB_grown hX (gr_drew (World.grownBy.refl _ _))) (by omega) (by first | omega | (simp only [stS]; omega)) (by first | omega | (simp only [stS]; omega)) (stS B BD HD 0) (if_neg (by omega)).symm
        rw [upTo_neg] at this
        simp only [stS] at this ⊢
        exact this
      · refine ⟨false, 16, va', BD.length, vc', at_cell hrow _, at_cell hrow _, at_cell hrow _, at_cell hrow _, fun X hX hg => ?_⟩
        have := done_write A (stS B BD HD 1) BD _ _ _ 1 16 (-1) W.drew (rdB_grown ha (gr_drew hg)) (rdB_grown hX (gr_drew (World.grownBy.refl _ _))) (rdB_grown hW.obd.rd (gr_drew (World.grownBy.refl _ _))) (by omega) (by first | omega | (simp only [stS, erS_len]; omega)) (by first | omega | (simp only [stS, erS_len]; omega)) (by omega) (stS B BD HD 1) (if_neg (by omega)).symm (by simp only [stS]; exact bodyW_free B BD _)
        rw [upTo_neg] at this
        simp only [stS] at this ⊢
        exact this
      · refine ⟨false, 0, va, HD.length, vc, at_cell hrow _, at_cell hrow _, at_cell hrow _, at_cell hrow _, fun X hX hg => ?_⟩
        have hbl := bodyW_len B BD hH.2.2
        have := done_write A (stS B BD HD 2) HD _ _ _ 1 0 (-1) W.drew (rdB_grown ha (gr_drew hg)) (rdB_grown hX (gr_drew (World.grownBy.refl _ _))) (rdB_grown hW.ohd.rd (gr_drew (World.grownBy.refl _ _))) (by omega) (by first | omega | (simp only [stS]; omega)) (by first | omega | (simp only [stS]; omega)) (by omega) (stS B BD HD 2) (if_neg (by omega)).symm (by rw [upTo_neg]; simp only [stS]; exact headW_free B BD HD _ (by omega))
        rw [upTo_neg] at this
        simp only [stS, headW] at this ⊢
        exact this
    have HST := hidI hstep
    have HSV := hidI hV
    have HX0 := hidI x0
    have HX1 := hidI x1
    clear hstep hV hrow x0 x1
    go_wp2_with fail
    go_loopg [8, 9] 3 (fun gk s8 s9 wx => ∃ (k : Nat), s9 = .int .i64 k ∧ s8 = .bool true ∧ k ≤ 3 ∧ gk = 3 - k ∧ Hid (∃ (X : Value), wx.heap[w.heap.size]? = some (.cells #[.slice aa A.length ac, X] 46) ∧ rdB wx X (stS B BD HD k) ∧ (0 < k → ∃ xa xc, X = .slice xa (stS B BD HD k).length xc ∧ OwnB (w.heap.size + 2) wx xa xc (stS B BD HD k))) ∧ Hid (SvOk W0 wx g 1 BD HD va vc va' vc' B1 ∧ wx.heap[w.heap.size + 1]? = some (.cells #[.slice none 0 0, .slice none 0 0] 46) ∧ w.grownBy wx none ∧ w1.heap.size ≤ wx.heap.size))
    case atStart => exact ⟨0, rfl, rfl, by omega, by omega, hidI ⟨_, HX0.out, rdB_grown hb hg01, fun h => absurd h (by omega)⟩, hidI ⟨HSV.out, HX1.out, hg01, Nat.le_refl _⟩⟩
    case round =>
      obtain ⟨k, rfl, rfl, hk, hgk, HXB, HK⟩ := hrel
      have HG : Hid (gk = 3 - k) := hgk
      clear hgk
      obtain ⟨X, hbox, hX, hXo⟩ := HXB.out
      obtain ⟨hSv, hres, hgr, hszr⟩ := HK.out
      by_cases hlt : k < 3
      · obtain ⟨er, at_, da, dn, dc, q0, q1, q2, q3, cK⟩ := HST.out wr hSv k hlt
        have cX := cK X hX hgr
        obtain ⟨xa0, xc0, rfl, _, _⟩ := hX
        have y0 : wr.cell? ⟨w.heap.size, 0, none⟩ = some (.slice aa A.length ac) := at_cell hbox 0
        have y1 : wr.cell? ⟨w.heap.size, 1, none⟩ = some (.slice xa0 (stS B BD HD k).length xc0) := at_cell hbox 1
        have j0 : (0 : Int) ≤ (k : Int) := by omega
        have j1 : (k : Int) < 3 := by omega
        have gd := fun (W : World) => gr_drew (World.grownBy.refl W none)
        have HBOX := hidI hbox
        have HRES := hidI hres
        have HSVK := hidI hSv
        obtain ⟨T', hT'⟩ : ∃ T', stS B BD HD (k + 1) = T' := ⟨_, rfl⟩
        have HT' : Hid (stS B BD HD (k + 1) = T') := hT'
        rw [hT'] at cX
        clear hT'
        clear cK hXo HXB HK hbox hres hSv
        go_wp2_with fail
        go_region_with (go_at_call 26; refine cX.mono ?_; rintro e w2 ⟨xa, xc, rfl, ho2, hg2⟩; simp only [put2, Nat.one_ne_zero, if_false]; have hg2' : wr.grownBy w2 none := grown_join (gd wr) hg2 (.inl rfl); have bx2 := kept hg2' HBOX.out; have f0 := at_frozen bx2 0; have f1 := at_frozen bx2 1; have z0 : w2.cell? ⟨w.heap.size, 0, none⟩ = some (.slice aa A.length ac) := at_cell bx2 0; have z1 : w2.cell? ⟨w.heap.size, 1, none⟩ = some (.slice xa0 (stS B BD HD k).length xc0) := at_cell bx2 1)
        all_goals (
          have gS : w2.grownBy ((w2.setCell ⟨w.heap.size, 0, none⟩ (.slice aa A.length ac)).setCell ⟨w.heap.size, 1, none⟩ (.slice xa T'.length xc)) (some w.heap.size) := gr_set (gr_set (World.grownBy.refl _ _) _ _) _ _
          have hsz2 := hg2'.size
          have hszw := hgr.size
          have oT : OwnB (w.heap.size + 2) ((w2.setCell ⟨w.heap.size, 0, none⟩ (.slice aa A.length ac)).setCell ⟨w.heap.size, 1, none⟩ (.slice xa T'.length xc)) xa xc T' := own_low (own_but ho2 gS (by show w.heap.size < wr.heap.size; omega)) (show w.heap.size + 2 ≤ wr.heap.size by omega)
          have NEW1 : Hid (∃ (X : Value), ((w2.setCell ⟨w.heap.size, 0, none⟩ (.slice aa A.length ac)).setCell ⟨w.heap.size, 1, none⟩ (.slice xa T'.length xc)).heap[w.heap.size]? = some (.cells #[.slice aa A.length ac, X] 46) ∧ rdB ((w2.setCell ⟨w.heap.size, 0, none⟩ (.slice aa A.length ac)).setCell ⟨w.heap.size, 1, none⟩ (.slice xa T'.length xc)) X (stS B BD HD (k + 1)) ∧ (0 < k + 1 → ∃ xe xf, X = .slice xe (stS B BD HD (k + 1)).length xf ∧ OwnB (w.heap.size + 2) ((w2.setCell ⟨w.heap.size, 0, none⟩ (.slice aa A.length ac)).setCell ⟨w.heap.size, 1, none⟩ (.slice xa T'.length xc)) xe xf (stS B BD HD (k + 1)))) := hidI (by
            rw [HT'.out]
            exact ⟨.slice xa T'.length xc, at_set (at_set bx2 0 _) 1 _, oT.rd, fun _ => ⟨xa, xc, rfl, oT⟩⟩)
          have NEW2 : Hid (SvOk W0 ((w2.setCell ⟨w.heap.size, 0, none⟩ (.slice aa A.length ac)).setCell ⟨w.heap.size, 1, none⟩ (.slice xa T'.length xc)) g 1 BD HD va vc va' vc' B1 ∧ ((w2.setCell ⟨w.heap.size, 0, none⟩ (.slice aa A.length ac)).setCell ⟨w.heap.size, 1, none⟩ (.slice xa T'.length xc)).heap[w.heap.size + 1]? = some (.cells #[.slice none 0 0, .slice none 0 0] 46) ∧ w.grownBy ((w2.setCell ⟨w.heap.size, 0, none⟩ (.slice aa A.length ac)).setCell ⟨w.heap.size, 1, none⟩ (.slice xa T'.length xc)) none ∧ w1.heap.size ≤ ((w2.setCell ⟨w.heap.size, 0, none⟩ (.slice aa A.length ac)).setCell ⟨w.heap.size, 1, none⟩ (.slice xa T'.length xc)).heap.size) := hidI ⟨(HSVK.out.step hg2' (by simp)).step gS (fun x hx => by injection hx with hx; omega), blk_ne gS (kept hg2' HRES.out) (by simp), gr_own (gr_own (grown_join hgr hg2' (.inl rfl)) (Nat.le_refl _) _ _) (Nat.le_refl _) _ _, by simp; omega⟩
          clear oT gS
          go_wp2
          have hgl := HG.out
          go_roundg (3 - (k + 1))
          all_goals first | omega | exact ⟨k + 1, by go_num, rfl, by omega, by omega, NEW1, NEW2⟩)
      · have hk3 : k = 3 := by omega
        subst hk3
        obtain ⟨xa, xc, rfl, hown⟩ := hXo (by omega)
        have y0 : wr.cell? ⟨w.heap.size, 0, none⟩ = some (.slice aa A.length ac) := at_cell hbox 0
        have y1 : wr.cell? ⟨w.heap.size, 1, none⟩ = some (.slice xa (stS B BD HD 3).length xc) := at_cell hbox 1
        have r0 : wr.cell? ⟨w.heap.size + 1, 0, none⟩ = some (.slice none 0 0) := at_cell hres 0
        have r1 : wr.cell? ⟨w.heap.size + 1, 1, none⟩ = some (.slice none 0 0) := at_cell hres 1
        have f0 := at_frozen hres 0
        have f1 := at_frozen hres 1
        have HRES := hidI hres
        have HOW := hidI (own_low hown (show w.heap.size ≤ w.heap.size + 2 by omega))
        have HOL : Hid (∀ x, (Value.slice xa (stS B BD HD 3).length xc).ownBlock = some x → w.heap.size + 2 ≤ x) := hidI (fun x hx => (World.ownsRow.lt hown x hx).1)
        clear hbox hres hown hX hXo HXB HK hSv
        go_wp2_with fail
        have d2 := at_set (at_set HRES.out 0 (.slice aa A.length ac)) 1 (.slice xa (stS B BD HD 3).length xc)
        refine bodyPost_ret (results24 _ _ (w.heap.size + 1) (.slice aa A.length ac) (.slice xa (stS B BD HD 3).length xc) rfl d2) rfl ?_
        have hszw := hgr.size
        exact ⟨xa, xc, rfl, own_ne (own_ne HOW.out (gr_set (World.grownBy.refl _ _) 0 (.slice aa A.length ac)) (fun x hx e => by have := HOL.out x hx; injection e with e; omega)) (gr_set (World.grownBy.refl _ _) 1 (.slice xa (stS B BD HD 3).length xc)) (fun x hx e => by have := HOL.out x hx; injection e with e; omega), gr_own (gr_own hgr (by omega) _ _) (by omega) _ _⟩
end Go.Proofs.YtlbipcecdcmgdaaDoor
