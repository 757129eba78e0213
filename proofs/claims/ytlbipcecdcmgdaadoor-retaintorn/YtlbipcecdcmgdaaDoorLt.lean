/- The law of a torn save. -/
import Derived.Test.YtlbipcecdcmgdaaDoorTz
import Derived.Test.YtlbipcecdcmgdaaDoorLf
namespace Go.Proofs.YtlbipcecdcmgdaaDoor
open Go.RowKit
attribute [local go_sem ↓] Go.wp_at_zero Go.wp_at_succ
set_option linter.unusedVariables false
set_option linter.unusedSimpArgs false
def aJ (sl : Nat) (A BD HD : List Nat) (j : Nat) : List Nat := if sl = 0 then stS A BD HD j else A
def bJ (sl : Nat) (B BD HD : List Nat) (j : Nat) : List Nat := if sl = 0 then B else stS B BD HD j
theorem aJ_zero (sl : Nat) (A BD HD : List Nat) : aJ sl A BD HD 0 = A := by unfold aJ; split <;> rfl
theorem bJ_zero (sl : Nat) (A BD HD : List Nat) : bJ sl A BD HD 0 = A := by unfold bJ; split <;> rfl
theorem torn_next {A B : List Nat} {l : List Int} (hF : Fine A B) (hl : l.length ≤ 201) (n sl j : Nat) (hj : j < 3) {A' B' : List Nat}
    (h1 : A' = (if sl = 0 then tornS A (bodyS l) (headS l n) j (upToN (-1) (lenK A (bodyS l) (headS l n) j)) else A)) (h2 : B' = (if sl = 0 then B else tornS B (bodyS l) (headS l n) j (upToN (-1) (lenK B (bodyS l) (headS l n) j)))) :
    A' = aJ sl A (bodyS l) (headS l n) (j + 1) ∧ B' = bJ sl B (bodyS l) (headS l n) (j + 1) ∧ Fine A' B' := by
  rw [upTo_neg, torn_all _ _ _ _ hj] at h1 h2
  refine ⟨h1, h2, ?_⟩
  have hk : ∀ S : List Nat, j = 0 ∨ (j = 1 ∧ lenK S (bodyS l) (headS l n) j ≤ (bodyS l).length) ∨ (j = 2 ∧ lenK S (bodyS l) (headS l n) j ≤ 16) := fun S => by
    have h3 : j = 0 ∨ j = 1 ∨ j = 2 := by omega
    rcases h3 with rfl | rfl | rfl
    · exact .inl rfl
    · exact .inr (.inl ⟨rfl, Nat.le_refl _⟩)
    · exact .inr (.inr ⟨rfl, by show (headS l n).length ≤ 16; rw [headS_len]; exact Nat.le_refl _⟩)
  have hf := fine_torn hF hl n sl j (lenK (if sl = 0 then A else B) (bodyS l) (headS l n) j) (hk _) _ rfl
  rw [torn_all _ _ _ _ hj] at hf
  by_cases h0 : sl = 0
  · simp only [if_pos h0] at hf h1 h2
    rw [h1, h2]; exact hf
  · simp only [if_neg h0] at hf h1 h2
    rw [h1, h2]; exact hf
theorem torn_stop {A B : List Nat} {l : List Int} (hF : Fine A B) (hl : l.length ≤ 201) (hall : l.all okW = true) (he : (newS A B).e = 0) (j : Nat) (hj : j < 3) (pt : Int) {A' B' : List Nat}
    (h1 : A' = (if (nextS A B).1 = 0 then tornS A (bodyS l) (headS l (nextS A B).2) j (upToN pt (lenK A (bodyS l) (headS l (nextS A B).2) j)) else A)) (h2 : B' = (if (nextS A B).1 = 0 then B else tornS B (bodyS l) (headS l (nextS A B).2) j (upToN pt (lenK B (bodyS l) (headS l (nextS A B).2) j)))) :
    Fine A' B' ∧ (newS A' B' = newS A B ∨ j = 2 ∧ newS A' B' = ⟨l, (nextS A B).1, (nextS A B).2, 0⟩) := by
  have hup : ∀ (n : Nat), upToN pt n ≤ n := fun n => by unfold upToN; split <;> omega
  have hk : ∀ S : List Nat, j = 0 ∨ (j = 1 ∧ upToN pt (lenK S (bodyS l) (headS l (nextS A B).2) j) ≤ (bodyS l).length) ∨ (j = 2 ∧ upToN pt (lenK S (bodyS l) (headS l (nextS A B).2) j) ≤ 16) := fun S => by
    have h3 : j = 0 ∨ j = 1 ∨ j = 2 := by omega
    rcases h3 with rfl | rfl | rfl
    · exact .inl rfl
    · exact .inr (.inl ⟨rfl, hup _⟩)
    · refine .inr (.inr ⟨rfl, ?_⟩)
      have := hup (headS l (nextS A B).2).length
      rw [headS_len] at this
      show upToN pt (headS l (nextS A B).2).length ≤ 16
      rw [headS_len]; exact this
  have hf := fine_torn hF hl (nextS A B).2 (nextS A B).1 j (upToN pt (lenK (if (nextS A B).1 = 0 then A else B) (bodyS l) (headS l (nextS A B).2) j)) (hk _) _ rfl
  have hs := newS_stopped (l := l) hF.1 hF.2.1 he (by omega) hall (next_lt A B) j (upToN pt (lenK (if (nextS A B).1 = 0 then A else B) (bodyS l) (headS l (nextS A B).2) j)) (hk _) _ rfl
  by_cases h0 : (nextS A B).1 = 0
  · simp only [if_pos h0] at hf hs h1 h2
    rw [h1, h2]; exact ⟨hf, hs⟩
  · simp only [if_neg h0] at hf hs h1 h2
    rw [h1, h2]; exact ⟨hf, hs⟩
set_option maxRecDepth 10000 in
set_option maxHeartbeats 4000000 in
theorem tornLaw_any (l0 : List Int) (n1 : Int) (l2 : List Int) (n3 n4 : Int) (u0 u2 : Value) (w : World) (hu0 : rd w u0 l0) (hu2 : rd w u2 l2) (hz0 : ∀ x ∈ l0, in64 x) (hz2 : ∀ x ∈ l2, in64 x) (hl0 : l0.length ≤ 17592186043904) (hl2 : l2.length ≤ 17592186043904) (h1 : in64 n1) (h3 : in64 n3) (h4 : in64 n4) (hB : Beg w) :
    Calls Tryd.prog 7 #[u0, .int .i64 n1, u2, .int .i64 n3, .int .i64 n4] w fun e w' => e = .returned (.bool true) ∧ w.grownBy w' none := by
  obtain ⟨ua0, uc0, rfl, _⟩ := id hu0
  obtain ⟨ua2, uc2, rfl, _⟩ := id hu2
  have hg1 : w.grownBy (w.alloc (.cells #[.slice none 0 0, .slice none 0 0] 46)) none := gr_alloc (World.grownBy.refl _ _) _
  have cW := words_any l0 _ _ (rd_grown hu0 hg1) hz0 (by omega)
  have cN := fun W => picked_any n1 5 W h1 (by omega) (by omega)
  have hn5 := pk_lt n1 (m := 5) (by omega)
  have cK := fun W => picked_any n3 3 W h3 (by omega) (by omega)
  have hk3 := pk_lt n3 (m := 3) (by omega)
  obtain ⟨n0, hn0⟩ : ∃ n, pk n1 5 = n := ⟨_, rfl⟩
  obtain ⟨kk, hkk⟩ : ∃ n, pk n3 3 = n := ⟨_, rfl⟩
  simp only [hn0] at cN hn5
  simp only [hkk] at cK hk3
  clear hn0 hkk
  have hw1l := wordsS_len l0
  have hw2l := wordsS_len l2
  go_enter Tryd.func7, Tryd.ntmps7
  go_wp2_with fail
  refine cW.mono ?_
  rintro e w1 ⟨a1, c1, rfl, ho1, hg2⟩
  have hg02 := grown_join hg1 hg2 (.inl rfl)
  go_wp2_with fail
  refine (words_any l2 _ w1 (rd_grown hu2 hg02) hz2 (by omega)).mono ?_
  rintro e w2 ⟨a2, c2, rfl, ho2, hg3⟩
  have hg03 := grown_join hg02 hg3 (.inl rfl)
  go_wp2_with fail
  refine (cN _).mono ?_
  rintro e w' ⟨rfl, rfl⟩
  have hsz : (w.alloc (.cells #[.slice none 0 0, .slice none 0 0] 46)).heap.size = w.heap.size + 1 := by simp
  have hFS : FS w w2 w.heap.size a1 c1 (wordsS l0) a2 c2 (wordsS l2) none 0 [] none 0 [] := ⟨kept (grown_join hg2 hg3 (.inl rfl)) (heap_alloc_new w _), ⟨none, 0, rfl, Nat.le_refl _, .inl rfl⟩, ⟨none, 0, rfl, Nat.le_refl _, .inl rfl⟩, ⟨fun x hx => by simp at hx, fun x hx => by simp at hx, by simp, by simp⟩, own_low (ho1.kept hg3) (by omega), own_low ho2 (by have := hg2.size; omega), hg03, Nat.le_refl _⟩
  have HFS := hidI hFS
  obtain ⟨W1, hW1⟩ : ∃ W1, (wordsS l0).length = W1 := ⟨_, rfl⟩
  obtain ⟨W2, hW2⟩ : ∃ W2, (wordsS l2).length = W2 := ⟨_, rfl⟩
  have HW1 : Hid ((wordsS l0).length = W1) := hW1
  have HW2 : Hid ((wordsS l2).length = W2) := hW2
  rw [hW1, hW2]
  rw [hW1] at hw1l
  rw [hW2] at hw2l
  clear hW1 hW2 cW cN hFS ho1 ho2 hg1 hg2 hg3 hg02 hg03 hsz
  have mN : IntKind.i64.wrap (1 + (n0 : Int)) = 1 + n0 := i64_id (by omega) (by omega)
  obtain ⟨q, hq⟩ : ∃ q, w.heap.size = q := ⟨_, rfl⟩
  rw [hq] at HFS ⊢
  clear hq
  go_wp2_with fail
  go_loopg [14, 16] (n0 + 1) (fun gk s14 s16 wx => ∃ (i : Nat), s16 = .int .i64 i ∧ s14 = .bool true ∧ i ≤ n0 + 1 ∧ gk = n0 + 1 - i ∧ Hid (∃ xa xc A ya yc B, FS w wx q a1 c1 (wordsS l0) a2 c2 (wordsS l2) xa xc A ya yc B ∧ (0 < i → (newS A B).ws = (((i - 1 : Nat) : Int) :: wordsS l0) ∧ (newS A B).e = 0)))
  case atStart => exact ⟨0, rfl, rfl, by omega, by omega, hidI ⟨_, _, _, _, _, _, HFS.out, fun h => absurd h (by omega)⟩⟩
  case round =>
    clear HFS
    obtain ⟨i, rfl, rfl, hi, hgk, HST⟩ := hrel
    have HG : Hid (gk = n0 + 1 - i) := hgk
    clear hgk
    obtain ⟨xa, xc, A, ya, yc, B, hF, hNew⟩ := HST.out
    by_cases hlt : i < n0 + 1
    · clear hNew
      have j0 : (i : Int) < 1 + (n0 : Int) := by omega
      have mI : IntKind.i64.wrap ((i : Int) + 1) = (i : Int) + 1 := i64_id (by omega) (by omega)
      have hgA : wr.grownBy ((wr.alloc (.cells #[.int .i64 (i : Int)] 3)).drew) none := gr_drew (gr_alloc (World.grownBy.refl _ _) _)
      obtain ⟨b1, d1, w5, hrun, hown5, hg5⟩ := lead2 (w := wr) (V := (wr.alloc (.cells #[.int .i64 (i : Int)] 3)).drew) (g := wr.heap.size) (i : Int) (heap_alloc_new wr _) (Nat.le_refl _) hgA (rd_grown hF.o1.rd hgA) (by rw [HW1.out]; omega)
      rw [HW1.out] at hrun
      have HRUN : Hid (_ = _) := hrun
      have hF5 := hF.grow hg5
      have cS := fun (V : World) (hV : w5.grownBy V none) => saved_q A B ((i : Int) :: wordsS l0) _ _ _ V hF.fine (rdB_grown hF5.ra hV) (rdB_grown hF5.rb hV) (rd_grown hown5.rd hV) (head_len i l0) (head_ok i (by omega) l0) (look_head i (by omega) l0 A B) ((hB.grown hF5.gr).grown hV)
      rw [List.length_cons, HW1.out] at cS
      have y0 : wr.cell? ⟨q, 0, none⟩ = some (.slice xa A.length xc) := at_cell hF.box 0
      have y1 : wr.cell? ⟨q, 1, none⟩ = some (.slice ya B.length yc) := at_cell hF.box 1
      have bxA : (wr.alloc (.cells #[.int .i64 (i : Int)] 3)).heap[q]? = _ := kept (gr_alloc (World.grownBy.refl _ _) _) hF.box
      have x0 : (wr.alloc (.cells #[.int .i64 (i : Int)] 3)).cell? ⟨q, 0, none⟩ = some (.slice xa A.length xc) := at_cell bxA 0
      have x1 : (wr.alloc (.cells #[.int .i64 (i : Int)] 3)).cell? ⟨q, 1, none⟩ = some (.slice ya B.length yc) := at_cell bxA 1
      clear bxA
      have z0 : w5.cell? ⟨q, 0, none⟩ = some (.slice xa A.length xc) := at_cell hF5.box 0
      have z1 : w5.cell? ⟨q, 1, none⟩ = some (.slice ya B.length yc) := at_cell hF5.box 1
      have hqr := at_lt hF.box
      have hqn : q ≠ wr.heap.size := by omega
      have HF5 := hidI hF5
      have HBX := hidI hF5.box
      generalize A.length = An at *
      generalize B.length = Bn at *
      clear hF hgA hrun hown5 hg5 HST hqr hF5
      go_wp2_with fail
      go_region_law (first | (refine step_append_run (by rfl) _ _ 22 (by rfl) _ _ _ w5 (by rfl) (by rfl) HRUN.out ?_) | (go_simp; go_at_call 24; refine (cS _ (by first | exact World.grownBy.refl _ _ | exact gr_drew (World.grownBy.refl _ _))).mono ?_; rintro e w6 ⟨xa', xc', ya', yc', A', B', rfl, r1, r2, ⟨hFi, hw, he⟩, hg6⟩; have hg56 : w5.grownBy w6 none := (by first | exact hg6 | exact grown_join (gr_drew (World.grownBy.refl _ _)) hg6 (.inl rfl)); have bx := kept hg56 HBX.out; have f0 := at_frozen bx 0; have f1 := at_frozen bx 1; have v0 : w6.cell? ⟨q, 0, none⟩ = some (.slice xa An xc) := at_cell bx 0; have v1 : w6.cell? ⟨q, 1, none⟩ = some (.slice ya Bn yc) := at_cell bx 1; have NEW : Hid (∃ xa xc A ya yc B, FS w ((w6.setCell ⟨q, 0, none⟩ (.slice xa' A'.length xc')).setCell ⟨q, 1, none⟩ (.slice ya' B'.length yc')) q a1 c1 (wordsS l0) a2 c2 (wordsS l2) xa xc A ya yc B ∧ (0 < i + 1 → (newS A B).ws = (((i + 1 - 1 : Nat) : Int) :: wordsS l0) ∧ (newS A B).e = 0)) := hidI ⟨xa', xc', A', ya', yc', B', HF5.out.put hg56 r1 r2 hFi, fun _ => ⟨hw, he⟩⟩; clear r1 r2 hFi hw he hg6 hg56 bx))
      all_goals (
        go_wp2
        have hgl := HG.out
        go_roundg (n0 + 1 - (i + 1))
        all_goals first | omega | exact ⟨i + 1, by go_num, rfl, by omega, by omega, NEW⟩)
    · have hie : i = n0 + 1 := by omega
      subst hie
      obtain ⟨hws, hee⟩ := hNew (by omega)
      clear hNew HST
      have j0 : ¬ ((n0 + 1 : Nat) : Int) < 1 + (n0 : Int) := by omega
      have j0' : ¬ (n0 : Int) + 1 < 1 + (n0 : Int) := by omega
      have e1 : n0 + 1 - 1 = n0 := by omega
      rw [e1] at hws
      clear e1
      have mS : IntKind.i64.wrap (1 + (n0 : Int) - 1) = n0 := by rw [i64_id (by omega) (by omega)]; omega
      have hgA : wr.grownBy (wr.alloc (.cells #[.int .i64 (n0 : Int)] 3)) none := gr_alloc (World.grownBy.refl _ _) _
      obtain ⟨b1, d1, w5, hrun, hown5, hg5⟩ := lead2 (w := wr) (V := wr.alloc (.cells #[.int .i64 (n0 : Int)] 3)) (g := wr.heap.size) (n0 : Int) (heap_alloc_new wr _) (Nat.le_refl _) hgA (rd_grown hF.o1.rd hgA) (by rw [HW1.out]; omega)
      rw [HW1.out] at hrun
      have HRUN : Hid (_ = _) := hrun
      have hF5 := hF.grow hg5
      obtain ⟨fb1, fb2, fl1, fl2⟩ := hF.fine
      have cNw := facedNewest_any A B _ _ w5 fb1 fb2 hF5.ra hF5.rb (by unfold maxLen; omega) (by unfold maxLen; omega) (hB.grown hF5.gr)
      rw [hws, hee] at cNw
      have hqr := at_lt hF.box
      have HLA : Hid (OwnL (q + 1) w5 b1 d1 ((n0 : Int) :: wordsS l0)) := hidI (own_low hown5 (by omega))
      have HF := hidI hF5
      have HEE := hidI hee
      have HWS := hidI hws
      have z0 : w5.cell? ⟨q, 0, none⟩ = some (.slice xa A.length xc) := at_cell hF5.box 0
      have z1 : w5.cell? ⟨q, 1, none⟩ = some (.slice ya B.length yc) := at_cell hF5.box 1
      clear hrun hgA hown5 hg5 hF hF5 hws hee hi hlt hqr
      go_wp2_with (first | (at_builtin; refine hidG ?_))
      refine hidI ?_
      refine wpList_append_run rfl _ _ 22 rfl _ _ _ w5 rfl rfl HRUN.out ?_
      go_wp2_with fail
      refine cNw.mono ?_
      rintro e w6 ⟨ga, gc, rfl, hoG, hg6⟩
      have hrG := hoG.rd
      have hrL := (HLA.out.kept hg6).rd
      rw [List.length_cons, HW1.out] at hrG hrL ⊢
      have cEq := equal_any ((n0 : Int) :: wordsS l0) ((n0 : Int) :: wordsS l0) _ _ w6 hrG hrL (by rw [List.length_cons, HW1.out]; omega) (by rw [List.length_cons, HW1.out]; omega)
      simp only [decide_true] at cEq
      clear cNw hoG hrG hrL z0 z1 HRUN j0 j0' mS
      go_wp2_with fail
      refine cEq.mono ?_
      rintro e w7 ⟨rfl, hg7⟩
      have hg57 := grown_join hg6 hg7 (.inl rfl)
      clear cEq
      have hF7 := HF.out.grow hg57
      have hLA7 := HLA.out.kept hg57
      clear HF HLA hg6 hg7 hg57
      have eN : (1 + (n0 : Int)) = ((n0 + 1 : Nat) : Int) := by omega
      have hgA : w7.grownBy (w7.alloc (.cells #[.int .i64 (1 + (n0 : Int))] 3)) none := gr_alloc (World.grownBy.refl _ _) _
      obtain ⟨b2, d2, w8, hrun, hown8, hg8⟩ := lead2 (w := w7) (V := w7.alloc (.cells #[.int .i64 (1 + (n0 : Int))] 3)) (g := w7.heap.size) (1 + (n0 : Int)) (heap_alloc_new w7 _) (Nat.le_refl _) hgA (rd_grown hF7.o2.rd hgA) (by rw [HW2.out]; omega)
      have hlk := look_head (n0 + 1) (by omega) l2 A B
      have hal := head_ok (n0 + 1) (by omega) l2
      have hln := head_len (n0 + 1) l2
      rw [← eN] at hlk hal hln
      obtain ⟨nx, hnx⟩ : ∃ nx, (1 + (n0 : Int)) :: wordsS l2 = nx := ⟨_, rfl⟩
      have hnl : nx.length = W2 + 1 := by rw [← hnx, List.length_cons, HW2.out]
      rw [hnx] at hlk hal hln hown8
      rw [HW2.out] at hrun
      clear hnx eN
      have hF8 := hF7.grow hg8
      have cSv := save_p A B nx _ _ _ w8 fb1 fb2 hF8.ra hF8.rb hown8.rd (by unfold maxLen; omega) (by unfold maxLen; omega) (by omega) (hB.grown hF8.gr)
      rw [hlk] at cSv
      rw [hnl] at cSv
      have HRUN : Hid (_ = _) := hrun
      have hqr := at_lt hF7.box
      have HNX : Hid (OwnL (q + 1) w8 b2 d2 nx ∧ nx.length = W2 + 1 ∧ nx.all okW = true ∧ nx.length ≤ 201) := hidI ⟨own_low hown8 (by omega), hnl, hal, hln⟩
      have HF := hidI hF8
      have HLA := hidI (hLA7.kept hg8)
      have z0 : w8.cell? ⟨q, 0, none⟩ = some (.slice xa A.length xc) := at_cell hF8.box 0
      have z1 : w8.cell? ⟨q, 1, none⟩ = some (.slice ya B.length yc) := at_cell hF8.box 1
      have hq8 := at_lt hF8.box
      have HQ8 := hidI hq8
      clear hrun hgA hown8 hg8 hF7 hF8 hlk hal hln hnl hqr hLA7 hq8
      go_wp2_with (first | (at_builtin; refine hidG ?_))
      refine hidI ?_
      refine wpList_append_run rfl _ _ 22 rfl _ _ _ w8 rfl rfl HRUN.out ?_
      go_wp2_with fail
      refine cSv.mono ?_
      rintro e w9 ⟨hg9, ⟨hbad, _⟩ | ⟨_, g, va, vc, va', vc', B1, rfl, hV⟩⟩
      · exact absurd rfl hbad
      clear cSv HRUN z0 z1
      have HF9 := hidI (HF.out.grow hg9)
      have HL9 := hidI (HLA.out.kept hg9)
      have HN9 := hidI (HNX.out.1.kept hg9)
      have HV := hidI hV
      have HNP := hidI HNX.out.2
      have HGQ : Hid (q < g ∧ q < w8.heap.size) := hidI ⟨by have h1 := hV.glt; have h2 := hV.base; have h3 := HQ8.out; omega, HQ8.out⟩
      clear HF HLA HNX hg9 hV HQ8
      have m31 : IntKind.i64.wrap (3 - 1) = 2 := by decide
      go_wp2_with fail
      refine (cK _).mono ?_
      rintro e w' ⟨rfl, rfl⟩
      have hsl := next_le A B
      have HH : Hid ((headS nx (nextS A B).2).length = 16 ∧ (bodyS nx).length ≤ 9000 ∧ 0 < (bodyS nx).length) := hidI ⟨headS_len _ _, by have := bodyS_len nx; have := HNP.out; omega, by have := bodyS_len nx; omega⟩
      go_wp2_with fail
      go_loopg [14, 24] kk (fun gk s14 s24 wx => ∃ (j : Nat), s24 = .int .i64 j ∧ s14 = .bool true ∧ j ≤ kk ∧ gk = kk - j ∧ Hid (∃ xa xc ya yc, FS w wx q a1 c1 (wordsS l0) a2 c2 (wordsS l2) xa xc (aJ (nextS A B).1 A (bodyS nx) (headS nx (nextS A B).2) j) ya yc (bJ (nextS A B).1 B (bodyS nx) (headS nx (nextS A B).2) j)) ∧ Hid (SvOk w8 wx g (nextS A B).1 (bodyS nx) (headS nx (nextS A B).2) va vc va' vc' B1 ∧ OwnL (q + 1) wx b1 d1 ((n0 : Int) :: wordsS l0) ∧ OwnL (q + 1) wx b2 d2 nx))
      case atStart => exact ⟨0, rfl, rfl, Nat.zero_le _, by omega, hidI ⟨_, _, _, _, by rw [aJ_zero, bJ_zero]; exact HF9.out⟩, hidI ⟨HV.out, HL9.out, HN9.out⟩⟩
      case round =>
        clear HF9 HL9 HN9 HV
        obtain ⟨j, rfl, rfl, hj, hgj, HS2, HV2⟩ := hrel
        have HGJ : Hid (gk = kk - j) := hgj
        clear hgj
        obtain ⟨xa2, xc2, ya2, yc2, hF⟩ := HS2.out
        obtain ⟨hV, hL, hN⟩ := HV2.out
        have hgd : wr.grownBy wr.drew none := gr_drew (World.grownBy.refl _ _)
        obtain ⟨er, at_, da, dn, dc, q0, q1, q2, q3, hdn, cD⟩ := step_q hV hsl A B fl1 fl2 HH.out j (by omega)
        have i0 : (0 : Int) ≤ (j : Int) := by omega
        have i1 : (j : Int) < 3 := by omega
        have y0 : wr.cell? ⟨q, 0, none⟩ = some (.slice xa2 _ xc2) := at_cell hF.box 0
        have y1 : wr.cell? ⟨q, 1, none⟩ = some (.slice ya2 _ yc2) := at_cell hF.box 1
        have HFJ := hidI hF
        have HBX := hidI hF.box
        by_cases hlt : j < kk
        · have cX := cD wr.drew _ _ (-1) hgd (rdB_grown hF.ra hgd) (rdB_grown hF.rb hgd)
          have i2 : (j : Int) < (kk : Int) := by omega
          have mJ : IntKind.i64.wrap ((j : Int) + 1) = (j : Int) + 1 := i64_id (by omega) (by omega)
          have HNX1 : Hid (∀ A' B', A' = (if (nextS A B).1 = 0 then tornS A (bodyS nx) (headS nx (nextS A B).2) j (upToN (-1) (lenK A (bodyS nx) (headS nx (nextS A B).2) j)) else A) → B' = (if (nextS A B).1 = 0 then B else tornS B (bodyS nx) (headS nx (nextS A B).2) j (upToN (-1) (lenK B (bodyS nx) (headS nx (nextS A B).2) j))) → A' = aJ (nextS A B).1 A (bodyS nx) (headS nx (nextS A B).2) (j + 1) ∧ B' = bJ (nextS A B).1 B (bodyS nx) (headS nx (nextS A B).2) (j + 1) ∧ Fine A' B') := hidI (fun A' B' h1 h2 => torn_next ⟨fb1, fb2, fl1, fl2⟩ HNP.out.2.2 (nextS A B).2 (nextS A B).1 j (by omega) h1 h2)
          clear cD hF HS2 hdn
          generalize (aJ (nextS A B).1 A (bodyS nx) (headS nx (nextS A B).2) j).length = An at *
          generalize (bJ (nextS A B).1 B (bodyS nx) (headS nx (nextS A B).2) j).length = Bn at *
          have HVL := hidI hV
          have HLL := hidI (And.intro hL hN)
          clear hV hL hN HV2
          go_wp2_with fail
          go_region_law (go_simp; go_at_call 26; refine cX.mono ?_; rintro e w2 ⟨xa', xc', ya', yc', A', B', rfl, r1, r2, ⟨hA', hB'⟩, hg2⟩; have hg2' : wr.grownBy w2 none := grown_join hgd hg2 (.inl rfl); have bx2 := kept hg2' HBX.out; have f0 := at_frozen bx2 0; have f1 := at_frozen bx2 1; have p0 : w2.cell? ⟨q, 0, none⟩ = some (.slice xa2 An xc2) := at_cell bx2 0; have p1 : w2.cell? ⟨q, 1, none⟩ = some (.slice ya2 Bn yc2) := at_cell bx2 1; have HFI := hidI (HNX1.out A' B' hA' hB'); clear hA' hB')
          all_goals (
            obtain ⟨hA2, hB2, hFi⟩ := HFI.out
            have gS : w2.grownBy ((w2.setCell ⟨q, 0, none⟩ (.slice xa' A'.length xc')).setCell ⟨q, 1, none⟩ (.slice ya' B'.length yc')) (some q) := gr_set (gr_set (World.grownBy.refl _ _) _ _) _ _
            have NEW1 : Hid (∃ xa xc ya yc, FS w ((w2.setCell ⟨q, 0, none⟩ (.slice xa' A'.length xc')).setCell ⟨q, 1, none⟩ (.slice ya' B'.length yc')) q a1 c1 (wordsS l0) a2 c2 (wordsS l2) xa xc (aJ (nextS A B).1 A (bodyS nx) (headS nx (nextS A B).2) (j + 1)) ya yc (bJ (nextS A B).1 B (bodyS nx) (headS nx (nextS A B).2) (j + 1))) := hidI ⟨xa', xc', ya', yc', by rw [← hA2, ← hB2]; exact HFJ.out.put hg2' r1 r2 hFi⟩
            have NEW2 : Hid (SvOk w8 ((w2.setCell ⟨q, 0, none⟩ (.slice xa' A'.length xc')).setCell ⟨q, 1, none⟩ (.slice ya' B'.length yc')) g (nextS A B).1 (bodyS nx) (headS nx (nextS A B).2) va vc va' vc' B1 ∧ OwnL (q + 1) ((w2.setCell ⟨q, 0, none⟩ (.slice xa' A'.length xc')).setCell ⟨q, 1, none⟩ (.slice ya' B'.length yc')) b1 d1 ((n0 : Int) :: wordsS l0) ∧ OwnL (q + 1) ((w2.setCell ⟨q, 0, none⟩ (.slice xa' A'.length xc')).setCell ⟨q, 1, none⟩ (.slice ya' B'.length yc')) b2 d2 nx) := hidI ⟨(HVL.out.step hg2' (by simp)).step gS (fun x hx => by injection hx with hx; have := HGQ.out; omega), own_but (HLL.out.1.kept hg2') gS (Nat.lt_succ_self _), own_but (HLL.out.2.kept hg2') gS (Nat.lt_succ_self _)⟩
            clear gS hA2 hB2 hFi r1 r2 hg2 hg2' bx2
            go_wp2
            have hgl := HGJ.out
            go_roundg (kk - (j + 1))
            all_goals first | omega | exact ⟨j + 1, by go_num, rfl, by omega, by omega, NEW1, NEW2⟩)
        · have hje : j = kk := by omega
          subst hje
          have hcp := pk_lt n4 (m := 1 + dn + (aJ (nextS A B).1 A (bodyS nx) (headS nx (nextS A B).2) j).length) (by omega)
          have hfa := hF.fine.2.2.1
          have hdl : dn ≤ 9000 := by
            rw [hdn]; unfold lenK
            have := HH.out
            split
            · simp
            · split <;> omega
          have cP := fun W => picked_any n4 (1 + dn + (aJ (nextS A B).1 A (bodyS nx) (headS nx (nextS A B).2) j).length) W h4 (by omega) (by omega)
          generalize pk n4 (1 + dn + (aJ (nextS A B).1 A (bodyS nx) (headS nx (nextS A B).2) j).length) = cc at *
          have cX := cD wr.drew _ _ (cc : Int) hgd (rdB_grown hF.ra hgd) (rdB_grown hF.rb hgd)
          have HTS : Hid (∀ A' B', A' = (if (nextS A B).1 = 0 then tornS A (bodyS nx) (headS nx (nextS A B).2) j (upToN (cc : Int) (lenK A (bodyS nx) (headS nx (nextS A B).2) j)) else A) → B' = (if (nextS A B).1 = 0 then B else tornS B (bodyS nx) (headS nx (nextS A B).2) j (upToN (cc : Int) (lenK B (bodyS nx) (headS nx (nextS A B).2) j))) → Fine A' B' ∧ (newS A' B' = newS A B ∨ j = 2 ∧ newS A' B' = ⟨nx, (nextS A B).1, (nextS A B).2, 0⟩)) := hidI (fun A' B' h1 h2 => torn_stop ⟨fb1, fb2, fl1, fl2⟩ HNP.out.2.2 HNP.out.2.1 HEE.out j (by omega) (cc : Int) h1 h2)
          clear cD hF HS2 hdn
          generalize (aJ (nextS A B).1 A (bodyS nx) (headS nx (nextS A B).2) j).length = An at *
          generalize (bJ (nextS A B).1 B (bodyS nx) (headS nx (nextS A B).2) j).length = Bn at *
          have mD : IntKind.i64.wrap (1 + (dn : Int)) = 1 + dn := i64_id (by omega) (by omega)
          have mE : IntKind.i64.wrap (1 + (dn : Int) + (An : Int)) = 1 + dn + An := i64_id (by omega) (by omega)
          have cP' : ∀ W, Calls Tryd.prog 23 #[.int .i64 n4, .int .i64 (1 + (dn : Int) + (An : Int))] W fun e w' => e = .returned (.int .i64 (cc : Int)) ∧ W = w' := fun W => by
            have := cP W
            simpa using this
          have HLL := hidI (And.intro hL hN)
          have i3 : ¬ (j : Int) < (j : Int) := by omega
          clear hV hL hN HV2 cP hcp hfa
          go_upto_region 26 with fail
          go_cut [14] from 97 to 193 (fun s14 wx => s14 = .bool true ∧ Hid (∃ xa xc A' ya yc B', FS w wx q a1 c1 (wordsS l0) a2 c2 (wordsS l2) xa xc A' ya yc B' ∧ (newS A' B' = newS A B ∨ j = 2 ∧ newS A' B' = ⟨nx, (nextS A B).1, (nextS A B).2, 0⟩) ∧ OwnL (q + 1) wx b1 d1 ((n0 : Int) :: wordsS l0) ∧ OwnL (q + 1) wx b2 d2 nx))
          case first =>
            refine wp_region_L (L := 22) (S := (fun w' : World => w'.cell? ⟨q, 0, none⟩ = some (.slice xa2 An xc2) ∧ w'.cell? ⟨q, 1, none⟩ = some (.slice ya2 Bn yc2) ∧ w'.cell? ⟨g, j * 4, none⟩ = some (.int .i64 ((nextS A B).1 : Int)) ∧ w'.cell? ⟨g, j * 4 + 1, none⟩ = some (.bool er) ∧ w'.cell? ⟨g, j * 4 + 2, none⟩ = some (.int .i64 (at_ : Int)) ∧ w'.cell? ⟨g, j * 4 + 3, none⟩ = some (.slice da dn dc))) (by kernel_rfl) ?_
            have hHeld : (fun w' : World => w'.cell? ⟨q, 0, none⟩ = some (.slice xa2 An xc2) ∧ w'.cell? ⟨q, 1, none⟩ = some (.slice ya2 Bn yc2) ∧ w'.cell? ⟨g, j * 4, none⟩ = some (.int .i64 ((nextS A B).1 : Int)) ∧ w'.cell? ⟨g, j * 4 + 1, none⟩ = some (.bool er) ∧ w'.cell? ⟨g, j * 4 + 2, none⟩ = some (.int .i64 (at_ : Int)) ∧ w'.cell? ⟨g, j * 4 + 3, none⟩ = some (.slice da dn dc)) wr.drew := ⟨y0, y1, q0, q1, q2, q3⟩
            refine wpAnyL_take (i := 0) (oi := { dst := some 117, op := Op.load 46 (Operand.tmp 11), type := 46, pos := "retain.go:102", after := #[], guard := none }) (v := ?_) rfl (by kernel_rfl) (by kernel_rfl) (by kernel_rfl) (fun _ _ _ h => h) (by kernel_rfl) (by kernel_rfl) (Or.inl ⟨by rfl, ?_⟩) hHeld ?_
            rotate_left
            · intro w hSw
              try dsimp only at hSw
              go_simp
              try with_reducible rfl
            try simp only [Act.put, List.setIfInBounds_toArray, List.set_cons_zero, List.set_cons_succ]
            refine wpAnyL_take (i := 1) (oi := { dst := some 118, op := Op.move (Operand.tmp 22), type := 38, pos := "retain.go:102", after := #[], guard := none }) (v := ?_) rfl (by kernel_rfl) (by kernel_rfl) (by kernel_rfl) (fun _ _ _ h => h) (by kernel_rfl) (by kernel_rfl) (Or.inl ⟨by rfl, ?_⟩) hHeld ?_
            rotate_left
            · intro w hSw
              try dsimp only at hSw
              go_simp
              try with_reducible rfl
            try simp only [Act.put, List.setIfInBounds_toArray, List.set_cons_zero, List.set_cons_succ]
            refine wpAnyL_take (i := 2) (oi := { dst := some 119, op := Op.move (Operand.tmp 23), type := 3, pos := "retain.go:102", after := #[], guard := none }) (v := ?_) rfl (by kernel_rfl) (by kernel_rfl) (by kernel_rfl) (fun _ _ _ h => h) (by kernel_rfl) (by kernel_rfl) (Or.inl ⟨by rfl, ?_⟩) hHeld ?_
            rotate_left
            · intro w hSw
              try dsimp only at hSw
              go_simp
              try with_reducible rfl
            try simp only [Act.put, List.setIfInBounds_toArray, List.set_cons_zero, List.set_cons_succ]
            refine wpAnyL_take (i := 3) (oi := { dst := some 120, op := Op.indexAddr 38 (Operand.tmp 118) (Operand.tmp 119), type := 0, pos := "retain.go:102", after := #[{ on := 1, ground := Ground.data }, { on := 2, ground := Ground.data }], guard := none }) (v := ?_) rfl (by kernel_rfl) (by kernel_rfl) (by kernel_rfl) (fun _ _ _ h => h) (by kernel_rfl) (by kernel_rfl) (Or.inl ⟨by rfl, ?_⟩) hHeld ?_
            rotate_left
            · intro w hSw
              try dsimp only at hSw
              go_simp
              try with_reducible rfl
            try simp only [Act.put, List.setIfInBounds_toArray, List.set_cons_zero, List.set_cons_succ]
            refine wpAnyL_take (i := 4) (oi := { dst := some 121, op := Op.load 43 (Operand.tmp 120), type := 43, pos := "retain.go:102", after := #[{ on := 3, ground := Ground.data }], guard := none }) (v := ?_) rfl (by kernel_rfl) (by kernel_rfl) (by kernel_rfl) (fun _ _ _ h => h) (by kernel_rfl) (by kernel_rfl) (Or.inl ⟨by rfl, ?_⟩) hHeld ?_
            rotate_left
            · intro w hSw
              try dsimp only at hSw
              go_simp
              try with_reducible rfl
            try simp only [Act.put, List.setIfInBounds_toArray, List.set_cons_zero, List.set_cons_succ]
            refine wpAnyL_take (i := 5) (oi := { dst := some 122, op := Op.move (Operand.tmp 4), type := 3, pos := "retain.go:102", after := #[], guard := none }) (v := ?_) rfl (by kernel_rfl) (by kernel_rfl) (by kernel_rfl) (fun _ _ _ h => h) (by kernel_rfl) (by kernel_rfl) (Or.inl ⟨by rfl, ?_⟩) hHeld ?_
            rotate_left
            · intro w hSw
              try dsimp only at hSw
              go_simp
              try with_reducible rfl
            try simp only [Act.put, List.setIfInBounds_toArray, List.set_cons_zero, List.set_cons_succ]
            refine wpAnyL_take (i := 6) (oi := { dst := some 123, op := Op.move (Operand.tmp 22), type := 38, pos := "retain.go:102", after := #[], guard := none }) (v := ?_) rfl (by kernel_rfl) (by kernel_rfl) (by kernel_rfl) (fun _ _ _ h => h) (by kernel_rfl) (by kernel_rfl) (Or.inl ⟨by rfl, ?_⟩) hHeld ?_
            rotate_left
            · intro w hSw
              try dsimp only at hSw
              go_simp
              try with_reducible rfl
            try simp only [Act.put, List.setIfInBounds_toArray, List.set_cons_zero, List.set_cons_succ]
            refine wpAnyL_take (i := 7) (oi := { dst := some 124, op := Op.move (Operand.tmp 23), type := 3, pos := "retain.go:102", after := #[], guard := none }) (v := ?_) rfl (by kernel_rfl) (by kernel_rfl) (by kernel_rfl) (fun _ _ _ h => h) (by kernel_rfl) (by kernel_rfl) (Or.inl ⟨by rfl, ?_⟩) hHeld ?_
            rotate_left
            · intro w hSw
              try dsimp only at hSw
              go_simp
              try with_reducible rfl
            try simp only [Act.put, List.setIfInBounds_toArray, List.set_cons_zero, List.set_cons_succ]
            refine wpAnyL_take (i := 8) (oi := { dst := some 125, op := Op.indexAddr 38 (Operand.tmp 123) (Operand.tmp 124), type := 0, pos := "retain.go:102", after := #[{ on := 6, ground := Ground.data }, { on := 7, ground := Ground.data }], guard := none }) (v := ?_) rfl (by kernel_rfl) (by kernel_rfl) (by kernel_rfl) (fun _ _ _ h => h) (by kernel_rfl) (by kernel_rfl) (Or.inl ⟨by rfl, ?_⟩) hHeld ?_
            rotate_left
            · intro w hSw
              try dsimp only at hSw
              go_simp
              try with_reducible rfl
            try simp only [Act.put, List.setIfInBounds_toArray, List.set_cons_zero, List.set_cons_succ]
            refine wpAnyL_take (i := 9) (oi := { dst := some 126, op := Op.fieldAddr 43 (Operand.tmp 125) 3, type := 0, pos := "retain.go:102", after := #[{ on := 8, ground := Ground.data }], guard := none }) (v := ?_) rfl (by kernel_rfl) (by kernel_rfl) (by kernel_rfl) (fun _ _ _ h => h) (by kernel_rfl) (by kernel_rfl) (Or.inl ⟨by rfl, ?_⟩) hHeld ?_
            rotate_left
            · intro w hSw
              try dsimp only at hSw
              go_simp
              try with_reducible rfl
            try simp only [Act.put, List.setIfInBounds_toArray, List.set_cons_zero, List.set_cons_succ]
            refine wpAnyL_take (i := 10) (oi := { dst := some 127, op := Op.load 23 (Operand.tmp 126), type := 23, pos := "retain.go:102", after := #[{ on := 9, ground := Ground.data }], guard := none }) (v := ?_) rfl (by kernel_rfl) (by kernel_rfl) (by kernel_rfl) (fun _ _ _ h => h) (by kernel_rfl) (by kernel_rfl) (Or.inl ⟨by rfl, ?_⟩) hHeld ?_
            rotate_left
            · intro w hSw
              try dsimp only at hSw
              go_simp
              try with_reducible rfl
            try simp only [Act.put, List.setIfInBounds_toArray, List.set_cons_zero, List.set_cons_succ]
            refine wpAnyL_take (i := 11) (oi := { dst := some 128, op := Op.call { callee := Callee.builtin Builtin.len, args := #[Operand.tmp 127], argTypes := #[23] }, type := 3, pos := "retain.go:102", after := #[{ on := 10, ground := Ground.data }], guard := none }) (v := ?_) rfl (by kernel_rfl) (by kernel_rfl) (by kernel_rfl) (fun _ _ _ h => h) (by kernel_rfl) (by kernel_rfl) (Or.inl ⟨by rfl, ?_⟩) hHeld ?_
            rotate_left
            · intro w hSw
              try dsimp only at hSw
              go_simp
              try with_reducible rfl
            try simp only [Act.put, List.setIfInBounds_toArray, List.set_cons_zero, List.set_cons_succ]
            refine wpAnyL_take (i := 12) (oi := { dst := some 129, op := Op.binOp BinOp.add 3 (Operand.const (Value.int IntKind.i64 1)) (Operand.tmp 128) 3, type := 3, pos := "retain.go:102", after := #[{ on := 11, ground := Ground.data }], guard := none }) (v := ?_) rfl (by kernel_rfl) (by kernel_rfl) (by kernel_rfl) (fun _ _ _ h => h) (by kernel_rfl) (by kernel_rfl) (Or.inl ⟨by rfl, ?_⟩) hHeld ?_
            rotate_left
            · intro w hSw
              try dsimp only at hSw
              go_simp
              try with_reducible rfl
            try simp only [Act.put, List.setIfInBounds_toArray, List.set_cons_zero, List.set_cons_succ]
            refine wpAnyL_take (i := 13) (oi := { dst := some 130, op := Op.indexAddr 46 (Operand.tmp 11) (Operand.const (Value.int IntKind.i64 0)), type := 0, pos := "retain.go:102", after := #[], guard := none }) (v := ?_) rfl (by kernel_rfl) (by kernel_rfl) (by kernel_rfl) (fun _ _ _ h => h) (by kernel_rfl) (by kernel_rfl) (Or.inl ⟨by rfl, ?_⟩) hHeld ?_
            rotate_left
            · intro w hSw
              try dsimp only at hSw
              go_simp
              try with_reducible rfl
            try simp only [Act.put, List.setIfInBounds_toArray, List.set_cons_zero, List.set_cons_succ]
            refine wpAnyL_take (i := 14) (oi := { dst := some 131, op := Op.load 23 (Operand.tmp 130), type := 23, pos := "retain.go:102", after := #[{ on := 13, ground := Ground.data }], guard := none }) (v := ?_) rfl (by kernel_rfl) (by kernel_rfl) (by kernel_rfl) (fun _ _ _ h => h) (by kernel_rfl) (by kernel_rfl) (Or.inl ⟨by rfl, ?_⟩) hHeld ?_
            rotate_left
            · intro w hSw
              try dsimp only at hSw
              go_simp
              try with_reducible rfl
            try simp only [Act.put, List.setIfInBounds_toArray, List.set_cons_zero, List.set_cons_succ]
            refine wpAnyL_take (i := 15) (oi := { dst := some 132, op := Op.call { callee := Callee.builtin Builtin.len, args := #[Operand.tmp 131], argTypes := #[23] }, type := 3, pos := "retain.go:102", after := #[{ on := 14, ground := Ground.data }], guard := none }) (v := ?_) rfl (by kernel_rfl) (by kernel_rfl) (by kernel_rfl) (fun _ _ _ h => h) (by kernel_rfl) (by kernel_rfl) (Or.inl ⟨by rfl, ?_⟩) hHeld ?_
            rotate_left
            · intro w hSw
              try dsimp only at hSw
              go_simp
              try with_reducible rfl
            try simp only [Act.put, List.setIfInBounds_toArray, List.set_cons_zero, List.set_cons_succ]
            refine wpAnyL_take (i := 16) (oi := { dst := some 133, op := Op.binOp BinOp.add 3 (Operand.tmp 129) (Operand.tmp 132) 3, type := 3, pos := "retain.go:102", after := #[{ on := 12, ground := Ground.data }, { on := 15, ground := Ground.data }], guard := none }) (v := ?_) rfl (by kernel_rfl) (by kernel_rfl) (by kernel_rfl) (fun _ _ _ h => h) (by kernel_rfl) (by kernel_rfl) (Or.inl ⟨by rfl, ?_⟩) hHeld ?_
            rotate_left
            · intro w hSw
              try dsimp only at hSw
              go_simp
              try with_reducible rfl
            try simp only [Act.put, List.setIfInBounds_toArray, List.set_cons_zero, List.set_cons_succ]
            refine wpAnyL_one (j := 17) (o := { dst := some 134, op := Op.call { callee := Callee.value (Operand.func 23), args := #[Operand.tmp 122, Operand.tmp 133], argTypes := #[3, 3] }, type := 3, pos := "retain.go:102", after := #[{ on := 5, ground := Ground.data }, { on := 16, ground := Ground.data }], guard := none }) (by kernel_rfl) rfl (fun K hK => ?_)
            go_simp
            refine (cP' _).mono ?_
            rintro e w' ⟨rfl, rfl⟩
            go_wp2_with fail
            refine hK.out _ _ (fun _ _ => hHeld) ?_
            clear hK K
            try simp only [Act.put, List.setIfInBounds_toArray, List.set_cons_zero, List.set_cons_succ]
            refine wpAnyL_one (j := 18) (o := { dst := some 135, op := Op.call { callee := Callee.value (Operand.func 26), args := #[Operand.tmp 117, Operand.tmp 121, Operand.tmp 134], argTypes := #[46, 43, 3] }, type := 49, pos := "retain.go:102", after := #[{ on := 0, ground := Ground.data }, { on := 4, ground := Ground.data }, { on := 17, ground := Ground.data }, { on := 17, ground := Ground.chain }], guard := none }) (by kernel_rfl) rfl (fun K hK => ?_)
            go_simp
            refine cX.mono ?_
            rintro e w2 ⟨xa', xc', ya', yc', A', B', rfl, r1, r2, ⟨hA', hB'⟩, hg2⟩
            have hg2' : wr.grownBy w2 none := grown_join hgd hg2 (.inl rfl)
            have bx2 := kept hg2' HBX.out
            have f0 := at_frozen bx2 0
            have f1 := at_frozen bx2 1
            have p0 : w2.cell? ⟨q, 0, none⟩ = some (.slice xa2 An xc2) := at_cell bx2 0
            have p1 : w2.cell? ⟨q, 1, none⟩ = some (.slice ya2 Bn yc2) := at_cell bx2 1
            have HFI := hidI (HTS.out A' B' hA' hB')
            clear hA' hB'
            have hHeld2 : (fun w' : World => w'.cell? ⟨q, 0, none⟩ = some (.slice xa2 An xc2) ∧ w'.cell? ⟨q, 1, none⟩ = some (.slice ya2 Bn yc2) ∧ w'.cell? ⟨g, j * 4, none⟩ = some (.int .i64 ((nextS A B).1 : Int)) ∧ w'.cell? ⟨g, j * 4 + 1, none⟩ = some (.bool er) ∧ w'.cell? ⟨g, j * 4 + 2, none⟩ = some (.int .i64 (at_ : Int)) ∧ w'.cell? ⟨g, j * 4 + 3, none⟩ = some (.slice da dn dc)) w2 := ⟨p0, p1, hg2'.cell q0 (by simp), hg2'.cell q1 (by simp), hg2'.cell q2 (by simp), hg2'.cell q3 (by simp)⟩
            go_wp2_with fail
            refine hK.out _ _ (fun _ _ => hHeld2) ?_
            clear hHeld
            clear hK K
            try simp only [Act.put, List.setIfInBounds_toArray, List.set_cons_zero, List.set_cons_succ]
            refine wpAnyL_free (i := 19) (oi := { dst := some 116, op := Op.move (Operand.tmp 135), type := 49, pos := "retain.go:102", after := #[{ on := 18, ground := Ground.data }], guard := none }) (v := ?_) rfl (by kernel_rfl) (by kernel_rfl) (by kernel_rfl) (fun _ _ _ h => h) (by decide) (Or.inl ⟨by rfl, ?_⟩) (fun _ => hHeld2) ?_
            rotate_left
            · intro w hSw
              go_simp
              try with_reducible rfl
            try simp only [Act.put, List.setIfInBounds_toArray, List.set_cons_zero, List.set_cons_succ]
            refine wpAnyL_free (i := 20) (oi := { dst := some 136, op := Op.extract (Operand.tmp 116) 0, type := 46, pos := "retain.go:102", after := #[{ on := 19, ground := Ground.data }], guard := none }) (v := ?_) rfl (by kernel_rfl) (by kernel_rfl) (by kernel_rfl) (fun _ _ _ h => h) (by decide) (Or.inl ⟨by rfl, ?_⟩) (fun _ => hHeld2) ?_
            rotate_left
            · intro w hSw
              go_simp
              try with_reducible rfl
            try simp only [Act.put, List.setIfInBounds_toArray, List.set_cons_zero, List.set_cons_succ]
            refine wpAnyL_free (i := 21) (oi := { dst := some 137, op := Op.extract (Operand.tmp 116) 1, type := 4, pos := "retain.go:102", after := #[{ on := 19, ground := Ground.data }, { on := 22, ground := Ground.gcOnly Departure.lateStores }], guard := none }) (v := ?_) rfl (by kernel_rfl) (by kernel_rfl) (by kernel_rfl) (fun _ _ _ h => h) (by decide) (Or.inl ⟨by rfl, ?_⟩) (fun _ => hHeld2) ?_
            rotate_left
            · intro w hSw
              go_simp
              try with_reducible rfl
            try simp only [Act.put, List.setIfInBounds_toArray, List.set_cons_zero, List.set_cons_succ]
            refine wpAnyL_one (j := 22) (o := { dst := none, op := Op.store 46 (Operand.tmp 11) (Operand.tmp 136), type := 0, pos := "retain.go:102", after := #[{ on := 20, ground := Ground.data }, { on := 18, ground := Ground.chain }, { on := 0, ground := Ground.phase }, { on := 1, ground := Ground.phase }, { on := 2, ground := Ground.phase }, { on := 3, ground := Ground.phase }, { on := 4, ground := Ground.phase }, { on := 5, ground := Ground.phase }, { on := 6, ground := Ground.phase }, { on := 7, ground := Ground.phase }, { on := 8, ground := Ground.phase }, { on := 9, ground := Ground.phase }, { on := 10, ground := Ground.phase }, { on := 11, ground := Ground.phase }, { on := 12, ground := Ground.phase }, { on := 13, ground := Ground.phase }, { on := 14, ground := Ground.phase }, { on := 15, ground := Ground.phase }, { on := 16, ground := Ground.phase }, { on := 17, ground := Ground.phase }, { on := 18, ground := Ground.phase }, { on := 19, ground := Ground.phase }, { on := 20, ground := Ground.phase }, { on := 21, ground := Ground.textOnly Departure.lateStores }], guard := none }) (by kernel_rfl) rfl (fun K hK => ?_)
            go_simp
            go_wp2_with fail
            refine hK.out _ _ (fun h => absurd rfl h) ?_
            clear hK K
            try simp only [Act.put, List.setIfInBounds_toArray, List.set_cons_zero, List.set_cons_succ]
            refine wpAnyL_free (i := 23) (oi := { dst := some 14, op := Op.assign (Operand.tmp 137), type := 4, pos := "retain.go:102", after := #[{ on := 21, ground := Ground.data }, { on := 22, ground := Ground.chain }, { on := 0, ground := Ground.phase }, { on := 1, ground := Ground.phase }, { on := 2, ground := Ground.phase }, { on := 3, ground := Ground.phase }, { on := 4, ground := Ground.phase }, { on := 5, ground := Ground.phase }, { on := 6, ground := Ground.phase }, { on := 7, ground := Ground.phase }, { on := 8, ground := Ground.phase }, { on := 9, ground := Ground.phase }, { on := 10, ground := Ground.phase }, { on := 11, ground := Ground.phase }, { on := 12, ground := Ground.phase }, { on := 13, ground := Ground.phase }, { on := 14, ground := Ground.phase }, { on := 15, ground := Ground.phase }, { on := 16, ground := Ground.phase }, { on := 17, ground := Ground.phase }, { on := 18, ground := Ground.phase }, { on := 19, ground := Ground.phase }, { on := 20, ground := Ground.phase }, { on := 21, ground := Ground.phase }, { on := 22, ground := Ground.phase }], guard := none }) (v := ?_) rfl (by kernel_rfl) (by kernel_rfl) (by kernel_rfl) (fun _ _ _ h => h) (by decide) (Or.inl ⟨by rfl, ?_⟩) (fun h => by cases h) ?_
            rotate_left
            · intro w hSw
              go_simp
              try with_reducible rfl
            try simp only [Act.put, List.setIfInBounds_toArray, List.set_cons_zero, List.set_cons_succ]
            refine wpAnyL_done (by kernel_rfl) ?_ _
            all_goals (
              have gS : w2.grownBy ((w2.setCell ⟨q, 0, none⟩ (.slice xa' A'.length xc')).setCell ⟨q, 1, none⟩ (.slice ya' B'.length yc')) (some q) := gr_set (gr_set (World.grownBy.refl _ _) _ _) _ _
              have NEW1 : Hid (∃ xa xc A'' ya yc B'', FS w ((w2.setCell ⟨q, 0, none⟩ (.slice xa' A'.length xc')).setCell ⟨q, 1, none⟩ (.slice ya' B'.length yc')) q a1 c1 (wordsS l0) a2 c2 (wordsS l2) xa xc A'' ya yc B'' ∧ (newS A'' B'' = newS A B ∨ j = 2 ∧ newS A'' B'' = ⟨nx, (nextS A B).1, (nextS A B).2, 0⟩) ∧ OwnL (q + 1) ((w2.setCell ⟨q, 0, none⟩ (.slice xa' A'.length xc')).setCell ⟨q, 1, none⟩ (.slice ya' B'.length yc')) b1 d1 ((n0 : Int) :: wordsS l0) ∧ OwnL (q + 1) ((w2.setCell ⟨q, 0, none⟩ (.slice xa' A'.length xc')).setCell ⟨q, 1, none⟩ (.slice ya' B'.length yc')) b2 d2 nx) := hidI ⟨xa', xc', A', ya', yc', B', HFJ.out.put hg2' r1 r2 HFI.out.1, HFI.out.2, own_but (HLL.out.1.kept hg2') gS (Nat.lt_succ_self _), own_but (HLL.out.2.kept hg2') gS (Nat.lt_succ_self _)⟩
              clear gS HFI r1 r2 hg2 hg2' bx2
              go_wp2_with fail
              go_meet
              exact ⟨rfl, NEW1⟩)
          case rest =>
          obtain ⟨rfl, HC⟩ := hcut
          obtain ⟨xa3, xc3, A', ya3, yc3, B', hFC, hway, hL, hN⟩ := HC.out
          clear HC cX cP' HTS HBX HFJ HLL y0 y1 q0 q1 q2 q3
          have cNw := facedNewest_any A' B' _ _ _ hFC.fine.1 hFC.fine.2.1 hFC.ra hFC.rb (by have := hFC.fine.2.2.1; unfold maxLen; omega) (by have := hFC.fine.2.2.2; unfold maxLen; omega) (hB.grown hFC.gr)
          have s0 : World.cell? _ ⟨q, 0, none⟩ = some (.slice xa3 A'.length xc3) := at_cell hFC.box 0
          have s1 : World.cell? _ ⟨q, 1, none⟩ = some (.slice ya3 B'.length yc3) := at_cell hFC.box 1
          have HFC := hidI hFC
          have HLC := hidI (And.intro hL hN)
          clear hFC hL hN
          rcases hway with h | ⟨hj2, h⟩
          · rw [h, HWS.out, HEE.out] at cNw
            clear h
            go_wp2_with fail
            refine cNw.mono ?_
            rintro e w6 ⟨ga3, gc3, rfl, hoG, hg6⟩
            have hrG := hoG.rd
            have hrL := (HLC.out.1.kept hg6).rd
            rw [List.length_cons, HW1.out] at hrG hrL ⊢
            have cEq := equal_any ((n0 : Int) :: wordsS l0) ((n0 : Int) :: wordsS l0) _ _ w6 hrG hrL (by rw [List.length_cons, HW1.out]; omega) (by rw [List.length_cons, HW1.out]; omega)
            simp only [decide_true] at cEq
            clear hoG hrG hrL s0 s1
            go_wp2_with fail
            refine cEq.mono ?_
            rintro e WT ⟨rfl, hg7⟩
            have hFT := HFC.out.grow (grown_join hg6 hg7 (.inl rfl))
            clear cEq HFC HLC hg6 hg7
            clear cNw
            have cS2 := saved_q A' B' (wordsS l2) _ _ _ WT hFT.fine hFT.ra hFT.rb hFT.o2.rd (by rw [HW2.out]; omega) (wordsS_ok l2) (look_wordsN l2 A' B') (hB.grown hFT.gr)
            rw [HW2.out] at cS2
            have t0 : WT.cell? ⟨q, 0, none⟩ = some (.slice xa3 A'.length xc3) := at_cell hFT.box 0
            have t1 : WT.cell? ⟨q, 1, none⟩ = some (.slice ya3 B'.length yc3) := at_cell hFT.box 1
            have HFT := hidI hFT
            clear hFT
            go_wp2_with fail
            refine cS2.mono ?_
            rintro e w6 ⟨xa', xc', ya', yc', A2, B2, rfl, r1, r2, ⟨hFi, hw, he⟩, hg6⟩
            have bx := (HFT.out.grow hg6).box
            have f0 := at_frozen bx 0
            have f1 := at_frozen bx 1
            have v0 : w6.cell? ⟨q, 0, none⟩ = some (.slice xa3 A'.length xc3) := at_cell bx 0
            have v1 : w6.cell? ⟨q, 1, none⟩ = some (.slice ya3 B'.length yc3) := at_cell bx 1
            have hFE := HFT.out.put hg6 r1 r2 hFi
            have cN2 := facedNewest_any A2 B2 _ _ _ hFi.1 hFi.2.1 hFE.ra hFE.rb (by have := hFi.2.2.1; unfold maxLen; omega) (by have := hFi.2.2.2; unfold maxLen; omega) (hB.grown hFE.gr)
            rw [hw, he] at cN2
            have HFE := hidI hFE
            clear cS2 t0 t1 r1 r2 hFi hw he hg6 bx hFE HFT
            go_wp2_with fail
            refine cN2.mono ?_
            rintro e w7 ⟨ga2, gc2, rfl, hoG, hg7⟩
            have hFZ := HFE.out.grow hg7
            have hrG := hoG.rd
            have hrL := hFZ.o2.rd
            rw [HW2.out] at hrG hrL ⊢
            have cE2 := equal_any (wordsS l2) (wordsS l2) _ _ w7 hrG hrL (by rw [HW2.out]; omega) (by rw [HW2.out]; omega)
            simp only [decide_true] at cE2
            have HGZ := hidI hFZ.gr
            clear cN2 hoG hrG hrL hFZ HFE f0 f1 v0 v1
            go_wp2_with fail
            refine cE2.mono ?_
            rintro e w8' ⟨rfl, hg8'⟩
            go_wp2
            go_ret
            exact ⟨rfl, grown_join HGZ.out hg8' (.inl rfl)⟩
          · rw [h] at cNw
            dsimp only at cNw
            clear h
            have hnl := HNP.out.1
            go_wp2_with fail
            refine cNw.mono ?_
            rintro e w6 ⟨ga3, gc3, rfl, hoG, hg6⟩
            have hrG := hoG.rd
            have hrL := (HLC.out.1.kept hg6).rd
            have hrN := fun (V : World) (hV : w6.grownBy V none) => rd_grown (HLC.out.2.kept hg6).rd hV
            have hrG2 := fun (V : World) (hV : w6.grownBy V none) => rd_grown hoG.rd hV
            rw [List.length_cons, HW1.out] at hrL
            rw [hnl] at hrG hrN hrG2 ⊢
            have HNL := hidI hnl
            have cEq := equal_any nx ((n0 : Int) :: wordsS l0) _ _ w6 hrG hrL (by rw [hnl]; omega) (by rw [List.length_cons, HW1.out]; omega)
            clear hoG hrG hrL s0 s1 hnl
            have hj2' : (j : Int) = 2 := by omega
            by_cases hsame : nx = (n0 : Int) :: wordsS l0
            · have hd : decide (nx = (n0 : Int) :: wordsS l0) = true := by simpa using hsame
              rw [hd] at cEq
              clear hd hsame hrN hrG2
              go_wp2_with fail
              refine cEq.mono ?_
              rintro e WT ⟨rfl, hg7⟩
              have hFT := HFC.out.grow (grown_join hg6 hg7 (.inl rfl))
              clear cEq HFC HLC hg6 hg7
              clear cNw
              have cS2 := saved_q A' B' (wordsS l2) _ _ _ WT hFT.fine hFT.ra hFT.rb hFT.o2.rd (by rw [HW2.out]; omega) (wordsS_ok l2) (look_wordsN l2 A' B') (hB.grown hFT.gr)
              rw [HW2.out] at cS2
              have t0 : WT.cell? ⟨q, 0, none⟩ = some (.slice xa3 A'.length xc3) := at_cell hFT.box 0
              have t1 : WT.cell? ⟨q, 1, none⟩ = some (.slice ya3 B'.length yc3) := at_cell hFT.box 1
              have HFT := hidI hFT
              clear hFT
              go_wp2_with fail
              refine cS2.mono ?_
              rintro e w6 ⟨xa', xc', ya', yc', A2, B2, rfl, r1, r2, ⟨hFi, hw, he⟩, hg6⟩
              have bx := (HFT.out.grow hg6).box
              have f0 := at_frozen bx 0
              have f1 := at_frozen bx 1
              have v0 : w6.cell? ⟨q, 0, none⟩ = some (.slice xa3 A'.length xc3) := at_cell bx 0
              have v1 : w6.cell? ⟨q, 1, none⟩ = some (.slice ya3 B'.length yc3) := at_cell bx 1
              have hFE := HFT.out.put hg6 r1 r2 hFi
              have cN2 := facedNewest_any A2 B2 _ _ _ hFi.1 hFi.2.1 hFE.ra hFE.rb (by have := hFi.2.2.1; unfold maxLen; omega) (by have := hFi.2.2.2; unfold maxLen; omega) (hB.grown hFE.gr)
              rw [hw, he] at cN2
              have HFE := hidI hFE
              clear cS2 t0 t1 r1 r2 hFi hw he hg6 bx hFE HFT
              go_wp2_with fail
              refine cN2.mono ?_
              rintro e w7 ⟨ga2, gc2, rfl, hoG, hg7⟩
              have hFZ := HFE.out.grow hg7
              have hrG := hoG.rd
              have hrL := hFZ.o2.rd
              rw [HW2.out] at hrG hrL ⊢
              have cE2 := equal_any (wordsS l2) (wordsS l2) _ _ w7 hrG hrL (by rw [HW2.out]; omega) (by rw [HW2.out]; omega)
              simp only [decide_true] at cE2
              have HGZ := hidI hFZ.gr
              clear cN2 hoG hrG hrL hFZ HFE f0 f1 v0 v1
              go_wp2_with fail
              refine cE2.mono ?_
              rintro e w8' ⟨rfl, hg8'⟩
              go_wp2
              go_ret
              exact ⟨rfl, grown_join HGZ.out hg8' (.inl rfl)⟩
            · have hd : decide (nx = (n0 : Int) :: wordsS l0) = false := by simpa using hsame
              rw [hd] at cEq
              clear hd hsame
              go_wp2_with fail
              refine cEq.mono ?_
              rintro e w7 ⟨rfl, hg7⟩
              have cE2 := equal_any nx nx _ _ w7 (hrG2 w7 hg7) (hrN w7 hg7) (by rw [HNL.out]; omega) (by rw [HNL.out]; omega)
              simp only [decide_true] at cE2
              clear cEq hrN hrG2
              go_wp2_with fail
              refine cE2.mono ?_
              rintro e WT ⟨rfl, hg8⟩
              have hFT := HFC.out.grow (grown_join (grown_join hg6 hg7 (.inl rfl)) hg8 (.inl rfl))
              clear cE2 HFC HLC hg6 hg7 hg8
              clear cNw
              have cS2 := saved_q A' B' (wordsS l2) _ _ _ WT hFT.fine hFT.ra hFT.rb hFT.o2.rd (by rw [HW2.out]; omega) (wordsS_ok l2) (look_wordsN l2 A' B') (hB.grown hFT.gr)
              rw [HW2.out] at cS2
              have t0 : WT.cell? ⟨q, 0, none⟩ = some (.slice xa3 A'.length xc3) := at_cell hFT.box 0
              have t1 : WT.cell? ⟨q, 1, none⟩ = some (.slice ya3 B'.length yc3) := at_cell hFT.box 1
              have HFT := hidI hFT
              clear hFT
              go_wp2_with fail
              refine cS2.mono ?_
              rintro e w6 ⟨xa', xc', ya', yc', A2, B2, rfl, r1, r2, ⟨hFi, hw, he⟩, hg6⟩
              have bx := (HFT.out.grow hg6).box
              have f0 := at_frozen bx 0
              have f1 := at_frozen bx 1
              have v0 : w6.cell? ⟨q, 0, none⟩ = some (.slice xa3 A'.length xc3) := at_cell bx 0
              have v1 : w6.cell? ⟨q, 1, none⟩ = some (.slice ya3 B'.length yc3) := at_cell bx 1
              have hFE := HFT.out.put hg6 r1 r2 hFi
              have cN2 := facedNewest_any A2 B2 _ _ _ hFi.1 hFi.2.1 hFE.ra hFE.rb (by have := hFi.2.2.1; unfold maxLen; omega) (by have := hFi.2.2.2; unfold maxLen; omega) (hB.grown hFE.gr)
              rw [hw, he] at cN2
              have HFE := hidI hFE
              clear cS2 t0 t1 r1 r2 hFi hw he hg6 bx hFE HFT
              go_wp2_with fail
              refine cN2.mono ?_
              rintro e w7 ⟨ga2, gc2, rfl, hoG, hg7⟩
              have hFZ := HFE.out.grow hg7
              have hrG := hoG.rd
              have hrL := hFZ.o2.rd
              rw [HW2.out] at hrG hrL ⊢
              have cE2 := equal_any (wordsS l2) (wordsS l2) _ _ w7 hrG hrL (by rw [HW2.out]; omega) (by rw [HW2.out]; omega)
              simp only [decide_true] at cE2
              have HGZ := hidI hFZ.gr
              clear cN2 hoG hrG hrL hFZ HFE f0 f1 v0 v1
              go_wp2_with fail
              refine cE2.mono ?_
              rintro e w8' ⟨rfl, hg8'⟩
              go_wp2
              go_ret
              exact ⟨rfl, grown_join HGZ.out hg8' (.inl rfl)⟩
end Go.Proofs.YtlbipcecdcmgdaaDoor
