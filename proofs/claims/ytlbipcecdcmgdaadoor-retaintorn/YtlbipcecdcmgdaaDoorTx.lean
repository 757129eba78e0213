/- A save, a step of a save, a number ahead of words: in the form that the law of a torn save wants. -/
import Derived.Test.YtlbipcecdcmgdaaDoorPv
namespace Go.Proofs.YtlbipcecdcmgdaaDoor
open Go.RowKit
set_option linter.unusedVariables false
set_option linter.unusedSimpArgs false

def Fine (A B : List Nat) : Prop := isB A ∧ isB B ∧ A.length ≤ 2000 ∧ B.length ≤ 2000
/-- Two slots come back. -/
def TwoE (w w' : World) (e : Ending) (R : List Nat → List Nat → Prop) : Prop := ∃ xa xc ya yc A' B', e = .returned (.tuple #[.agg #[.slice xa A'.length xc, .slice ya B'.length yc], .bool true]) ∧ rdB w' (.slice xa A'.length xc) A' ∧ rdB w' (.slice ya B'.length yc) B' ∧ R A' B' ∧ w.grownBy w' none
theorem DoneP.two {w w' : World} {e : Ending} {sl : Nat} {a b : Value} {T A B : List Nat} (h : DoneP w w' e sl a b T) (hsl : sl = 0 ∨ sl = 1) (ha : rdB w a A) (hb : rdB w b B) : TwoE w w' e (fun A' B' => A' = (if sl = 0 then T else A) ∧ B' = (if sl = 0 then B else T)) := by
  obtain ⟨x, c, rfl, ho, hg⟩ := h
  obtain ⟨aa, ac, rfl, _⟩ := id ha
  obtain ⟨ba, bc, rfl, _⟩ := id hb
  rcases hsl with rfl | rfl
  · exact ⟨x, c, ba, bc, T, B, rfl, ho.rd, rdB_grown hb hg, ⟨rfl, rfl⟩, hg⟩
  · exact ⟨aa, ac, x, c, A, T, rfl, rdB_grown ha hg, ho.rd, ⟨rfl, rfl⟩, hg⟩
theorem fine_torn {A B : List Nat} {l : List Int} (hF : Fine A B) (hl : l.length ≤ 201) (n sl k c : Nat) (hk : k = 0 ∨ (k = 1 ∧ c ≤ (bodyS l).length) ∨ (k = 2 ∧ c ≤ 16)) (F : List Nat)
    (hT : F = tornS (if sl = 0 then A else B) (bodyS l) (headS l n) k c) : Fine (if sl = 0 then F else A) (if sl = 0 then B else F) := by
  obtain ⟨ba, bb, la, lb⟩ := hF
  have hS : isB (if sl = 0 then A else B) := by split <;> assumption
  have hb := tornS_B hS (bodyS_B l) (headS_B l n) k c
  have hbl := bodyS_len l
  have hn := tornS_len (if sl = 0 then A else B) (bodyS l) (headS l n) k c hk (by omega)
  rw [← hT] at hb hn
  by_cases h0 : sl = 0
  · simp only [if_pos h0] at hn ⊢
    exact ⟨hb, bb, by omega, lb⟩
  · simp only [if_neg h0] at hn ⊢
    exact ⟨ba, hb, la, by omega⟩
theorem saved_q (A B : List Nat) (l : List Int) (a b u : Value) (w : World) (hF : Fine A B) (ha : rdB w a A) (hb : rdB w b B) (hu : rd w u l) (hl : l.length ≤ 201) (hall : l.all okW = true) (hlook : lookE l ((nextS A B).2 : Int) = 0) (hB : Beg w) :
    Calls Tryd.prog 24 #[.agg #[a, b], u] w fun e w' => TwoE w w' e (fun A' B' => Fine A' B' ∧ (newS A' B').ws = l ∧ (newS A' B').e = 0) := by
  have hF' := hF
  obtain ⟨ba, bb, la, lb⟩ := hF'
  refine (saved_any A B l a b u w ba bb ha hb hu (by omega) (by omega) hlook hB).mono ?_
  intro e w' h
  obtain ⟨xa, xc, ya, yc, A', B', he, h1, h2, ⟨hA, hB'⟩, hg⟩ := h.two (next_le A B) ha hb
  have hw := newS_whole (l := l) ba bb (by omega) hall (next_lt A B) _ rfl
  have hf := fine_torn hF hl (nextS A B).2 (nextS A B).1 2 (headS l (nextS A B).2).length (.inr (.inr ⟨rfl, by rw [headS_len]; exact Nat.le_refl _⟩)) _ rfl
  simp only [tornS, show ¬ (2 : Nat) = 0 by omega, show ¬ (2 : Nat) = 1 by omega, if_false] at hf
  rw [← hA, ← hB'] at hw hf
  exact ⟨xa, xc, ya, yc, A', B', he, h1, h2, ⟨hf, by rw [hw], by rw [hw]⟩, hg⟩
def lenK (S BD HD : List Nat) (k : Nat) : Nat := if k = 0 then S.length else if k = 1 then BD.length else HD.length
theorem torn_all (S BD HD : List Nat) (k : Nat) (hk : k < 3) : tornS S BD HD k (lenK S BD HD k) = stS S BD HD (k + 1) := by
  have h3 : k = 0 ∨ k = 1 ∨ k = 2 := by omega
  rcases h3 with rfl | rfl | rfl <;> rfl
theorem step_q {W0 W : World} {g sl : Nat} {BD HD : List Nat} {va : Option Addr} {vc : Nat} {va' : Option Addr} {vc' B1 : Nat} (hV : SvOk W0 W g sl BD HD va vc va' vc' B1) (hsl : sl = 0 ∨ sl = 1) (A B : List Nat) (la : A.length ≤ 2000) (lb : B.length ≤ 2000) (hH : HD.length = 16 ∧ BD.length ≤ 9000 ∧ 0 < BD.length) (k : Nat) (hk : k < 3) :
    ∃ (er : Bool) (at_ : Nat) (da : Option Addr) (dn dc : Nat), W.cell? ⟨g, k * 4, none⟩ = some (.int .i64 (sl : Int)) ∧ W.cell? ⟨g, k * 4 + 1, none⟩ = some (.bool er) ∧ W.cell? ⟨g, k * 4 + 2, none⟩ = some (.int .i64 (at_ : Int)) ∧ W.cell? ⟨g, k * 4 + 3, none⟩ = some (.slice da dn dc) ∧ dn = lenK [] BD HD k ∧
      ∀ (V : World) (X Y : Value) (pt : Int), W.grownBy V none → rdB V X (if sl = 0 then stS A BD HD k else A) → rdB V Y (if sl = 0 then B else stS B BD HD k) →
        Calls Tryd.prog 26 #[.agg #[X, Y], .agg #[.int .i64 (sl : Int), .bool er, .int .i64 (at_ : Int), .slice da dn dc], .int .i64 pt] V fun e w' => TwoE V w' e (fun A' B' => A' = (if sl = 0 then tornS A BD HD k (upToN pt (lenK A BD HD k)) else A) ∧ B' = (if sl = 0 then B else tornS B BD HD k (upToN pt (lenK B BD HD k)))) := by
  have hrow := hV.row
  have h3 : k = 0 ∨ k = 1 ∨ k = 2 := by omega
  have hup : ∀ (pt : Int) (n : Nat), upToN pt n ≤ n := fun pt n => by unfold upToN; split <;> omega
  rcases hsl with rfl | rfl
  · simp only [if_true]
    rcases h3 with rfl | rfl | rfl
    · refine ⟨true, 0, none, 0, 0, at_cell hrow _, at_cell hrow _, at_cell hrow _, at_cell hrow _, rfl, fun V X Y pt hg hX hY => ?_⟩
      refine (done_erase A B X Y 0 pt V hX hY (.inl rfl) (by omega) (by omega) A rfl).mono ?_
      intro e w' h
      have t := h.two (.inl rfl) hX hY
      simp only [if_true] at t
      exact t
    · refine ⟨false, 16, va', BD.length, vc', at_cell hrow _, at_cell hrow _, at_cell hrow _, at_cell hrow _, rfl, fun V X Y pt hg hX hY => ?_⟩
      refine (done_write (stS A BD HD 1) B BD X Y _ 0 16 pt V hX hY (rdB_grown hV.obd.rd hg) (.inl rfl) (by simp only [stS, erS_len]; omega) (by omega) (by omega) (stS A BD HD 1) rfl (bodyW_free A BD _)).mono ?_
      intro e w' h
      have t := h.two (.inl rfl) hX hY
      simp only [if_true] at t
      exact t
    · have hbl := bodyW_len A BD hH.2.2
      refine ⟨false, 0, va, HD.length, vc, at_cell hrow _, at_cell hrow _, at_cell hrow _, at_cell hrow _, rfl, fun V X Y pt hg hX hY => ?_⟩
      refine (done_write (stS A BD HD 2) B HD X Y _ 0 0 pt V hX hY (rdB_grown hV.ohd.rd hg) (.inl rfl) (by simp only [stS]; omega) (by omega) (by omega) (stS A BD HD 2) rfl (headW_free A BD HD _ (by have := hup pt HD.length; omega))).mono ?_
      intro e w' h
      have t := h.two (.inl rfl) hX hY
      simp only [if_true] at t
      exact t
  · simp only [show ¬ (1 : Nat) = 0 by omega, if_false]
    rcases h3 with rfl | rfl | rfl
    · refine ⟨true, 0, none, 0, 0, at_cell hrow _, at_cell hrow _, at_cell hrow _, at_cell hrow _, rfl, fun V X Y pt hg hX hY => ?_⟩
      refine (done_erase A B X Y 1 pt V hX hY (.inr rfl) (by omega) (by omega) B rfl).mono ?_
      intro e w' h
      have t := h.two (.inr rfl) hX hY
      simp only [show ¬ (1 : Nat) = 0 by omega, if_false] at t
      exact t
    · refine ⟨false, 16, va', BD.length, vc', at_cell hrow _, at_cell hrow _, at_cell hrow _, at_cell hrow _, rfl, fun V X Y pt hg hX hY => ?_⟩
      refine (done_write A (stS B BD HD 1) BD X Y _ 1 16 pt V hX hY (rdB_grown hV.obd.rd hg) (.inr rfl) (by omega) (by simp only [stS, erS_len]; omega) (by omega) (stS B BD HD 1) rfl (bodyW_free B BD _)).mono ?_
      intro e w' h
      have t := h.two (.inr rfl) hX hY
      simp only [show ¬ (1 : Nat) = 0 by omega, if_false] at t
      exact t
    · have hbl := bodyW_len B BD hH.2.2
      refine ⟨false, 0, va, HD.length, vc, at_cell hrow _, at_cell hrow _, at_cell hrow _, at_cell hrow _, rfl, fun V X Y pt hg hX hY => ?_⟩
      refine (done_write A (stS B BD HD 2) HD X Y _ 1 0 pt V hX hY (rdB_grown hV.ohd.rd hg) (.inr rfl) (by omega) (by simp only [stS]; omega) (by omega) (stS B BD HD 2) rfl (headW_free B BD HD _ (by have := hup pt HD.length; omega))).mono ?_
      intro e w' h
      have t := h.two (.inr rfl) hX hY
      simp only [show ¬ (1 : Nat) = 0 by omega, if_false] at t
      exact t
theorem st_len (S BD HD : List Nat) (hH : HD.length = 16 ∧ BD.length ≤ 9000 ∧ 0 < BD.length) (k : Nat) (hS : S.length ≤ 2000) : (stS S BD HD k).length ≤ 20000 := by
  have hbl := bodyW_len S BD hH.2.2
  have hhl := headW_len S BD HD 16 (by omega) hH.2.2
  match k with
  | 0 => simp only [stS]; omega
  | 1 => simp only [stS, erS_len]; omega
  | 2 => simp only [stS]; omega
  | n + 3 => simp only [stS, hH.1]; omega
theorem run_lead_none {w : World} {g n cap c' : Nat} (hn : n ≤ cap) : (Builtin.append_ #[22, 22] 22 #[.slice (some ⟨g, 0, none⟩) n cap, .slice none 0 c']).run Tryd.prog w = .ok (.slice (some ⟨g, 0, none⟩) n cap) w := by
  obtain ⟨i0, hi, hz0, hz1, hz2⟩ := info_parts info3
  simp [Builtin.append_, run_underlying Tryd.underlying22, sizeOf, typeInfo, hi, Builtin.lenOf, Builtin.firstCells, loadCells, loadCellsFrom, storeCells, hn]
/-- A number ahead of numbers. -/
theorem lead {w : World} {a : Option Addr} {c : Nat} {l : List Int} (h : rd w (.slice a l.length c) l) (hl : l.length ≤ 1000) (x : Int) :
    ∃ a' cap' w', (Builtin.append_ #[22, 22] 22 #[.slice (some ⟨w.heap.size, 0, none⟩) 1 1, .slice a l.length c]).run Tryd.prog (w.alloc (.cells #[.int .i64 x] 3)) = .ok (.slice a' (x :: l).length cap') w' ∧ OwnL w.heap.size w' a' cap' (x :: l) ∧ w.grownBy w' none := by
  have hg0 : w.grownBy (w.alloc (.cells #[.int .i64 x] 3)) none := gr_alloc (World.grownBy.refl _ _) _
  have hown : OwnL w.heap.size (w.alloc (.cells #[.int .i64 x] 3)) (some ⟨w.heap.size, 0, none⟩) 1 [x] := ⟨rfl, .inr ⟨w.heap.size, 1, #[.int .i64 x], rfl, Nat.le_refl _, heap_alloc_new _ _, Nat.le_refl _, by first | rfl | decide | simp, by first | rfl | simp, by first | rfl | simp⟩⟩
  obtain ⟨i0, hi, hz0, hz1, hz2⟩ := info_parts info3
  have h' := rd_grown h hg0
  obtain ⟨a0, c0, he, hc⟩ := h'
  injection he with e1 e2 e3
  subst e1 e3
  cases a with
  | none =>
    rcases hc with rfl | ⟨b, off, e, _⟩
    · exact ⟨_, _, _, run_lead_none (Nat.le_refl _), hown, hg0⟩
    · cases e
  | some ad =>
    obtain ⟨v', w', r1, r2, r3, r4, r5⟩ := run_append_own_at (P := Tryd.prog) (w.alloc (.cells #[.int .i64 x] 3)) w.heap.size 22 22 3 i0 _ 1 8 Tryd.underlying22 hi hz0 hz1 hz2 rfl (by omega) _ _ _ hown ad l.length c (l.map (Value.int .i64)) (by simp)
      (fun j u hj => by
        rcases hc with rfl | ⟨b, off, e, hcell⟩
        · simp at hj
        · injection e with e
          subst e
          have hj' : j < l.length := by
            rcases Nat.lt_or_ge j l.length with h | h
            · exact h
            · rw [List.getElem?_eq_none (by simpa using h)] at hj
              cases hj
          rw [addn, hcell j hj']
          rw [List.getElem?_map] at hj
          simp [hj'] at hj
          simp [List.getD, hj', hj])
      (by intro u hu; simp at hu; obtain ⟨y, _, rfl⟩ := hu; rfl) (by unfold maxLen; simp; omega) (by simp; omega) (by simp)
    have r2' := r2
    obtain ⟨_, ⟨hx, hn⟩ | ⟨g', cap', cur, rfl, _⟩⟩ := r2'
    · simp at hn
    · refine ⟨some ⟨g', 0, none⟩, cap', w', ?_, ?_, grown_join hg0 r3 (.inr fun y hy => ?_)⟩
      · refine Eq.trans r1 ?_; simp [Nat.add_comm]
      · unfold OwnL
        have : 1 + l.length = (x :: l).length := by simp [Nat.add_comm]
        simpa [Nat.add_comm] using r2
      · have := World.ownsRow.lt hown y hy
        omega
end Go.Proofs.YtlbipcecdcmgdaaDoor
