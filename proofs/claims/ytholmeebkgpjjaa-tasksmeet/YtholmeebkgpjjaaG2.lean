/- slices.insertionSortCmpFunc over places of tasks. -/
import Derived.Test.YtholmeebkgpjjaaG
namespace Go.Proofs.Ytholmeebkgpjjaa
open Go.RowKit
attribute [local go_sem ↓] Go.wp_at_zero Go.wp_at_succ
set_option linter.unusedVariables false
set_option linter.unusedSimpArgs false

theorem hide {p : Prop} (h : p) : Hid p := h
/-- Places, in a row of one's own of a known length. -/
def OwnN (B : Nat) (w : World) (g cap n : Nat) (L : List Nat) : Prop := L.length = n ∧ w.ownsRow B 3 1 (.slice (some ⟨g, 0, none⟩) n cap) n (L.map fun x : Nat => Value.int .i64 (x : Int))
theorem OwnN.get {B : Nat} {w : World} {g cap n : Nat} {L : List Nat} (h : OwnN B w g cap n L) (i : Nat) (hi : i < n) : w.cell? ⟨g, i, none⟩ = some (.int .i64 (L.getD i 0 : Nat)) := by
  obtain ⟨hl, h⟩ := h
  rw [World.ownsRow.cellAt h i (by omega)]
  have hi' : i < L.length := by omega
  simp [hi']
theorem OwnN.frozen {B : Nat} {w : World} {g cap n : Nat} {L : List Nat} (h : OwnN B w g cap n L) (k : Nat) : w.frozen? ⟨g, k, none⟩ = false := by
  obtain ⟨hl, h1, h2 | ⟨g', cap', cur, e, hb, hc, hn, hm, hs, ht⟩⟩ := h
  · simp at h2
  · simp at e
    obtain ⟨rfl, rfl⟩ := e
    exact at_frozen hc k
theorem OwnN.store {B : Nat} {w : World} {g cap n : Nat} {L : List Nat} (h : OwnN B w g cap n L) (k x : Nat) : OwnN B (w.setCell ⟨g, k, none⟩ (.int .i64 (x : Int))) g cap n (L.set k x) := by
  obtain ⟨hl, h1, h2 | ⟨g', cap', cur, e, hb, hc, hn, hm, hs, ht⟩⟩ := h
  · simp at h2
  · simp at e
    obtain ⟨rfl, rfl⟩ := e
    refine ⟨by simpa using hl, by simpa using h1, .inr ⟨g, cap, cur.setIfInBounds k (.int .i64 x), by simp, hb, at_set hc k _, by simpa using hn, hm, by simpa using hs, ?_⟩⟩
    rw [Array.toList_setIfInBounds, List.take_set, ht, List.map_set]
theorem OwnN.drewN {B : Nat} {w : World} {g cap n : Nat} {L : List Nat} (h : OwnN B w g cap n L) (m : Nat) : OwnN B (w.drewN m) g cap n L := h
theorem OwnN.lt {B : Nat} {w : World} {g cap n : Nat} {L : List Nat} (h : OwnN B w g cap n L) : g < w.heap.size := (World.ownsRow.lt h.2 g rfl).2

theorem swap_list {α : Type} (A : List α) (y x : α) (T : List α) : ((A ++ y :: x :: T).set (A.length + 1) y).set A.length x = A ++ x :: y :: T := by
  induction A with
  | nil => rfl
  | cons a A ih => simp
theorem get_mid {A : List Nat} {y x : Nat} {T : List Nat} : (A ++ y :: x :: T).getD A.length 0 = y ∧ (A ++ y :: x :: T).getD (A.length + 1) 0 = x := by
  constructor <;> simp [List.getD]
theorem cmp_neg {x y : Int} : (cmpV x y < 0) ↔ x < y := by
  unfold cmpV
  split
  · simp; assumption
  · split <;> simp <;> omega

set_option maxHeartbeats 4000000 in
theorem ins_any (l : List Tk) (B g cap n p : Nat) (v : Value) (w : World) (hn : n = l.length) (h1 : 1 ≤ n) (h16 : n ≤ 16)
    (ho : OwnN B w g cap n (List.range n)) (hT : ∀ W, w.grownBy W (some g) → TsAt W v l ∧ W.cell? ⟨p, 0, none⟩ = some v) :
    Calls Try.prog 47 #[.slice (some ⟨g, 0, none⟩) n cap, .int .i64 0, .int .i64 n, .func (.func 35) #[] #[.pointer (some ⟨p, 0, none⟩)]] w fun e w' => e = .returned (.tuple #[]) ∧ OwnN B w' g cap n (srt l n) ∧ w.grownBy w' (some g) := by
  have cD : ∀ i j W, w.grownBy W (some g) → i < n → j < n → Calls Try.prog 35 #[.int .i64 i, .int .i64 j, .pointer (some ⟨p, 0, none⟩)] W fun e w' => e = .returned (.int .i64 (cmpV (dl l i) (dl l j))) ∧ ∃ m, w' = W.drewN m := fun i j W hW hi hj => dead_any l i j p v W (by omega) (by omega) (by omega) (hT W hW).1 (hT W hW).2
  have hst : List.range n = srt l 1 ++ (List.range n).drop 1 := by
    have e : srt l 1 = [0] := rfl
    rw [e]
    cases n with
    | zero => omega
    | succ n => rw [List.range_succ_eq_map]; rfl
  rw [hst] at ho
  have HN : Hid (n = l.length) := hn
  have HT : Hid (∀ W, w.grownBy W (some g) → TsAt W v l ∧ W.cell? ⟨p, 0, none⟩ = some v) := hT
  clear hst hn hT
  go_enter Try.func47, Try.ntmps47
  go_wp2_with fail
  go_loopw [8] (fun s wx => ∃ i : Nat, 1 ≤ i ∧ i ≤ n ∧ s = .int .i64 i ∧ Hid (OwnN B wx g cap n (srt l i ++ (List.range n).drop i)) ∧ w.grownBy wx (some g)) (fun s _ => n - (intOf s).toNat)
  case atStart => exact ⟨1, by omega, by omega, rfl, ho, World.grownBy.refl _ _⟩
  case round =>
    obtain ⟨i, hi1, hin, rfl, HO, hg⟩ := hrel
    by_cases hlt : i < n
    · have hdrop : (List.range n).drop i = i :: (List.range n).drop (i + 1) := by
        rw [List.drop_eq_getElem_cons (by simpa using hlt)]
        simp
      have ho2 := HO.out
      rw [hdrop] at ho2
      have HD : Hid ((List.range n).drop i = i :: (List.range n).drop (i + 1)) := hdrop
      clear hdrop
      have h0 : Hid (OwnN B wr g cap n (srt l i ++ i :: ([] ++ (List.range n).drop (i + 1)))) := by
        have e : OwnN B wr g cap n (srt l i ++ i :: ([] ++ (List.range n).drop (i + 1))) := ho2
        exact e
      clear ho2 HO
      go_wp2_with fail
      go_loopw [9] (fun s wx => ∃ (j : Nat) (A C : List Nat), s = .int .i64 j ∧ A.length = j ∧ j ≤ i ∧ Hid (A ++ C = srt l i) ∧ Hid (∀ b, b ∈ C → dl l i < dl l b) ∧ Hid (OwnN B wx g cap n (A ++ i :: (C ++ (List.range n).drop (i + 1)))) ∧ w.grownBy wx (some g)) (fun s _ => (intOf s).toNat)
      case atStart => exact ⟨i, srt l i, [], rfl, srt_len l i, Nat.le_refl _, hide (by simp), hide (by simp), h0.out, hg⟩
      case round =>
        obtain ⟨j, A, C, rfl, hA, hji, HA, HC, HO, hg2⟩ := hrel
        by_cases hj : j = 0
        · subst hj
          have hA0 : A = [] := List.length_eq_zero_iff.1 hA
          subst hA0
          have hfin := srt_done HA.out HC.out (by intro A' y h; simp at h)
          have HF : Hid (OwnN B wr g cap n (srt l (i + 1) ++ (List.range n).drop (i + 1))) := by
            have e := HO.out
            rw [hfin]
            exact hide e
          clear hfin
          have hd : decide ((0 : Int) < 0) = false := by decide
          go_wp2_with fail
          go_quiet (fail)
          go_wp2
          exact ⟨⟨i + 1, by omega, by omega, by go_num, HF.out.drewN _, gr_drewN hg2 _⟩, by simp [intOf]; omega⟩
        · obtain ⟨m, rfl⟩ : ∃ m, j = m + 1 := ⟨j - 1, by omega⟩
          obtain ⟨A', y, rfl⟩ : ∃ A' y, A = A' ++ [y] := by
            rcases List.eq_nil_or_concat A with h | ⟨A', y, h⟩
            · subst h; simp at hA
            · exact ⟨A', y, by rw [h, List.concat_eq_append]⟩
          have hAm : A'.length = m := by simpa using hA
          have hL : (A' ++ [y]) ++ i :: (C ++ (List.range n).drop (i + 1)) = A' ++ y :: i :: (C ++ (List.range n).drop (i + 1)) := by simp
          have ho := HO.out
          rw [hL] at ho
          have hgm := get_mid (A := A') (y := y) (x := i) (T := C ++ (List.range n).drop (i + 1))
          have q0 := ho.get m (by omega)
          have q1 := ho.get (m + 1) (by omega)
          rw [← hAm, hgm.1] at q0
          rw [← hAm, hgm.2] at q1
          rw [hAm] at q0 q1
          have z0 := ho.frozen m
          have z1 := ho.frozen (m + 1)
          have hyn : y < n := by
            have : y ∈ srt l i := by rw [← HA.out]; simp
            have := (srt_mem l).1 this
            omega
          have cC : ∀ k, Calls Try.prog 35 #[.int .i64 i, .int .i64 y, .pointer (some ⟨p, 0, none⟩)] (wr.drewN k) fun e w' => e = .returned (.int .i64 (cmpV (dl l i) (dl l y))) ∧ ∃ m, w' = wr.drewN m := fun k => (cD i y (wr.drewN k) (gr_drewN hg2 k) hlt hyn).mono fun e w' h => ⟨h.1, by
            obtain ⟨q, hq⟩ := h.2
            exact ⟨k + q, by rw [hq, World.drewN_drewN]⟩⟩
          have i1 : (0 : Int) ≤ (m : Int) := by omega
          have i2 : (m : Int) < (n : Int) := by omega
          have i3 : ((m + 1 : Nat) : Int) = (m : Int) + 1 := by omega
          have i4 : (m : Int) + 1 < (n : Int) := by omega
          have i5 : (0 : Int) ≤ (m : Int) + 1 := by omega
          have i6 : IntKind.i64.wrap ((m : Int) + 1 - 1) = (m : Int) := by rw [show (m : Int) + 1 - 1 = m by omega]; exact i64_id (by omega) (by omega)
          have hd : decide ((0 : Int) < (m : Int) + 1) = true := decide_eq_true (by omega)
          have HO2 : Hid (OwnN B wr g cap n (A' ++ y :: i :: (C ++ (List.range n).drop (i + 1)))) := ho
          clear ho hL hgm
          by_cases hcmp : dl l i < dl l y
          · have hcv : cmpV (dl l i) (dl l y) = -1 := by unfold cmpV; rw [if_pos hcmp]
            rw [hcv] at cC
            clear hcv
            go_wp2_with fail
            go_quiet ((go_at_call 35; exact cC _))
            go_wp2_with fail
            have p0 : (wr.drewN nq).cell? ⟨g, m, none⟩ = some (.int .i64 y) := q0
            have p1 : (wr.drewN nq).cell? ⟨g, m + 1, none⟩ = some (.int .i64 i) := q1
            have y0 : (wr.drewN nq).frozen? ⟨g, m, none⟩ = false := z0
            have y1 : (wr.drewN nq).frozen? ⟨g, m + 1, none⟩ = false := z1
            have HO3 : Hid (OwnN B (wr.drewN nq) g cap n (A' ++ y :: i :: (C ++ (List.range n).drop (i + 1)))) := HO2.out.drewN nq
            have HG3 : Hid (w.grownBy (wr.drewN nq) (some g)) := gr_drewN hg2 nq
            clear q0 q1 z0 z1 HO2 HO
            generalize wr.drewN nq = W at *
            go_region
            have hnew : OwnN B ((W.setCell ⟨g, m + 1, none⟩ (.int .i64 (y : Int))).setCell ⟨g, m, none⟩ (.int .i64 (i : Int))).drew g cap n (A' ++ i :: (y :: C ++ (List.range n).drop (i + 1))) := by
              have e := (HO3.out.store (m + 1) y).store m i
              have e2 := swap_list A' y i (C ++ (List.range n).drop (i + 1))
              rw [hAm] at e2
              rw [e2] at e
              exact e
            have HNEW : Hid (OwnN B ((W.setCell ⟨g, m + 1, none⟩ (.int .i64 (y : Int))).setCell ⟨g, m, none⟩ (.int .i64 (i : Int))).drew g cap n (A' ++ i :: (y :: C ++ (List.range n).drop (i + 1)))) := hnew
            have HNA : Hid (A' ++ y :: C = srt l i) := by
              have e := HA.out
              rw [List.append_assoc] at e
              exact hide e
            have HNC : Hid (∀ b, b ∈ y :: C → dl l i < dl l b) := by
              have e : ∀ b, b ∈ y :: C → dl l i < dl l b := fun b hb => by
                rcases List.mem_cons.1 hb with rfl | hb
                · exact hcmp
                · exact HC.out b hb
              exact hide e
            clear hnew hcmp
            go_wp2
            go_roundw
            case rel => exact ⟨m, A', y :: C, by go_num, hAm, by omega, HNA.out, HNC.out, HNEW.out, gr_drew (gr_set (gr_set HG3.out _ _) _ _)⟩
            case measure => simp [intOf]
          · have hcv : 0 ≤ cmpV (dl l i) (dl l y) := by
              have := cmp_neg (x := dl l i) (y := dl l y)
              omega
            have hfin := srt_done HA.out HC.out (by
              intro A2 y2 h
              have := List.append_inj' h rfl
              simp at this
              rw [← this.2]
              exact hcmp)
            generalize cmpV (dl l i) (dl l y) = cv at *
            have hd2 : decide (cv < 0) = false := by simp; omega
            have HF : Hid (OwnN B wr g cap n (srt l (i + 1) ++ (List.range n).drop (i + 1))) := by
              have e := HO2.out
              rw [hfin]
              have e2 : A' ++ [y] ++ i :: C ++ (List.range n).drop (i + 1) = A' ++ y :: i :: (C ++ (List.range n).drop (i + 1)) := by simp
              rw [e2]
              exact hide e
            clear hfin hcmp
            go_wp2_with fail
            go_quiet ((go_at_call 35; exact cC _))
            go_wp2
            exact ⟨⟨i + 1, by omega, by omega, by go_num, HF.out.drewN _, gr_drewN hg2 _⟩, by simp [intOf]; omega⟩
    · have HF : Hid (OwnN B wr g cap n (srt l n)) := by
        have e := HO.out
        rw [show i = n by omega, List.drop_of_length_le (by simp), List.append_nil] at e
        exact hide e
      go_wp2
      go_end0
      exact ⟨rfl, HF.out, hg⟩
end Go.Proofs.Ytholmeebkgpjjaa
