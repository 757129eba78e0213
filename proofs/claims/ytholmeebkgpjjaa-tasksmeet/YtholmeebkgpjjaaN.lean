/- MinFunc over jobs. -/
import Derived.Test.YtholmeebkgpjjaaM3
import Derived.Test.YtholmeebkgpjjaaG
namespace Go.Proofs.Ytholmeebkgpjjaa
open Go.RowKit
attribute [local go_sem ↓] Go.wp_at_zero Go.wp_at_succ
set_option linter.unusedVariables false
set_option linter.unusedSimpArgs false

theorem cell_lt {w : World} {b i : Nat} {v : Value} (h : w.cell? ⟨b, i, none⟩ = some v) : b < w.heap.size := by
  cases hb : w.heap[b]? with
  | none => simp [World.cell?, hb] at h
  | some o => exact at_lt hb
def jb0 : Jb := ⟨0, 0, 0, 0⟩
def jbV (j : Jb) : Value := .agg #[.int .i64 j.task, .int .i64 j.num, .int .i64 j.rel, .int .i64 j.left]
theorem cmp_neg' {x y : Int} : (cmpV x y < 0) ↔ x < y := by
  unfold cmpV
  split
  · simp; assumption
  · split <;> simp <;> omega
theorem less_any' (a b : Jb) (w : World) : Calls Try.prog 39 #[.agg #[.int .i64 a.task, .int .i64 a.num, .int .i64 a.rel, .int .i64 a.left], .agg #[.int .i64 b.task, .int .i64 b.num, .int .i64 b.rel, .int .i64 b.left]] w fun e w' => e = .returned (.int .i64 (cmpV a.rel b.rel)) ∧ w.grownBy w' none := by
  go_enter Try.func39, Try.ntmps39
  go_wp2_with (first | (go_at_call 36; refine (cmp_any _ _ _).mono ?_; rintro e w' ⟨rfl, rfl⟩))
  go_ret
  exact ⟨rfl, gr_alloc (gr_alloc (World.grownBy.refl _ _) _) _⟩
/-- Jobs that can be read. -/
def JsAt (w : World) (nb : Nat) (J : List Jb) : Prop := ∀ i, i < J.length → w.cell? ⟨nb, i * 4, none⟩ = some (.int .i64 (J.getD i jb0).task) ∧ w.cell? ⟨nb, i * 4 + 1, none⟩ = some (.int .i64 (J.getD i jb0).num) ∧ w.cell? ⟨nb, i * 4 + 2, none⟩ = some (.int .i64 (J.getD i jb0).rel) ∧ w.cell? ⟨nb, i * 4 + 3, none⟩ = some (.int .i64 (J.getD i jb0).left)
theorem JsAt.grown {w w' : World} {nb : Nat} {J : List Jb} (h : JsAt w nb J) (hg : w.grownBy w' none) : JsAt w' nb J := fun i hi =>
  ⟨hg.cell (h i hi).1 (by simp), hg.cell (h i hi).2.1 (by simp), hg.cell (h i hi).2.2.1 (by simp), hg.cell (h i hi).2.2.2 (by simp)⟩
set_option maxHeartbeats 4000000 in
theorem min_any (nb n cap : Nat) (J : List Jb) (w : World) (hJ : JsAt w nb J) (hn : J.length = n) (h1 : 1 ≤ n) (h16 : n ≤ 16) :
    Calls Try.prog 38 #[.slice (some ⟨nb, 0, none⟩) n cap, .func (.func 39) #[] #[]] w fun e w' => e = .returned (jbV (J.getD (minI (fun i => (J.getD i jb0).rel) (n - 1)) jb0)) ∧ w.grownBy w' none := by
  have HJ : Hid (JsAt w nb J) := hJ
  have HN : Hid (J.length = n) := hn
  obtain ⟨a0, a1, a2, a3⟩ := hJ 0 (by omega)
  rw [Nat.zero_mul] at a0
  simp only [Nat.zero_mul, Nat.zero_add] at a1 a2 a3
  have hlt0 : ¬ ((n : Int) < 1) := by omega
  have hnb := cell_lt a0
  have j1 : (0 : Int) < (n : Int) := by omega
  clear hJ hn
  have HB0 : Hid (∃ j, j = J.getD (minI (fun i => (J.getD i jb0).rel) 0) jb0) := ⟨_, rfl⟩
  generalize hj0 : J.getD 0 jb0 = j0 at *
  have HJ0 : Hid (j0 = J.getD (minI (fun i => (J.getD i jb0).rel) 0) jb0) := hj0.symm
  clear hj0
  go_enter Try.func38, Try.ntmps38
  go_wp2_with fail
  go_loopw [6] (fun s wx => ∃ (k : Nat) (m : Jb), 1 ≤ k ∧ k ≤ n ∧ s = .int .i64 k ∧ Hid (m = J.getD (minI (fun i => (J.getD i jb0).rel) (k - 1)) jb0) ∧ wx.heap[w.heap.size + 1]? = some (.cells #[.int .i64 m.task, .int .i64 m.num, .int .i64 m.rel, .int .i64 m.left] 63) ∧ (w.alloc (.cells #[.int .i64 0, .int .i64 0, .int .i64 0, .int .i64 0] 63)).grownBy wx none) (fun s _ => n - (intOf s).toNat)
  case atStart => exact ⟨1, j0, Nat.le_refl _, h1, rfl, HJ0.out, hp_new (by simp) _, gr_alloc (World.grownBy.refl _ _) _⟩
  case round =>
    obtain ⟨k, m, hk1, hkn, rfl, HM, hmb, hg⟩ := hrel
    have hgw := grown_join (gr_alloc (World.grownBy.refl w none) _) hg (.inl rfl)
    have hrb := kept hg (heap_alloc_new w _)
    have hml := at_lt hmb
    have m0 : wr.cell? ⟨w.heap.size + 1, 0, none⟩ = some (.int .i64 m.task) := at_cell hmb 0
    have m1 : wr.cell? ⟨w.heap.size + 1, 1, none⟩ = some (.int .i64 m.num) := at_cell hmb 1
    have m2 : wr.cell? ⟨w.heap.size + 1, 2, none⟩ = some (.int .i64 m.rel) := at_cell hmb 2
    have m3 : wr.cell? ⟨w.heap.size + 1, 3, none⟩ = some (.int .i64 m.left) := at_cell hmb 3
    by_cases hlt : k < n
    · obtain ⟨b0, b1, b2, b3⟩ := (HJ.out.grown hgw) k (by rw [HN.out]; exact hlt)
      have hstep : minI (fun i => (J.getD i jb0).rel) k = if (J.getD k jb0).rel < (J.getD (minI (fun i => (J.getD i jb0).rel) (k - 1)) jb0).rel then k else minI (fun i => (J.getD i jb0).rel) (k - 1) := by
        obtain ⟨k', rfl⟩ : ∃ k', k = k' + 1 := ⟨k - 1, by omega⟩
        rfl
      rw [← HM.out] at hstep
      have hyes : (J.getD k jb0).rel < m.rel → J.getD k jb0 = J.getD (minI (fun i => (J.getD i jb0).rel) k) jb0 := fun h => by rw [hstep, if_pos h]
      have hno : ¬ (J.getD k jb0).rel < m.rel → m = J.getD (minI (fun i => (J.getD i jb0).rel) k) jb0 := fun h => by rw [hstep, if_neg h]; exact HM.out
      have hcn := cmp_neg' (x := (J.getD k jb0).rel) (y := m.rel)
      generalize hjk : J.getD k jb0 = j at *
      have HYES : Hid (j.rel < m.rel → j = J.getD (minI (fun i => (J.getD i jb0).rel) k) jb0) := hyes
      have HNO : Hid (¬ j.rel < m.rel → m = J.getD (minI (fun i => (J.getD i jb0).rel) k) jb0) := hno
      have i1 : (0 : Int) ≤ (k : Int) := by omega
      have i2 : (k : Int) < (n : Int) := by omega
      have cC : ∀ W, wr.grownBy W none → Calls Try.prog 39 #[.agg #[.int .i64 j.task, .int .i64 j.num, .int .i64 j.rel, .int .i64 j.left], .agg #[.int .i64 m.task, .int .i64 m.num, .int .i64 m.rel, .int .i64 m.left]] W fun e w1 => e = .returned (.int .i64 (cmpV j.rel m.rel)) ∧ wr.grownBy w1 none := fun W hW => (less_any' j m W).mono fun e w1 h => ⟨h.1, grown_join hW h.2 (.inl rfl)⟩
      clear hstep hyes hno hjk
      have HK : Hid (∀ w', wr.grownBy w' none → w'.cell? ⟨nb, k * 4, none⟩ = some (.int .i64 j.task) ∧ w'.cell? ⟨nb, k * 4 + 1, none⟩ = some (.int .i64 j.num) ∧ w'.cell? ⟨nb, k * 4 + 2, none⟩ = some (.int .i64 j.rel) ∧ w'.cell? ⟨nb, k * 4 + 3, none⟩ = some (.int .i64 j.left) ∧ w'.cell? ⟨w.heap.size + 1, 0, none⟩ = some (.int .i64 m.task) ∧ w'.cell? ⟨w.heap.size + 1, 1, none⟩ = some (.int .i64 m.num) ∧ w'.cell? ⟨w.heap.size + 1, 2, none⟩ = some (.int .i64 m.rel) ∧ w'.cell? ⟨w.heap.size + 1, 3, none⟩ = some (.int .i64 m.left) ∧ wr.grownBy w' none) := fun w' h =>
        ⟨h.cell b0 (by simp), h.cell b1 (by simp), h.cell b2 (by simp), h.cell b3 (by simp), h.cell m0 (by simp), h.cell m1 (by simp), h.cell m2 (by simp), h.cell m3 (by simp), h⟩
      have HMB : Hid (wr.heap[w.heap.size + 1]? = some (.cells #[.int .i64 m.task, .int .i64 m.num, .int .i64 m.rel, .int .i64 m.left] 63)) := hmb
      have HG : Hid ((w.alloc (.cells #[.int .i64 0, .int .i64 0, .int .i64 0, .int .i64 0] 63)).grownBy wr none) := hg
      clear hmb hg hgw hrb HJ
      by_cases hc : j.rel < m.rel
      · have hv : cmpV j.rel m.rel = -1 := by unfold cmpV; rw [if_pos hc]
        rw [hv] at cC
        have HX := HYES.out hc
        have HX' : Hid (j = J.getD (minI (fun i => (J.getD i jb0).rel) k) jb0) := HX
        clear hv HX hc
        go_wp2_with fail
        go_region_held3 (fun w' => w'.cell? ⟨nb, k * 4, none⟩ = some (.int .i64 j.task) ∧ w'.cell? ⟨nb, k * 4 + 1, none⟩ = some (.int .i64 j.num) ∧ w'.cell? ⟨nb, k * 4 + 2, none⟩ = some (.int .i64 j.rel) ∧ w'.cell? ⟨nb, k * 4 + 3, none⟩ = some (.int .i64 j.left) ∧ w'.cell? ⟨w.heap.size + 1, 0, none⟩ = some (.int .i64 m.task) ∧ w'.cell? ⟨w.heap.size + 1, 1, none⟩ = some (.int .i64 m.num) ∧ w'.cell? ⟨w.heap.size + 1, 2, none⟩ = some (.int .i64 m.rel) ∧ w'.cell? ⟨w.heap.size + 1, 3, none⟩ = some (.int .i64 m.left) ∧ wr.grownBy w' none) ((refine HK.out _ ?_; first | assumption | exact World.grownBy.refl _ _ | exact gr_drew (World.grownBy.refl _ _))) (first | (go_at_call 39; refine (cC _ (by first | assumption | exact gr_drew (World.grownBy.refl _ _) | exact World.grownBy.refl _ _)).mono ?_; rintro e w2 ⟨rfl, hg2⟩))
        obtain ⟨e0, e1, e2, e3, f0, f1, f2, f3, _⟩ := HK.out w2 hg2
        have hmb2 := kept hg2 HMB.out
        have z0 := at_frozen hmb2 0
        have z1 := at_frozen hmb2 1
        have z2 := at_frozen hmb2 2
        have z3 := at_frozen hmb2 3
        have HMB2 : Hid (w2.heap[w.heap.size + 1]? = some (.cells #[.int .i64 m.task, .int .i64 m.num, .int .i64 m.rel, .int .i64 m.left] 63)) := hmb2
        have HG2 := grown_join HG.out hg2 (.inl rfl)
        have HG2' : Hid ((w.alloc (.cells #[.int .i64 0, .int .i64 0, .int .i64 0, .int .i64 0] 63)).grownBy w2 none) := HG2
        clear hmb2 HG2 hg2 HK cC b0 b1 b2 b3 m0 m1 m2 m3
        go_wp2
        go_roundw
        case rel =>
          refine ⟨k + 1, j, by omega, by omega, by go_num, HX'.out, ?_, ?_⟩
          · have := at_set (at_set (at_set (at_set HMB2.out 0 (.int .i64 j.task)) 1 (.int .i64 j.num)) 2 (.int .i64 j.rel)) 3 (.int .i64 j.left)
            simpa using this
          · exact gr_own (gr_own (gr_own (gr_own HG2'.out (by simp) _ _) (by simp) _ _) (by simp) _ _) (by simp) _ _
        case measure => simp [intOf]; omega
      · have hv : 0 ≤ cmpV j.rel m.rel := by omega
        have HX' : Hid (m = J.getD (minI (fun i => (J.getD i jb0).rel) k) jb0) := HNO.out hc
        generalize cmpV j.rel m.rel = cv at *
        have hcv : ¬ cv < 0 := by omega
        clear hc hcn
        go_wp2_with fail
        go_region_held3 (fun w' => w'.cell? ⟨nb, k * 4, none⟩ = some (.int .i64 j.task) ∧ w'.cell? ⟨nb, k * 4 + 1, none⟩ = some (.int .i64 j.num) ∧ w'.cell? ⟨nb, k * 4 + 2, none⟩ = some (.int .i64 j.rel) ∧ w'.cell? ⟨nb, k * 4 + 3, none⟩ = some (.int .i64 j.left) ∧ w'.cell? ⟨w.heap.size + 1, 0, none⟩ = some (.int .i64 m.task) ∧ w'.cell? ⟨w.heap.size + 1, 1, none⟩ = some (.int .i64 m.num) ∧ w'.cell? ⟨w.heap.size + 1, 2, none⟩ = some (.int .i64 m.rel) ∧ w'.cell? ⟨w.heap.size + 1, 3, none⟩ = some (.int .i64 m.left) ∧ wr.grownBy w' none) ((refine HK.out _ ?_; first | assumption | exact World.grownBy.refl _ _ | exact gr_drew (World.grownBy.refl _ _))) (first | (go_at_call 39; refine (cC _ (by first | assumption | exact gr_drew (World.grownBy.refl _ _) | exact World.grownBy.refl _ _)).mono ?_; rintro e w2 ⟨rfl, hg2⟩))
        have HMB2 : Hid (w2.heap[w.heap.size + 1]? = some (.cells #[.int .i64 m.task, .int .i64 m.num, .int .i64 m.rel, .int .i64 m.left] 63)) := kept hg2 HMB.out
        have HG2' : Hid ((w.alloc (.cells #[.int .i64 0, .int .i64 0, .int .i64 0, .int .i64 0] 63)).grownBy w2 none) := grown_join HG.out hg2 (.inl rfl)
        clear hg2 HK cC b0 b1 b2 b3 m0 m1 m2 m3
        go_wp2
        go_roundw
        case rel => exact ⟨k + 1, m, by omega, by omega, by go_num, HX'.out, HMB2.out, HG2'.out⟩
        case measure => simp [intOf]; omega
    · have HF : Hid (m = J.getD (minI (fun i => (J.getD i jb0).rel) (n - 1)) jb0) := by
        have e := HM.out
        rw [show k = n by omega] at e
        exact e
      have r0 : wr.cell? ⟨w.heap.size, 0, none⟩ = some (.int .i64 0) := at_cell hrb 0
      have r1 : wr.cell? ⟨w.heap.size, 1, none⟩ = some (.int .i64 0) := at_cell hrb 1
      have r2 : wr.cell? ⟨w.heap.size, 2, none⟩ = some (.int .i64 0) := at_cell hrb 2
      have r3 : wr.cell? ⟨w.heap.size, 3, none⟩ = some (.int .i64 0) := at_cell hrb 3
      have z0 := at_frozen hrb 0
      have z1 := at_frozen hrb 1
      have z2 := at_frozen hrb 2
      have z3 := at_frozen hrb 3
      have hrl := at_lt hrb
      go_wp2
      refine bodyPost_ret (v := .agg #[.int .i64 m.task, .int .i64 m.num, .int .i64 m.rel, .int .i64 m.left]) (by simp [results, Try.results38, go_sem, r0, r1, r2, r3, hrl]) rfl ⟨?_, ?_⟩
      · rw [← HF.out]; rfl
      · exact gr_own (gr_own (gr_own (gr_own hgw (Nat.le_refl _) _ _) (Nat.le_refl _) _ _) (Nat.le_refl _) _ _) (Nat.le_refl _) _ _
end Go.Proofs.Ytholmeebkgpjjaa
