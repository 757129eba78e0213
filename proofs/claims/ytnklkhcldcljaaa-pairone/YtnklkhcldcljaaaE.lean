/- Each step of a side: what it does to the side in its box. -/
import Derived.Test.YtnklkhcldcljaaaD
namespace Go.Proofs.Ytnklkhcldcljaaa
open Go.RowKit
attribute [local go_sem ↓] Go.wp_at_zero Go.wp_at_succ
set_option linter.unusedVariables false
set_option linter.unusedSimpArgs false

/-- What a step leaves in the box q. -/
def DoP (W w' : World) (e : Ending) (q E : Nat) (R : Sd) (u : Value) : Prop :=
  e = .returned (.int .i64 (E : Int)) ∧ W.grownBy w' (some q) ∧ ∃ M x, w'.heap[q]? = some (.cells (sdA M x) 24) ∧ (E = 0 → M = R ∧ x = u)
theorem DoP.ok {W w' : World} {q : Nat} {R : Sd} {u : Value} (hg : W.grownBy w' (some q)) (h : w'.heap[q]? = some (.cells (sdA R u) 24)) : DoP W w' (.returned (.int .i64 0)) q 0 R u := ⟨rfl, hg, R, u, h, fun _ => ⟨rfl, rfl⟩⟩
theorem DoP.err {W w' : World} {q E : Nat} {R : Sd} {u : Value} (M : Sd) (x : Value) (hE : E ≠ 0) (hg : W.grownBy w' (some q)) (h : w'.heap[q]? = some (.cells (sdA M x) 24)) : DoP W w' (.returned (.int .i64 (E : Int))) q E R u := ⟨rfl, hg, M, x, h, fun k => absurd k hE⟩
def sendE (L : Sd) : Nat := if L.ac then 0 else 18
def hearS (L : Sd) (B : Bt) : Sd := ⟨L.me, false, B.te, B.cy, B.im, 0, L.pa⟩
def waitE (L : Sd) : Nat := if L.ac then 0 else if L.si + 1 < L.pa then 0 else if L.te = 1000000 then 14 else 0
def waitS (L : Sd) : Sd := if L.ac then L else if L.si + 1 < L.pa then { L with si := L.si + 1 } else ⟨L.me, true, L.te + 1, L.cy, L.im, 0, L.pa⟩
def doneE (L : Sd) (n : Nat) : Nat := if L.ac then (if n ≤ 20000 then (if L.cy = 999999999 then 14 else 0) else 4) else 18
def doneS (L : Sd) (l : List Int) : Sd := { L with cy := L.cy + 1, im := l }

theorem canS_parts {L : Sd} (h : canS L = true) : (0 ≤ L.me ∧ L.me ≤ 1) ∧ (1 ≤ L.pa ∧ L.pa ≤ 1000) ∧ (0 ≤ L.te ∧ L.te ≤ 1000000) ∧ (0 ≤ L.cy ∧ L.cy ≤ 999999999) ∧ L.im.length ≤ 20000 ∧ 0 ≤ L.si ∧ L.si < L.pa ∧ (L.ac = true → L.si = 0) := by
  unfold canS progB at h
  simp only [Bool.and_eq_true, wi_iff, decide_eq_true_eq] at h
  obtain ⟨h1, h2, ⟨h3, h4, h5⟩, h6, h7⟩ := h
  refine ⟨h1, h2, h3, h4, h5, h6, ?_, ?_⟩
  · split at h7 <;> omega
  · intro ha
    rw [if_pos ha] at h7
    omega
set_option maxRecDepth 10000 in
set_option maxHeartbeats 1000000 in
theorem sendC_any (L : Sd) (v : Value) (W : World) (q : Nat) (h : W.heap[q]? = some (.cells (sdA L v) 24)) : Calls Try.prog 37 #[.pointer (some ⟨q, 0, none⟩)] W fun e w' => DoP W w' e q (sendE L) L v := by
  obtain ⟨me, ac, te, cy, im, si, pa⟩ := L
  dsimp only [sdA] at h
  obtain ⟨i0, i1, i2, i3, i4, i5, i6⟩ := at7 h
  have HH := hidI h
  clear h
  go_enter Try.func37, Try.ntmps37
  cases ac with
  | true =>
    go_wp2
    go_ret
    exact DoP.ok (World.grownBy.refl _ _) HH.out
  | false =>
    go_wp2
    go_ret
    exact DoP.err ⟨me, false, te, cy, im, si, pa⟩ v (by decide) (World.grownBy.refl _ _) HH.out
set_option maxRecDepth 10000 in
set_option maxHeartbeats 1000000 in
theorem takeOver_any (L : Sd) (v : Value) (W : World) (q : Nat) (h : W.heap[q]? = some (.cells (sdA L v) 24)) (hte : L.te ≤ 1000000 ∧ 0 ≤ L.te) : Calls Try.prog 42 #[.pointer (some ⟨q, 0, none⟩)] W fun e w' => DoP W w' e q (if L.te = 1000000 then 14 else 0) ⟨L.me, true, L.te + 1, L.cy, L.im, 0, L.pa⟩ v := by
  obtain ⟨me, ac, te, cy, im, si, pa⟩ := L
  dsimp only [sdA] at *
  obtain ⟨i0, i1, i2, i3, i4, i5, i6⟩ := at7 h
  obtain ⟨f0, f1, f2, f3, f4, f5, f6⟩ := fz7 h
  have HH := hidI h
  clear h
  go_enter Try.func42, Try.ntmps42
  by_cases k : te = 1000000
  · subst k
    go_wp2
    go_ret
    exact DoP.err ⟨me, ac, 1000000, cy, im, si, pa⟩ v (by decide) (World.grownBy.refl _ _) HH.out
  · have e1 : (te == 1000000) = false := by simpa using k
    rw [if_neg k]
    go_wp2
    go_ret
    refine DoP.ok (gr_set (gr_set (gr_set (World.grownBy.refl _ _) _ _) _ _) _ _) ?_
    have := at_set (at_set (at_set HH.out 2 (.int .i64 (te + 1))) 1 (.bool true)) 5 (.int .i64 0)
    simpa [sdA] using this
set_option maxRecDepth 10000 in
set_option maxHeartbeats 1000000 in
theorem waitC_any (L : Sd) (v : Value) (W : World) (q : Nat) (h : W.heap[q]? = some (.cells (sdA L v) 24)) (hc : canS L = true) : Calls Try.prog 41 #[.pointer (some ⟨q, 0, none⟩)] W fun e w' => DoP W w' e q (waitE L) (waitS L) v := by
  obtain ⟨-, b1, b2, -, -, b3, b4, -⟩ := canS_parts hc
  have cT := fun (X : World) (k : X.heap[q]? = some (.cells (sdA { L with si := L.si + 1 } v) 24)) => takeOver_any { L with si := L.si + 1 } v X q k ⟨b2.2, b2.1⟩
  dsimp only at cT
  obtain ⟨N, hN⟩ : ∃ N, (if L.te = 1000000 then (14 : Nat) else 0) = N := ⟨_, rfl⟩
  rw [hN] at cT
  have HN := hidI hN
  clear hN
  obtain ⟨me, ac, te, cy, im, si, pa⟩ := L
  dsimp only [sdA] at *
  have hs := at_set h 5 (.int .i64 (si + 1))
  obtain ⟨i0, i1, i2, i3, i4, i5, i6⟩ := at7 h
  obtain ⟨f0, f1, f2, f3, f4, f5, f6⟩ := fz7 h
  simp at hs
  have HH := hidI h
  have HS := hidI hs
  clear h hs hc
  go_enter Try.func41, Try.ntmps41
  cases ac with
  | true =>
    go_wp2
    go_ret
    exact DoP.ok (World.grownBy.refl _ _) HH.out
  | false =>
  go_upto_region 4 with fail
  have gX := gr_set (World.grownBy.refl W (some q)) 5 (.int .i64 (si + 1))
  have hX := HS.out
  clear i0 i1 i2 i3 i4 i5 i6 f0 f1 f2 f3 f4 f5 f6
  generalize W.setCell ⟨q, 5, none⟩ (.int .i64 (si + 1)) = X at *
  obtain ⟨i0, i1, i2, i3, i4, i5, i6⟩ := at7 hX
  have HX := hidI (And.intro hX gX)
  clear hX gX
  by_cases k : si + 1 < pa
  · have HE : Hid (waitE ⟨me, false, te, cy, im, si, pa⟩ = 0 ∧ waitS ⟨me, false, te, cy, im, si, pa⟩ = ⟨me, false, te, cy, im, si + 1, pa⟩) := hidI (by simp [waitE, waitS, k])
    clear cT
    go_quiet (fail)
    go_wp2
    go_ret
    rw [HE.out.1, HE.out.2]
    exact DoP.ok (gr_drewN HX.out.2 _) HX.out.1
  · have HE : Hid (waitE ⟨me, false, te, cy, im, si, pa⟩ = N ∧ waitS ⟨me, false, te, cy, im, si, pa⟩ = ⟨me, true, te + 1, cy, im, 0, pa⟩) := hidI (by have := HN.out; simp [waitE, waitS, k, this])
    go_quiet (fail)
    go_wp2_with fail
    refine (cT (X.drewN nq) HX.out.1).mono ?_
    rintro e w' ⟨rfl, g, M, x, hM, hE⟩
    go_wp2
    go_ret
    rw [HE.out.1, HE.out.2]
    exact ⟨rfl, grown_join (gr_drewN HX.out.2 _) g (.inl rfl), M, x, hM, hE⟩
set_option maxRecDepth 10000 in
set_option maxHeartbeats 1000000 in
theorem doneC_any (L : Sd) (l : List Int) (v u : Value) (W : World) (q b : Nat) (h : W.heap[q]? = some (.cells (sdA L v) 24)) (hb : W.heap[b]? = some (.cells #[u] 22)) (hu : rd W u l) (hl : l.length ≤ 17592186043904) (hc : canS L = true) : Calls Try.prog 43 #[.pointer (some ⟨q, 0, none⟩), .pointer (some ⟨b, 0, none⟩)] W fun e w' => DoP W w' e q (doneE L l.length) (doneS L l) u := by
  obtain ⟨-, b1, b2, b3, -, -, -, -⟩ := canS_parts hc
  obtain ⟨ua, uc, rfl, _⟩ := id hu
  obtain ⟨me, ac, te, cy, im, si, pa⟩ := L
  dsimp only [sdA] at *
  have hne : q ≠ b := fun e => by
    rw [e, hb] at h
    simp at h
  obtain ⟨i0, i1, i2, i3, i4, i5, i6⟩ := at7 h
  obtain ⟨f0, f1, f2, f3, f4, f5, f6⟩ := fz7 h
  have x1 : W.cell? ⟨b, 0, none⟩ = some (.slice ua l.length uc) := at_cell hb 0
  have x2 : (W.setCell ⟨q, 3, none⟩ (.int .i64 (cy + 1))).cell? ⟨b, 0, none⟩ = some (.slice ua l.length uc) := ck_set (Ne.symm hne) x1
  have HH := hidI h
  clear h hc hu hb
  go_enter Try.func43, Try.ntmps43
  cases ac with
  | false =>
    go_wp2
    go_ret
    exact DoP.err ⟨me, false, te, cy, im, si, pa⟩ v (by decide) (World.grownBy.refl _ _) HH.out
  | true =>
  by_cases k : l.length ≤ 20000
  case neg =>
    have HE : Hid (doneE ⟨me, true, te, cy, im, si, pa⟩ l.length = 4) := hidI (by simp [doneE, k])
    have k2 : (20000 : Int) < (l.length : Int) := by omega
    go_wp2
    go_ret
    rw [HE.out]
    exact DoP.err ⟨me, true, te, cy, im, si, pa⟩ v (by decide) (World.grownBy.refl _ _) HH.out
  have k2 : ¬ (20000 : Int) < (l.length : Int) := by omega
  by_cases k3 : cy = 999999999
  · subst k3
    have HE : Hid (doneE ⟨me, true, te, 999999999, im, si, pa⟩ l.length = 14) := hidI (by simp [doneE, k])
    go_wp2
    go_ret
    rw [HE.out]
    exact DoP.err ⟨me, true, te, 999999999, im, si, pa⟩ v (by decide) (World.grownBy.refl _ _) HH.out
  · have HE : Hid (doneE ⟨me, true, te, cy, im, si, pa⟩ l.length = 0) := hidI (by simp [doneE, k, k3])
    have e1 : (cy == 999999999) = false := by simpa using k3
    go_wp2
    go_ret
    rw [HE.out]
    refine DoP.ok (gr_set (gr_set (World.grownBy.refl _ _) _ _) _ _) ?_
    have := at_set (at_set HH.out 3 (.int .i64 (cy + 1))) 4 (.slice ua l.length uc)
    simpa [sdA, doneS] using this
set_option maxRecDepth 10000 in
set_option maxHeartbeats 1000000 in
theorem hearC_any (L : Sd) (B : Bt) (v u : Value) (W : World) (q b : Nat) (h : W.heap[q]? = some (.cells (sdA L v) 24)) (hb : W.heap[b]? = some (.cells (btA B u) 32)) (hu : rd W u B.im) (hv : ∃ a n c, v = .slice a n c) (hl : B.im.length ≤ 17592186043904) : Calls Try.prog 39 #[.pointer (some ⟨q, 0, none⟩), .pointer (some ⟨b, 0, none⟩)] W fun e w' => DoP W w' e q (beatE L B) (hearS L B) u := by
  have cB := fun (X : World) (k : rd X u B.im) => lookBeat_any L B v u X k hl
  have HR : Hid (hearS L B = ⟨L.me, false, B.te, B.cy, B.im, 0, L.pa⟩) := hidI rfl
  generalize hearS L B = R at *
  generalize beatE L B = E at *
  obtain ⟨ua, uc, rfl, _⟩ := id hu
  obtain ⟨va, vn, vc, rfl⟩ := hv
  obtain ⟨me, ac, te, cy, im, si, pa⟩ := L
  obtain ⟨fr, bte, bcy, bim⟩ := B
  dsimp only [sdV, btV, sdA, btA] at *
  have hne : q ≠ b := fun e => by
    rw [e, hb] at h
    simp at h
  obtain ⟨i0, i1, i2, i3, i4, i5, i6⟩ := at7 h
  obtain ⟨j0, j1, j2, j3⟩ := at4 hb
  have cB2 : ∀ X, W.grownBy X none → Calls Try.prog 40 #[.agg #[.int .i64 me, .bool ac, .int .i64 te, .int .i64 cy, .slice va vn vc, .int .i64 si, .int .i64 pa], .agg #[.int .i64 fr, .int .i64 bte, .int .i64 bcy, .slice ua bim.length uc]] X (fun e w' => e = .returned (.int .i64 (E : Int)) ∧ W.grownBy w' none) := fun X hX => (cB X (rd_grown hu hX)).mono fun e w' ⟨h1, h2⟩ => ⟨h1, grown_join hX h2 (.inl rfl)⟩
  have HN := hidI hne
  have H1 := hidI (And.intro h hb)
  clear cB hne h hb
  go_enter Try.func39, Try.ntmps39
  go_upto_region 1 with fail
  have HKEEP : Hid (∀ X, W.grownBy X none → (W.grownBy X none ∧ X.cell? ⟨q, 0, none⟩ = some (.int .i64 me) ∧ X.cell? ⟨q, 1, none⟩ = some (.bool ac) ∧ X.cell? ⟨q, 2, none⟩ = some (.int .i64 te) ∧ X.cell? ⟨q, 3, none⟩ = some (.int .i64 cy) ∧ X.cell? ⟨q, 4, none⟩ = some (.slice va vn vc) ∧ X.cell? ⟨q, 5, none⟩ = some (.int .i64 si) ∧ X.cell? ⟨q, 6, none⟩ = some (.int .i64 pa) ∧ X.cell? ⟨b, 0, none⟩ = some (.int .i64 fr) ∧ X.cell? ⟨b, 1, none⟩ = some (.int .i64 bte) ∧ X.cell? ⟨b, 2, none⟩ = some (.int .i64 bcy) ∧ X.cell? ⟨b, 3, none⟩ = some (.slice ua bim.length uc))) := hidI (fun X g => ⟨g, g.cell i0 (by simp), g.cell i1 (by simp), g.cell i2 (by simp), g.cell i3 (by simp), g.cell i4 (by simp), g.cell i5 (by simp), g.cell i6 (by simp), g.cell j0 (by simp), g.cell j1 (by simp), g.cell j2 (by simp), g.cell j3 (by simp)⟩)
  clear i0 i1 i2 i3 i4 i5 i6 j0 j1 j2 j3
  have gR := World.grownBy.refl W none
  have gD := gr_drew gR
  go_region_held3 (fun X => W.grownBy X none ∧ X.cell? ⟨q, 0, none⟩ = some (.int .i64 me) ∧ X.cell? ⟨q, 1, none⟩ = some (.bool ac) ∧ X.cell? ⟨q, 2, none⟩ = some (.int .i64 te) ∧ X.cell? ⟨q, 3, none⟩ = some (.int .i64 cy) ∧ X.cell? ⟨q, 4, none⟩ = some (.slice va vn vc) ∧ X.cell? ⟨q, 5, none⟩ = some (.int .i64 si) ∧ X.cell? ⟨q, 6, none⟩ = some (.int .i64 pa) ∧ X.cell? ⟨b, 0, none⟩ = some (.int .i64 fr) ∧ X.cell? ⟨b, 1, none⟩ = some (.int .i64 bte) ∧ X.cell? ⟨b, 2, none⟩ = some (.int .i64 bcy) ∧ X.cell? ⟨b, 3, none⟩ = some (.slice ua bim.length uc)) (first | exact HKEEP.out _ gR | exact HKEEP.out _ gD | exact HKEEP.out _ g1 | exact HKEEP.out _ (gr_drew g1)) (first | (go_at_call 40; (with_reducible refine (cB2 _ (by assumption)).mono ?_); rintro e w1 ⟨rfl, g1⟩))
  obtain ⟨h, hb⟩ := H1.out
  have h := kept g1 h
  have hb := kept g1 hb
  obtain ⟨i0, i1, i2, i3, i4, i5, i6⟩ := at7 h
  obtain ⟨f0, f1, f2, f3, f4, f5, f6⟩ := fz7 h
  have HH := hidI (And.intro h g1)
  by_cases k : E = 0
  case neg =>
    clear h hb g1
    have e1 : ((E : Int) != 0) = true := by simpa using k
    go_wp2
    go_ret
    exact DoP.err ⟨me, ac, te, cy, im, si, pa⟩ _ k (gr_none HH.out.2) HH.out.1
  subst k
  have hX : ((w1.setCell ⟨q, 1, none⟩ (.bool false)).setCell ⟨q, 5, none⟩ (.int .i64 0)).heap[q]? = some (.cells #[.int .i64 me, .bool false, .int .i64 te, .int .i64 cy, .slice va vn vc, .int .i64 0, .int .i64 pa] 24) := by
    have := at_set (at_set h 1 (.bool false)) 5 (.int .i64 0)
    simpa using this
  have hXb := keptBut (gr_set (gr_set (World.grownBy.refl w1 (some q)) 1 (.bool false)) 5 (.int .i64 0)) hb (Ne.symm HN.out)
  have gX := gr_set (gr_set (gr_none (p := q) g1) 1 (.bool false)) 5 (.int .i64 0)
  clear h hb g1
  go_upto_region 5 with fail
  clear i0 i1 i2 i3 i4 i5 i6 f0 f1 f2 f3 f4 f5 f6
  generalize (w1.setCell ⟨q, 1, none⟩ (.bool false)).setCell ⟨q, 5, none⟩ (.int .i64 0) = X at *
  obtain ⟨i0, i1, i2, i3, i4, i5, i6⟩ := at7 hX
  obtain ⟨f0, f1, f2, f3, f4, f5, f6⟩ := fz7 hX
  obtain ⟨j0, j1, j2, j3⟩ := at4 hXb
  have HX := hidI (And.intro hX gX)
  clear hX hXb gX
  have hn1 : q ≠ b := HN.out
  have hn2 : b ≠ q := Ne.symm HN.out
  go_region_held3 (fun Y => Y.cell? ⟨b, 1, none⟩ = some (.int .i64 bte) ∧ Y.cell? ⟨b, 2, none⟩ = some (.int .i64 bcy) ∧ Y.cell? ⟨b, 3, none⟩ = some (.slice ua bim.length uc)) (go_keep) (fail)
  go_wp2
  go_ret
  rw [HR.out]
  refine DoP.ok (gr_drew (gr_set (gr_set (gr_set HX.out.2 _ _) _ _) _ _)) ?_
  rw [hp_drew]
  have := at_set (at_set (at_set HX.out.1 2 (.int .i64 bte)) 3 (.int .i64 bcy)) 4 (.slice ua bim.length uc)
  simpa [sdA] using this
end Go.Proofs.Ytnklkhcldcljaaa
