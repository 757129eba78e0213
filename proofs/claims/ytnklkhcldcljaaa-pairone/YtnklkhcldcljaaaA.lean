/- Sides and beats; which may be. -/
import Derived.Test.YtnklkhcldcljaaaB0
namespace Go.Proofs.Ytnklkhcldcljaaa
open Go.RowKit
attribute [local go_sem ↓] Go.wp_at_zero Go.wp_at_succ
set_option linter.unusedVariables false
set_option linter.unusedSimpArgs false

/-- A side. -/
structure Sd where
  me : Int
  ac : Bool
  te : Int
  cy : Int
  im : List Int
  si : Int
  pa : Int
/-- A beat. -/
structure Bt where
  fr : Int
  te : Int
  cy : Int
  im : List Int
def sdA (L : Sd) (v : Value) : Array Value := #[.int .i64 L.me, .bool L.ac, .int .i64 L.te, .int .i64 L.cy, v, .int .i64 L.si, .int .i64 L.pa]
def sdV (L : Sd) (v : Value) : Value := .agg (sdA L v)
def btA (B : Bt) (v : Value) : Array Value := #[.int .i64 B.fr, .int .i64 B.te, .int .i64 B.cy, v]
def btV (B : Bt) (v : Value) : Value := .agg (btA B v)
def progB (te cy : Int) (n : Nat) : Bool := wi 0 1000000 te && (wi 0 999999999 cy && decide (n ≤ 20000))
def canS (L : Sd) : Bool := wi 0 1 L.me && (wi 1 1000 L.pa && (progB L.te L.cy L.im.length && wi 0 (if L.ac then 0 else L.pa - 1) L.si))
def canB (B : Bt) : Bool := wi 0 1 B.fr && progB B.te B.cy B.im.length
def oldB (L : Sd) (B : Bt) : Bool := if B.te = L.te then (if L.ac then decide (L.me = 0) else decide (B.cy < L.cy)) else decide (B.te < L.te)

theorem box4 {W : World} {q : Nat} {y0 y1 y2 y3 x0 x1 x2 x3 : Value} {T : TypeId} (h : W.heap[q]? = some (.cells #[y0, y1, y2, y3] T)) : (((((W).setCell ⟨q, 0, none⟩ x0).setCell ⟨q, 1, none⟩ x1).setCell ⟨q, 2, none⟩ x2).setCell ⟨q, 3, none⟩ x3).heap[q]? = some (.cells #[x0, x1, x2, x3] T) := by
  have := at_set (at_set (at_set (at_set h 0 x0) 1 x1) 2 x2) 3 x3
  simpa using this
theorem gr4 {w W : World} {q : Nat} {x0 x1 x2 x3 : Value} (h : w.grownBy W (some q)) : w.grownBy (((((W).setCell ⟨q, 0, none⟩ x0).setCell ⟨q, 1, none⟩ x1).setCell ⟨q, 2, none⟩ x2).setCell ⟨q, 3, none⟩ x3) (some q) :=
  gr_set (gr_set (gr_set (gr_set h _ _) _ _) _ _) _ _
theorem gr4n {w W : World} {q : Nat} {x0 x1 x2 x3 : Value} (h : w.grownBy W none) (hq : w.heap.size ≤ q) : w.grownBy (((((W).setCell ⟨q, 0, none⟩ x0).setCell ⟨q, 1, none⟩ x1).setCell ⟨q, 2, none⟩ x2).setCell ⟨q, 3, none⟩ x3) none :=
  gr_own (gr_own (gr_own (gr_own h hq _ _) hq _ _) hq _ _) hq _ _
theorem at4 {W : World} {q : Nat} {y0 y1 y2 y3 : Value} {T : TypeId} (h : W.heap[q]? = some (.cells #[y0, y1, y2, y3] T)) : (W.cell? ⟨q, 0, none⟩ = some y0 ∧ W.cell? ⟨q, 1, none⟩ = some y1 ∧ W.cell? ⟨q, 2, none⟩ = some y2 ∧ W.cell? ⟨q, 3, none⟩ = some y3) :=
  ⟨at_cell h 0, at_cell h 1, at_cell h 2, at_cell h 3⟩
theorem fz4 {W : World} {q : Nat} {cs : Array Value} {T : TypeId} (h : W.heap[q]? = some (.cells cs T)) : (W.frozen? ⟨q, 0, none⟩ = false ∧ W.frozen? ⟨q, 1, none⟩ = false ∧ W.frozen? ⟨q, 2, none⟩ = false ∧ W.frozen? ⟨q, 3, none⟩ = false) :=
  ⟨at_frozen h 0, at_frozen h 1, at_frozen h 2, at_frozen h 3⟩
theorem info24 : (Try.prog.info? 24).map (·.size) = some 7 := by kernel_rfl
theorem info32 : (Try.prog.info? 32).map (·.size) = some 4 := by kernel_rfl
theorem load24 (W : World) (p : Nat) (L : Sd) (v : Value) (hg : W.heap[p]? = some (.cells (sdA L v) 24)) : (loadVar 24 ⟨p, 0, none⟩).run Try.prog W = .ok (sdV L v) W :=
  run_loadVar_row (P := Try.prog) W p 24 24 (sdA L v) (0, 0) _ hg Try.underlying24 rfl info24
theorem load32 (W : World) (p : Nat) (B : Bt) (v : Value) (hg : W.heap[p]? = some (.cells (btA B v) 32)) : (loadVar 32 ⟨p, 0, none⟩).run Try.prog W = .ok (btV B v) W :=
  run_loadVar_row (P := Try.prog) W p 32 32 (btA B v) (0, 0) _ hg Try.underlying32 rfl info32
theorem results2 {f : Func} {k m : Tmp} (hr : f.results = #[.cell k 24, .tmp m]) (tmps : Array Value) (W : World) (q : Nat) (L : Sd) (v : Value) (h6 : tmps.getD k undef = .pointer (some ⟨q, 0, none⟩)) (hg : W.heap[q]? = some (.cells (sdA L v) 24)) :
    (results f tmps).run Try.prog W = .ok (.tuple #[sdV L v, tmps.getD m undef]) W := by
  have hl := load24 W q L v hg
  have h6' : tmps[k]?.getD undef = .pointer (some ⟨q, 0, none⟩) := by simpa using h6
  simp [results, hr]
  rw [h6']
  simp [asAddr, hl, Result.andThen]
theorem results3 {f : Func} {k m : Tmp} (hr : f.results = #[.cell k 32, .tmp m]) (tmps : Array Value) (W : World) (q : Nat) (B : Bt) (v : Value) (h6 : tmps.getD k undef = .pointer (some ⟨q, 0, none⟩)) (hg : W.heap[q]? = some (.cells (btA B v) 32)) :
    (results f tmps).run Try.prog W = .ok (.tuple #[btV B v, tmps.getD m undef]) W := by
  have hl := load32 W q B v hg
  have h6' : tmps[k]?.getD undef = .pointer (some ⟨q, 0, none⟩) := by simpa using h6
  simp [results, hr]
  rw [h6']
  simp [asAddr, hl, Result.andThen]

theorem two_any (n : Int) (w : World) : Calls Try.prog 44 #[.int .i64 n] w fun e w' => e = .returned (.bool (wi 0 1 n)) ∧ w = w' := by
  have c := within_any n 0 1 w
  go_enter Try.func44, Try.ntmps44
  go_wp2_with fail
  refine c.mono ?_
  rintro e w' ⟨rfl, rfl⟩
  go_wp2
  go_ret
  exact ⟨rfl, rfl⟩
theorem pat_any (n : Int) (w : World) : Calls Try.prog 45 #[.int .i64 n] w fun e w' => e = .returned (.bool (wi 1 1000 n)) ∧ w = w' := by
  have c := within_any n 1 1000 w
  go_enter Try.func45, Try.ntmps45
  go_wp2_with fail
  refine c.mono ?_
  rintro e w' ⟨rfl, rfl⟩
  go_wp2
  go_ret
  exact ⟨rfl, rfl⟩
theorem prog_any (te cy : Int) (l : List Int) (v : Value) (w : World) (hv : rd w v l) (hl : l.length ≤ 17592186043904) : Calls Try.prog 50 #[.int .i64 te, .int .i64 cy, v] w fun e w' => e = .returned (.bool (progB te cy l.length)) ∧ w = w' := by
  have c1 := within_any te 0 1000000 w
  have c2 := within_any cy 0 999999999 w
  obtain ⟨a, cap, rfl, _⟩ := id hv
  clear hv
  have HR : Hid (progB te cy l.length = (wi 0 1000000 te && (wi 0 999999999 cy && decide (l.length ≤ 20000)))) := hidI rfl
  generalize progB te cy l.length = R at *
  go_enter Try.func50, Try.ntmps50
  go_wp2_with fail
  refine c1.mono ?_
  rintro e w' ⟨rfl, rfl⟩
  cases k1 : wi 0 1000000 te with
  | false =>
    have hR : R = false := by rw [HR.out, k1]; rfl
    subst hR
    go_wp2
    go_ret
    exact ⟨rfl, rfl⟩
  | true =>
    rw [k1] at HR
    go_wp2_with fail
    refine c2.mono ?_
    rintro e w' ⟨rfl, rfl⟩
    cases k2 : wi 0 999999999 cy with
    | false =>
      have hR : R = false := by rw [HR.out, k2]; rfl
      subst hR
      go_wp2
      go_ret
      exact ⟨rfl, rfl⟩
    | true =>
      rw [k2] at HR
      go_wp2
      go_ret
      refine ⟨ret_bool ?_, rfl⟩
      rw [HR.out]
      simp
      omega
set_option maxRecDepth 10000 in
set_option maxHeartbeats 1000000 in
theorem mayBe_any (L : Sd) (v : Value) (w : World) (hv : rd w v L.im) (hl : L.im.length ≤ 17592186043904) : Calls Try.prog 46 #[sdV L v] w fun e w' => e = .returned (.bool (canS L)) ∧ w.grownBy w' none := by
  obtain ⟨me, ac, te, cy, im, si, pa⟩ := L
  dsimp only [sdV, sdA] at *
  obtain ⟨p, hp⟩ : ∃ p, w.heap.size = p := ⟨_, rfl⟩
  have hW : (w.alloc (.cells #[.int .i64 me, .bool ac, .int .i64 te, .int .i64 cy, v, .int .i64 si, .int .i64 pa] 24)).heap[p]? = some (.cells #[.int .i64 me, .bool ac, .int .i64 te, .int .i64 cy, v, .int .i64 si, .int .i64 pa] 24) := hp_new hp.symm _
  have hgW : w.grownBy (w.alloc (.cells #[.int .i64 me, .bool ac, .int .i64 te, .int .i64 cy, v, .int .i64 si, .int .i64 pa] 24)) none := gr_alloc (World.grownBy.refl _ _) _
  have HR : Hid (canS ⟨me, ac, te, cy, im, si, pa⟩ = (wi 0 1 me && (wi 1 1000 pa && (progB te cy im.length && wi 0 (if ac then 0 else pa - 1) si)))) := hidI rfl
  generalize canS ⟨me, ac, te, cy, im, si, pa⟩ = R at *
  go_enter Try.func46, Try.ntmps46
  go_upto_region 1 with fail
  clear hp
  generalize w.alloc (.cells #[.int .i64 me, .bool ac, .int .i64 te, .int .i64 cy, v, .int .i64 si, .int .i64 pa] 24) = W at *
  obtain ⟨i0, i1, i2, i3, i4, i5, i6⟩ := at7 hW
  have c1 := two_any me W
  have c2 := pat_any pa W
  have c3 := prog_any te cy im v W (rd_grown hv hgW) hl
  have c4 := within_any si 0 (if ac then 0 else pa - 1) W
  obtain ⟨a, cap, rfl, _⟩ := id hv
  have HW := hidI hgW
  clear hW hgW hv
  go_wp2_with fail
  refine c1.mono ?_
  rintro e w' ⟨rfl, rfl⟩
  cases k1 : wi 0 1 me with
  | false =>
    have hR : R = false := by rw [HR.out, k1]; rfl
    subst hR
    go_wp2
    go_ret
    exact ⟨rfl, HW.out⟩
  | true =>
  rw [k1] at HR
  go_wp2_with fail
  refine c2.mono ?_
  rintro e w' ⟨rfl, rfl⟩
  cases k2 : wi 1 1000 pa with
  | false =>
    have hR : R = false := by rw [HR.out, k2]; rfl
    subst hR
    go_wp2
    go_ret
    exact ⟨rfl, HW.out⟩
  | true =>
  rw [k2] at HR
  obtain ⟨pa1, pa2⟩ := wi_iff.1 k2
  go_wp2_with fail
  refine c3.mono ?_
  rintro e w' ⟨rfl, rfl⟩
  cases k3 : progB te cy im.length with
  | false =>
    have hR : R = false := by rw [HR.out, k3]; rfl
    subst hR
    go_wp2
    go_ret
    exact ⟨rfl, HW.out⟩
  | true =>
  rw [k3] at HR
  clear k1 k2 k3 c1 c2 c3
  cases ac with
  | false =>
    simp only [Bool.false_eq_true, if_false] at c4 HR
    go_wp2_with fail
    refine c4.mono ?_
    rintro e w' ⟨rfl, rfl⟩
    go_wp2
    go_ret
    exact ⟨by rw [HR.out]; rfl, HW.out⟩
  | true =>
    simp only [if_true] at c4 HR
    go_wp2_with fail
    refine c4.mono ?_
    rintro e w' ⟨rfl, rfl⟩
    go_wp2
    go_ret
    exact ⟨by rw [HR.out]; rfl, HW.out⟩
set_option maxRecDepth 10000 in
set_option maxHeartbeats 1000000 in
theorem mayTold_any (B : Bt) (v : Value) (w : World) (hv : rd w v B.im) (hl : B.im.length ≤ 17592186043904) : Calls Try.prog 47 #[btV B v] w fun e w' => e = .returned (.bool (canB B)) ∧ w.grownBy w' none := by
  obtain ⟨fr, te, cy, im⟩ := B
  dsimp only [btV, btA] at *
  obtain ⟨p, hp⟩ : ∃ p, w.heap.size = p := ⟨_, rfl⟩
  have hW : (w.alloc (.cells #[.int .i64 fr, .int .i64 te, .int .i64 cy, v] 32)).heap[p]? = some (.cells #[.int .i64 fr, .int .i64 te, .int .i64 cy, v] 32) := hp_new hp.symm _
  have hgW : w.grownBy (w.alloc (.cells #[.int .i64 fr, .int .i64 te, .int .i64 cy, v] 32)) none := gr_alloc (World.grownBy.refl _ _) _
  have HR : Hid (canB ⟨fr, te, cy, im⟩ = (wi 0 1 fr && progB te cy im.length)) := hidI rfl
  generalize canB ⟨fr, te, cy, im⟩ = R at *
  go_enter Try.func47, Try.ntmps47
  go_upto_region 1 with fail
  clear hp
  generalize w.alloc (.cells #[.int .i64 fr, .int .i64 te, .int .i64 cy, v] 32) = W at *
  obtain ⟨i0, i1, i2, i3⟩ := at4 hW
  have c1 := two_any fr W
  have c3 := prog_any te cy im v W (rd_grown hv hgW) hl
  obtain ⟨a, cap, rfl, _⟩ := id hv
  have HW := hidI hgW
  clear hW hgW hv
  go_wp2_with fail
  refine c1.mono ?_
  rintro e w' ⟨rfl, rfl⟩
  cases k1 : wi 0 1 fr with
  | false =>
    have hR : R = false := by rw [HR.out, k1]; rfl
    subst hR
    go_wp2
    go_ret
    exact ⟨rfl, HW.out⟩
  | true =>
  rw [k1] at HR
  go_wp2_with fail
  refine c3.mono ?_
  rintro e w' ⟨rfl, rfl⟩
  go_wp2
  go_ret
  exact ⟨by rw [HR.out]; rfl, HW.out⟩
end Go.Proofs.Ytnklkhcldcljaaa
