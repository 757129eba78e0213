/- What is wrong with a beat; sides and beats compared; which may be, by the document. -/
import Derived.Test.YtnklkhcldcljaaaA
namespace Go.Proofs.Ytnklkhcldcljaaa
open Go.RowKit
attribute [local go_sem ↓] Go.wp_at_zero Go.wp_at_succ
set_option linter.unusedVariables false
set_option linter.unusedSimpArgs false

def startE (me pa : Int) (n : Nat) : Nat := if wi 0 1 me && wi 1 1000 pa then (if n ≤ 20000 then 0 else 4) else 3
def beatE (L : Sd) (B : Bt) : Nat := if canB B then (if B.fr = L.me then 6 else if oldB L B then 18 else 0) else 3
theorem lookStart_any (me pa : Int) (l : List Int) (v : Value) (w : World) (hv : rd w v l) (hl : l.length ≤ 17592186043904) : Calls Try.prog 32 #[.int .i64 me, .int .i64 pa, v] w fun e w' => e = .returned (.int .i64 (startE me pa l.length : Nat)) ∧ w = w' := by
  have c1 := two_any me w
  have c2 := pat_any pa w
  obtain ⟨a, cap, rfl, _⟩ := id hv
  clear hv
  have HR : Hid (startE me pa l.length = (if wi 0 1 me && wi 1 1000 pa then (if l.length ≤ 20000 then 0 else 4) else 3)) := hidI rfl
  generalize startE me pa l.length = R at *
  go_enter Try.func32, Try.ntmps32
  go_wp2_with fail
  refine c1.mono ?_
  rintro e w' ⟨rfl, rfl⟩
  cases k1 : wi 0 1 me with
  | false =>
    have hR : R = 3 := by rw [HR.out, k1]; rfl
    subst hR
    go_wp2
    go_ret
    exact ⟨rfl, rfl⟩
  | true =>
  rw [k1] at HR
  go_wp2_with fail
  refine c2.mono ?_
  rintro e w' ⟨rfl, rfl⟩
  cases k2 : wi 1 1000 pa with
  | false =>
    have hR : R = 3 := by rw [HR.out, k2]; rfl
    subst hR
    go_wp2
    go_ret
    exact ⟨rfl, rfl⟩
  | true =>
  rw [k2] at HR
  by_cases k3 : l.length ≤ 20000
  · have hR : R = 0 := by rw [HR.out, if_pos k3]; rfl
    subst hR
    have i3 : ¬ ((20000 : Int) < (l.length : Int)) := by omega
    go_wp2
    go_ret
    exact ⟨rfl, rfl⟩
  · have hR : R = 4 := by rw [HR.out, if_neg k3]; rfl
    subst hR
    have i3 : ((20000 : Int) < (l.length : Int)) := by omega
    go_wp2
    go_ret
    exact ⟨rfl, rfl⟩
set_option maxRecDepth 10000 in
set_option maxHeartbeats 1000000 in
theorem isOld_any (L : Sd) (B : Bt) (v u : Value) (w : World) : Calls Try.prog 48 #[sdV L v, btV B u] w fun e w' => e = .returned (.bool (oldB L B)) ∧ w.grownBy w' none := by
  obtain ⟨me, ac, te, cy, im, si, pa⟩ := L
  obtain ⟨fr, bte, bcy, bim⟩ := B
  dsimp only [sdV, sdA, btV, btA] at *
  obtain ⟨p, hp⟩ : ∃ p, w.heap.size = p := ⟨_, rfl⟩
  have hW1 : ((w.alloc (.cells #[.int .i64 me, .bool ac, .int .i64 te, .int .i64 cy, v, .int .i64 si, .int .i64 pa] 24)).alloc (.cells #[.int .i64 fr, .int .i64 bte, .int .i64 bcy, u] 32)).heap[p]? = some (.cells #[.int .i64 me, .bool ac, .int .i64 te, .int .i64 cy, v, .int .i64 si, .int .i64 pa] 24) := by
    rw [hp_old (by simp; omega)]; exact hp_new hp.symm _
  have hW2 : ((w.alloc (.cells #[.int .i64 me, .bool ac, .int .i64 te, .int .i64 cy, v, .int .i64 si, .int .i64 pa] 24)).alloc (.cells #[.int .i64 fr, .int .i64 bte, .int .i64 bcy, u] 32)).heap[p + 1]? = some (.cells #[.int .i64 fr, .int .i64 bte, .int .i64 bcy, u] 32) := hp_new (by simp; omega) _
  have hgW : w.grownBy ((w.alloc (.cells #[.int .i64 me, .bool ac, .int .i64 te, .int .i64 cy, v, .int .i64 si, .int .i64 pa] 24)).alloc (.cells #[.int .i64 fr, .int .i64 bte, .int .i64 bcy, u] 32)) none := gr_alloc (gr_alloc (World.grownBy.refl _ _) _) _
  have HR : Hid (oldB ⟨me, ac, te, cy, im, si, pa⟩ ⟨fr, bte, bcy, bim⟩ = (if bte = te then (if ac then decide (me = 0) else decide (bcy < cy)) else decide (bte < te))) := hidI rfl
  generalize oldB ⟨me, ac, te, cy, im, si, pa⟩ ⟨fr, bte, bcy, bim⟩ = R at *
  go_enter Try.func48, Try.ntmps48
  go_upto_region 1 with fail
  clear hp
  generalize (w.alloc (.cells #[.int .i64 me, .bool ac, .int .i64 te, .int .i64 cy, v, .int .i64 si, .int .i64 pa] 24)).alloc (.cells #[.int .i64 fr, .int .i64 bte, .int .i64 bcy, u] 32) = W at *
  obtain ⟨i0, i1, i2, i3, i4, i5, i6⟩ := at7 hW1
  obtain ⟨j0, j1, j2, j3⟩ := at4 hW2
  have HW := hidI hgW
  clear hW1 hW2 hgW
  by_cases k1 : bte = te
  · subst k1
    rw [if_pos rfl] at HR
    cases ac with
    | true =>
      simp only [if_true] at HR
      go_wp2
      go_ret
      refine ⟨ret_bool ?_, HW.out⟩
      rw [HR.out]
      try rfl
    | false =>
      simp only [Bool.false_eq_true, if_false] at HR
      go_wp2
      go_ret
      refine ⟨ret_bool ?_, HW.out⟩
      rw [HR.out]
      try rfl
  · rw [if_neg k1] at HR
    have e1 : (bte != te) = true := by simpa using k1
    go_wp2
    go_ret
    refine ⟨ret_bool ?_, HW.out⟩
    rw [HR.out]
    try rfl
set_option maxRecDepth 10000 in
set_option maxHeartbeats 1000000 in
theorem lookBeat_any (L : Sd) (B : Bt) (v u : Value) (w : World) (hu : rd w u B.im) (hl : B.im.length ≤ 17592186043904) : Calls Try.prog 40 #[sdV L v, btV B u] w fun e w' => e = .returned (.int .i64 (beatE L B : Nat)) ∧ w.grownBy w' none := by
  have cB := fun (X : World) (k : rd X u B.im) => mayTold_any B u X k hl
  have cO := fun (X : World) => isOld_any L B v u X
  have HR : Hid (beatE L B = (if canB B then (if B.fr = L.me then 6 else if oldB L B then 18 else 0) else 3)) := hidI rfl
  generalize beatE L B = R at *
  generalize canB B = D at *
  generalize oldB L B = O at *
  obtain ⟨me, ac, te, cy, im, si, pa⟩ := L
  obtain ⟨fr, bte, bcy, bim⟩ := B
  dsimp only [sdV, sdA, btV, btA] at *
  obtain ⟨p, hp⟩ : ∃ p, w.heap.size = p := ⟨_, rfl⟩
  have hW1 : ((w.alloc (.cells #[.int .i64 me, .bool ac, .int .i64 te, .int .i64 cy, v, .int .i64 si, .int .i64 pa] 24)).alloc (.cells #[.int .i64 fr, .int .i64 bte, .int .i64 bcy, u] 32)).heap[p]? = some (.cells #[.int .i64 me, .bool ac, .int .i64 te, .int .i64 cy, v, .int .i64 si, .int .i64 pa] 24) := by
    rw [hp_old (by simp; omega)]; exact hp_new hp.symm _
  have hW2 : ((w.alloc (.cells #[.int .i64 me, .bool ac, .int .i64 te, .int .i64 cy, v, .int .i64 si, .int .i64 pa] 24)).alloc (.cells #[.int .i64 fr, .int .i64 bte, .int .i64 bcy, u] 32)).heap[p + 1]? = some (.cells #[.int .i64 fr, .int .i64 bte, .int .i64 bcy, u] 32) := hp_new (by simp; omega) _
  have hgW : w.grownBy ((w.alloc (.cells #[.int .i64 me, .bool ac, .int .i64 te, .int .i64 cy, v, .int .i64 si, .int .i64 pa] 24)).alloc (.cells #[.int .i64 fr, .int .i64 bte, .int .i64 bcy, u] 32)) none := gr_alloc (gr_alloc (World.grownBy.refl _ _) _) _
  go_enter Try.func40, Try.ntmps40
  go_upto_region 1 with fail
  clear hp
  generalize (w.alloc (.cells #[.int .i64 me, .bool ac, .int .i64 te, .int .i64 cy, v, .int .i64 si, .int .i64 pa] 24)).alloc (.cells #[.int .i64 fr, .int .i64 bte, .int .i64 bcy, u] 32) = W at *
  obtain ⟨j0, j1, j2, j3⟩ := at4 hW2
  have cB := cB W (rd_grown hu hgW)
  go_wp2_with fail
  refine cB.mono ?_
  rintro e w1 ⟨rfl, g1⟩
  clear j0 j1 j2 j3 cB
  have hW1 := kept g1 hW1
  have hW2 := kept g1 hW2
  have hgW := grown_join hgW g1 (.inl rfl)
  clear g1 hu
  obtain ⟨i0, i1, i2, i3, i4, i5, i6⟩ := at7 hW1
  obtain ⟨j0, j1, j2, j3⟩ := at4 hW2
  have HW := hidI hgW
  clear hW1 hW2 hgW
  cases D with
  | false =>
    have hR : R = 3 := by rw [HR.out]; rfl
    subst hR
    go_wp2
    go_ret
    exact ⟨rfl, HW.out⟩
  | true =>
  simp only [if_true] at HR
  by_cases k1 : fr = me
  · subst k1
    have hR : R = 6 := by rw [HR.out, if_pos rfl]
    subst hR
    go_wp2
    go_ret
    exact ⟨rfl, HW.out⟩
  rw [if_neg k1] at HR
  have e1 : (fr == me) = false := by simpa using k1
  go_wp2_with fail
  refine (cO _).mono ?_
  rintro e w2 ⟨rfl, g2⟩
  cases O with
  | false =>
    have hR : R = 0 := by rw [HR.out]; rfl
    subst hR
    go_wp2
    go_ret
    exact ⟨rfl, grown_join HW.out g2 (.inl rfl)⟩
  | true =>
    have hR : R = 18 := by rw [HR.out]; rfl
    subst hR
    go_wp2
    go_ret
    exact ⟨rfl, grown_join HW.out g2 (.inl rfl)⟩
set_option maxRecDepth 10000 in
set_option maxHeartbeats 1000000 in
theorem sameSide_yes (L : Sd) (v u : Value) (w : World) (hv : rd w v L.im) (hu : rd w u L.im) (hl : L.im.length ≤ 17592186043904) : Calls Try.prog 16 #[sdV L v, sdV L u] w fun e w' => e = .returned (.bool true) ∧ w.grownBy w' none := by
  have cI := fun (X : World) (k : rd X v L.im) (k' : rd X u L.im) => sameInts_yes v u L.im X k k' (by omega)
  obtain ⟨me, ac, te, cy, im, si, pa⟩ := L
  dsimp only [sdV, sdA, btV, btA] at *
  obtain ⟨p, hp⟩ : ∃ p, w.heap.size = p := ⟨_, rfl⟩
  have hW1 : ((w.alloc (.cells #[.int .i64 me, .bool ac, .int .i64 te, .int .i64 cy, v, .int .i64 si, .int .i64 pa] 24)).alloc (.cells #[.int .i64 me, .bool ac, .int .i64 te, .int .i64 cy, u, .int .i64 si, .int .i64 pa] 24)).heap[p]? = some (.cells #[.int .i64 me, .bool ac, .int .i64 te, .int .i64 cy, v, .int .i64 si, .int .i64 pa] 24) := by
    rw [hp_old (by simp; omega)]; exact hp_new hp.symm _
  have hW2 : ((w.alloc (.cells #[.int .i64 me, .bool ac, .int .i64 te, .int .i64 cy, v, .int .i64 si, .int .i64 pa] 24)).alloc (.cells #[.int .i64 me, .bool ac, .int .i64 te, .int .i64 cy, u, .int .i64 si, .int .i64 pa] 24)).heap[p + 1]? = some (.cells #[.int .i64 me, .bool ac, .int .i64 te, .int .i64 cy, u, .int .i64 si, .int .i64 pa] 24) := hp_new (by simp; omega) _
  have hgW : w.grownBy ((w.alloc (.cells #[.int .i64 me, .bool ac, .int .i64 te, .int .i64 cy, v, .int .i64 si, .int .i64 pa] 24)).alloc (.cells #[.int .i64 me, .bool ac, .int .i64 te, .int .i64 cy, u, .int .i64 si, .int .i64 pa] 24)) none := gr_alloc (gr_alloc (World.grownBy.refl _ _) _) _
  go_enter Try.func16, Try.ntmps16
  go_upto_region 1 with fail
  clear hp
  generalize (w.alloc (.cells #[.int .i64 me, .bool ac, .int .i64 te, .int .i64 cy, v, .int .i64 si, .int .i64 pa] 24)).alloc (.cells #[.int .i64 me, .bool ac, .int .i64 te, .int .i64 cy, u, .int .i64 si, .int .i64 pa] 24) = W at *
  obtain ⟨i0, i1, i2, i3, i4, i5, i6⟩ := at7 hW1
  obtain ⟨j0, j1, j2, j3, j4, j5, j6⟩ := at7 hW2
  have cI := cI W (rd_grown hv hgW) (rd_grown hu hgW)
  have HW := hidI hgW
  obtain ⟨a, cap, rfl, _⟩ := id hv
  obtain ⟨b, cap', rfl, _⟩ := id hu
  clear hW1 hW2 hgW hv hu
  go_wp2_with fail
  refine cI.mono ?_
  rintro e w1 ⟨rfl, g1⟩
  go_wp2
  go_ret
  exact ⟨rfl, grown_join HW.out g1 (.inl rfl)⟩
set_option maxRecDepth 10000 in
set_option maxHeartbeats 1000000 in
theorem sameBeat_yes (L : Bt) (v u : Value) (w : World) (hv : rd w v L.im) (hu : rd w u L.im) (hl : L.im.length ≤ 17592186043904) : Calls Try.prog 15 #[btV L v, btV L u] w fun e w' => e = .returned (.bool true) ∧ w.grownBy w' none := by
  have cI := fun (X : World) (k : rd X v L.im) (k' : rd X u L.im) => sameInts_yes v u L.im X k k' (by omega)
  obtain ⟨fr, te, cy, im⟩ := L
  dsimp only [sdV, sdA, btV, btA] at *
  obtain ⟨p, hp⟩ : ∃ p, w.heap.size = p := ⟨_, rfl⟩
  have hW1 : ((w.alloc (.cells #[.int .i64 fr, .int .i64 te, .int .i64 cy, v] 32)).alloc (.cells #[.int .i64 fr, .int .i64 te, .int .i64 cy, u] 32)).heap[p]? = some (.cells #[.int .i64 fr, .int .i64 te, .int .i64 cy, v] 32) := by
    rw [hp_old (by simp; omega)]; exact hp_new hp.symm _
  have hW2 : ((w.alloc (.cells #[.int .i64 fr, .int .i64 te, .int .i64 cy, v] 32)).alloc (.cells #[.int .i64 fr, .int .i64 te, .int .i64 cy, u] 32)).heap[p + 1]? = some (.cells #[.int .i64 fr, .int .i64 te, .int .i64 cy, u] 32) := hp_new (by simp; omega) _
  have hgW : w.grownBy ((w.alloc (.cells #[.int .i64 fr, .int .i64 te, .int .i64 cy, v] 32)).alloc (.cells #[.int .i64 fr, .int .i64 te, .int .i64 cy, u] 32)) none := gr_alloc (gr_alloc (World.grownBy.refl _ _) _) _
  go_enter Try.func15, Try.ntmps15
  go_upto_region 1 with fail
  clear hp
  generalize (w.alloc (.cells #[.int .i64 fr, .int .i64 te, .int .i64 cy, v] 32)).alloc (.cells #[.int .i64 fr, .int .i64 te, .int .i64 cy, u] 32) = W at *
  obtain ⟨i0, i1, i2, i3⟩ := at4 hW1
  obtain ⟨j0, j1, j2, j3⟩ := at4 hW2
  have cI := cI W (rd_grown hv hgW) (rd_grown hu hgW)
  have HW := hidI hgW
  obtain ⟨a, cap, rfl, _⟩ := id hv
  obtain ⟨b, cap', rfl, _⟩ := id hu
  clear hW1 hW2 hgW hv hu
  go_wp2_with fail
  refine cI.mono ?_
  rintro e w1 ⟨rfl, g1⟩
  go_wp2
  go_ret
  exact ⟨rfl, grown_join HW.out g1 (.inl rfl)⟩
end Go.Proofs.Ytnklkhcldcljaaa
