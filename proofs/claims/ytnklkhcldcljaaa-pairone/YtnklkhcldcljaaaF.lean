/- The face of package pair. -/
import Derived.Test.YtnklkhcldcljaaaE
import Derived.Shelf.Abstract
namespace Go.Proofs.Ytnklkhcldcljaaa
open Go.RowKit Go.Shelf
attribute [local go_sem ↓] Go.wp_at_zero Go.wp_at_succ
set_option linter.unusedVariables false
set_option linter.unusedSimpArgs false

def stE (L : Sd) (E : Nat) : Nat := if canS L then E else 15
def stS (L : Sd) (E : Nat) (R : Sd) : Sd := if canS L then (if E = 0 then R else L) else zeroS
theorem waitS_im (L : Sd) : (waitS L).im = L.im := by
  unfold waitS
  split
  · rfl
  · split <;> rfl
set_option maxRecDepth 10000 in
set_option maxHeartbeats 1000000 in
theorem wait_any (L : Sd) (v : Value) (w : World) (hv : rd w v L.im) (hl : L.im.length ≤ 17592186043904) : Calls Try.prog 23 #[sdV L v] w fun e w' => StE w w' e (stS L (waitE L) (waitS L)) (stE L (waitE L)) := by
  obtain ⟨va, vc, rfl, _⟩ := id hv
  obtain ⟨p, hp⟩ : ∃ p, w.heap.size = p := ⟨_, rfl⟩
  have B1 : ((w.alloc (.cells #[.int .i64 L.me, .bool L.ac, .int .i64 L.te, .int .i64 L.cy, .slice va L.im.length vc, .int .i64 L.si, .int .i64 L.pa] 24)).alloc (.cells #[.int .i64 0, .bool false, .int .i64 0, .int .i64 0, .slice none 0 0, .int .i64 0, .int .i64 0] 24)).heap[p]? = some (.cells #[.int .i64 L.me, .bool L.ac, .int .i64 L.te, .int .i64 L.cy, .slice va L.im.length vc, .int .i64 L.si, .int .i64 L.pa] 24) := by
    rw [hp_old (by simp; omega)]; exact hp_new hp.symm _
  have B2 : ((w.alloc (.cells #[.int .i64 L.me, .bool L.ac, .int .i64 L.te, .int .i64 L.cy, .slice va L.im.length vc, .int .i64 L.si, .int .i64 L.pa] 24)).alloc (.cells #[.int .i64 0, .bool false, .int .i64 0, .int .i64 0, .slice none 0 0, .int .i64 0, .int .i64 0] 24)).heap[p + 1]? = some (.cells #[.int .i64 0, .bool false, .int .i64 0, .int .i64 0, .slice none 0 0, .int .i64 0, .int .i64 0] 24) := hp_new (by simp; omega) _
  have hgW : w.grownBy ((w.alloc (.cells #[.int .i64 L.me, .bool L.ac, .int .i64 L.te, .int .i64 L.cy, .slice va L.im.length vc, .int .i64 L.si, .int .i64 L.pa] 24)).alloc (.cells #[.int .i64 0, .bool false, .int .i64 0, .int .i64 0, .slice none 0 0, .int .i64 0, .int .i64 0] 24)) none := gr_alloc (gr_alloc (World.grownBy.refl _ _) _) _
  have cS := step_gen 41 #[] L (waitS L) (waitE L) (.slice va L.im.length vc) (.slice va L.im.length vc) _ (rd_grown hv hgW) (by rw [waitS_im]; exact rd_grown hv hgW) hl (by rw [waitS_im]; exact hl) (enters_of Try.func41 (by kernel_rfl) rfl) (fun hc W q g1 g2 h => waitC_any L _ W q h hc)
  unfold stE stS
  generalize (if canS L then (if (waitE L) = 0 then (waitS L) else L) else zeroS) = RR at *
  generalize (if canS L then (waitE L) else 15) = EE at *
  dsimp only [sdV, sdA, btV, btA] at *
  go_enter Try.func23, Try.ntmps23
  go_upto_region 1 with fail
  have HP := hidI hp
  clear hp
  generalize (w.alloc (.cells #[.int .i64 L.me, .bool L.ac, .int .i64 L.te, .int .i64 L.cy, .slice va L.im.length vc, .int .i64 L.si, .int .i64 L.pa] 24)).alloc (.cells #[.int .i64 0, .bool false, .int .i64 0, .int .i64 0, .slice none 0 0, .int .i64 0, .int .i64 0] 24) = W at *
  obtain ⟨i0, i1, i2, i3, i4, i5, i6⟩ := at7 B1
  have HW := hidI (And.intro B2 hgW)
  have hlt := hidI (at_lt B2)
  clear B1 B2
  go_wp2_with fail
  refine cS.mono ?_
  rintro e w1 ⟨a, c, rfl, o1, g1⟩
  obtain ⟨hR, hgW⟩ := HW.out
  have hR := kept g1 hR
  obtain ⟨j0, j1, j2, j3, j4, j5, j6⟩ := at7 hR
  obtain ⟨f0, f1, f2, f3, f4, f5, f6⟩ := fz7 hR
  have HX := hidI (And.intro hR (And.intro o1 (And.intro (grown_join hgW g1 (.inl rfl)) hgW.size)))
  clear hR o1 g1 hgW cS i0 i1 i2 i3 i4 i5 i6
  dsimp only [sdV, sdA] at *
  go_wp2
  obtain ⟨hR, o1, g1, hs⟩ := HX.out
  refine bodyPost_ret (results2 rfl _ _ (p + 1) RR (.slice a RR.im.length c) rfl (box7 hR)) rfl ?_
  have hp := HP.out
  have hlt := hlt.out
  exact ⟨a, c, rfl, own_low (own_but o1 (gr7 (World.grownBy.refl _ _)) (by omega)) hs, gr7n g1 (by omega)⟩
set_option maxRecDepth 10000 in
set_option maxHeartbeats 1000000 in
theorem hear_any (L : Sd) (B : Bt) (v u : Value) (w : World) (hv : rd w v L.im) (hl : L.im.length ≤ 17592186043904) (hu : rd w u B.im) (hb : B.im.length ≤ 17592186043904) : Calls Try.prog 20 #[sdV L v, btV B u] w fun e w' => StE w w' e (stS L (beatE L B) (hearS L B)) (stE L (beatE L B)) := by
  obtain ⟨va, vc, rfl, _⟩ := id hv
  obtain ⟨ua, uc, rfl, _⟩ := id hu
  obtain ⟨p, hp⟩ : ∃ p, w.heap.size = p := ⟨_, rfl⟩
  have B1 : (((w.alloc (.cells #[.int .i64 L.me, .bool L.ac, .int .i64 L.te, .int .i64 L.cy, .slice va L.im.length vc, .int .i64 L.si, .int .i64 L.pa] 24)).alloc (.cells #[.int .i64 B.fr, .int .i64 B.te, .int .i64 B.cy, .slice ua B.im.length uc] 32)).alloc (.cells #[.int .i64 0, .bool false, .int .i64 0, .int .i64 0, .slice none 0 0, .int .i64 0, .int .i64 0] 24)).heap[p]? = some (.cells #[.int .i64 L.me, .bool L.ac, .int .i64 L.te, .int .i64 L.cy, .slice va L.im.length vc, .int .i64 L.si, .int .i64 L.pa] 24) := by
    rw [hp_old (by simp; omega), hp_old (by simp; omega)]; exact hp_new hp.symm _
  have B2 : (((w.alloc (.cells #[.int .i64 L.me, .bool L.ac, .int .i64 L.te, .int .i64 L.cy, .slice va L.im.length vc, .int .i64 L.si, .int .i64 L.pa] 24)).alloc (.cells #[.int .i64 B.fr, .int .i64 B.te, .int .i64 B.cy, .slice ua B.im.length uc] 32)).alloc (.cells #[.int .i64 0, .bool false, .int .i64 0, .int .i64 0, .slice none 0 0, .int .i64 0, .int .i64 0] 24)).heap[p + 1]? = some (.cells #[.int .i64 B.fr, .int .i64 B.te, .int .i64 B.cy, .slice ua B.im.length uc] 32) := by
    rw [hp_old (by simp; omega)]; exact hp_new (by simp; omega) _
  have B3 : (((w.alloc (.cells #[.int .i64 L.me, .bool L.ac, .int .i64 L.te, .int .i64 L.cy, .slice va L.im.length vc, .int .i64 L.si, .int .i64 L.pa] 24)).alloc (.cells #[.int .i64 B.fr, .int .i64 B.te, .int .i64 B.cy, .slice ua B.im.length uc] 32)).alloc (.cells #[.int .i64 0, .bool false, .int .i64 0, .int .i64 0, .slice none 0 0, .int .i64 0, .int .i64 0] 24)).heap[p + 2]? = some (.cells #[.int .i64 0, .bool false, .int .i64 0, .int .i64 0, .slice none 0 0, .int .i64 0, .int .i64 0] 24) := hp_new (by simp; omega) _
  have hgW : w.grownBy (((w.alloc (.cells #[.int .i64 L.me, .bool L.ac, .int .i64 L.te, .int .i64 L.cy, .slice va L.im.length vc, .int .i64 L.si, .int .i64 L.pa] 24)).alloc (.cells #[.int .i64 B.fr, .int .i64 B.te, .int .i64 B.cy, .slice ua B.im.length uc] 32)).alloc (.cells #[.int .i64 0, .bool false, .int .i64 0, .int .i64 0, .slice none 0 0, .int .i64 0, .int .i64 0] 24)) none := gr_alloc (gr_alloc (gr_alloc (World.grownBy.refl _ _) _) _) _
  have cS := step_gen 39 #[.pointer (some ⟨p + 1, 0, none⟩)] L (hearS L B) (beatE L B) (.slice va L.im.length vc) (.slice ua B.im.length uc) _ (rd_grown hv hgW) (rd_grown hu hgW) hl hb (enters_of Try.func39 (by kernel_rfl) rfl) (fun hc W q g1 g2 h => hearC_any L B _ _ W q (p + 1) h (kept g1 B2) (rd_grown (rd_grown hu hgW) g1) ⟨_, _, _, rfl⟩ hb)
  unfold stE stS
  generalize (if canS L then (if (beatE L B) = 0 then (hearS L B) else L) else zeroS) = RR at *
  generalize (if canS L then (beatE L B) else 15) = EE at *
  dsimp only [sdV, sdA, btV, btA] at *
  go_enter Try.func20, Try.ntmps20
  go_upto_region 1 with fail
  have HP := hidI hp
  clear hp
  generalize ((w.alloc (.cells #[.int .i64 L.me, .bool L.ac, .int .i64 L.te, .int .i64 L.cy, .slice va L.im.length vc, .int .i64 L.si, .int .i64 L.pa] 24)).alloc (.cells #[.int .i64 B.fr, .int .i64 B.te, .int .i64 B.cy, .slice ua B.im.length uc] 32)).alloc (.cells #[.int .i64 0, .bool false, .int .i64 0, .int .i64 0, .slice none 0 0, .int .i64 0, .int .i64 0] 24) = W at *
  obtain ⟨i0, i1, i2, i3, i4, i5, i6⟩ := at7 B1
  have HW := hidI (And.intro B3 hgW)
  have hlt := hidI (at_lt B3)
  clear B1 B2 B3
  go_wp2_with fail
  refine cS.mono ?_
  rintro e w1 ⟨a, c, rfl, o1, g1⟩
  obtain ⟨hR, hgW⟩ := HW.out
  have hR := kept g1 hR
  obtain ⟨j0, j1, j2, j3, j4, j5, j6⟩ := at7 hR
  obtain ⟨f0, f1, f2, f3, f4, f5, f6⟩ := fz7 hR
  have HX := hidI (And.intro hR (And.intro o1 (And.intro (grown_join hgW g1 (.inl rfl)) hgW.size)))
  clear hR o1 g1 hgW cS i0 i1 i2 i3 i4 i5 i6
  dsimp only [sdV, sdA] at *
  go_wp2
  obtain ⟨hR, o1, g1, hs⟩ := HX.out
  refine bodyPost_ret (results2 rfl _ _ (p + 2) RR (.slice a RR.im.length c) rfl (box7 hR)) rfl ?_
  have hp := HP.out
  have hlt := hlt.out
  exact ⟨a, c, rfl, own_low (own_but o1 (gr7 (World.grownBy.refl _ _)) (by omega)) hs, gr7n g1 (by omega)⟩
set_option maxRecDepth 10000 in
set_option maxHeartbeats 1000000 in
theorem done_any (L : Sd) (l : List Int) (v u : Value) (w : World) (hv : rd w v L.im) (hl : L.im.length ≤ 17592186043904) (hu : rd w u l) (hb : l.length ≤ 17592186043904) : Calls Try.prog 25 #[sdV L v, u] w fun e w' => StE w w' e (stS L (doneE L l.length) (doneS L l)) (stE L (doneE L l.length)) := by
  obtain ⟨va, vc, rfl, _⟩ := id hv
  obtain ⟨ua, uc, rfl, _⟩ := id hu
  obtain ⟨p, hp⟩ : ∃ p, w.heap.size = p := ⟨_, rfl⟩
  have B1 : (((w.alloc (.cells #[.int .i64 L.me, .bool L.ac, .int .i64 L.te, .int .i64 L.cy, .slice va L.im.length vc, .int .i64 L.si, .int .i64 L.pa] 24)).alloc (.cells #[.slice ua l.length uc] 22)).alloc (.cells #[.int .i64 0, .bool false, .int .i64 0, .int .i64 0, .slice none 0 0, .int .i64 0, .int .i64 0] 24)).heap[p]? = some (.cells #[.int .i64 L.me, .bool L.ac, .int .i64 L.te, .int .i64 L.cy, .slice va L.im.length vc, .int .i64 L.si, .int .i64 L.pa] 24) := by
    rw [hp_old (by simp; omega), hp_old (by simp; omega)]; exact hp_new hp.symm _
  have B2 : (((w.alloc (.cells #[.int .i64 L.me, .bool L.ac, .int .i64 L.te, .int .i64 L.cy, .slice va L.im.length vc, .int .i64 L.si, .int .i64 L.pa] 24)).alloc (.cells #[.slice ua l.length uc] 22)).alloc (.cells #[.int .i64 0, .bool false, .int .i64 0, .int .i64 0, .slice none 0 0, .int .i64 0, .int .i64 0] 24)).heap[p + 1]? = some (.cells #[.slice ua l.length uc] 22) := by
    rw [hp_old (by simp; omega)]; exact hp_new (by simp; omega) _
  have B3 : (((w.alloc (.cells #[.int .i64 L.me, .bool L.ac, .int .i64 L.te, .int .i64 L.cy, .slice va L.im.length vc, .int .i64 L.si, .int .i64 L.pa] 24)).alloc (.cells #[.slice ua l.length uc] 22)).alloc (.cells #[.int .i64 0, .bool false, .int .i64 0, .int .i64 0, .slice none 0 0, .int .i64 0, .int .i64 0] 24)).heap[p + 2]? = some (.cells #[.int .i64 0, .bool false, .int .i64 0, .int .i64 0, .slice none 0 0, .int .i64 0, .int .i64 0] 24) := hp_new (by simp; omega) _
  have hgW : w.grownBy (((w.alloc (.cells #[.int .i64 L.me, .bool L.ac, .int .i64 L.te, .int .i64 L.cy, .slice va L.im.length vc, .int .i64 L.si, .int .i64 L.pa] 24)).alloc (.cells #[.slice ua l.length uc] 22)).alloc (.cells #[.int .i64 0, .bool false, .int .i64 0, .int .i64 0, .slice none 0 0, .int .i64 0, .int .i64 0] 24)) none := gr_alloc (gr_alloc (gr_alloc (World.grownBy.refl _ _) _) _) _
  have cS := step_gen 43 #[.pointer (some ⟨p + 1, 0, none⟩)] L (doneS L l) (doneE L l.length) (.slice va L.im.length vc) (.slice ua l.length uc) _ (rd_grown hv hgW) (rd_grown hu hgW) hl hb (enters_of Try.func43 (by kernel_rfl) rfl) (fun hc W q g1 g2 h => doneC_any L l _ _ W q (p + 1) h (kept g1 B2) (rd_grown (rd_grown hu hgW) g1) hb hc)
  unfold stE stS
  generalize (if canS L then (if (doneE L l.length) = 0 then (doneS L l) else L) else zeroS) = RR at *
  generalize (if canS L then (doneE L l.length) else 15) = EE at *
  dsimp only [sdV, sdA, btV, btA] at *
  go_enter Try.func25, Try.ntmps25
  go_upto_region 1 with fail
  have HP := hidI hp
  clear hp
  generalize ((w.alloc (.cells #[.int .i64 L.me, .bool L.ac, .int .i64 L.te, .int .i64 L.cy, .slice va L.im.length vc, .int .i64 L.si, .int .i64 L.pa] 24)).alloc (.cells #[.slice ua l.length uc] 22)).alloc (.cells #[.int .i64 0, .bool false, .int .i64 0, .int .i64 0, .slice none 0 0, .int .i64 0, .int .i64 0] 24) = W at *
  obtain ⟨i0, i1, i2, i3, i4, i5, i6⟩ := at7 B1
  have HW := hidI (And.intro B3 hgW)
  have hlt := hidI (at_lt B3)
  clear B1 B2 B3
  go_wp2_with fail
  refine cS.mono ?_
  rintro e w1 ⟨a, c, rfl, o1, g1⟩
  obtain ⟨hR, hgW⟩ := HW.out
  have hR := kept g1 hR
  obtain ⟨j0, j1, j2, j3, j4, j5, j6⟩ := at7 hR
  obtain ⟨f0, f1, f2, f3, f4, f5, f6⟩ := fz7 hR
  have HX := hidI (And.intro hR (And.intro o1 (And.intro (grown_join hgW g1 (.inl rfl)) hgW.size)))
  clear hR o1 g1 hgW cS i0 i1 i2 i3 i4 i5 i6
  dsimp only [sdV, sdA] at *
  go_wp2
  obtain ⟨hR, o1, g1, hs⟩ := HX.out
  refine bodyPost_ret (results2 rfl _ _ (p + 2) RR (.slice a RR.im.length c) rfl (box7 hR)) rfl ?_
  have hp := HP.out
  have hlt := hlt.out
  exact ⟨a, c, rfl, own_low (own_but o1 (gr7 (World.grownBy.refl _ _)) (by omega)) hs, gr7n g1 (by omega)⟩
def zeroB : Bt := ⟨0, 0, 0, []⟩
def sendB (L : Sd) : Bt := if stE L (sendE L) = 0 then ⟨L.me, L.te, L.cy, L.im⟩ else zeroB
/-- A beat of one's own, and an error. -/
def BtE (w w' : World) (e : Ending) (R : Bt) (E : Nat) : Prop :=
  ∃ a c, e = .returned (.tuple #[btV R (.slice a R.im.length c), .int .i64 (E : Int)]) ∧ OwnL w.heap.size w' a c R.im ∧ w.grownBy w' none
theorem stS_send {L : Sd} (h : stE L (sendE L) = 0) : stS L (sendE L) L = L := by
  unfold stE at h
  unfold stS
  split at h
  · rename_i k
    rw [if_pos k, if_pos h]
  · cases h
set_option maxRecDepth 10000 in
set_option maxHeartbeats 1000000 in
theorem send_any (L : Sd) (v : Value) (w : World) (hv : rd w v L.im) (hl : L.im.length ≤ 17592186043904) : Calls Try.prog 14 #[sdV L v] w fun e w' => BtE w w' e (sendB L) (stE L (sendE L)) := by
  obtain ⟨va, vc, rfl, _⟩ := id hv
  obtain ⟨p, hp⟩ : ∃ p, w.heap.size = p := ⟨_, rfl⟩
  have B1 : ((w.alloc (.cells #[.int .i64 L.me, .bool L.ac, .int .i64 L.te, .int .i64 L.cy, .slice va L.im.length vc, .int .i64 L.si, .int .i64 L.pa] 24)).alloc (.cells #[.int .i64 0, .int .i64 0, .int .i64 0, .slice none 0 0] 32)).heap[p]? = some (.cells #[.int .i64 L.me, .bool L.ac, .int .i64 L.te, .int .i64 L.cy, .slice va L.im.length vc, .int .i64 L.si, .int .i64 L.pa] 24) := by
    rw [hp_old (by simp; omega)]; exact hp_new hp.symm _
  have B2 : ((w.alloc (.cells #[.int .i64 L.me, .bool L.ac, .int .i64 L.te, .int .i64 L.cy, .slice va L.im.length vc, .int .i64 L.si, .int .i64 L.pa] 24)).alloc (.cells #[.int .i64 0, .int .i64 0, .int .i64 0, .slice none 0 0] 32)).heap[p + 1]? = some (.cells #[.int .i64 0, .int .i64 0, .int .i64 0, .slice none 0 0] 32) := hp_new (by simp; omega) _
  have hgW : w.grownBy ((w.alloc (.cells #[.int .i64 L.me, .bool L.ac, .int .i64 L.te, .int .i64 L.cy, .slice va L.im.length vc, .int .i64 L.si, .int .i64 L.pa] 24)).alloc (.cells #[.int .i64 0, .int .i64 0, .int .i64 0, .slice none 0 0] 32)) none := gr_alloc (gr_alloc (World.grownBy.refl _ _) _) _
  have cS := step_gen 37 #[] L L (sendE L) (.slice va L.im.length vc) (.slice va L.im.length vc) _ (rd_grown hv hgW) (rd_grown hv hgW) hl hl (enters_of Try.func37 (by kernel_rfl) rfl) (fun hc W q g1 g2 h => sendC_any L _ W q h)
  have HS : Hid (stE L (sendE L) = 0 → (if canS L then (if sendE L = 0 then L else L) else zeroS) = L) := hidI (fun h => stS_send h)
  have HB : Hid (sendB L = if stE L (sendE L) = 0 then ⟨L.me, L.te, L.cy, L.im⟩ else zeroB) := hidI rfl
  change Calls Try.prog 36 _ _ (fun e w' => StE _ w' e _ (stE L (sendE L))) at cS
  generalize (if canS L then (if sendE L = 0 then L else L) else zeroS) = RR at *
  generalize stE L (sendE L) = EE at *
  generalize sendB L = BB at *
  dsimp only [sdV, sdA, btV, btA] at *
  go_enter Try.func14, Try.ntmps14
  go_upto_region 1 with fail
  have HP := hidI hp
  clear hp
  generalize (w.alloc (.cells #[.int .i64 L.me, .bool L.ac, .int .i64 L.te, .int .i64 L.cy, .slice va L.im.length vc, .int .i64 L.si, .int .i64 L.pa] 24)).alloc (.cells #[.int .i64 0, .int .i64 0, .int .i64 0, .slice none 0 0] 32) = W at *
  obtain ⟨i0, i1, i2, i3, i4, i5, i6⟩ := at7 B1
  go_wp2_with fail
  refine cS.mono ?_
  rintro e w1 ⟨a, c, rfl, o1, g1⟩
  have B1_ := B1
  have B2_ := B2
  have B1 := kept g1 B1
  have B2 := kept g1 B2
  clear i0 i1 i2 i3 i4 i5 i6
  obtain ⟨i0, i1, i2, i3, i4, i5, i6⟩ := at7 B1
  obtain ⟨f0, f1, f2, f3, f4, f5, f6⟩ := fz7 B1
  dsimp only [sdV, sdA] at *
  have hX1 := box7 (x0 := .int .i64 RR.me) (x1 := .bool RR.ac) (x2 := .int .i64 RR.te) (x3 := .int .i64 RR.cy) (x4 := .slice a RR.im.length c) (x5 := .int .i64 RR.si) (x6 := .int .i64 RR.pa) B1
  have hX2 := keptBut (gr7 (x0 := .int .i64 RR.me) (x1 := .bool RR.ac) (x2 := .int .i64 RR.te) (x3 := .int .i64 RR.cy) (x4 := .slice a RR.im.length c) (x5 := .int .i64 RR.si) (x6 := .int .i64 RR.pa) (World.grownBy.refl w1 (some p))) B2 (by omega)
  have hXo := own_but (p := p) o1 (gr7 (x0 := .int .i64 RR.me) (x1 := .bool RR.ac) (x2 := .int .i64 RR.te) (x3 := .int .i64 RR.cy) (x4 := .slice a RR.im.length c) (x5 := .int .i64 RR.si) (x6 := .int .i64 RR.pa) (World.grownBy.refl w1 (some p))) (at_lt B1_)
  have hXg := gr7n (q := p) (x0 := .int .i64 RR.me) (x1 := .bool RR.ac) (x2 := .int .i64 RR.te) (x3 := .int .i64 RR.cy) (x4 := .slice a RR.im.length c) (x5 := .int .i64 RR.si) (x6 := .int .i64 RR.pa) (grown_join hgW g1 (.inl rfl)) (by rw [HP.out]; exact Nat.le_refl _)
  have HS2 := hidI hgW.size
  have hlt := hidI (at_lt B2_)
  clear B1 B2 o1 g1 hgW cS B1_ B2_
  go_upto_region 2 with fail
  clear i0 i1 i2 i3 i4 i5 i6 f0 f1 f2 f3 f4 f5 f6
  generalize (((((((w1.setCell ⟨p, 0, none⟩ (.int .i64 RR.me)).setCell ⟨p, 1, none⟩ (.bool RR.ac)).setCell ⟨p, 2, none⟩ (.int .i64 RR.te)).setCell ⟨p, 3, none⟩ (.int .i64 RR.cy)).setCell ⟨p, 4, none⟩ (.slice a RR.im.length c)).setCell ⟨p, 5, none⟩ (.int .i64 RR.si)).setCell ⟨p, 6, none⟩ (.int .i64 RR.pa)) = X at *
  obtain ⟨i0, i1, i2, i3, i4, i5, i6⟩ := at7 hX1
  obtain ⟨j0, j1, j2, j3⟩ := at4 hX2
  obtain ⟨f0, f1, f2, f3⟩ := fz4 hX2
  have HX := hidI (And.intro hX2 (And.intro hXo hXg))
  clear hX1 hX2 hXo hXg
  by_cases k : EE = 0
  · subst k
    have hB := HB.out
    rw [if_pos rfl] at hB
    have HH := hidI (And.intro (HS.out rfl) hB)
    clear HS HB hB
    go_wp2
    obtain ⟨hX2, hXo, hXg⟩ := HX.out
    obtain ⟨hR, hB⟩ := HH.out
    subst hB hR
    refine bodyPost_ret (results3 rfl _ _ (p + 1) ⟨RR.me, RR.te, RR.cy, RR.im⟩ (.slice a RR.im.length c) rfl (box4 hX2)) rfl ?_
    have hp := HP.out
    have hlt := hlt.out
    exact ⟨a, c, rfl, own_low (own_but hXo (gr4 (World.grownBy.refl _ _)) (by omega)) HS2.out, gr4n hXg (by omega)⟩
  · have e1 : ((EE : Int) != 0) = true := by simpa using k
    have hB := HB.out
    rw [if_neg k] at hB
    subst hB
    go_wp2
    obtain ⟨hX2, hXo, hXg⟩ := HX.out
    refine bodyPost_ret (results3 rfl _ _ (p + 1) zeroB (.slice none 0 0) rfl (box4 hX2)) rfl ?_
    have hp := HP.out
    exact ⟨none, 0, rfl, OwnL.nil _ _, gr4n hXg (by omega)⟩
def startS (me pa : Int) (l : List Int) : Sd := if startE me pa l.length = 0 then ⟨me, decide (me = 0), 0, 0, l, 0, pa⟩ else zeroS
set_option maxRecDepth 10000 in
set_option maxHeartbeats 1000000 in
theorem start_any (me pa : Int) (l : List Int) (v : Value) (w : World) (hv : rd w v l) (hl : l.length ≤ 17592186043904) : Calls Try.prog 11 #[.int .i64 me, .int .i64 pa, v] w fun e w' => StE w w' e (startS me pa l) (startE me pa l.length) := by
  obtain ⟨va, vc, rfl, _⟩ := id hv
  obtain ⟨p, hp⟩ : ∃ p, w.heap.size = p := ⟨_, rfl⟩
  have B1 : (w.alloc (.cells #[.int .i64 0, .bool false, .int .i64 0, .int .i64 0, .slice none 0 0, .int .i64 0, .int .i64 0] 24)).heap[p]? = some (.cells #[.int .i64 0, .bool false, .int .i64 0, .int .i64 0, .slice none 0 0, .int .i64 0, .int .i64 0] 24) := hp_new hp.symm _
  have hgW : w.grownBy (w.alloc (.cells #[.int .i64 0, .bool false, .int .i64 0, .int .i64 0, .slice none 0 0, .int .i64 0, .int .i64 0] 24)) none := gr_alloc (World.grownBy.refl _ _) _
  have cL := lookStart_any me pa l _ _ (rd_grown hv hgW) hl
  have cC := clone_any l _ _ (rd_grown hv hgW) hl
  have HS : Hid (startS me pa l = if startE me pa l.length = 0 then ⟨me, decide (me = 0), 0, 0, l, 0, pa⟩ else zeroS) := hidI rfl
  generalize startS me pa l = RR at *
  generalize startE me pa l.length = EE at *
  go_enter Try.func11, Try.ntmps11
  go_upto_region 1 with fail
  have HP := hidI hp
  clear hp
  generalize w.alloc (.cells #[.int .i64 0, .bool false, .int .i64 0, .int .i64 0, .slice none 0 0, .int .i64 0, .int .i64 0] 24) = W at *
  go_wp2_with fail
  refine cL.mono ?_
  rintro e w1 ⟨rfl, rfl⟩
  by_cases k : EE = 0
  case neg =>
    have e1 : ((EE : Int) != 0) = true := by simpa using k
    have hS := HS.out
    rw [if_neg k] at hS
    subst hS
    obtain ⟨i0, i1, i2, i3, i4, i5, i6⟩ := at7 B1
    obtain ⟨f0, f1, f2, f3, f4, f5, f6⟩ := fz7 B1
    have HX := hidI (And.intro B1 hgW)
    clear B1 hgW cC cL
    go_wp2
    obtain ⟨B1, hgW⟩ := HX.out
    refine bodyPost_ret (results2 rfl _ _ p zeroS (.slice none 0 0) rfl (box7 B1)) rfl ?_
    have hp := HP.out
    exact ⟨none, 0, rfl, OwnL.nil _ _, gr7n hgW (by omega)⟩
  subst k
  have hS := HS.out
  rw [if_pos rfl] at hS
  go_wp2_with fail
  refine cC.mono ?_
  rintro e w2 ⟨a, c, rfl, o2, g2⟩
  have B2 := kept g2 B1
  obtain ⟨i0, i1, i2, i3, i4, i5, i6⟩ := at7 B2
  obtain ⟨f0, f1, f2, f3, f4, f5, f6⟩ := fz7 B2
  have HX := hidI (And.intro B2 (And.intro (grown_join hgW g2 (.inl rfl)) (And.intro o2 (And.intro (at_lt B1) hgW.size))))
  have HS2 := hidI hS
  clear B1 B2 hgW cC cL g2 o2 hS
  go_wp2
  obtain ⟨B2, hg, o2, hlt, hsz⟩ := HX.out
  have hS := HS2.out
  subst hS
  refine bodyPost_ret (results2 rfl _ _ p ⟨me, decide (me = 0), 0, 0, l, 0, pa⟩ (.slice a l.length c) rfl (box7 B2)) rfl ?_
  have hp := HP.out
  exact ⟨a, c, rfl, own_low (own_but o2 (gr7 (World.grownBy.refl _ _)) (by omega)) hsz, gr7n hg (by omega)⟩
end Go.Proofs.Ytnklkhcldcljaaa
