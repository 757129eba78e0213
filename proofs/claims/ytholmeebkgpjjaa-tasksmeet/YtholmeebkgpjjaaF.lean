/- listOf: a call of tasks asked twice, what it answered written over. -/
import Derived.Test.YtholmeebkgpjjaaE
namespace Go.Proofs.Ytholmeebkgpjjaa
open Go.RowKit
attribute [local go_sem ↓] Go.wp_at_zero Go.wp_at_succ
set_option linter.unusedVariables false
set_option linter.unusedSimpArgs false

theorem OwnL.v {B : Nat} {w : World} {a : Option Addr} {cap : Nat} {l : List Int} (h : OwnL B w a cap l) : OwnV B w (.slice a l.length cap) l := h

set_option maxHeartbeats 2000000 in
theorem listOf_10 (l : List Tk) (v u : Value) (R : List Int × Int × Int) (w : World) (hb : l.length * 48 ≤ 140737488351232) (hv : TsAt w v l) (hR : R.1.length ≤ 16) (hu : rd w u R.1)
    (cF : ∀ W x, TsAt W x l → Calls Try.prog 10 #[x] W fun e w' => RespP W w' e R) :
    Calls Try.prog 9 #[.func (.func 10) #[] #[], v, u, .agg #[.int .i64 R.2.1, .int .i64 R.2.2, .int .i64 0]] w fun e w' => e = .returned (.bool true) ∧ w.grownBy w' none := by
  obtain ⟨r, c, n⟩ := R
  dsimp only at *
  obtain ⟨a, cap, rfl, hcells⟩ := hv.cells
  obtain ⟨ua, ucap, rfl, _⟩ := id hu
  obtain ⟨i0, hi, hz0, hz1, hz2⟩ := info_parts info42
  have hx0 := gr_alloc (World.grownBy.refl w none) (.cells #[.int .i64 c, .int .i64 n, .int .i64 0] 26)
  have hv1 := hv.grown hx0
  obtain ⟨ax, cx, hex, hc1⟩ := hv1.cells
  injection hex with e1 e2 e3
  subst e1 e3
  obtain ⟨oa, oc, w1, hrun, hown, hg1⟩ := run_append_all (P := Try.prog) (w.alloc (.cells #[.int .i64 c, .int .i64 n, .int .i64 0] 26)) 22 22 42 i0 _ 5 48 Try.underlying22 hi hz0 hz1 hz2 rfl (by omega) a l.length cap (l.flatMap rowT) (flat_len rowT 5 rowT_len l) hc1 (rowT_one l) (by unfold maxLen; omega) (by omega)
  have hm : OwnT (w.heap.size + 1) w1 oa oc l := by unfold OwnT; simpa using hown
  have HRUN : Hid ((Builtin.append_ #[22, 22] 22 #[.slice none 0 0, .slice a l.length cap]).run Try.prog (w.alloc (.cells #[.int .i64 c, .int .i64 n, .int .i64 0] 26)) = .ok (.slice oa l.length oc) w1) := hrun
  have hw1 := grown_join hx0 hg1 (.inl rfl)
  clear hrun hown hcells hc1 hv1
  go_enter Try.func9, Try.ntmps9
  go_wp2_with (first | (at_builtin; refine wpList_append_run rfl _ _ 22 rfl _ _ _ w1 rfl rfl HRUN.out ?_))
  refine (cF _ _ hm.ts).mono ?_
  rintro e w2 ⟨a1, cp1, rfl, ho1, hg2⟩
  have hg2' := gr_alloc hg2 (.cells #[.int .i64 c, .int .i64 n, .int .i64 0] 26)
  have hm2 := hm.kept hg2'
  dsimp only at ho1
  dsimp only
  go_wp2_with fail
  refine (cF _ _ hm2.ts).mono ?_
  rintro e w3 ⟨a2, cp2, rfl, ho2, hg3⟩
  dsimp only at ho2
  dsimp only
  have hg13 := grown_join hg2' hg3 (.inl rfl)
  obtain ⟨hl3, f0, f1, f2, _, _, _, _⟩ := flt hg3
  obtain ⟨hl0, y0, y1, y2, _, _, _, _⟩ := flt (grown_join hg1 hg13 (.inl rfl))
  have hg03 := grown_join hw1 hg13 (.inl rfl)
  have hg3' := gr_alloc hg3 (.cells #[.int .i64 c, .int .i64 n, .int .i64 0] 26)
  have hg23 := grown_join (gr_alloc (World.grownBy.refl w2 none) _) hg3' (.inl rfl)
  have hm3 := hm2.kept hg3'
  have ho13 := ho1.kept hg23
  have ho23 := ho2.kept (gr_alloc (World.grownBy.refl w3 none) (.cells #[.int .i64 c, .int .i64 n, .int .i64 0] 26))
  have hg03' := gr_alloc hg03 (.cells #[.int .i64 c, .int .i64 n, .int .i64 0] 26)
  go_wp2_with fail
  refine (sameInts_yes _ _ r _ ho13.rd (rd_grown hu hg03') (by omega)).mono ?_
  rintro e w4 ⟨rfl, hg4⟩
  go_wp2_with fail
  refine (sameInts_yes _ _ r _ (ho23.kept hg4).rd (rd_grown hu (grown_join hg03' hg4 (.inl rfl))) (by omega)).mono ?_
  rintro e w5 ⟨rfl, hg5⟩
  have hg45 := grown_join hg4 hg5 (.inl rfl)
  go_wp2_with fail
  refine (sameTasks_yes _ _ l _ (hv.grown (grown_join hg03' hg45 (.inl rfl))) (hm3.kept hg45).ts (by omega)).mono ?_
  rintro e w6 ⟨rfl, hg6⟩
  have hg46 := grown_join hg45 hg6 (.inl rfl)
  have hm6 := hm3.kept hg46
  have ho16 := ho13.kept hg46
  have ho26 := ho23.kept hg46
  have hg06 := grown_join hg03' hg46 (.inl rfl)
  have hA := World.ownsRow.lt ho1
  have hgx : ∃ g, w.heap.size ≤ g ∧ g < w1.heap.size ∧ (l.length = 0 ∨ oa = some ⟨g, 0, none⟩ ∧ ∃ cur, w6.heap[g]? = some (.cells cur 42) ∧ cur.size = oc * 5 ∧ l.length ≤ oc) := by
    have hlt := World.ownsRow.lt hm
    obtain ⟨_, ⟨_, hn⟩ | ⟨g, cap', cur, hvv, hgb, hcc, hnn, _, hss, _⟩⟩ := hm6
    · have := hg1.size
      simp at this
      exact ⟨w.heap.size, Nat.le_refl _, by omega, .inl hn⟩
    · injection hvv with e1 e2 e3
      subst e1 e3
      have := hlt g rfl
      exact ⟨g, by omega, this.2, .inr ⟨rfl, cur, hcc, hss, hnn⟩⟩
  obtain ⟨g, hgB, hg1', HG⟩ := hgx
  clear hm3 ho13 ho23 hg45 hg5 hg4 hg6 hm2 hm f0 f1 f2 y0 y1 y2 cF ho1 ho2
  have hsz1 := hg2'.size
  have hsz2 := hg3'.size
  have hsz3 := hg46.size
  have hsz0 := hw1.size
  simp at hsz1 hsz2 hsz3
  have HGH : Hid (l.length = 0 ∨ oa = some ⟨g, 0, none⟩ ∧ ∃ cur, w6.heap[g]? = some (.cells cur 42) ∧ cur.size = oc * 5 ∧ l.length ≤ oc) := HG
  have HA : Hid (∀ k, (Value.slice a1 r.length cp1).ownBlock = some k → w1.heap.size ≤ k ∧ k < w2.heap.size) := hA
  have HO1 : Hid (OwnL w1.heap.size w6 a1 cp1 r) := ho16
  have HU : Hid (rd w (.slice ua r.length ucap) r) := hu
  clear HG hA ho16 hu hv hm6
  go_wp2_with fail
  go_loopw [14] (fun i wx => ∃ k : Nat, k ≤ l.length ∧ i = .int .i64 k ∧ Hid (l.length = 0 ∨ oa = some ⟨g, 0, none⟩ ∧ ∃ cur, wx.heap[g]? = some (.cells cur 42) ∧ cur.size = oc * 5 ∧ l.length ≤ oc) ∧ w6.grownBy wx (some g)) (fun i _ => l.length - (intOf i).toNat)
  case atStart => exact ⟨0, Nat.zero_le _, rfl, HGH.out, World.grownBy.refl _ _⟩
  case round =>
    obtain ⟨k, hk, rfl, HR, hgr⟩ := hrel
    by_cases hlt : k < l.length
    · obtain h0 | ⟨rfl, cur, hcur, hcs, hlo⟩ := HR.out
      · omega
      have hx : ∀ j, j < 5 → ∃ x, wr.cell? ⟨g, k * 5 + j, none⟩ = some x := fun j hj => by
        rw [at_cell hcur]
        exact ⟨_, Array.getElem?_eq_getElem (by omega)⟩
      obtain ⟨x0, c0⟩ := hx 0 (by omega)
      obtain ⟨x1, c1⟩ := hx 1 (by omega)
      obtain ⟨x2, c2⟩ := hx 2 (by omega)
      obtain ⟨x3, c3⟩ := hx 3 (by omega)
      obtain ⟨x4, c4⟩ := hx 4 (by omega)
      rw [Nat.add_zero] at c0
      have z0 : wr.frozen? ⟨g, k * 5, none⟩ = false := at_frozen hcur _
      have z1 : wr.frozen? ⟨g, k * 5 + 1, none⟩ = false := at_frozen hcur _
      have z2 : wr.frozen? ⟨g, k * 5 + 2, none⟩ = false := at_frozen hcur _
      have z3 : wr.frozen? ⟨g, k * 5 + 3, none⟩ = false := at_frozen hcur _
      have z4 : wr.frozen? ⟨g, k * 5 + 4, none⟩ = false := at_frozen hcur _
      have HC : Hid (wr.heap[g]? = some (.cells cur 42)) := hcur
      have HGR : Hid (w6.grownBy wr (some g)) := hgr
      clear hx hcur hgr
      go_wp2
      go_roundw
      case rel =>
        refine ⟨k + 1, by omega, by go_num, .inr ⟨by trivial, _, at_set (at_set (at_set (at_set (at_set HC.out _ _) _ _) _ _) _ _) _ _, by simpa using hcs, hlo⟩, gr_set (gr_set (gr_set (gr_set (gr_set HGR.out _ _) _ _) _ _) _ _) _ _⟩
      case measure => simp [intOf]; omega
    · have ho1r := own_but HO1.out hgr hg1'
      have ho2r : OwnL (w2.heap.size + 1) wr a2 cp2 r := own_but (own_low ho26 (by simp)) hgr (by omega)
      have hgwr := grown_join hg06 hgr (.inr fun x hx => by injection hx with hx; omega)
      go_wp2_with fail
      refine (over_any _ _ r _ _ (by omega) ho1r).mono ?_
      rintro e w7 ⟨rfl, hg7⟩
      have ho27 : OwnL (w2.heap.size + 1) w7 a2 cp2 r := by
        cases hob : (Value.slice a1 r.length cp1).ownBlock with
        | none => rw [hob] at hg7; exact ho2r.kept hg7
        | some x =>
          rw [hob] at hg7
          have := HA.out x hob
          exact own_but ho2r hg7 (by omega)
      have hg07 := grown_join hgwr hg7 (.inr fun x hx => by have := HA.out x hx; omega)
      have hu7 := rd_grown HU.out hg07
      dsimp only
      go_wp2_with fail
      refine (sameInts_yes _ _ r _ ho27.rd hu7 (by omega)).mono ?_
      rintro e w8 ⟨rfl, hg8⟩
      go_wp2
      go_ret
      exact ⟨rfl, grown_join hg07 hg8 (.inl rfl)⟩
end Go.Proofs.Ytholmeebkgpjjaa
