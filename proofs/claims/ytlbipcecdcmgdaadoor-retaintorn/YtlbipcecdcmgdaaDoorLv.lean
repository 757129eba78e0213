/- The law of Save. -/
import Derived.Test.YtlbipcecdcmgdaaDoorSv
namespace Go.Proofs.YtlbipcecdcmgdaaDoor
open Go.RowKit
attribute [local go_sem ↓] Go.wp_at_zero Go.wp_at_succ
set_option linter.unusedVariables false
set_option linter.unusedSimpArgs false

/-- Three writes that can be read. -/
def WsAt (w : World) (g sl : Nat) (bd hd : List Nat) (x1 x2 : Value) : Prop := w.heap[g]? = some (.cells (wsRow sl x1 x2) 43) ∧ rdB w x1 bd ∧ rdB w x2 hd
set_option maxRecDepth 10000 in
set_option maxHeartbeats 2000000 in
theorem sameWrites_yes (g g' sl : Nat) (bd hd : List Nat) (x1 x2 y1 y2 : Value) (w : World) (h : WsAt w g sl bd hd x1 x2) (h' : WsAt w g' sl bd hd y1 y2) :
    Calls Tryd.prog 21 #[.slice (some ⟨g, 0, none⟩) 3 3, .slice (some ⟨g', 0, none⟩) 3 3] w fun e w' => e = .returned (.bool true) ∧ w.grownBy w' none := by
  obtain ⟨hr, h1, h2⟩ := h
  obtain ⟨hr', h1', h2'⟩ := h'
  have rN : rdB w (.slice none 0 0) [] := ⟨none, 0, rfl, by simp, .inl rfl⟩
  have key : ∀ k, k < 3 → ∃ (er : Bool) (at_ : Int) (xd yd : Value) (D : List Nat),
      (w.cell? ⟨g, k * 4, none⟩ = some (.int .i64 (sl : Int)) ∧ w.cell? ⟨g, k * 4 + 1, none⟩ = some (.bool er) ∧ w.cell? ⟨g, k * 4 + 2, none⟩ = some (.int .i64 at_) ∧ w.cell? ⟨g, k * 4 + 3, none⟩ = some xd) ∧
      (w.cell? ⟨g', k * 4, none⟩ = some (.int .i64 (sl : Int)) ∧ w.cell? ⟨g', k * 4 + 1, none⟩ = some (.bool er) ∧ w.cell? ⟨g', k * 4 + 2, none⟩ = some (.int .i64 at_) ∧ w.cell? ⟨g', k * 4 + 3, none⟩ = some yd) ∧ rdB w xd D ∧ rdB w yd D := fun k hk => by
    have h3 : k = 0 ∨ k = 1 ∨ k = 2 := by omega
    rcases h3 with rfl | rfl | rfl
    · exact ⟨true, 0, .slice none 0 0, .slice none 0 0, [], ⟨at_cell hr _, at_cell hr _, at_cell hr _, at_cell hr _⟩, ⟨at_cell hr' _, at_cell hr' _, at_cell hr' _, at_cell hr' _⟩, rN, rN⟩
    · exact ⟨false, 16, x1, y1, bd, ⟨at_cell hr _, at_cell hr _, at_cell hr _, at_cell hr _⟩, ⟨at_cell hr' _, at_cell hr' _, at_cell hr' _, at_cell hr' _⟩, h1, h1'⟩
    · exact ⟨false, 0, x2, y2, hd, ⟨at_cell hr _, at_cell hr _, at_cell hr _, at_cell hr _⟩, ⟨at_cell hr' _, at_cell hr' _, at_cell hr' _, at_cell hr' _⟩, h2, h2'⟩
  clear hr hr' h1 h2 h1' h2' rN
  have KEY := hidI key
  clear key
  go_enter Tryd.func21, Tryd.ntmps21
  go_wp2_with fail
  go_loopg [5] 3 (fun gk s5 wx => ∃ k : Nat, s5 = .int .i64 k ∧ k ≤ 3 ∧ gk = 3 - k ∧ w.grownBy wx none)
  case atStart => exact ⟨0, rfl, by omega, by omega, World.grownBy.refl _ _⟩
  case round =>
    obtain ⟨k, rfl, hk, hgk, hgr⟩ := hrel
    have HG : Hid (gk = 3 - k) := hgk
    clear hgk
    by_cases hlt : k < 3
    · obtain ⟨er, at_, xd, yd, D, ⟨q0, q1, q2, q3⟩, ⟨p0, p1, p2, p3⟩, rx, ry⟩ := KEY.out k hlt
      have q0 := hgr.cell q0 (by simp)
      have q1 := hgr.cell q1 (by simp)
      have q2 := hgr.cell q2 (by simp)
      have q3 := hgr.cell q3 (by simp)
      have p0 := hgr.cell p0 (by simp)
      have p1 := hgr.cell p1 (by simp)
      have p2 := hgr.cell p2 (by simp)
      have p3 := hgr.cell p3 (by simp)
      have cS := fun n => Calls.quiet_of_same ((sameBytes_yes xd yd D (wr.drewN n) (rdB_grown (rdB_grown rx hgr) (gr_drewN (World.grownBy.refl _ _) n)) (rdB_grown (rdB_grown ry hgr) (gr_drewN (World.grownBy.refl _ _) n))).mono fun _ _ h => ⟨h.1, h.2.symm⟩)
      have HGR : Hid (w.grownBy wr none) := hgr
      obtain ⟨xa, xc, rfl, _, _⟩ := rx
      obtain ⟨ya, yc, rfl, _, _⟩ := ry
      clear hgr
      have j1 : (0 : Int) ≤ (k : Int) := by omega
      have j2 : (k : Int) < 3 := by omega
      go_wp2_with fail
      go_quiet (first | (go_at_call 11; with_reducible exact cS _))
      go_wp2
      have hgl := HG.out
      go_roundg (3 - (k + 1))
      all_goals first | omega | exact ⟨k + 1, by go_num, by omega, by omega, gr_drewN HGR.out _⟩
    · have j2 : ¬ (k : Int) < 3 := by omega
      go_wp2
      go_ret
      exact ⟨rfl, hgr⟩
theorem sameWrites_nil (w : World) : Calls Tryd.prog 21 #[.slice none 0 0, .slice none 0 0] w fun e w' => e = .returned (.bool true) ∧ w.grownBy w' none := by
  go_enter Tryd.func21, Tryd.ntmps21
  go_wp2_with fail
  refine wp_loop_rounds 1 ?_
  rw [rounds_succ]
  go_wp2
  go_ret
  exact ⟨rfl, World.grownBy.refl _ _⟩
end Go.Proofs.YtlbipcecdcmgdaaDoor
