/- work. -/
import Derived.Test.YtholmeebkgpjjaaM
namespace Go.Proofs.Ytholmeebkgpjjaa
open Go.RowKit
attribute [local go_sem ↓] Go.wp_at_zero Go.wp_at_succ
set_option linter.unusedVariables false
set_option linter.unusedSimpArgs false

def WorkP (w0 : World) (Fr : Nat → Obj → Prop) (B pb qb L : Nat) (s : Ps) (e : Ending) (w' : World) : Prop := e = .returned (.tuple #[]) ∧ ∃ qm' pa' pc', ProcAt w0 Fr B pb qb L s qm' pa' pc' w'
set_option maxHeartbeats 4000000 in
theorem work_any (w0 : World) (Fr : Nat → Obj → Prop) (B pb qb L : Nat) (s : Ps) (qm : Nat → Qm) (pa : Option Addr) (pc : Nat) (i : Nat) (e : Int) (j : Jb) (r : List Jb) (w : World) (h : ProcAt w0 Fr B pb qb L s qm pa pc w)
    (hi : i < L) (hL : L ≤ 16) (hq : s.q i = j :: r) (hl : s.out.length ≤ 100000) (h0 : 0 ≤ s.now) (h1 : s.now < e) (h2 : e ≤ 20000) (h3 : 1 ≤ j.left) (h4 : j.left ≤ 1000000) :
    Calls Try.prog 42 #[.pointer (some ⟨pb, 0, none⟩), .int .i64 i, .int .i64 e] w (WorkP w0 Fr B pb qb L (work1 i e s)) := by
  have hQ := h.each i hi
  rw [hq] at hQ
  obtain ⟨c0, c1, c2, c3, c4, d0, d1, d2, d3⟩ := hQ.head
  have hqc := h.qcell hi
  rw [hq, c1] at hqc
  have p0 : w.cell? ⟨pb, 0, none⟩ = some (.int .i64 s.now) := at_cell h.p 0
  have p1 : w.cell? ⟨pb, 1, none⟩ = some (.slice (some ⟨qb, 0, none⟩) L L) := at_cell h.p 1
  have hblk : (qm i).blk = some (qm i).g := by unfold Qm.blk; rw [if_pos c0]
  have hfr := h.free i hi _ hblk
  obtain ⟨sp, hsp⟩ : ∃ sp, min j.left (e - s.now) = sp := ⟨_, rfl⟩
  have hs1 : 1 ≤ sp ∧ sp ≤ j.left ∧ sp ≤ e - s.now := by rw [← hsp]; omega
  -- behind put
  have cP : ∀ W, w.grownBy W none → Calls Try.prog 46 #[.pointer (some ⟨pb, 0, none⟩), .agg #[.int .i64 i, .int .i64 j.num, .int .i64 s.now, .int .i64 (s.now + sp)]] W fun en w1 => en = .returned (.tuple #[]) ∧ ∃ pa' pc', Hid (ProcAt w0 Fr B pb qb L { s with out := putS s.out ⟨i, j.num, s.now, s.now + sp⟩ } qm pa' pc' w1) ∧
      w1.cell? ⟨pb, 0, none⟩ = some (.int .i64 s.now) ∧ w1.frozen? ⟨pb, 0, none⟩ = false ∧ w1.cell? ⟨(qm i).g, (qm i).off + 3, none⟩ = some (.int .i64 j.left) ∧ w1.frozen? ⟨(qm i).g, (qm i).off + 3, none⟩ = false ∧ w1.cell? ⟨pb, 1, none⟩ = some (.slice (some ⟨qb, 0, none⟩) L L) ∧ w1.cell? ⟨qb, i, none⟩ = some (.slice (some ⟨(qm i).g, (qm i).off, none⟩) (r.length + 1) (qm i).cap) ∧ w1.frozen? ⟨qb, i, none⟩ = false ∧ w1.cell? ⟨(qm i).g, (qm i).off + 1, none⟩ = some (.int .i64 j.num) := fun W hW =>
    (put_any w0 Fr B pb qb L s qm pa pc ⟨i, j.num, s.now, s.now + sp⟩ W hl (h.grow hW)).mono fun en w1 ⟨he, pa', pc', hP⟩ => by
      have hQ1 := hP.each i hi
      have hqc1 := hP.qcell hi
      have hQq : ({ s with out := putS s.out ⟨i, j.num, s.now, s.now + sp⟩ } : Ps).q i = j :: r := hq
      rw [hQq] at hQ1 hqc1
      obtain ⟨_, _, k2, _, _, _, k1, _, k3⟩ := hQ1.head
      rw [c1] at hqc1
      exact ⟨he, pa', pc', hP, at_cell hP.p 0, at_frozen hP.p 0, k3, at_frozen k2 _, at_cell hP.p 1, hqc1, at_frozen hP.q i, k1⟩
  have HW : Hid (work1 i e s = { now := s.now + sp, q := upd s.q i (if j.left - sp = 0 then r else { j with left := j.left - sp } :: r), out := putS s.out ⟨i, j.num, s.now, s.now + sp⟩ }) := by
    have e1 : work1 i e s = { now := s.now + sp, q := upd s.q i (if j.left - sp = 0 then r else { j with left := j.left - sp } :: r), out := putS s.out ⟨i, j.num, s.now, s.now + sp⟩ } := by
      unfold work1; rw [hq, ← hsp]
    exact e1
  have HQ : Hid (s.q i = j :: r) := hq
  generalize hgg : (qm i).g = g at *
  generalize hoff : (qm i).off = off at *
  have HGG : Hid ((qm i).g = g) := hgg
  have HOFF : Hid ((qm i).off = off) := hoff
  clear hgg hoff
  generalize hcap : (qm i).cap = cap at *
  have HCAP : Hid ((qm i).cap = cap) := hcap
  have HAO : Hid ((qm i).ao = some ⟨g, off, none⟩) := c1
  clear hq hQ c1 c2 hblk hcap
  have i1 : (0 : Int) ≤ (i : Int) := by omega
  have i2 : (i : Int) < (L : Int) := by omega
  go_enter Try.func42, Try.ntmps42
  go_wp2_with fail
  have i3 : IntKind.i64.wrap (e - s.now) = e - s.now := i64_id (by omega) (by omega)
  have HIF : Hid ((if e - s.now < j.left then e - s.now else j.left) = sp) := by
    have e1 : (if e - s.now < j.left then e - s.now else j.left) = sp := by rw [← hsp]; split <;> omega
    exact e1
  clear hsp
  go_quiet (fail)
  rw [HIF.out]
  go_wp2_with fail
  have q0 : (w.drewN nq).cell? ⟨pb, 0, none⟩ = some (.int .i64 s.now) := p0
  have qn : (w.drewN nq).cell? ⟨g, off + 1, none⟩ = some (.int .i64 j.num) := d1
  have HG : Hid (w.grownBy (w.drewN nq) none) := gr_drewN (World.grownBy.refl _ none) nq
  have i4 : IntKind.i64.wrap (s.now + sp) = s.now + sp := i64_id (by omega) (by omega)
  clear p0 p1 d0 d1 d2 d3 hqc
  generalize w.drewN nq = W at *
  go_region_held3 (fun w' => w'.cell? ⟨g, off + 1, none⟩ = some (.int .i64 j.num) ∧ w'.cell? ⟨pb, 0, none⟩ = some (.int .i64 s.now)) (first | (go_keep; done) | (refine ⟨?_, ?_⟩ <;> assumption)) (first | (go_at_call 46; refine (cP _ (by first | exact gr_drew HG.out | exact HG.out)).mono ?_; rintro en w1 ⟨rfl, pa', pc', HP, k0, kz, k3, k3z, k1, kc, kcz, kn⟩))
  have n1 : g ≠ pb := hfr.1
  have n2 : pb ≠ g := fun h => n1 h.symm
  have n3 : g ≠ qb := hfr.2
  have n4 : qb ≠ g := fun h => n3 h.symm
  have n5 : pb ≠ qb := h.pq.1
  have n6 : qb ≠ pb := fun h => n5 h.symm
  have HA : Hid (ProcAt w0 Fr B pb qb L { now := s.now + sp, q := upd s.q i ({ j with left := j.left - sp } :: r), out := putS s.out ⟨i, j.num, s.now, s.now + sp⟩ } (upd qm i ((qm i).left (j.left - sp))) pa' pc' ((w1.setCell ⟨pb, 0, none⟩ (.int .i64 (s.now + sp))).setCell ⟨g, off + 3, none⟩ (.int .i64 (j.left - sp)))) := by
    have e1 := (HP.out.setNow (s.now + sp)).setLeft hi HQ.out (j.left - sp)
    rw [HGG.out, HOFF.out] at e1
    exact e1
  clear hfr h HP cP q0 qn HG
  by_cases hz : j.left - sp = 0
  · have hb : (j.left - sp == 0) = true := by simp [hz]
    have HW2 : Hid (work1 i e s = { now := s.now + sp, q := upd s.q i r, out := putS s.out ⟨i, j.num, s.now, s.now + sp⟩ }) := by
      have e1 := HW.out
      rw [if_pos hz] at e1
      exact e1
    clear hz HW
    have hpop : ∀ v, v = (if cap = 1 then some (⟨g, off, none⟩ : Addr) else some ⟨g, off + 4, none⟩) → ∀ cc, cc = cap - 1 → ∃ qm', ProcAt w0 Fr B pb qb L { now := s.now + sp, q := upd s.q i r, out := putS s.out ⟨i, j.num, s.now, s.now + sp⟩ } qm' pa' pc' (((w1.setCell ⟨pb, 0, none⟩ (.int .i64 (s.now + sp))).setCell ⟨g, off + 3, none⟩ (.int .i64 (j.left - sp))).setCell ⟨qb, i, none⟩ (.slice v r.length cc)).drew := fun v hv cc hcc => by
      have e1 := HA.out.pop hi (j := { j with left := j.left - sp }) (r := r) (upd_same _ _ _)
      have e2 := e1.grow (gr_drew (World.grownBy.refl _ none))
      rw [upd_same] at e2
      have e3 : ((qm i).left (j.left - sp)).tl.ao = v := by
        rw [hv]
        show (if (qm i).cap = 1 then some (⟨(qm i).g, (qm i).off, none⟩ : Addr) else some ⟨(qm i).g, (qm i).off + 4, none⟩) = _
        rw [HCAP.out, HGG.out, HOFF.out]
      have e4 : ((qm i).left (j.left - sp)).tl.cap = cc := by
        rw [hcc, ← HCAP.out]; rfl
      rw [e3, e4] at e2
      dsimp only at e2
      rw [upd_upd] at e2
      exact ⟨_, e2⟩
    have HPOP : Hid (∀ v, v = (if cap = 1 then some (⟨g, off, none⟩ : Addr) else some ⟨g, off + 4, none⟩) → ∀ cc, cc = cap - 1 → ∃ qm', ProcAt w0 Fr B pb qb L { now := s.now + sp, q := upd s.q i r, out := putS s.out ⟨i, j.num, s.now, s.now + sp⟩ } qm' pa' pc' (((w1.setCell ⟨pb, 0, none⟩ (.int .i64 (s.now + sp))).setCell ⟨g, off + 3, none⟩ (.int .i64 (j.left - sp))).setCell ⟨qb, i, none⟩ (.slice v r.length cc)).drew) := hpop
    clear hpop
    by_cases hc1 : cap = 1
    · obtain ⟨qm', hF⟩ := HPOP.out (some ⟨g, off, none⟩) (by rw [if_pos hc1]) 0 (by omega)
      have HF : Hid (ProcAt w0 Fr B pb qb L { now := s.now + sp, q := upd s.q i r, out := putS s.out ⟨i, j.num, s.now, s.now + sp⟩ } qm' pa' pc' (((w1.setCell ⟨pb, 0, none⟩ (.int .i64 (s.now + sp))).setCell ⟨g, off + 3, none⟩ (.int .i64 (j.left - sp))).setCell ⟨qb, i, none⟩ (.slice (some ⟨g, off, none⟩) 0 0)).drew) := by rw [show r.length = 0 by omega] at hF; exact hF
      clear hF
      subst hc1
      go_wp2_with fail
      go_region
      all_goals
        go_wp2
        go_end0
        exact ⟨rfl, qm', pa', pc', by rw [HW2.out]; exact HF.out⟩
    · obtain ⟨qm', hF⟩ := HPOP.out (some ⟨g, off + 4, none⟩) (by rw [if_neg hc1]) (cap - 1) rfl
      have HF : Hid (ProcAt w0 Fr B pb qb L { now := s.now + sp, q := upd s.q i r, out := putS s.out ⟨i, j.num, s.now, s.now + sp⟩ } qm' pa' pc' (((w1.setCell ⟨pb, 0, none⟩ (.int .i64 (s.now + sp))).setCell ⟨g, off + 3, none⟩ (.int .i64 (j.left - sp))).setCell ⟨qb, i, none⟩ (.slice (some ⟨g, off + 4, none⟩) r.length (cap - 1))).drew) := hF
      clear hF
      go_wp2_with fail
      go_region
      all_goals
        go_wp2
        go_end0
        exact ⟨rfl, qm', pa', pc', by rw [HW2.out]; exact HF.out⟩
  · have hb : (j.left - sp == 0) = false := by simp [hz]
    have HW2 : Hid (work1 i e s = { now := s.now + sp, q := upd s.q i ({ j with left := j.left - sp } :: r), out := putS s.out ⟨i, j.num, s.now, s.now + sp⟩ }) := by
      have e1 := HW.out
      rw [if_neg hz] at e1
      exact e1
    clear hz HW
    go_wp2
    go_end0
    exact ⟨rfl, _, pa', pc', by rw [HW2.out]; exact HA.out⟩
end Go.Proofs.Ytholmeebkgpjjaa
