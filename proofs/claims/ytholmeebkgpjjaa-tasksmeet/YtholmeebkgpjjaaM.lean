/- put, work, workTo: the processor walked. -/
import Derived.Test.YtholmeebkgpjjaaK2
import Derived.Deep.RegionLaw
namespace Go.Proofs.Ytholmeebkgpjjaa
open Go.RowKit
attribute [local go_sem ↓] Go.wp_at_zero Go.wp_at_succ
set_option linter.unusedVariables false
set_option linter.unusedSimpArgs false

/-- An append at a step of a region that draws, its run known. -/
theorem step_append_run {P : Program} {w : World} {ops : Array Oper} {o : Oper} {a : Act} {K : Act → World → Prop} {Q : Exit → Act → World → Prop} {E : Prop} (hgd : o.guard = none) (s x : Operand) (t : TypeId)
    (ho : o.op = .call { callee := .builtin .append, args := #[s, x], argTypes := #[t, t] })
    (v u v' : Value) (w' : World) (hs : a.eval s = v) (hx : a.eval x = u) (hrun : (Builtin.append_ #[t, t] o.type #[v, u]).run P w = .ok v' w')
    (h : K (a.put o.dst v') w') : if Region.wanted o (yielded ops a.tmps) = true then Oper.wp P o a w K Q else E := by
  have hw : Region.wanted o (yielded ops a.tmps) = true := by simp [Region.wanted, hgd]
  rw [if_pos hw]
  unfold Oper.wp
  simp [execOp, ho, resolve, invoke, builtin, hs, hx, hrun, Result.andThen]
  exact h
def PutP (w0 : World) (Fr : Nat → Obj → Prop) (B pb qb L : Nat) (s : Ps) (qm : Nat → Qm) (e : Ending) (w' : World) : Prop := e = .returned (.tuple #[]) ∧ ∃ pa' pc', ProcAt w0 Fr B pb qb L s qm pa' pc' w'
theorem put_nil {x : Sl} : putS [] x = [x] := rfl
theorem put_same {o : List Sl} {k x : Sl} (h1 : k.task = x.task) (h2 : k.job = x.job) : putS (o ++ [k]) x = o ++ [{ k with to := x.to }] := by
  unfold putS; simp [h1, h2]
theorem put_other {o : List Sl} {k x : Sl} (h : ¬ (k.task = x.task ∧ k.job = x.job)) : putS (o ++ [k]) x = o ++ [k] ++ [x] := by
  unfold putS; simp [h]

set_option maxHeartbeats 4000000 in
theorem put_any (w0 : World) (Fr : Nat → Obj → Prop) (B pb qb L : Nat) (s : Ps) (qm : Nat → Qm) (pa : Option Addr) (pc : Nat) (x : Sl) (w : World) (hl : s.out.length ≤ 100000) (h : ProcAt w0 Fr B pb qb L s qm pa pc w) :
    Calls Try.prog 46 #[.pointer (some ⟨pb, 0, none⟩), .agg #[.int .i64 x.task, .int .i64 x.job, .int .i64 x.fr, .int .i64 x.to]] w (PutP w0 Fr B pb qb L { s with out := putS s.out x } qm) := by
  have hlt := h.lt
  have h1 := h.grow (gr_alloc (World.grownBy.refl w none) (.cells #[.int .i64 x.task, .int .i64 x.job, .int .i64 x.fr, .int .i64 x.to] 36))
  have hbox := heap_alloc_new w (.cells #[.int .i64 x.task, .int .i64 x.job, .int .i64 x.fr, .int .i64 x.to] 36)
  have p2 : (w.alloc (.cells #[.int .i64 x.task, .int .i64 x.job, .int .i64 x.fr, .int .i64 x.to] 36)).cell? ⟨pb, 2, none⟩ = some (.slice pa s.out.length pc) := at_cell h1.p 2
  have pz := at_frozen h1.p 2
  have x0 : (w.alloc (.cells #[.int .i64 x.task, .int .i64 x.job, .int .i64 x.fr, .int .i64 x.to] 36)).cell? ⟨w.heap.size, 0, none⟩ = some (.int .i64 x.task) := at_cell hbox 0
  have x1 : (w.alloc (.cells #[.int .i64 x.task, .int .i64 x.job, .int .i64 x.fr, .int .i64 x.to] 36)).cell? ⟨w.heap.size, 1, none⟩ = some (.int .i64 x.job) := at_cell hbox 1
  have x2 : (w.alloc (.cells #[.int .i64 x.task, .int .i64 x.job, .int .i64 x.fr, .int .i64 x.to] 36)).cell? ⟨w.heap.size, 2, none⟩ = some (.int .i64 x.fr) := at_cell hbox 2
  have x3 : (w.alloc (.cells #[.int .i64 x.task, .int .i64 x.job, .int .i64 x.fr, .int .i64 x.to] 36)).cell? ⟨w.heap.size, 3, none⟩ = some (.int .i64 x.to) := at_cell hbox 3
  have hbl : w.heap.size < (w.alloc (.cells #[.int .i64 x.task, .int .i64 x.job, .int .i64 x.fr, .int .i64 x.to] 36)).heap.size := by simp
  have hob : ∀ y, (Value.slice pa s.out.length pc).ownBlock = some y → y < w.heap.size := fun y hy => (World.ownsRow.lt h.out y hy).2
  have HOB : Hid ((Value.slice pa s.out.length pc).ownBlock ≠ some w.heap.size) := fun e => by have := hob _ e; omega
  clear hob
  have H1 : Hid (ProcAt w0 Fr B pb qb L s qm pa pc (w.alloc (.cells #[.int .i64 x.task, .int .i64 x.job, .int .i64 x.fr, .int .i64 x.to] 36))) := h1
  clear h1
  rcases List.eq_nil_or_concat s.out with ho | ⟨o, k, ho⟩
  · have hn : s.out.length = 0 := by rw [ho]; rfl
    have HN : Hid (s.out.length = 0) := hn
    have HP : Hid (putS s.out x = s.out ++ [x]) := by rw [ho]; exact hide put_nil
    rw [hn] at hl p2
    clear ho hn
    have hd : decide ((0 : Int) < 0) = false := by decide
    have HBX : Hid ((w.alloc (.cells #[.int .i64 x.task, .int .i64 x.job, .int .i64 x.fr, .int .i64 x.to] 36)).heap[w.heap.size]? = some (.cells #[.int .i64 x.task, .int .i64 x.job, .int .i64 x.fr, .int .i64 x.to] 36)) := hbox
    clear h hbox
    go_enter Try.func46, Try.ntmps46
    go_wp2_with fail
    go_quiet (fail)
    go_wp2_with fail
    have H2 : Hid (ProcAt w0 Fr B pb qb L s qm pa pc ((w.alloc (.cells #[.int .i64 x.task, .int .i64 x.job, .int .i64 x.fr, .int .i64 x.to] 36)).drewN nq)) := H1.out.grow (gr_drewN (World.grownBy.refl _ none) nq)
    have q2 : ((w.alloc (.cells #[.int .i64 x.task, .int .i64 x.job, .int .i64 x.fr, .int .i64 x.to] 36)).drewN nq).cell? ⟨pb, 2, none⟩ = some (.slice pa 0 pc) := p2
    have y0 : ((w.alloc (.cells #[.int .i64 x.task, .int .i64 x.job, .int .i64 x.fr, .int .i64 x.to] 36)).drewN nq).cell? ⟨w.heap.size, 0, none⟩ = some (.int .i64 x.task) := x0
    have y1 : ((w.alloc (.cells #[.int .i64 x.task, .int .i64 x.job, .int .i64 x.fr, .int .i64 x.to] 36)).drewN nq).cell? ⟨w.heap.size, 1, none⟩ = some (.int .i64 x.job) := x1
    have y2 : ((w.alloc (.cells #[.int .i64 x.task, .int .i64 x.job, .int .i64 x.fr, .int .i64 x.to] 36)).drewN nq).cell? ⟨w.heap.size, 2, none⟩ = some (.int .i64 x.fr) := x2
    have hbW : ((w.alloc (.cells #[.int .i64 x.task, .int .i64 x.job, .int .i64 x.fr, .int .i64 x.to] 36)).drewN nq).heap[w.heap.size]? = some (.cells #[.int .i64 x.task, .int .i64 x.job, .int .i64 x.fr, .int .i64 x.to] 36) := HBX.out
    have y3 : ((w.alloc (.cells #[.int .i64 x.task, .int .i64 x.job, .int .i64 x.fr, .int .i64 x.to] 36)).drewN nq).cell? ⟨w.heap.size, 3, none⟩ = some (.int .i64 x.to) := x3
    clear p2 x0 x1 x2 x3 pz hbl
    generalize (w.alloc (.cells #[.int .i64 x.task, .int .i64 x.job, .int .i64 x.fr, .int .i64 x.to] 36)).drewN nq = W at *
    have l1 : pb < W.heap.size := H2.out.lt.1
    have l2 : w.heap.size < W.heap.size := at_lt hbW
    obtain ⟨pa', pc', w2, r1, r2, r4, r3⟩ := (H2.out.grow (gr_drew (World.grownBy.refl _ none))).more x (by rw [HN.out]; omega)
    rw [HN.out] at r1 r2 r3
    have HR1 : Hid ((Builtin.append_ #[31, 31] 31 #[.slice pa 0 pc, .slice (some ⟨W.heap.size, 0, none⟩) 1 1]).run Try.prog (W.drew.alloc (.cells #[.int .i64 x.task, .int .i64 x.job, .int .i64 x.fr, .int .i64 x.to] 36)) = .ok (.slice pa' (0 + 1) pc') w2) := r1
    have HR3 : Hid (ProcAt w0 Fr B pb qb L { s with out := s.out ++ [x] } qm pa' pc' (w2.setCell ⟨pb, 2, none⟩ (.slice pa' (0 + 1) pc'))) := r3
    have k2 : w2.cell? ⟨pb, 2, none⟩ = some (.slice pa 0 pc) := at_cell r2 2
    have kz := at_frozen r2 2
    clear r1 r3 r2 r4 hbW
    go_region_law (first | (refine step_append_run (by rfl) _ _ 31 (by rfl) _ _ _ w2 (by rfl) (by rfl) HR1.out ?_))
    all_goals
      go_end0
      exact ⟨rfl, pa', pc', by rw [HP.out]; exact HR3.out⟩
  · rw [List.concat_eq_append] at ho
    have hn : s.out.length = o.length + 1 := by rw [ho]; simp
    have HN : Hid (s.out.length = o.length + 1) := hn
    have hpo := @put_other o k x
    have hps := @put_same o k x
    obtain ⟨g, rfl, hgp, hpg, l0, l1', l3, lz, hset⟩ := H1.out.lastAt ho
    rw [← ho] at hpo hps
    have HSET : Hid (∀ y : Int, ∀ n, ProcAt w0 Fr B pb qb L { s with out := o ++ [{ k with to := y }] } qm (some ⟨g, 0, none⟩) pc (((w.alloc (.cells #[.int .i64 x.task, .int .i64 x.job, .int .i64 x.fr, .int .i64 x.to] 36)).drewN n).drew.setCell ⟨g, o.length * 4 + 3, none⟩ (.int .i64 y))) := fun y n => by
      obtain ⟨g', hg', _, _, _, _, _, _, hset'⟩ := (H1.out.grow (gr_drew (gr_drewN (World.grownBy.refl _ none) n))).lastAt ho
      injection hg' with hg'
      injection hg' with hg'
      subst hg'
      exact hset' y
    have gl : g < (w.alloc (.cells #[.int .i64 x.task, .int .i64 x.job, .int .i64 x.fr, .int .i64 x.to] 36)).heap.size := by
      have := World.ownsRow.lt H1.out.out g rfl
      exact this.2
    rw [hn] at hl p2
    clear ho hn hset
    have hd : decide ((0 : Int) < ((o.length + 1 : Nat) : Int)) = true := decide_eq_true (by omega)
    have hd' : decide ((0 : Int) < (o.length : Int) + 1) = true := decide_eq_true (by omega)
    have i1 : (0 : Int) ≤ (o.length : Int) := by omega
    have i2 : (o.length : Int) < ((o.length + 1 : Nat) : Int) := by omega
    have i3 : IntKind.i64.wrap (((o.length + 1 : Nat) : Int) - 1) = (o.length : Int) := by rw [show ((o.length + 1 : Nat) : Int) - 1 = o.length by omega]; exact i64_id (by omega) (by omega)
    have i4 : IntKind.i64.wrap ((o.length : Int) + 1 - 1) = (o.length : Int) := by rw [show (o.length : Int) + 1 - 1 = o.length by omega]; exact i64_id (by omega) (by omega)
    by_cases c1 : k.task = x.task
    · have b1 : (k.task == x.task) = true := by simp [c1]
      by_cases c2 : k.job = x.job
      · have b2 : (k.job == x.job) = true := by simp [c2]
        have HP : Hid (putS s.out x = o ++ [{ k with to := x.to }]) := hps c1 c2
        have hgw : g ≠ w.heap.size := fun e => HOB.out (by rw [e]; rfl)
        have hwg : w.heap.size ≠ g := fun e => hgw e.symm
        clear hpo hps h hbox
        go_enter Try.func46, Try.ntmps46
        go_wp2_with fail
        go_quiet (fail)
        go_wp2_with fail
        have q2 : ((w.alloc (.cells #[.int .i64 x.task, .int .i64 x.job, .int .i64 x.fr, .int .i64 x.to] 36)).drewN nq).cell? ⟨pb, 2, none⟩ = some (.slice (some ⟨g, 0, none⟩) (o.length + 1) pc) := p2
        have y3 : ((w.alloc (.cells #[.int .i64 x.task, .int .i64 x.job, .int .i64 x.fr, .int .i64 x.to] 36)).drewN nq).cell? ⟨w.heap.size, 3, none⟩ = some (.int .i64 x.to) := x3
        have m3 : ((w.alloc (.cells #[.int .i64 x.task, .int .i64 x.job, .int .i64 x.fr, .int .i64 x.to] 36)).drewN nq).cell? ⟨g, o.length * 4 + 3, none⟩ = some (.int .i64 k.to) := l3
        have mz : ((w.alloc (.cells #[.int .i64 x.task, .int .i64 x.job, .int .i64 x.fr, .int .i64 x.to] 36)).drewN nq).frozen? ⟨g, o.length * 4 + 3, none⟩ = false := lz
        have HS2 : Hid (ProcAt w0 Fr B pb qb L { s with out := o ++ [{ k with to := x.to }] } qm (some ⟨g, 0, none⟩) pc (((w.alloc (.cells #[.int .i64 x.task, .int .i64 x.job, .int .i64 x.fr, .int .i64 x.to] 36)).drewN nq).drew.setCell ⟨g, o.length * 4 + 3, none⟩ (.int .i64 x.to))) := HSET.out x.to nq
        clear p2 x0 x1 x2 x3 pz hbl l3 lz l0 l1' HSET H1
        generalize (w.alloc (.cells #[.int .i64 x.task, .int .i64 x.job, .int .i64 x.fr, .int .i64 x.to] 36)).drewN nq = W at *
        go_region
        go_wp2
        refine bodyPost_ret (results_none rfl _ _ _) rfl ?_
        exact ⟨rfl, some ⟨g, 0, none⟩, pc, by rw [HP.out]; exact HS2.out⟩
      · have b2 : (k.job == x.job) = false := by simp [c2]
        have HP : Hid (putS s.out x = s.out ++ [x]) := hpo (fun h => c2 h.2)
        clear hpo hps
        have HBX : Hid ((w.alloc (.cells #[.int .i64 x.task, .int .i64 x.job, .int .i64 x.fr, .int .i64 x.to] 36)).heap[w.heap.size]? = some (.cells #[.int .i64 x.task, .int .i64 x.job, .int .i64 x.fr, .int .i64 x.to] 36)) := hbox
        clear h hbox
        go_enter Try.func46, Try.ntmps46
        go_wp2_with fail
        go_quiet (fail)
        go_wp2_with fail
        have H2 : Hid (ProcAt w0 Fr B pb qb L s qm (some ⟨g, 0, none⟩) pc ((w.alloc (.cells #[.int .i64 x.task, .int .i64 x.job, .int .i64 x.fr, .int .i64 x.to] 36)).drewN nq)) := H1.out.grow (gr_drewN (World.grownBy.refl _ none) nq)
        have q2 : ((w.alloc (.cells #[.int .i64 x.task, .int .i64 x.job, .int .i64 x.fr, .int .i64 x.to] 36)).drewN nq).cell? ⟨pb, 2, none⟩ = some (.slice (some ⟨g, 0, none⟩) (o.length + 1) pc) := p2
        have y0 : ((w.alloc (.cells #[.int .i64 x.task, .int .i64 x.job, .int .i64 x.fr, .int .i64 x.to] 36)).drewN nq).cell? ⟨w.heap.size, 0, none⟩ = some (.int .i64 x.task) := x0
        have y1 : ((w.alloc (.cells #[.int .i64 x.task, .int .i64 x.job, .int .i64 x.fr, .int .i64 x.to] 36)).drewN nq).cell? ⟨w.heap.size, 1, none⟩ = some (.int .i64 x.job) := x1
        have y2 : ((w.alloc (.cells #[.int .i64 x.task, .int .i64 x.job, .int .i64 x.fr, .int .i64 x.to] 36)).drewN nq).cell? ⟨w.heap.size, 2, none⟩ = some (.int .i64 x.fr) := x2
        have hbW : ((w.alloc (.cells #[.int .i64 x.task, .int .i64 x.job, .int .i64 x.fr, .int .i64 x.to] 36)).drewN nq).heap[w.heap.size]? = some (.cells #[.int .i64 x.task, .int .i64 x.job, .int .i64 x.fr, .int .i64 x.to] 36) := HBX.out
        have y3 : ((w.alloc (.cells #[.int .i64 x.task, .int .i64 x.job, .int .i64 x.fr, .int .i64 x.to] 36)).drewN nq).cell? ⟨w.heap.size, 3, none⟩ = some (.int .i64 x.to) := x3
        clear p2 x0 x1 x2 x3 pz hbl
        generalize (w.alloc (.cells #[.int .i64 x.task, .int .i64 x.job, .int .i64 x.fr, .int .i64 x.to] 36)).drewN nq = W at *
        have l1 : pb < W.heap.size := H2.out.lt.1
        have l2 : w.heap.size < W.heap.size := at_lt hbW
        obtain ⟨pa', pc', w2, r1, r2, r4, r3⟩ := (H2.out.grow (gr_drew (World.grownBy.refl _ none))).more x (by rw [HN.out]; omega)
        rw [HN.out] at r1 r2 r3
        have HR1 : Hid ((Builtin.append_ #[31, 31] 31 #[.slice (some ⟨g, 0, none⟩) (o.length + 1) pc, .slice (some ⟨W.heap.size, 0, none⟩) 1 1]).run Try.prog (W.drew.alloc (.cells #[.int .i64 x.task, .int .i64 x.job, .int .i64 x.fr, .int .i64 x.to] 36)) = .ok (.slice pa' ((o.length + 1) + 1) pc') w2) := r1
        have HR3 : Hid (ProcAt w0 Fr B pb qb L { s with out := s.out ++ [x] } qm pa' pc' (w2.setCell ⟨pb, 2, none⟩ (.slice pa' ((o.length + 1) + 1) pc'))) := r3
        have k2 : w2.cell? ⟨pb, 2, none⟩ = some (.slice (some ⟨g, 0, none⟩) (o.length + 1) pc) := at_cell r2 2
        have kz := at_frozen r2 2
        clear r1 r3 r2 r4 hbW
        go_region_law (first | (refine step_append_run (by rfl) _ _ 31 (by rfl) _ _ _ w2 (by rfl) (by rfl) HR1.out ?_))
        all_goals
          go_end0
          exact ⟨rfl, pa', pc', by rw [HP.out]; exact HR3.out⟩
    · have b1 : (k.task == x.task) = false := by simp [c1]
      have HP : Hid (putS s.out x = s.out ++ [x]) := hpo (fun h => c1 h.1)
      clear hpo hps
      have HBX : Hid ((w.alloc (.cells #[.int .i64 x.task, .int .i64 x.job, .int .i64 x.fr, .int .i64 x.to] 36)).heap[w.heap.size]? = some (.cells #[.int .i64 x.task, .int .i64 x.job, .int .i64 x.fr, .int .i64 x.to] 36)) := hbox
      clear h hbox
      go_enter Try.func46, Try.ntmps46
      go_wp2_with fail
      go_quiet (fail)
      go_wp2_with fail
      have H2 : Hid (ProcAt w0 Fr B pb qb L s qm (some ⟨g, 0, none⟩) pc ((w.alloc (.cells #[.int .i64 x.task, .int .i64 x.job, .int .i64 x.fr, .int .i64 x.to] 36)).drewN nq)) := H1.out.grow (gr_drewN (World.grownBy.refl _ none) nq)
      have q2 : ((w.alloc (.cells #[.int .i64 x.task, .int .i64 x.job, .int .i64 x.fr, .int .i64 x.to] 36)).drewN nq).cell? ⟨pb, 2, none⟩ = some (.slice (some ⟨g, 0, none⟩) (o.length + 1) pc) := p2
      have y0 : ((w.alloc (.cells #[.int .i64 x.task, .int .i64 x.job, .int .i64 x.fr, .int .i64 x.to] 36)).drewN nq).cell? ⟨w.heap.size, 0, none⟩ = some (.int .i64 x.task) := x0
      have y1 : ((w.alloc (.cells #[.int .i64 x.task, .int .i64 x.job, .int .i64 x.fr, .int .i64 x.to] 36)).drewN nq).cell? ⟨w.heap.size, 1, none⟩ = some (.int .i64 x.job) := x1
      have y2 : ((w.alloc (.cells #[.int .i64 x.task, .int .i64 x.job, .int .i64 x.fr, .int .i64 x.to] 36)).drewN nq).cell? ⟨w.heap.size, 2, none⟩ = some (.int .i64 x.fr) := x2
      have hbW : ((w.alloc (.cells #[.int .i64 x.task, .int .i64 x.job, .int .i64 x.fr, .int .i64 x.to] 36)).drewN nq).heap[w.heap.size]? = some (.cells #[.int .i64 x.task, .int .i64 x.job, .int .i64 x.fr, .int .i64 x.to] 36) := HBX.out
      have y3 : ((w.alloc (.cells #[.int .i64 x.task, .int .i64 x.job, .int .i64 x.fr, .int .i64 x.to] 36)).drewN nq).cell? ⟨w.heap.size, 3, none⟩ = some (.int .i64 x.to) := x3
      clear p2 x0 x1 x2 x3 pz hbl
      generalize (w.alloc (.cells #[.int .i64 x.task, .int .i64 x.job, .int .i64 x.fr, .int .i64 x.to] 36)).drewN nq = W at *
      have l1 : pb < W.heap.size := H2.out.lt.1
      have l2 : w.heap.size < W.heap.size := at_lt hbW
      obtain ⟨pa', pc', w2, r1, r2, r4, r3⟩ := (H2.out.grow (gr_drew (World.grownBy.refl _ none))).more x (by rw [HN.out]; omega)
      rw [HN.out] at r1 r2 r3
      have HR1 : Hid ((Builtin.append_ #[31, 31] 31 #[.slice (some ⟨g, 0, none⟩) (o.length + 1) pc, .slice (some ⟨W.heap.size, 0, none⟩) 1 1]).run Try.prog (W.drew.alloc (.cells #[.int .i64 x.task, .int .i64 x.job, .int .i64 x.fr, .int .i64 x.to] 36)) = .ok (.slice pa' ((o.length + 1) + 1) pc') w2) := r1
      have HR3 : Hid (ProcAt w0 Fr B pb qb L { s with out := s.out ++ [x] } qm pa' pc' (w2.setCell ⟨pb, 2, none⟩ (.slice pa' ((o.length + 1) + 1) pc'))) := r3
      have k2 : w2.cell? ⟨pb, 2, none⟩ = some (.slice (some ⟨g, 0, none⟩) (o.length + 1) pc) := at_cell r2 2
      have kz := at_frozen r2 2
      clear r1 r3 r2 r4 hbW
      go_region_law (first | (refine step_append_run (by rfl) _ _ 31 (by rfl) _ _ _ w2 (by rfl) (by rfl) HR1.out ?_))
      all_goals
        go_end0
        exact ⟨rfl, pa', pc', by rw [HP.out]; exact HR3.out⟩
end Go.Proofs.Ytholmeebkgpjjaa
