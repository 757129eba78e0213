/- A processor in memory, and what each of its steps makes of it. -/
import Derived.Test.YtholmeebkgpjjaaK
namespace Go.Proofs.Ytholmeebkgpjjaa
open Go.RowKit
set_option linter.unusedVariables false
set_option linter.unusedSimpArgs false

def qcells (L : Nat) (q : Nat → List Jb) (qm : Nat → Qm) : List Value := (List.range L).map fun i => (qm i).val (q i).length
structure ProcAt (w0 : World) (Fr : Nat → Obj → Prop) (B pb qb L : Nat) (s : Ps) (qm : Nat → Qm) (pa : Option Addr) (pc : Nat) (wx : World) : Prop where
  p : wx.heap[pb]? = some (.cells #[.int .i64 s.now, .slice (some ⟨qb, 0, none⟩) L L, .slice pa s.out.length pc] 58)
  q : wx.heap[qb]? = some (.cells (qcells L s.q qm).toArray 65)
  each : ∀ i, i < L → QAt B wx (qm i) (s.q i)
  apart : ∀ i j, i < L → j < L → i ≠ j → ∀ y, (qm i).blk = some y → (qm j).blk ≠ some y
  free : ∀ i, i < L → ∀ y, (qm i).blk = some y → y ≠ pb ∧ y ≠ qb
  out : wx.ownsRow B 36 4 (.slice pa s.out.length pc) s.out.length (s.out.flatMap rowL)
  outf : ∀ y, (Value.slice pa s.out.length pc).ownBlock = some y → y ≠ pb ∧ y ≠ qb ∧ ∀ i, i < L → (qm i).blk ≠ some y
  pq : pb ≠ qb ∧ B ≤ pb ∧ B ≤ qb
  base : w0.heap.size ≤ B
  grown : w0.grownBy wx none
  keep : ∀ k o, Fr k o → wx.heap[k]? = some o
  sep : ∀ k o, Fr k o → k ≠ pb ∧ k ≠ qb ∧ (∀ i, i < L → (qm i).blk ≠ some k) ∧ (Value.slice pa s.out.length pc).ownBlock ≠ some k
section
variable {w0 : World} {Fr : Nat → Obj → Prop} {B pb qb L : Nat} {s : Ps} {qm : Nat → Qm} {pa : Option Addr} {pc : Nat} {w w' : World}
theorem ProcAt.grow (h : ProcAt w0 Fr B pb qb L s qm pa pc w) (hg : w.grownBy w' none) : ProcAt w0 Fr B pb qb L s qm pa pc w' :=
  ⟨kept hg h.p, kept hg h.q, fun i hi => (h.each i hi).keep hg (by simp), h.apart, h.free, own_keep h.out hg, h.outf, h.pq, h.base, grown_join h.grown hg (.inl rfl), fun k o hf => kept hg (h.keep k o hf), h.sep⟩
theorem ProcAt.lt (h : ProcAt w0 Fr B pb qb L s qm pa pc w) : pb < w.heap.size ∧ qb < w.heap.size ∧ B ≤ w.heap.size := by
  have := at_lt h.p
  have := at_lt h.q
  have := h.pq
  omega
/-- The time is told anew. -/
theorem ProcAt.setNow (h : ProcAt w0 Fr B pb qb L s qm pa pc w) (n : Int) : ProcAt w0 Fr B pb qb L { s with now := n } qm pa pc (w.setCell ⟨pb, 0, none⟩ (.int .i64 n)) := by
  have hg : w.grownBy (w.setCell ⟨pb, 0, none⟩ (.int .i64 n)) (some pb) := gr_set (World.grownBy.refl _ _) _ _
  have hpq := h.pq
  have hb := h.base
  refine ⟨?_, keptBut hg h.q (by omega), fun i hi => (h.each i hi).keep hg (fun y hy e => by injection e with e; exact (h.free i hi y hy).1 e.symm), h.apart, h.free, own_row h.out hg (fun y hy e => by injection e with e; exact (h.outf y hy).1 e.symm), h.outf, h.pq, h.base, gr_own h.grown (by omega) _ _, fun k o hf => keptBut hg (h.keep k o hf) (h.sep k o hf).1, h.sep⟩
  have := at_set h.p 0 (.int .i64 n)
  simpa using this
theorem info36 : (Try.prog.info? 36).map (fun i => (i.zero, i.size, i.bytes)) = some (some (.agg #[.int .i64 0, .int .i64 0, .int .i64 0, .int .i64 0]), 4, 32) := by kernel_rfl
/-- A stretch more. -/
theorem ProcAt.more (h : ProcAt w0 Fr B pb qb L s qm pa pc w) (x : Sl) (hl : s.out.length ≤ 1000000) :
    ∃ pa' pc' w2, (Builtin.append_ #[31, 31] 31 #[.slice pa s.out.length pc, .slice (some ⟨w.heap.size, 0, none⟩) 1 1]).run Try.prog (w.alloc (.cells #[.int .i64 x.task, .int .i64 x.job, .int .i64 x.fr, .int .i64 x.to] 36)) = .ok (.slice pa' (s.out.length + 1) pc') w2 ∧
      w2.heap[pb]? = some (.cells #[.int .i64 s.now, .slice (some ⟨qb, 0, none⟩) L L, .slice pa s.out.length pc] 58) ∧
      (∀ k o, (Value.slice pa s.out.length pc).ownBlock ≠ some k → w.heap[k]? = some o → w2.heap[k]? = some o) ∧
      ProcAt w0 Fr B pb qb L { s with out := s.out ++ [x] } qm pa' pc' (w2.setCell ⟨pb, 2, none⟩ (.slice pa' (s.out.length + 1) pc')) := by
  obtain ⟨i0, hi, hz0, hz1, hz2⟩ := info_parts info36
  have hlt := h.lt
  obtain ⟨pa', pc', w2, r1, r2, r3, r4⟩ := own_more2 Try.underlying31 hi hz0 hz1 hz2 rfl (by omega) h.out (rowL x) rfl (by simp [rowL, Value.oneCell']) hl (by omega) hlt.2.2
  have hpq := h.pq
  have hb := h.base
  have hob := World.ownsRow.lt h.out
  have hp2 : w2.heap[pb]? = _ := (r3.block pb hlt.1 (fun e => (h.outf pb e.symm).1 rfl)).trans h.p
  have hq2 : w2.heap[qb]? = _ := (r3.block qb hlt.2.1 (fun e => (h.outf qb e.symm).2.1 rfl)).trans h.q
  have hg2 : w2.grownBy (w2.setCell ⟨pb, 2, none⟩ (.slice pa' (s.out.length + 1) pc')) (some pb) := gr_set (World.grownBy.refl _ _) _ _
  have hnew : ∀ y, (Value.slice pa' (s.out.length + 1) pc').ownBlock = some y → y ≠ pb ∧ y ≠ qb ∧ ∀ i, i < L → (qm i).blk ≠ some y := fun y hy => by
    rcases r4 y hy with h4 | h4
    · exact h.outf y h4
    · exact ⟨by omega, by omega, fun i hi' e => by have := ((h.each i hi').blk e).2; omega⟩
  refine ⟨pa', pc', w2, r1, hp2, fun k o hne ho => (r3.block k (at_lt ho) (fun e => hne e.symm)).trans ho, ?_, keptBut hg2 hq2 (by omega), fun i hi' => ?_, h.apart, h.free, ?_, ?_, h.pq, h.base, ?_, fun k o hf => ?_, fun k o hf => ?_⟩
  · have := at_set hp2 2 (.slice pa' (s.out.length + 1) pc')
    simpa using this
  · refine ((h.each i hi').keep r3 (fun y hy e => (h.outf y e).2.2 i hi' hy)).keep hg2 (fun y hy e => by injection e with e; exact (h.free i hi' y hy).1 e.symm)
  · show World.ownsRow _ _ _ _ _ (s.out ++ [x]).length _
    have e1 : (s.out ++ [x]).flatMap rowL = s.out.flatMap rowL ++ rowL x := by simp
    rw [e1, List.length_append]
    exact own_row r2 hg2 (fun y hy e => by injection e with e; exact (hnew y hy).1 e.symm)
  · show ∀ y, (Value.slice pa' (s.out ++ [x]).length pc').ownBlock = some y → _
    rw [List.length_append]
    exact hnew
  · exact gr_own (grown_join h.grown r3 (.inr fun y hy => by have := (hob y hy).1; omega)) (by omega) _ _
  · have hk := h.keep k o hf
    exact keptBut hg2 ((r3.block k (at_lt hk) (fun e => (h.sep k o hf).2.2.2 e.symm)).trans hk) (h.sep k o hf).1
  · obtain ⟨s1, s2, s3, s4⟩ := h.sep k o hf
    refine ⟨s1, s2, s3, ?_⟩
    show (Value.slice pa' (s.out ++ [x]).length pc').ownBlock ≠ some k
    rw [List.length_append]
    intro e
    rcases r4 k e with h4 | h4
    · exact s4 h4
    · have := at_lt (h.keep k o hf); omega
/-- The last stretch goes on. -/
theorem own_set {B e size n k : Nat} {w : World} {g cap : Nat} {xs : List Value} (h : w.ownsRow B e size (.slice (some ⟨g, 0, none⟩) n cap) n xs) (u : Value) : (w.setCell ⟨g, k, none⟩ u).ownsRow B e size (.slice (some ⟨g, 0, none⟩) n cap) n (xs.set k u) := by
  obtain ⟨h1, h2 | ⟨g', cap', cur, e', hb, hc, hn, hm, hs, ht⟩⟩ := h
  · simp at h2
  · simp at e'
    obtain ⟨rfl, rfl⟩ := e'
    refine ⟨by simpa using h1, .inr ⟨g, cap, cur.setIfInBounds k u, by simp, hb, at_set hc k _, hn, hm, by simpa using hs, ?_⟩⟩
    rw [Array.toList_setIfInBounds, List.take_set, ht]
theorem set_last (o : List Sl) (k : Sl) (x : Int) : ((o ++ [k]).flatMap rowL).set (o.length * 4 + 3) (.int .i64 x) = (o ++ [{ k with to := x }]).flatMap rowL := by
  have hl := flat_len rowL 4 rowL_len o
  simp only [List.flatMap_append]
  rw [List.set_append_right _ _ (by omega), hl, show o.length * 4 + 3 - o.length * 4 = 3 by omega]
  simp [rowL]
theorem ProcAt.lastAt {o : List Sl} {k : Sl} (h : ProcAt w0 Fr B pb qb L s qm pa pc w) (ho : s.out = o ++ [k]) : ∃ g, pa = some ⟨g, 0, none⟩ ∧ g ≠ pb ∧ pb ≠ g ∧ w.cell? ⟨g, o.length * 4, none⟩ = some (.int .i64 k.task) ∧ w.cell? ⟨g, o.length * 4 + 1, none⟩ = some (.int .i64 k.job) ∧ w.cell? ⟨g, o.length * 4 + 3, none⟩ = some (.int .i64 k.to) ∧ w.frozen? ⟨g, o.length * 4 + 3, none⟩ = false ∧
    ∀ x : Int, ProcAt w0 Fr B pb qb L { s with out := o ++ [{ k with to := x }] } qm pa pc (w.setCell ⟨g, o.length * 4 + 3, none⟩ (.int .i64 x)) := by
  have hol := h.out
  have hof := h.outf
  have hp := h.p
  have hl := flat_len rowL 4 rowL_len o
  rw [ho] at hol hof hp
  have hol' := hol
  obtain ⟨_, ⟨_, hn⟩ | ⟨g, cap', cur, hv, hb, hc, _⟩⟩ := hol'
  · simp at hn
  injection hv with e1 e2 e3
  subst e1 e3
  have hgp := hof g rfl
  have hpq := h.pq
  have hbs := h.base
  have cell : ∀ r u, r < 4 → (rowL k)[r]? = some u → w.cell? ⟨g, o.length * 4 + r, none⟩ = some u := fun r u hr hu => by
    rw [World.ownsRow.cellAt hol (o.length * 4 + r) (by simp; omega)]
    simp only [List.flatMap_append]
    rw [List.getElem?_append_right (by omega), hl, show o.length * 4 + r - o.length * 4 = r by omega]
    simpa using hu
  refine ⟨g, rfl, hgp.1, fun e => hgp.1 e.symm, cell 0 _ (by omega) rfl, cell 1 _ (by omega) rfl, cell 3 _ (by omega) rfl, at_frozen hc _, fun x => ?_⟩
  have hg : w.grownBy (w.setCell ⟨g, o.length * 4 + 3, none⟩ (.int .i64 x)) (some g) := gr_set (World.grownBy.refl _ _) _ _
  have hlen : (o ++ [{ k with to := x }]).length = (o ++ [k]).length := by simp
  refine ⟨?_, keptBut hg h.q (fun e => hgp.2.1 e.symm), fun i hi => (h.each i hi).keep hg (fun y hy e => by injection e with e; subst e; exact hgp.2.2 i hi hy), h.apart, h.free, ?_, ?_, h.pq, h.base, gr_own h.grown (by omega) _ _, fun k' o' hf => ?_, fun k' o' hf => ?_⟩
  · dsimp only
    rw [hlen]
    exact keptBut hg hp (fun e => hgp.1 e.symm)
  · dsimp only
    rw [hlen, ← set_last]
    exact own_set hol _
  · dsimp only
    rw [hlen]
    exact hof
  · have h4 := (h.sep k' o' hf).2.2.2
    rw [ho] at h4
    exact keptBut hg (h.keep k' o' hf) (fun e => h4 (by rw [e]; rfl))
  · dsimp only
    rw [hlen]
    have h4 := h.sep k' o' hf
    rw [ho] at h4
    exact h4
/-- A queue's cell. -/
theorem qcells_get {L : Nat} {q : Nat → List Jb} {qm : Nat → Qm} {i : Nat} (hi : i < L) : (qcells L q qm).toArray[i]? = some ((qm i).val (q i).length) := by simp [qcells, hi]
theorem qcells_set {L : Nat} {q : Nat → List Jb} {qm : Nat → Qm} {i : Nat} (m : Qm) (x : List Jb) : (qcells L q qm).toArray.setIfInBounds i (m.val x.length) = (qcells L (upd q i x) (upd qm i m)).toArray := by
  rw [List.setIfInBounds_toArray]
  refine congrArg List.toArray (List.ext_getElem (by simp [qcells]) fun k h1 h2 => ?_)
  rw [List.getElem_set]
  simp only [qcells, List.getElem_map, List.getElem_range]
  unfold upd
  by_cases e : k = i
  · subst e; simp
  · rw [if_neg (fun h => e h.symm)]; simp [e]
theorem ProcAt.qcell (h : ProcAt w0 Fr B pb qb L s qm pa pc w) {i : Nat} (hi : i < L) : w.cell? ⟨qb, i, none⟩ = some (.slice (qm i).ao (s.q i).length (qm i).cap) := by
  rw [at_cell h.q]; exact qcells_get hi
/-- The job at hand has run on. -/
theorem ProcAt.setLeft (h : ProcAt w0 Fr B pb qb L s qm pa pc w) {i : Nat} (hi : i < L) {j : Jb} {r : List Jb} (hq : s.q i = j :: r) (x : Int) :
    ProcAt w0 Fr B pb qb L { s with q := upd s.q i ({ j with left := x } :: r) } (upd qm i ((qm i).left x)) pa pc (w.setCell ⟨(qm i).g, (qm i).off + 3, none⟩ (.int .i64 x)) := by
  have hQ := h.each i hi
  rw [hq] at hQ
  obtain ⟨c0, _, _, _, hBg, _⟩ := hQ.head
  have hblk : (qm i).blk = some (qm i).g := by unfold Qm.blk; rw [if_pos c0]
  have hfr := h.free i hi _ hblk
  have hg : w.grownBy (w.setCell ⟨(qm i).g, (qm i).off + 3, none⟩ (.int .i64 x)) (some (qm i).g) := gr_set (World.grownBy.refl _ _) _ _
  have hbs := h.base
  have hb : ∀ k, (upd qm i ((qm i).left x) k).blk = (qm k).blk := fun k => by
    unfold upd; split
    · rename_i e; subst e; exact left_blk _ _
    · rfl
  refine ⟨keptBut hg h.p (fun e => hfr.1 e.symm), ?_, fun k hk => ?_, fun a b ha hb' hab y hy => ?_, fun k hk y hy => ?_, own_row h.out hg (fun y hy e => by injection e with e; subst e; exact (h.outf _ hy).2.2 i hi hblk), fun y hy => ?_, h.pq, h.base, gr_own h.grown (by omega) _ _, fun k o hf => keptBut hg (h.keep k o hf) (fun e => (h.sep k o hf).2.2.1 i hi (by rw [e]; exact hblk)), fun k o hf => ?_⟩
  · have := keptBut hg h.q (fun e => hfr.2 e.symm)
    rw [this]
    congr 2
    unfold qcells
    refine congrArg List.toArray (List.map_congr_left fun k hk => ?_)
    dsimp only
    by_cases e : k = i
    · subst e; rw [upd_same, upd_same, hq]; rfl
    · rw [upd_other _ _ e, upd_other _ _ e]
  · dsimp only
    by_cases e : k = i
    · subst e
      rw [upd_same, upd_same]
      exact hQ.left x
    · rw [upd_other _ _ e, upd_other _ _ e]
      exact (h.each k hk).keep hg (fun y hy e' => by injection e' with e'; subst e'; exact h.apart k i hk hi e _ hy hblk)
  · rw [hb] at hy ⊢; exact h.apart a b ha hb' hab y hy
  · rw [hb] at hy; exact h.free k hk y hy
  · obtain ⟨g1, g2, g3⟩ := h.outf y hy
    exact ⟨g1, g2, fun k hk => by rw [hb]; exact g3 k hk⟩
  · obtain ⟨s1, s2, s3, s4⟩ := h.sep k o hf
    exact ⟨s1, s2, fun k' hk' => by rw [hb]; exact s3 k' hk', s4⟩
/-- The job at hand is done. -/
theorem ProcAt.pop (h : ProcAt w0 Fr B pb qb L s qm pa pc w) {i : Nat} (hi : i < L) {j : Jb} {r : List Jb} (hq : s.q i = j :: r) :
    ProcAt w0 Fr B pb qb L { s with q := upd s.q i r } (upd qm i (qm i).tl) pa pc (w.setCell ⟨qb, i, none⟩ (.slice (qm i).tl.ao r.length (qm i).tl.cap)) := by
  have hQ := h.each i hi
  rw [hq] at hQ
  have hg : w.grownBy (w.setCell ⟨qb, i, none⟩ (.slice (qm i).tl.ao r.length (qm i).tl.cap)) (some qb) := gr_set (World.grownBy.refl _ _) _ _
  have hbs := h.base
  have hpq := h.pq
  have hb : ∀ k y, (upd qm i (qm i).tl k).blk = some y → (qm k).blk = some y := fun k y hy => by
    unfold upd at hy; split at hy
    · rename_i e; subst e; exact tl_blk hy
    · exact hy
  refine ⟨keptBut hg h.p hpq.1, ?_, fun k hk => ?_, fun a b ha hb' hab y hy e => h.apart a b ha hb' hab y (hb a y hy) (hb b y e), fun k hk y hy => h.free k hk y (hb k y hy), own_row h.out hg (fun y hy e => by injection e with e; exact (h.outf y hy).2.1 e.symm), fun y hy => ?_, h.pq, h.base, gr_own h.grown (by omega) _ _, fun k o hf => keptBut hg (h.keep k o hf) (h.sep k o hf).2.1, fun k o hf => ?_⟩
  · have := at_set h.q i ((qm i).tl.val r.length)
    rw [qcells_set] at this
    exact this
  · dsimp only
    by_cases e : k = i
    · subst e
      rw [upd_same, upd_same]
      exact hQ.pop.keep hg (fun y hy e' => by injection e' with e'; exact (h.free k hk y (tl_blk hy)).2 e'.symm)
    · rw [upd_other _ _ e, upd_other _ _ e]
      exact (h.each k hk).keep hg (fun y hy e' => by injection e' with e'; exact (h.free k hk y hy).2 e'.symm)
  · obtain ⟨g1, g2, g3⟩ := h.outf y hy
    exact ⟨g1, g2, fun k hk e => g3 k hk (hb k y e)⟩
  · obtain ⟨s1, s2, s3, s4⟩ := h.sep k o hf
    exact ⟨s1, s2, fun k' hk' e => s3 k' hk' (hb k' k e), s4⟩
/-- A job comes. -/
theorem ProcAt.enq (h : ProcAt w0 Fr B pb qb L s qm pa pc w) {i : Nat} (hi : i < L) (j : Jb) (hl : (s.q i).length ≤ 1000000) :
    ∃ m' w2, (Builtin.append_ #[65, 65] 65 #[.slice (qm i).ao (s.q i).length (qm i).cap, .slice (some ⟨w.heap.size, 0, none⟩) 1 1]).run Try.prog (w.alloc (.cells #[.int .i64 j.task, .int .i64 j.num, .int .i64 j.rel, .int .i64 j.left] 63)) = .ok (.slice m'.ao ((s.q i).length + 1) m'.cap) w2 ∧
      w2.heap[pb]? = some (.cells #[.int .i64 s.now, .slice (some ⟨qb, 0, none⟩) L L, .slice pa s.out.length pc] 58) ∧ w2.heap[qb]? = some (.cells (qcells L s.q qm).toArray 65) ∧ w.heap.size ≤ w2.heap.size ∧
      (∀ k o, k < w.heap.size → (qm i).blk ≠ some k → w.heap[k]? = some o → w2.heap[k]? = some o) ∧
      ProcAt w0 Fr B pb qb L { s with q := upd s.q i (s.q i ++ [j]) } (upd qm i m') pa pc (w2.setCell ⟨qb, i, none⟩ (.slice m'.ao ((s.q i).length + 1) m'.cap)) := by
  have hlt := h.lt
  obtain ⟨m', w2, r1, r2, r3, r4⟩ := (h.each i hi).more j hl hlt.2.2
  have hpq := h.pq
  have hbs := h.base
  have hQb : ∀ y, (qm i).blk = some y → B ≤ y ∧ y < w.heap.size := fun y hy => (h.each i hi).blk hy
  have hp2 : w2.heap[pb]? = _ := (r3.block pb hlt.1 (fun e => (h.free i hi pb e.symm).1 rfl)).trans h.p
  have hq2 : w2.heap[qb]? = _ := (r3.block qb hlt.2.1 (fun e => (h.free i hi qb e.symm).2 rfl)).trans h.q
  have hg2 : w2.grownBy (w2.setCell ⟨qb, i, none⟩ (.slice m'.ao ((s.q i).length + 1) m'.cap)) (some qb) := gr_set (World.grownBy.refl _ _) _ _
  have hb : ∀ k y, (upd qm i m' k).blk = some y → (qm k).blk = some y ∨ (k = i ∧ w.heap.size ≤ y) := fun k y hy => by
    unfold upd at hy; split at hy
    · rename_i e; subst e
      rcases r4 y hy with h4 | h4
      · exact .inl h4
      · exact .inr ⟨rfl, h4⟩
    · exact .inl hy
  refine ⟨m', w2, r1, hp2, hq2, r3.size, fun k o hk hne ho => (r3.block k hk (fun e => hne e.symm)).trans ho, keptBut hg2 hp2 hpq.1, ?_, fun k hk => ?_, fun a b ha hb' hab y hy e => ?_, fun k hk y hy => ?_, ?_, fun y hy => ?_, h.pq, h.base, ?_, fun k o hf => ?_, fun k o hf => ?_⟩
  · have := at_set hq2 i (m'.val (s.q i ++ [j]).length)
    rw [qcells_set] at this
    have e : m'.val (s.q i ++ [j]).length = .slice m'.ao ((s.q i).length + 1) m'.cap := by simp [Qm.val]
    rw [e] at this
    exact this
  · dsimp only
    by_cases e : k = i
    · subst e
      rw [upd_same, upd_same]
      refine r2.keep hg2 (fun y hy e' => ?_)
      injection e' with e'
      rcases r4 y hy with h4 | h4
      · exact (h.free k hk y h4).2 e'.symm
      · omega
    · rw [upd_other _ _ e, upd_other _ _ e]
      refine ((h.each k hk).keep r3 (fun y hy e' => ?_)).keep hg2 (fun y hy e' => by injection e' with e'; exact (h.free k hk y hy).2 e'.symm)
      exact h.apart k i hk hi e y hy e'
  · rcases hb a y hy with h1 | ⟨h1, h1'⟩
    · rcases hb b y e with h2 | ⟨h2, h2'⟩
      · exact h.apart a b ha hb' hab y h1 h2
      · have := ((h.each a ha).blk h1).2; omega
    · rcases hb b y e with h2 | ⟨h2, h2'⟩
      · have := ((h.each b hb').blk h2).2; omega
      · omega
  · rcases hb k y hy with h1 | ⟨h1, h1'⟩
    · exact h.free k hk y h1
    · omega
  · exact own_row (own_row h.out r3 (fun y hy e => (h.outf y hy).2.2 i hi e)) hg2 (fun y hy e => by injection e with e; exact (h.outf y hy).2.1 e.symm)
  · obtain ⟨g1, g2, g3⟩ := h.outf y hy
    refine ⟨g1, g2, fun k hk e => ?_⟩
    rcases hb k y e with h1 | ⟨h1, h1'⟩
    · exact g3 k hk h1
    · have := (World.ownsRow.lt h.out y hy).2; omega
  · exact gr_own (grown_join h.grown r3 (.inr fun y hy => by have := (hQb y hy).1; omega)) (by omega) _ _
  · have hk := h.keep k o hf
    exact keptBut hg2 ((r3.block k (at_lt hk) (fun e => (h.sep k o hf).2.2.1 i hi e.symm)).trans hk) (h.sep k o hf).2.1
  · obtain ⟨s1, s2, s3, s4⟩ := h.sep k o hf
    refine ⟨s1, s2, fun k' hk' e => ?_, s4⟩
    rcases hb k' k e with h1 | ⟨h1, h1'⟩
    · exact s3 k' hk' h1
    · have := at_lt (h.keep k o hf); omega
end
end Go.Proofs.Ytholmeebkgpjjaa
