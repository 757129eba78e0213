/- words, liesWithin, identityOf. -/
import Derived.Test.YtmkgobmlpmjocaaCa
namespace Go.Proofs.Ytmkgobmlpmjocaa
open Go.RowKit
attribute [local go_sem ↓] Go.wp_at_zero Go.wp_at_succ
set_option linter.unusedVariables false
set_option linter.unusedSimpArgs false

/-- A slot as a value. -/
def sV (s : Slt) : Value := .agg #[.string s.path, .int .i64 s.kind, .int .i64 s.at', .int .i64 s.len, .bool s.keep, .int .i64 s.role]
/-- How many words a slot has. -/
def wds (s : Slt) : Int := if 1 ≤ s.len then s.len else 1
/-- What makes slots the same, as a value. -/
def idV (s : Slt) : Value := .agg #[.string s.path, .int .i64 s.kind, .int .i64 s.len]

theorem words_any (s : Slt) (w : World) : Calls Try.prog 24 #[sV s] w fun e w' => e = .returned (.int .i64 (wds s)) ∧ w.grownBy w' none := by
  obtain ⟨s0, s1, s2, s3, s4, s5⟩ := s
  unfold sV wds
  dsimp only
  by_cases h : 1 ≤ s3
  · rw [if_pos h]
    go_enter Try.func24, Try.ntmps24
    go_wp2
    go_ret
    exact ⟨rfl, gr1 _ _⟩
  · rw [if_neg h]
    go_enter Try.func24, Try.ntmps24
    go_wp2
    go_ret
    exact ⟨rfl, gr1 _ _⟩

theorem info63s : (Try.prog.info? 63).map (·.size) = some 3 := by kernel_rfl
theorem load63 (W : World) (p : Nat) (x y z : Value) (hg : W.heap[p]? = some (.cells #[x, y, z] 63)) : (loadVar 63 ⟨p, 0, none⟩).run Try.prog W = .ok (.agg #[x, y, z]) W :=
  run_loadVar_row (P := Try.prog) W p 63 63 #[x, y, z] (0, 0) _ hg Try.underlying63 rfl info63s
theorem results63 {f : Func} {k : Tmp} (hr : f.results = #[.cell k 63]) (tmps : Array Value) (W : World) (q : Nat) (x y z : Value) (h6 : tmps.getD k undef = .pointer (some ⟨q, 0, none⟩)) (hg : W.heap[q]? = some (.cells #[x, y, z] 63)) :
    (results f tmps).run Try.prog W = .ok (.agg #[x, y, z]) W := by
  have hl := load63 W q x y z hg
  have h6' : tmps[k]?.getD undef = .pointer (some ⟨q, 0, none⟩) := by simpa using h6
  simp [results, hr]
  rw [h6']
  simp [asAddr, hl, Result.andThen]
theorem ident_any (s : Slt) (w : World) : Calls Try.prog 23 #[sV s] w fun e w' => e = .returned (idV s) ∧ w.grownBy w' none := by
  obtain ⟨s0, s1, s2, s3, s4, s5⟩ := s
  unfold sV idV
  dsimp only
  go_enter Try.func23, Try.ntmps23
  go_wp2
  refine bodyPost_ret (results63 rfl _ _ (w.heap.size + 1) _ _ _ rfl (hp_new (by simp) _)) rfl ?_
  exact ⟨rfl, gr_alloc (gr1 _ _) _⟩

/-- Its words lie within. -/
def liesB (s : Slt) (n : Nat) : Bool := decide (0 ≤ s.at') && decide (s.at' + wds s ≤ n)

theorem lies_any (s : Slt) (n : Nat) (w : World) (hn : n ≤ 20000) (h0 : 0 ≤ s.len) (hl : s.len ≤ 9223372036854775807) : Calls Try.prog 22 #[sV s, .int .i64 n] w fun e w' => e = .returned (.bool (liesB s n)) ∧ w.grownBy w' none := by
  have cW := words_any s
  have hw1 : 1 ≤ wds s := by unfold wds; split <;> omega
  have hw2 : wds s ≤ 9223372036854775807 := by unfold wds; split <;> omega
  have e : liesB s n = (decide (0 ≤ s.at') && decide (s.at' ≤ (n : Int) - wds s)) := by
    unfold liesB
    congr 1
    simp only [decide_eq_decide]
    omega
  rw [e]
  clear e
  generalize wds s = k at *
  obtain ⟨s0, s1, s2, s3, s4, s5⟩ := s
  unfold sV at *
  dsimp only at *
  have HW : Hid (IntKind.i64.wrap ((n : Int) - k) = (n : Int) - k) := IntWalk.i64_in _ (by omega)
  clear hw1 hw2 h0 hl hn
  by_cases hp : 0 ≤ s2
  · have d1 : decide (0 ≤ s2) = true := by simp [hp]
    go_enter Try.func22, Try.ntmps22
    go_wp2_with fail
    generalize hB : w.alloc (.cells #[.string s0, .int .i64 s1, .int .i64 s2, .int .i64 s3, .bool s4, .int .i64 s5] 50) = w1
    have hX : w1.heap[w.heap.size]? = some (.cells #[.string s0, .int .i64 s1, .int .i64 s2, .int .i64 s3, .bool s4, .int .i64 s5] 50) := hB ▸ heap_alloc_new _ _
    have hg1 : w.grownBy w1 none := hB ▸ gr1 _ _
    have q0 := at_cell hX 0
    have q1 := at_cell hX 1
    have q2 := at_cell hX 2
    have q3 := at_cell hX 3
    have q4 := at_cell hX 4
    have q5 := at_cell hX 5
    simp at q0 q1 q2 q3 q4 q5
    clear hB hX
    go_region_held3 (fun w' => w'.cell? ⟨w.heap.size, 0, none⟩ = some (.string s0) ∧ w'.cell? ⟨w.heap.size, 1, none⟩ = some (.int .i64 s1) ∧ w'.cell? ⟨w.heap.size, 2, none⟩ = some (.int .i64 s2) ∧ w'.cell? ⟨w.heap.size, 3, none⟩ = some (.int .i64 s3) ∧ w'.cell? ⟨w.heap.size, 4, none⟩ = some (.bool s4) ∧ w'.cell? ⟨w.heap.size, 5, none⟩ = some (.int .i64 s5)) (first | (go_keep; done) | exact HK3.out) (first
      | (go_at_call 24
         refine (cW _).mono ?_
         rintro e w3 ⟨rfl, hg3⟩
         have hg3' : w1.grownBy w3 none := (gr_drew (World.grownBy.refl w1 none)).trans hg3
         have HK3 : Hid (w3.cell? ⟨w.heap.size, 0, none⟩ = some (.string s0) ∧ w3.cell? ⟨w.heap.size, 1, none⟩ = some (.int .i64 s1) ∧ w3.cell? ⟨w.heap.size, 2, none⟩ = some (.int .i64 s2) ∧ w3.cell? ⟨w.heap.size, 3, none⟩ = some (.int .i64 s3) ∧ w3.cell? ⟨w.heap.size, 4, none⟩ = some (.bool s4) ∧ w3.cell? ⟨w.heap.size, 5, none⟩ = some (.int .i64 s5)) := ⟨hg3'.cell q0 (by simp), hg3'.cell q1 (by simp), hg3'.cell q2 (by simp), hg3'.cell q3 (by simp), hg3'.cell q4 (by simp), hg3'.cell q5 (by simp)⟩))
    go_wp2
    go_ret
    refine ⟨?_, hg1.trans hg3'⟩
    rw [d1, HW.out]
    rfl
  · have d1 : decide (0 ≤ s2) = false := by simp [hp]
    go_enter Try.func22, Try.ntmps22
    go_wp2_with fail
    go_quiet (fail)
    go_wp2
    go_ret
    refine ⟨?_, gr_drewN (gr1 _ _) _⟩
    rw [d1]
    rfl

/-- A slot that may be. -/
def slB (n : Nat) (s : Slt) : Bool := decide (0 ≤ s.len) && liesB s n
/-- May a unit be carried? -/
def okB (fs : List Int) (sl : List Slt) : Bool := decide (fs.length ≤ 20000) && decide (sl.length ≤ 20000) && sl.all (slB fs.length)
/-- A unit as a value. -/
def pV (k : Int) (nm : ByteArray) (f s t : Value) : Value := .agg #[.int .i64 k, .string nm, f, s, t]

theorem sl_one {w : World} {a : Option Addr} {c : Nat} {l : List Slt} (h : SlAt w (.slice a l.length c) l) (j : Nat) (hj : j < l.length) : ∃ b off s, a = some ⟨b, off, none⟩ ∧ l[j]? = some s ∧
    w.cell? ⟨b, off + j * 6, none⟩ = some (.string s.path) ∧ w.cell? ⟨b, off + j * 6 + 1, none⟩ = some (.int .i64 s.kind) ∧ w.cell? ⟨b, off + j * 6 + 2, none⟩ = some (.int .i64 s.at') ∧ w.cell? ⟨b, off + j * 6 + 3, none⟩ = some (.int .i64 s.len) ∧ w.cell? ⟨b, off + j * 6 + 4, none⟩ = some (.bool s.keep) ∧ w.cell? ⟨b, off + j * 6 + 5, none⟩ = some (.int .i64 s.role) := by
  obtain ⟨a', cap, e, h | ⟨b, off, rfl, hc⟩⟩ := h
  · subst h; simp at hj
  · simp at e
    obtain ⟨rfl, rfl⟩ := e
    refine ⟨b, off, l.getD j slt0, rfl, by simp [List.getD, hj], ?_⟩
    exact hc j hj
theorem all_take_more {l : List Slt} {f : Slt → Bool} {k : Nat} {s : Slt} (h : (l.take k).all f = true) (hk : l[k]? = some s) (hs : f s = true) : (l.take (k + 1)).all f = true := by
  rw [List.take_add_one, hk, List.all_append, h]
  simpa using hs
theorem all_not {l : List Slt} {f : Slt → Bool} {k : Nat} {s : Slt} (hk : l[k]? = some s) (hs : f s = false) : l.all f = false := by
  rw [List.all_eq_false]
  exact ⟨s, List.mem_of_getElem? hk, by simp [hs]⟩

set_option maxHeartbeats 1000000 in
theorem may_any (k : Int) (nm : ByteArray) (fa : Option Addr) (fc : Nat) (sv tv : Value) (fs : List Int) (sl : List Slt) (w : World) (hS : SlAt w sv sl) (hw : ∀ s ∈ sl, s.len ≤ 9223372036854775807) :
    Calls Try.prog 16 #[pV k nm (.slice fa fs.length fc) sv tv] w fun e w' => e = .returned (.bool (okB fs sl)) ∧ w.grownBy w' none := by
  have HS : Hid (SlAt w sv sl) := hS
  have HW : Hid (∀ s ∈ sl, s.len ≤ 9223372036854775807) := hw
  obtain ⟨sa, sc, rfl, hs⟩ := hS
  clear hs hw
  unfold pV okB
  obtain ⟨n, hn⟩ : ∃ n, fs.length = n := ⟨_, rfl⟩
  obtain ⟨m, hm⟩ : ∃ m, sl.length = m := ⟨_, rfl⟩
  have HM : Hid (sl.length = m) := hm
  have HSM : Hid (SlAt w (.slice sa m sc) sl) := by have := HS.out; rw [hm] at this; exact this
  rw [hn, hm]
  clear hn hm HS
  by_cases h1 : n ≤ 20000
  · by_cases h2 : m ≤ 20000
    · have d1 : decide ((20000 : Int) < (n : Int)) = false := by simp; omega
      have d2 : decide ((20000 : Int) < (m : Int)) = false := by simp; omega
      have j1 : ¬ ((20000 : Int) < (n : Int)) := by omega
      have j2 : ¬ ((20000 : Int) < (m : Int)) := by omega
      have HN : Hid (n ≤ 20000) := h1
      have HMM : Hid (m ≤ 20000) := h2
      have HR : Hid ((decide (n ≤ 20000) && decide (m ≤ 20000) && sl.all (slB n)) = sl.all (slB n)) := (by simp [h1, h2] : (decide (n ≤ 20000) && decide (m ≤ 20000) && sl.all (slB n)) = sl.all (slB n))
      generalize hr : (decide (n ≤ 20000) && decide (m ≤ 20000) && sl.all (slB n)) = rr at *
      clear hr h1 h2
      go_enter Try.func16, Try.ntmps16
      go_wp2_with fail
      clear d1 d2 j1 j2
      go_loopg [18] m (fun gk s18 wx => ∃ (j : Nat), s18 = .int .i64 j ∧ j ≤ m ∧ gk = m - j ∧ (sl.take j).all (slB n) = true ∧ w.grownBy wx none ∧ wx.heap[w.heap.size]? = some (.cells #[.int .i64 k, .string nm, .slice fa n fc, .slice sa m sc, tv] 27))
      case atStart => exact ⟨0, rfl, Nat.zero_le _, by omega, by simp, gr1 _ _, heap_alloc_new _ _⟩
      case round =>
        obtain ⟨j, rfl, hj, hgj, hall, hgr, hbx⟩ := hrel
        have HG : Hid (gk = m - j) := hgj
        have HA : Hid ((sl.take j).all (slB n) = true) := hall
        have HB : Hid (wr.heap[w.heap.size]? = some (.cells #[.int .i64 k, .string nm, .slice fa n fc, .slice sa m sc, tv] 27)) := hbx
        clear hgj hall
        by_cases hlt : j < m
        · obtain ⟨b, off, s, rfl, hsj, c0, c1, c2, c3, c4, c5⟩ := sl_one (l := sl) (by have := HSM.out.grown hgr; rw [← HM.out] at this; exact this) j (by rw [HM.out]; exact hlt)
          have HSJ : Hid (sl[j]? = some s) := hsj
          have i1 : (0 : Int) ≤ (j : Int) := by omega
          have i2 : (j : Int) < (m : Int) := by omega
          clear hsj
          have cL : 0 ≤ s.len → ∀ W, Calls Try.prog 22 #[sV s, .int .i64 n] W fun e w' => e = .returned (.bool (liesB s n)) ∧ W.grownBy w' none := fun h0 W => lies_any s n W HN.out h0 (HW.out s (List.mem_of_getElem? HSJ.out))
          have q2 : ∀ o : Obj, (wr.alloc o).cell? ⟨w.heap.size, 2, none⟩ = some (.slice fa n fc) := fun o => (gr1 wr o).cell (by have := at_cell hbx 2; simpa using this) (by simp)
          have HSB : Hid (slB n s = (decide (0 ≤ s.len) && liesB s n)) := (rfl : slB n s = (decide (0 ≤ s.len) && liesB s n))
          generalize liesB s n = lb at HSB cL
          obtain ⟨s0, s1, s2, s3, s4, s5⟩ := s
          unfold sV at cL
          dsimp only at *
          clear hbx
          by_cases h0 : 0 ≤ s3
          · have cL' := cL h0
            have d0 : decide (s3 < 0) = false := by simp [h0]
            have HS1 : Hid (slB n ⟨s0, s1, s2, s3, s4, s5⟩ = lb) := (by rw [HSB.out]; simp [h0] : slB n ⟨s0, s1, s2, s3, s4, s5⟩ = lb)
            clear cL HSB
            have hmm := HMM.out
            go_wp2_with fail
            refine (cL' _).mono ?_
            rintro e w3 ⟨rfl, hg3⟩
            have hg3' : wr.grownBy w3 none := (gr1 _ _).trans hg3
            have HB3 : Hid (w3.heap[w.heap.size]? = some (.cells #[.int .i64 k, .string nm, .slice fa n fc, .slice (some ⟨b, off, none⟩) m sc, tv] 27)) := kept hg3' HB.out
            cases lb with
            | true =>
              go_wp2
              have hgl := HG.out
              go_roundg (m - (j + 1))
              all_goals first | omega | exact ⟨j + 1, by go_num, by omega, by omega, all_take_more HA.out HSJ.out HS1.out, hgr.trans hg3', HB3.out⟩
            | false =>
              go_wp2
              go_ret
              refine ⟨?_, hgr.trans hg3'⟩
              rw [HR.out, all_not HSJ.out HS1.out]
              rfl
          · have d0 : decide (s3 < 0) = true := by simp; omega
            have hs3 : s3 < 0 := by omega
            clear cL
            go_wp2_with fail
            go_ret
            refine ⟨?_, hgr.trans (gr1 _ _)⟩
            rw [HR.out, all_not HSJ.out (by rw [HSB.out]; simp; omega)]
            rfl
        · have hk' : ¬ ((j : Int) < (m : Int)) := by omega
          go_wp2
          go_ret
          refine ⟨?_, hgr⟩
          rw [HR.out]
          have e : sl.take j = sl := List.take_of_length_le (by rw [HM.out]; omega)
          have := HA.out
          rw [e] at this
          rw [this]
          rfl
    · have d1 : decide ((20000 : Int) < (m : Int)) = true := by simp; omega
      have d2 : decide (m ≤ 20000) = false := by simp; omega
      have d3 : decide ((20000 : Int) < (n : Int)) = false := by simp; omega
      go_enter Try.func16, Try.ntmps16
      go_wp2
      go_ret
      refine ⟨?_, gr1 _ _⟩
      rw [d2]
      simp
  · have d1 : decide ((20000 : Int) < (n : Int)) = true := by simp; omega
    have d2 : decide (n ≤ 20000) = false := by simp; omega
    go_enter Try.func16, Try.ntmps16
    go_wp2
    go_ret
    refine ⟨?_, gr1 _ _⟩
    rw [d2]
    simp
end Go.Proofs.Ytmkgobmlpmjocaa
