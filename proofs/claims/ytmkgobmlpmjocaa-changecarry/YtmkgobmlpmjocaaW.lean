/- carryWords. -/
import Derived.Test.YtmkgobmlpmjocaaM
namespace Go.Proofs.Ytmkgobmlpmjocaa
open Go.RowKit
attribute [local go_sem ↓] Go.wp_at_zero Go.wp_at_succ
set_option linter.unusedVariables false
set_option linter.unusedSimpArgs false

theorem make_ints (n : Nat) (hn : n ≤ 1000000000000) (w : World) : (Instr.makeSlice 23 (.int .i64 (n : Int)) (.int .i64 (n : Int))).run Try.prog w = .ok (.slice (some ⟨w.heap.size, 0, none⟩) n n) (w.alloc (.cells (intsA (List.replicate n 0)) 3)) := by
  obtain ⟨i0, hi, hz0, hz1, hz2⟩ := info_parts info3
  have h := run_make (P := Try.prog) w 23 3 i0 (.int .i64 0) Try.underlying23 hi hz0 .i64 .i64 (n : Int) (n : Int) (by omega) (by omega) (by rw [hz2]; simp; omega) (by omega)
  rw [hz1, made_ints] at h
  simpa using h

theorem size3 : (Try.prog.info? 3).map (·.size) = some 1 := by kernel_rfl
/-- Words laid over a list, from a place on. -/
def lay (acc : List Int) (o : Nat) (xs : List Int) : List Int := acc.take o ++ xs ++ acc.drop (o + xs.length)
theorem lay_len {acc : List Int} {o : Nat} {xs : List Int} (h : o + xs.length ≤ acc.length) : (lay acc o xs).length = acc.length := by
  unfold lay
  simp
  omega
/-- A copy into the middle of a row. -/
theorem copy_mid {W : World} {g o n cd sb so cs : Nat} {acc xs : List Int} (hg : W.heap[g]? = some (.cells (intsA acc) 3)) (hx : xs.length = n) (hfit : o + n ≤ acc.length) (hs : ∀ j, j < n → W.cell? ⟨sb, so + j, none⟩ = some (.int .i64 (xs.getD j 0))) :
    ∃ W', (Builtin.copy_ #[23, 23] 3 #[.slice (some ⟨g, o, none⟩) n cd, .slice (some ⟨sb, so, none⟩) n cs]).run Try.prog W = .ok (.int .i64 n) W' ∧ W'.heap[g]? = some (.cells (intsA (lay acc o xs)) 3) ∧ W.grownBy W' (some g) := by
  have hcell : ∀ j v, (xs.map (Value.int .i64))[j]? = some v → W.cell? ((⟨sb, so, none⟩ : Addr).add j) = some v := fun j u hj => by
    have hjl : j < xs.length := by
      rcases Nat.lt_or_ge j xs.length with h | h
      · exact h
      · simp [List.getElem?_eq_none (show (xs.map (Value.int .i64)).length ≤ j by simpa using h)] at hj
    rw [addn, hs j (by omega)]
    simp [List.getElem?_eq_getElem hjl] at hj
    subst hj
    simp [hjl]
  have hr := run_copy_row (P := Try.prog) W 23 23 3 3 g o n cd ⟨sb, so, none⟩ n cs (intsA acc) 3 (xs.map (Value.int .i64)) Try.underlying23 size3 hg (by rw [List.length_map, hx]; exact (Nat.min_self n).symm) hcell (by simp [intsA]; omega) (by simp [Value.oneCell'])
  rw [List.length_map, hx] at hr
  refine ⟨_, hr, ?_, ?_⟩
  · rw [setRow_heap _ _ _ _ 3 _ hg]
    congr 2
    simp [intsA, lay, hx, List.map_take, List.map_drop]
  · exact ⟨rfl, rfl, rfl, by simp [World.setRow], fun k _ hk => setRow_other _ _ _ _ (fun e => hk (by rw [e]))⟩
theorem copy_all {W : World} {g n c : Nat} {nv : Value} {acc xs : List Int} (hg : W.heap[g]? = some (.cells (intsA acc) 3)) (hx : xs.length = n) (ha : acc.length = n) (hs : rd W nv xs) :
    ∃ W', (Builtin.copy_ #[23, 23] 3 #[.slice (some ⟨g, 0, none⟩) n c, nv]).run Try.prog W = .ok (.int .i64 n) W' ∧ W'.heap[g]? = some (.cells (intsA xs) 3) ∧ W.grownBy W' (some g) := by
  obtain ⟨a, cap, rfl, h | ⟨b, off, rfl, hc⟩⟩ := hs
  · subst h
    simp at hx
    subst hx
    have : acc = [] := List.length_eq_zero_iff.1 ha
    subst this
    exact ⟨W, run_copy_none _ 23 23 3 3 _ a 0 c 0 cap Try.underlying23 size3 (by simp), hg, World.grownBy.refl _ _⟩
  · obtain ⟨W', r1, r2, r3⟩ := copy_mid (o := 0) (cd := c) (cs := cap) hg hx (by omega) (fun j hj => hc j (by omega))
    rw [hx]
    refine ⟨W', r1, ?_, r3⟩
    rw [r2]
    have e : acc.drop n = [] := List.drop_of_length_le (by omega)
    simp [lay, hx, e]

/-- What carrying makes of one slot. -/
def stepF (fr : List Int) (old : List Slt) (acc : List Int) (s : Slt) : List Int :=
  if fnd old s < old.length then lay acc s.at'.toNat ((fr.drop (atF old s).toNat).take (wds s).toNat) else acc
def carF (fr : List Int) (old : List Slt) (fs : List Int) (sl : List Slt) : List Int := sl.foldl (stepF fr old) fs
theorem same_len {s t : Slt} (h : same s t = true) : s.len = t.len := by
  simp [same] at h
  exact h.2
theorem fnd_same {l : List Slt} {t : Slt} (h : fnd l t < l.length) : same (l.getD (fnd l t) slt0) t = true := by
  have := List.findIdx_getElem (xs := l) (p := fun x => same x t) (w := h)
  unfold fnd at *
  simpa [List.getD, h] using this
theorem fnd_mem {l : List Slt} {t : Slt} (h : fnd l t < l.length) : l.getD (fnd l t) slt0 ∈ l := by
  simp [List.getD, h]
/-- Where the words of the old slot lie. -/
theorem at_fit {old : List Slt} {t : Slt} {n : Nat} (ho : old.all (slB n) = true) (h : fnd old t < old.length) : 0 ≤ atF old t ∧ atF old t + wds t ≤ n := by
  have h1 := List.all_eq_true.1 ho _ (fnd_mem h)
  have h2 := same_len (fnd_same h)
  simp [slB, liesB] at h1
  have h3 : wds (old.getD (fnd old t) slt0) = wds t := by unfold wds; rw [h2]
  have e : atF old t = (old.getD (fnd old t) slt0).at' := by simp only [atF, h, if_true]
  rw [e, ← h3]
  simp only [List.getD_eq_getElem?_getD] at *
  exact ⟨h1.2.1, h1.2.2⟩

set_option maxHeartbeats 1000000 in
theorem carry_any (k : Int) (nm : ByteArray) (fa : Option Addr) (fc : Nat) (nv sv tv : Value) (fr fs : List Int) (sl old : List Slt) (b : Nat) (w : World) (hf : rd w (.slice fa fr.length fc) fr) (hcap : fr.length ≤ fc) (hn : rd w nv fs) (hS : SlAt w sv sl) (hw : ∀ s ∈ sl, WfS s) (hl : sl.length ≤ 20000) (hfl : fs.length ≤ 20000) (hrl : fr.length ≤ 20000) (hF : FS w b old)
    (ho : old.all (slB fr.length) = true) (hs : sl.all (slB fs.length) = true) :
    Calls Try.prog 18 #[.slice fa fr.length fc, .map (some b), pV k nm nv sv tv] w fun e w' => ∃ g, e = .returned (.slice (some ⟨g, 0, none⟩) fs.length fs.length) ∧ w.heap.size ≤ g ∧ w'.heap[g]? = some (.cells (intsA (carF fr old fs sl)) 3) ∧ w.grownBy w' none := by
  have HS : Hid (SlAt w sv sl) := hS
  have HW : Hid (∀ s ∈ sl, WfS s) := hw
  have HF : Hid (FS w b old) := hF
  have HRF : Hid (rd w (.slice fa fr.length fc) fr) := hf
  have HRN : Hid (rd w nv fs) := hn
  have HOL : Hid (old.all (slB fr.length) = true) := ho
  have HSL : Hid (sl.all (slB fs.length) = true) := hs
  obtain ⟨sa, sc, rfl, hS1⟩ := hS
  clear hS1
  clear hf
  obtain ⟨na, nc, rfl, hN1⟩ := hn
  clear hN1
  clear hw hF ho hs
  obtain ⟨m, hm⟩ : ∃ m, sl.length = m := ⟨_, rfl⟩
  have HM : Hid (sl.length = m) := hm
  obtain ⟨n, hn⟩ : ∃ n, fs.length = n := ⟨_, rfl⟩
  have HN : Hid (fs.length = n) := hn
  obtain ⟨q, hq⟩ : ∃ q, fr.length = q := ⟨_, rfl⟩
  have HQ : Hid (fr.length = q) := hq
  have HSM : Hid (SlAt w (.slice sa m sc) sl) := by have := HS.out; rw [hm] at this; exact this
  have HRF2 : Hid (rd w (.slice fa q fc) fr) := by have := HRF.out; rw [hq] at this; exact this
  have HRN2 : Hid (rd w (.slice na n nc) fs) := by have := HRN.out; rw [hn] at this; exact this
  rw [hm] at hl ⊢
  rw [hn] at hfl ⊢
  rw [hq] at hrl hcap ⊢
  clear hm hn hq HS HRF HRN
  have hmk := make_ints n (by omega)
  obtain ⟨w2, hcp, hc2, hg2⟩ := copy_all (W := (w.alloc (.cells #[.int .i64 k, .string nm, .slice na n nc, .slice sa m sc, tv] 27)).alloc (.cells (intsA (List.replicate n 0)) 3)) (g := w.heap.size + 1) (n := n) (c := n) (nv := .slice na n nc) (acc := List.replicate n 0) (xs := fs) (hp_new (by simp) _) HN.out (by simp) (rd_grown HRN2.out (gr_alloc (gr1 _ _) _))
  have hgw2 : w.grownBy w2 none := grown_join (gr_alloc (gr1 _ _) _) hg2 (.inr fun x hx => by simp at hx; omega)
  have hbx : w2.heap[w.heap.size]? = some (.cells #[.int .i64 k, .string nm, .slice na n nc, .slice sa m sc, tv] 27) := by
    refine (hg2.block _ (by simp; omega) (by simp)).trans ?_
    rw [hp_old (by simp)]
    exact hp_new rfl _
  have q3 := at_cell hbx 3
  simp at q3
  have HC2 : Hid (w2.heap[w.heap.size + 1]? = some (.cells (intsA fs) 3)) := hc2
  have HGW : Hid (w.grownBy w2 none) := hgw2
  have HBX : Hid (w2.heap[w.heap.size]? = some (.cells #[.int .i64 k, .string nm, .slice na n nc, .slice sa m sc, tv] 27)) := hbx
  clear hc2 hg2 hgw2 hbx
  unfold pV
  go_enter Try.func18, Try.ntmps18
  go_wp2_with fail
  clear hmk hcp q3
  go_loopg [24] m (fun gk s24 wx => ∃ (j : Nat) (acc : List Int), s24 = .int .i64 j ∧ j ≤ m ∧ gk = m - j ∧ acc = carF fr old fs (sl.take j) ∧ acc.length = n ∧ wx.heap[w.heap.size + 1]? = some (.cells (intsA acc) 3) ∧ w.grownBy wx none)
  case atStart => exact ⟨0, fs, rfl, Nat.zero_le _, by omega, by simp [carF], HN.out, HC2.out, HGW.out⟩
  case round =>
    obtain ⟨j, acc, rfl, hj, hgj, hacc, hal, hbk, hgr⟩ := hrel
    have HG : Hid (gk = m - j) := hgj
    have HAC : Hid (acc = carF fr old fs (sl.take j)) := hacc
    have HAL : Hid (acc.length = n) := hal
    have HBK : Hid (wr.heap[w.heap.size + 1]? = some (.cells (intsA acc) 3)) := hbk
    have hlt2 := at_lt hbk
    clear hgj hacc hal hbk
    by_cases hlt : j < m
    · obtain ⟨b', off, s, rfl, hsj, c0, c1, c2, c3, c4, c5⟩ := sl_one (l := sl) (by have := HSM.out.grown hgr; rw [← HM.out] at this; exact this) j (by rw [HM.out]; exact hlt)
      have HWS : Hid (WfS s) := HW.out s (List.mem_of_getElem? hsj)
      have HSB : Hid (slB n s = true) := (by have := List.all_eq_true.1 HSL.out s (List.mem_of_getElem? hsj); rw [HN.out] at this; exact this : slB n s = true)
      have HTK : Hid (carF fr old fs (sl.take (j + 1)) = stepF fr old acc s) := (by rw [List.take_add_one, hsj, HAC.out]; simp [carF] : carF fr old fs (sl.take (j + 1)) = stepF fr old acc s)
      have i1 : (0 : Int) ≤ (j : Int) := by omega
      have i2 : (j : Int) < (m : Int) := by omega
      have cI := ident_any s
      have cW := words_any s
      clear hsj
      obtain ⟨nw, hnw⟩ : ∃ nw : Nat, wds s = nw := ⟨(wds s).toNat, by unfold wds; split <;> omega⟩
      have HNW : Hid (wds s = nw) := hnw
      have hnw1 : 1 ≤ nw := by have : 1 ≤ wds s := by { unfold wds; split <;> omega }; omega
      rw [hnw] at cW
      clear hnw
      have hsb := HSB.out
      simp [slB, liesB, HNW.out] at hsb
      obtain ⟨a2, ha2⟩ : ∃ a2 : Nat, s.at' = a2 := ⟨s.at'.toNat, by omega⟩
      have HA2 : Hid (s.at' = a2) := ha2
      rw [ha2] at c2 hsb
      have hfit : a2 + nw ≤ n := by omega
      clear hsb
      obtain ⟨s0, s1, s2, s3, s4, s5⟩ := s
      dsimp only at ha2
      subst ha2
      unfold sV at cI cW
      dsimp only at c0 c1 c2 c3 c4 c5 cI cW
      generalize hX : wr.heap.size = X
      have HX : Hid (wr.heap.size = X) := hX
      go_wp2_with fail
      refine (cI _).mono ?_
      rintro e w3 ⟨rfl, hg3⟩
      have hg3' : wr.grownBy w3 none := (gr1 _ _).trans hg3
      have hb3 : w3.heap[X]? = some (.cells #[.string s0, .int .i64 s1, .int .i64 a2, .int .i64 s3, .bool s4, .int .i64 s5] 50) := kept hg3 (hp_new hX.symm _)
      have HB3 : Hid (w3.heap[X]? = some (.cells #[.string s0, .int .i64 s1, .int .i64 a2, .int .i64 s3, .bool s4, .int .i64 s5] 50)) := hb3
      obtain ⟨cc, hlook, hcc⟩ := (HF.out.kept (hgr.trans hg3') (by simp)).look HWS.out
      have q0 := at_cell hb3 0
      have q1 := at_cell hb3 1
      have q2 := at_cell hb3 2
      have q3 := at_cell hb3 3
      have q4 := at_cell hb3 4
      have q5 := at_cell hb3 5
      simp at q0 q1 q2 q3 q4 q5
      clear hb3 hg3 c0 c1 c2 c3 c4 c5
      by_cases hin : fnd old ⟨s0, s1, (a2 : Int), s3, s4, s5⟩ < old.length
      · have hat := at_fit HOL.out hin
        rw [← hcc hin, HNW.out, HQ.out] at hat
        obtain ⟨ca, hca⟩ : ∃ ca : Nat, cc = ca := ⟨cc.toNat, by omega⟩
        have HTK2 : Hid (carF fr old fs (sl.take (j + 1)) = lay acc a2 ((fr.drop ca).take nw)) := (by
          rw [HTK.out]
          unfold stepF
          rw [if_pos hin, ← hcc hin, HNW.out, hca]
          rfl : carF fr old fs (sl.take (j + 1)) = lay acc a2 ((fr.drop ca).take nw))
        have hd : decide (fnd old ⟨s0, s1, (a2 : Int), s3, s4, s5⟩ < old.length) = true := by simp only [hin, decide_true]
        rw [hd] at hlook
        subst hca
        have hfit2 : ca + nw ≤ q := by omega
        clear hin hd hat hcc
        go_wp2_with fail
        refine (cW _).mono ?_
        rintro e w4 ⟨rfl, hg4⟩
        have hg4' := hg3'.trans hg4
        have p2 := hg4.cell q2 (by simp)
        have hbk4 := kept hg4' HBK.out
        clear q0 q1 q2 q3 q4 q5 cI cW hlook
        go_wp2_with fail
        obtain ⟨fb, fo, hfa, hfc⟩ : ∃ fb fo, fa = some ⟨fb, fo, none⟩ ∧ ∀ i, i < fr.length → w.cell? ⟨fb, fo + i, none⟩ = some (.int .i64 (fr.getD i 0)) := by
          obtain ⟨a', c', e, h | ⟨b1, o1, rfl, h1⟩⟩ := HRF2.out
          · have := HQ.out; rw [h] at this; simp at this; omega
          · simp at e
            exact ⟨b1, o1, e.1, h1⟩
        subst hfa
        obtain ⟨w5, hcp, hb5, hg5⟩ := copy_mid (W := w4.drew) (g := w.heap.size + 1) (o := a2) (n := nw) (cd := n - a2) (sb := fb) (so := fo + ca) (cs := fc - ca) (acc := acc) (xs := (fr.drop ca).take nw) (by rw [hp_drew]; exact hbk4) (by have := HQ.out; simp; omega) (by have := HAL.out; omega) (fun i hi => by
          have h1 := (hgr.trans hg4').cell (hfc (ca + i) (by have := HQ.out; omega)) (by simp)
          rw [show fo + ca + i = fo + (ca + i) by omega]
          refine h1.trans ?_
          simp [List.getD, hi])
        have HB5 : Hid (w5.heap[w.heap.size + 1]? = some (.cells (intsA (lay acc a2 ((fr.drop ca).take nw))) 3)) := hb5
        have HG5 : Hid (w.grownBy w5 none) := grown_join (gr_drew (hgr.trans hg4')) hg5 (.inr fun x hx => by simp at hx; omega)
        have p5 : w5.cell? ⟨X, 2, none⟩ = some (.int .i64 a2) := hg5.cell p2 (by simp; omega)
        have v1 : IntKind.i64.wrap ((a2 : Int) + (nw : Int)) = (a2 : Int) + (nw : Int) := IntWalk.i64_in _ (by omega)
        have v2 : IntKind.i64.wrap ((ca : Int) + (nw : Int)) = (ca : Int) + (nw : Int) := IntWalk.i64_in _ (by omega)
        have n1 : ¬ n = a2 := by omega
        have n2 : ¬ fc = ca := by omega
        have k1 : (a2 : Int) ≤ (a2 : Int) + (nw : Int) := by omega
        have k2 : (ca : Int) ≤ (ca : Int) + (nw : Int) := by omega
        have k3 : (a2 : Int) + (nw : Int) ≤ (n : Int) := by omega
        have k4 : (ca : Int) + (nw : Int) ≤ (fc : Int) := by omega
        have t1 : ((a2 : Int) + (nw : Int)).toNat - a2 = nw := by omega
        have t2 : ((ca : Int) + (nw : Int)).toNat - ca = nw := by omega
        clear hb5 hg5 hbk4 hfc
        go_region_held3 (fun w' => w'.cell? ⟨X, 2, none⟩ = some (.int .i64 a2)) (first | (go_keep; done) | exact p5) (fail)
        go_wp2
        have hgl := HG.out
        go_roundg (m - (j + 1))
        all_goals first | omega | exact ⟨j + 1, _, by go_num, by omega, by omega, HTK2.out.symm, by rw [lay_len (by have := HAL.out; have := HQ.out; simp; omega)]; exact HAL.out, HB5.out, HG5.out⟩
      · have HTK2 : Hid (carF fr old fs (sl.take (j + 1)) = acc) := (by
          rw [HTK.out]
          unfold stepF
          rw [if_neg hin] : carF fr old fs (sl.take (j + 1)) = acc)
        have hd : decide (fnd old ⟨s0, s1, (a2 : Int), s3, s4, s5⟩ < old.length) = false := by simp only [hin, decide_false]
        rw [hd] at hlook
        clear hin hd hcc
        go_wp2_with fail
        have hgl := HG.out
        go_roundg (m - (j + 1))
        all_goals first | omega | exact ⟨j + 1, acc, by go_num, by omega, by omega, HTK2.out.symm, HAL.out, kept hg3' HBK.out, hgr.trans hg3'⟩
    · have hk' : ¬ ((j : Int) < (m : Int)) := by omega
      have HE : Hid (sl.take j = sl) := (List.take_of_length_le (by rw [HM.out]; omega) : sl.take j = sl)
      go_wp2
      go_ret
      refine ⟨w.heap.size + 1, rfl, by omega, ?_, hgr⟩
      have e := HAC.out
      rw [HE.out] at e
      rw [← e]
      exact HBK.out
end Go.Proofs.Ytmkgobmlpmjocaa
