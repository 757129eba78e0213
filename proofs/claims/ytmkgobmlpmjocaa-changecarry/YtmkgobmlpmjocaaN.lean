/- findSlots. -/
import Derived.Test.YtmkgobmlpmjocaaM
namespace Go.Proofs.Ytmkgobmlpmjocaa
open Go.RowKit
attribute [local go_sem ↓] Go.wp_at_zero Go.wp_at_succ
set_option linter.unusedVariables false
set_option linter.unusedSimpArgs false

theorem make_map (n : Nat) (w : World) : (Instr.makeMap 55 (some (.int .i64 (n : Int)))).run Try.prog w = .ok (.map (some w.heap.size)) (w.alloc (.map #[] 0)) := by
  rfl

set_option maxHeartbeats 1000000 in
theorem find_any (sv : Value) (sl : List Slt) (w : World) (hS : SlAt w sv sl) (hw : ∀ s ∈ sl, WfS s) (hl : sl.length ≤ 20000) :
    Calls Try.prog 17 #[sv] w fun e w' => ∃ b, e = .returned (.map (some b)) ∧ FS w' b sl ∧ w.heap.size ≤ b ∧ w.grownBy w' none := by
  have HS : Hid (SlAt w sv sl) := hS
  have HW : Hid (∀ s ∈ sl, WfS s) := hw
  obtain ⟨sa, sc, rfl, hs⟩ := hS
  clear hs hw
  obtain ⟨m, hm⟩ : ∃ m, sl.length = m := ⟨_, rfl⟩
  have HM : Hid (sl.length = m) := hm
  have HSM : Hid (SlAt w (.slice sa m sc) sl) := by have := HS.out; rw [hm] at this; exact this
  rw [hm] at hl ⊢
  clear hm HS
  have hmk := make_map m
  go_enter Try.func17, Try.ntmps17
  go_wp2_with fail
  clear hmk
  go_loopg [13] m (fun gk s13 wx => ∃ (j : Nat), s13 = .int .i64 j ∧ j ≤ m ∧ gk = m - j ∧ FS wx w.heap.size (sl.take j) ∧ w.grownBy wx none)
  case atStart => exact ⟨0, rfl, Nat.zero_le _, by omega, FS.made w, gr1 _ _⟩
  case round =>
    obtain ⟨j, rfl, hj, hgj, hFS, hgr⟩ := hrel
    have HG : Hid (gk = m - j) := hgj
    have HF : Hid (FS wr w.heap.size (sl.take j)) := hFS
    have hbl := hFS.lt
    clear hgj hFS
    by_cases hlt : j < m
    · obtain ⟨b, off, s, rfl, hsj, c0, c1, c2, c3, c4, c5⟩ := sl_one (l := sl) (by have := HSM.out.grown hgr; rw [← HM.out] at this; exact this) j (by rw [HM.out]; exact hlt)
      have HSJ : Hid (sl[j]? = some s) := hsj
      have HWS : Hid (WfS s) := HW.out s (List.mem_of_getElem? hsj)
      have HTK : Hid (sl.take (j + 1) = sl.take j ++ [s]) := (by rw [List.take_add_one, hsj]; rfl : sl.take (j + 1) = sl.take j ++ [s])
      have HTL : Hid ((sl.take j).length ≤ 20000) := (by simp; omega : (sl.take j).length ≤ 20000)
      have i1 : (0 : Int) ≤ (j : Int) := by omega
      have i2 : (j : Int) < (m : Int) := by omega
      have cI := ident_any s
      clear hsj
      obtain ⟨s0, s1, s2, s3, s4, s5⟩ := s
      unfold sV at cI
      dsimp only at c0 c1 c2 c3 c4 c5 cI
      generalize hX : wr.heap.size = X
      have HX : Hid (wr.heap.size = X) := hX
      go_wp2_with fail
      refine (cI _).mono ?_
      rintro e w3 ⟨rfl, hg3⟩
      have hg3' : wr.grownBy w3 none := (gr1 _ _).trans hg3
      have hb3 : w3.heap[X]? = some (.cells #[.string s0, .int .i64 s1, .int .i64 s2, .int .i64 s3, .bool s4, .int .i64 s5] 50) := kept hg3 (hp_new hX.symm _)
      have HF3 : Hid (FS w3 w.heap.size (sl.take j)) := HF.out.kept hg3' (by simp)
      obtain ⟨c, hlook, _⟩ := HF3.out.look HWS.out
      have q0 := at_cell hb3 0
      have q1 := at_cell hb3 1
      have q2 := at_cell hb3 2
      have q3 := at_cell hb3 3
      have q4 := at_cell hb3 4
      have q5 := at_cell hb3 5
      simp at q0 q1 q2 q3 q4 q5
      have hX3 := at_lt hb3
      clear hb3 hg3 c0 c1 c2 c3 c4 c5
      by_cases hin : fnd (sl.take j) ⟨s0, s1, s2, s3, s4, s5⟩ < (sl.take j).length
      · have HIN : Hid (fnd (sl.take j) ⟨s0, s1, s2, s3, s4, s5⟩ < (sl.take j).length) := hin
        have hd : decide (fnd (sl.take j) ⟨s0, s1, s2, s3, s4, s5⟩ < (sl.take j).length) = true := by simp only [hin, decide_true]
        rw [hd] at hlook
        clear hin hd
        go_wp2_with fail
        have hgl := HG.out
        go_roundg (m - (j + 1))
        all_goals first | omega | exact ⟨j + 1, by go_num, by omega, by omega, by rw [HTK.out]; exact HF3.out.dup HIN.out, hgr.trans hg3'⟩
      · have HIN : Hid (¬ fnd (sl.take j) ⟨s0, s1, s2, s3, s4, s5⟩ < (sl.take j).length) := hin
        have hd : decide (fnd (sl.take j) ⟨s0, s1, s2, s3, s4, s5⟩ < (sl.take j).length) = false := by simp only [hin, decide_false]
        rw [hd] at hlook
        clear hin hd
        go_wp2_with fail
        clear hlook
        go_region_held3 (fun w' => w'.cell? ⟨X, 0, none⟩ = some (.string s0) ∧ w'.cell? ⟨X, 1, none⟩ = some (.int .i64 s1) ∧ w'.cell? ⟨X, 2, none⟩ = some (.int .i64 s2) ∧ w'.cell? ⟨X, 3, none⟩ = some (.int .i64 s3) ∧ w'.cell? ⟨X, 4, none⟩ = some (.bool s4) ∧ w'.cell? ⟨X, 5, none⟩ = some (.int .i64 s5)) (first | (go_keep; done) | exact HK5.out | exact HK4.out) (first
          | (go_at_call 23
             refine (cI _).mono ?_
             rintro e w4 ⟨rfl, hg4⟩
             have hg4' : w3.grownBy w4 none := (gr_drew (World.grownBy.refl w3 none)).trans hg4
             have HK4 : Hid (w4.cell? ⟨X, 0, none⟩ = some (.string s0) ∧ w4.cell? ⟨X, 1, none⟩ = some (.int .i64 s1) ∧ w4.cell? ⟨X, 2, none⟩ = some (.int .i64 s2) ∧ w4.cell? ⟨X, 3, none⟩ = some (.int .i64 s3) ∧ w4.cell? ⟨X, 4, none⟩ = some (.bool s4) ∧ w4.cell? ⟨X, 5, none⟩ = some (.int .i64 s5)) := ⟨hg4'.cell q0 (by simp), hg4'.cell q1 (by simp), hg4'.cell q2 (by simp), hg4'.cell q3 (by simp), hg4'.cell q4 (by simp), hg4'.cell q5 (by simp)⟩
             obtain ⟨w5, hrun5, hF5, hg5⟩ := (HF3.out.kept hg4' (by simp)).put HWS.out HIN.out HTL.out
             have HF5 : Hid (FS w5 w.heap.size (sl.take (j + 1))) := by rw [HTK.out]; exact hF5
             have hne : (some X : Option Nat) ≠ some w.heap.size := by have := HX.out; simp; omega
             have HK5 : Hid (w5.cell? ⟨X, 0, none⟩ = some (.string s0) ∧ w5.cell? ⟨X, 1, none⟩ = some (.int .i64 s1) ∧ w5.cell? ⟨X, 2, none⟩ = some (.int .i64 s2) ∧ w5.cell? ⟨X, 3, none⟩ = some (.int .i64 s3) ∧ w5.cell? ⟨X, 4, none⟩ = some (.bool s4) ∧ w5.cell? ⟨X, 5, none⟩ = some (.int .i64 s5)) := ⟨hg5.cell HK4.out.1 hne, hg5.cell HK4.out.2.1 hne, hg5.cell HK4.out.2.2.1 hne, hg5.cell HK4.out.2.2.2.1 hne, hg5.cell HK4.out.2.2.2.2.1 hne, hg5.cell HK4.out.2.2.2.2.2 hne⟩
             clear hF5))
        go_wp2
        have hgl := HG.out
        have hg35 : w.grownBy w5 none := grown_join (hgr.trans (hg3'.trans hg4')) hg5 (.inr fun x hx => by simp at hx; omega)
        go_roundg (m - (j + 1))
        all_goals first | omega | exact ⟨j + 1, by go_num, by omega, by omega, HF5.out, hg35⟩
    · have hk' : ¬ ((j : Int) < (m : Int)) := by omega
      have HE : Hid (sl.take j = sl) := (List.take_of_length_le (by rw [HM.out]; omega) : sl.take j = sl)
      go_wp2
      go_ret
      refine ⟨w.heap.size, rfl, ?_, Nat.le_refl _, hgr⟩
      have := HF.out
      rw [HE.out] at this
      exact this
end Go.Proofs.Ytmkgobmlpmjocaa
