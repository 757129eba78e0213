/- unknown. -/
import Derived.Test.YtmkgobmlpmjocaaM
namespace Go.Proofs.Ytmkgobmlpmjocaa
open Go.RowKit
attribute [local go_sem ↓] Go.wp_at_zero Go.wp_at_succ
set_option linter.unusedVariables false
set_option linter.unusedSimpArgs false

/-- A list of texts of one's own. -/
def OwnP (B : Nat) (w : World) (a : Option Addr) (c : Nat) (l : List ByteArray) : Prop := w.ownsRow B 9 1 (.slice a l.length c) l.length (l.map Value.string)
theorem OwnP.nil (B : Nat) (w : World) : OwnP B w none 0 [] := World.ownsRow_nil _ _ _ _
theorem OwnP.kept {B : Nat} {w w' : World} {a : Option Addr} {c : Nat} {l : List ByteArray} {r : Option Nat} (h : OwnP B w a c l) (hg : w.grownBy w' r) (hr : ∀ y, r = some y → y < B) : OwnP B w' a c l := by
  refine World.ownsRow.kept h hg ?_
  cases hv : (Value.slice a l.length c).ownBlock with
  | none => exact .inl rfl
  | some y =>
    right
    intro e
    have h1 := (World.ownsRow.lt h y hv).1
    have h2 := hr y e.symm
    omega
theorem info9 : (Try.prog.info? 9).map (fun i => (i.zero, i.size, i.bytes)) = some (some (.string ByteArray.empty), 1, 16) := by kernel_rfl
theorem OwnP.more {B : Nat} {w : World} {a : Option Addr} {c : Nat} {l : List ByteArray} (h : OwnP B w a c l) (x : ByteArray) (hl : l.length ≤ 1000000) (hB : B ≤ w.heap.size) :
    ∃ a' c' w', (Builtin.append_ #[28, 28] 28 #[.slice a l.length c, .slice (some ⟨w.heap.size, 0, none⟩) 1 1]).run Try.prog (w.alloc (.cells #[.string x] 9)) = .ok (.slice a' (l.length + 1) c') w' ∧ OwnP B w' a' c' (l ++ [x]) ∧ w.grownBy w' (Value.slice a l.length c).ownBlock := by
  obtain ⟨i0, hi, hz0, hz1, hz2⟩ := info_parts info9
  obtain ⟨v', w', r1, r2, r3, _, r5⟩ := run_append_own_at (P := Try.prog) (w.alloc (.cells #[.string x] 9)) B 28 28 9 i0 _ 1 16 Try.underlying28 hi hz0 hz1 hz2 rfl (by omega) _ l.length (l.map Value.string) (World.ownsRow.alloc h _) ⟨w.heap.size, 0, none⟩ 1 1 [.string x] rfl
    (fun j u hj => by
      rw [addn, at_cell (heap_alloc_new w _) _]
      simpa using hj)
    (by simp [Value.oneCell']) (by unfold maxLen; omega) (by omega) (by simp; omega)
  have r2' := r2
  obtain ⟨_, ⟨rfl, hn⟩ | ⟨g, cap, cur, rfl, _⟩⟩ := r2
  · simp at hn
  · refine ⟨some ⟨g, 0, none⟩, cap, w', r1, ?_, grown_join (World.grownBy_alloc w _ _) r3 (.inl rfl)⟩
    unfold OwnP
    rw [List.length_append, List.map_append]
    exact r2'
def unkF (sl kn : List Slt) : List ByteArray := (sl.filter (fun s => !decide (fnd kn s < kn.length))).map Slt.path
theorem unkF_more (sl kn : List Slt) (s : Slt) : unkF (sl ++ [s]) kn = unkF sl kn ++ if fnd kn s < kn.length then [] else [s.path] := by
  unfold unkF
  rw [List.filter_append, List.map_append]
  congr 1
  by_cases h : fnd kn s < kn.length <;> simp [h]
theorem unkF_len (sl kn : List Slt) : (unkF sl kn).length ≤ sl.length := by
  unfold unkF
  rw [List.length_map]
  exact List.length_filter_le _ _

set_option maxHeartbeats 1000000 in
theorem unk_any (sv : Value) (sl kn : List Slt) (b : Nat) (w : World) (hS : SlAt w sv sl) (hw : ∀ s ∈ sl, WfS s) (hl : sl.length ≤ 20000) (hF : FS w b kn) :
    Calls Try.prog 19 #[sv, .map (some b)] w fun e w' => ∃ a c, e = .returned (.slice a (unkF sl kn).length c) ∧ OwnP w.heap.size w' a c (unkF sl kn) ∧ w.grownBy w' none := by
  have HS : Hid (SlAt w sv sl) := hS
  have HW : Hid (∀ s ∈ sl, WfS s) := hw
  have HF : Hid (FS w b kn) := hF
  obtain ⟨sa, sc, rfl, hs⟩ := hS
  clear hs hw hF
  obtain ⟨m, hm⟩ : ∃ m, sl.length = m := ⟨_, rfl⟩
  have HM : Hid (sl.length = m) := hm
  have HSM : Hid (SlAt w (.slice sa m sc) sl) := by have := HS.out; rw [hm] at this; exact this
  rw [hm] at hl ⊢
  clear hm HS
  go_enter Try.func19, Try.ntmps19
  go_wp2_with fail
  go_loopg [5, 12] m (fun gk s5 s12 wx => ∃ (j : Nat) (a : Option Addr) (c : Nat) (L : List ByteArray), s12 = .int .i64 j ∧ j ≤ m ∧ gk = m - j ∧ s5 = .slice a L.length c ∧ L = unkF (sl.take j) kn ∧ OwnP w.heap.size wx a c L ∧ w.grownBy wx none)
  case atStart => exact ⟨0, none, 0, [], rfl, Nat.zero_le _, by omega, rfl, by simp [unkF], OwnP.nil _ _, World.grownBy.refl _ _⟩
  case round =>
    obtain ⟨j, a, c, L, rfl, hj, hgj, rfl, hL, hO, hgr⟩ := hrel
    have HG : Hid (gk = m - j) := hgj
    have HL : Hid (L = unkF (sl.take j) kn) := hL
    have HO : Hid (OwnP w.heap.size wr a c L) := hO
    have HLL : Hid (L.length ≤ 20000) := (by rw [hL]; have := unkF_len (sl.take j) kn; simp at this; omega : L.length ≤ 20000)
    clear hgj hL hO
    by_cases hlt : j < m
    · obtain ⟨b', off, s, rfl, hsj, c0, c1, c2, c3, c4, c5⟩ := sl_one (l := sl) (by have := HSM.out.grown hgr; rw [← HM.out] at this; exact this) j (by rw [HM.out]; exact hlt)
      have HWS : Hid (WfS s) := HW.out s (List.mem_of_getElem? hsj)
      have HTK : Hid (unkF (sl.take (j + 1)) kn = L ++ if fnd kn s < kn.length then [] else [s.path]) := (by rw [List.take_add_one, hsj, HL.out]; exact unkF_more _ _ _ : unkF (sl.take (j + 1)) kn = L ++ if fnd kn s < kn.length then [] else [s.path])
      have i1 : (0 : Int) ≤ (j : Int) := by omega
      have i2 : (j : Int) < (m : Int) := by omega
      have cI := ident_any s
      clear hsj
      obtain ⟨s0, s1, s2, s3, s4, s5⟩ := s
      unfold sV at cI
      dsimp only at c0 c1 c2 c3 c4 c5 cI
      obtain ⟨nl, hnl⟩ : ∃ n, L.length = n := ⟨_, rfl⟩
      have HNL : Hid (L.length = nl) := hnl
      rw [hnl]
      clear hnl
      generalize hX : wr.heap.size = X
      have HX : Hid (wr.heap.size = X) := hX
      go_wp2_with fail
      refine (cI _).mono ?_
      rintro e w3 ⟨rfl, hg3⟩
      have hg3' : wr.grownBy w3 none := (gr1 _ _).trans hg3
      have hb3 : w3.heap[X]? = some (.cells #[.string s0, .int .i64 s1, .int .i64 s2, .int .i64 s3, .bool s4, .int .i64 s5] 50) := kept hg3 (hp_new hX.symm _)
      obtain ⟨cc, hlook, _⟩ := (HF.out.kept (hgr.trans hg3') (by simp)).look HWS.out
      have q0 := at_cell hb3 0
      simp at q0
      clear hb3 hg3 c0 c1 c2 c3 c4 c5
      by_cases hin : fnd kn ⟨s0, s1, s2, s3, s4, s5⟩ < kn.length
      · have HTK2 : Hid (L = unkF (sl.take (j + 1)) kn) := (by rw [HTK.out, if_pos hin]; simp : L = unkF (sl.take (j + 1)) kn)
        have hd : decide (fnd kn ⟨s0, s1, s2, s3, s4, s5⟩ < kn.length) = true := by simp only [hin, decide_true]
        rw [hd] at hlook
        clear hin hd
        go_wp2_with fail
        have hgl := HG.out
        go_roundg (m - (j + 1))
        all_goals first | omega | exact ⟨j + 1, a, c, L, by go_num, by omega, by omega, by rw [HNL.out], HTK2.out, HO.out.kept hg3' (by simp), hgr.trans hg3'⟩
      · have HTK2 : Hid (L ++ [s0] = unkF (sl.take (j + 1)) kn) := (by rw [HTK.out, if_neg hin] : L ++ [s0] = unkF (sl.take (j + 1)) kn)
        have hd : decide (fnd kn ⟨s0, s1, s2, s3, s4, s5⟩ < kn.length) = false := by simp only [hin, decide_false]
        rw [hd] at hlook
        clear hin hd
        obtain ⟨a', c', w4, hrun, hO4, hg4⟩ := (HO.out.kept hg3' (by simp)).more s0 (by have := HLL.out; omega) (hgr.trans hg3').size
        rw [HNL.out] at hrun hg4
        have hg34 : w.grownBy w4 none := grown_join (hgr.trans hg3') hg4 (.inr fun x hx => (World.ownsRow.lt (HO.out) x (by rw [HNL.out]; exact hx)).1)
        have HO4 : Hid (OwnP w.heap.size w4 a' c' (L ++ [s0])) := hO4
        have HRUN : Hid (_ = _) := hrun
        clear hO4 hg4 hrun
        go_wp2_with (first | (at_builtin; refine wpList_append_run rfl _ _ 28 rfl _ _ _ w4 rfl rfl HRUN.out ?_))
        have hgl := HG.out
        go_roundg (m - (j + 1))
        all_goals first | omega | exact ⟨j + 1, a', c', L ++ [s0], by go_num, by omega, by omega, by rw [List.length_append, HNL.out]; rfl, HTK2.out, HO4.out, hg34⟩
    · have hk' : ¬ ((j : Int) < (m : Int)) := by omega
      have HE : Hid (sl.take j = sl) := (List.take_of_length_le (by rw [HM.out]; omega) : sl.take j = sl)
      go_wp2
      go_ret
      have e := HL.out
      rw [HE.out] at e
      rw [← e]
      exact ⟨a, c, rfl, HO.out, hgr⟩
end Go.Proofs.Ytmkgobmlpmjocaa
