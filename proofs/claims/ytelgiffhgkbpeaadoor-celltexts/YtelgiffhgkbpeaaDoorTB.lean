/- A number that is read letter by letter: what comes of it, and the contract of readDigits. -/
import Derived.Test.YtelgiffhgkbpeaaDoorTA
import Derived.Lib.OthersKept
import Derived.Laws.RangeString
import Derived.Laws.RangeAny
import Derived.Lib.TrimU
import Derived.Deep.LoopGhost
import Derived.Deep.DeepMust
namespace Go.Proofs.YtelgiffhgkbpeaaDoor
open Go.RowKit

def feed (base : Int) : Int × Bool → List UInt8 → Option (Int × Bool)
  | st, [] => some st
  | st, c :: l => match stepD base st c.toNat with
    | none => none
    | some st' => feed base st' l
/-- What readDigits answers. -/
def readD (base : Int) (l : List UInt8) : Int × Bool := (feed base (0, false) l).getD (0, false)

theorem stepD_high (base : Int) (st : Int × Bool) (r : Int) (h : 128 ≤ r) : stepD base st r = none := by
  have e : worthI r = -1 := by
    have a : ¬ r ≤ 57 := by omega
    have b : ¬ r ≤ 102 := by omega
    simp [worthI, a, b]
  have h95 : ¬ r = 95 := by omega
  simp [stepD, e, h95]
theorem stepD_bd {base : Int} {st st' : Int × Bool} {r : Int} (hs : base = 10 ∨ base = 16 ∨ base = 2) (h0 : 0 ≤ st.1) (h1 : st.1 ≤ 4294967296) (h : stepD base st r = some st') : 0 ≤ st'.1 ∧ st'.1 ≤ 4294967296 := by
  unfold stepD at h
  split at h
  · split at h
    · cases h; exact ⟨h0, h1⟩
    · cases h
  · split at h
    · cases h
    · rename_i hn
      cases h
      have hw : 0 ≤ worthI r := by omega
      have : 0 ≤ st.1 * base := by rcases hs with rfl | rfl | rfl <;> omega
      constructor
      · show 0 ≤ min _ _; omega
      · show min _ _ ≤ _; omega
theorem feed_cons (base : Int) (st : Int × Bool) (c : UInt8) (l : List UInt8) : feed base st (c :: l) = (stepD base st c.toNat).bind fun st' => feed base st' l := by
  rw [feed]
  cases stepD base st c.toNat <;> rfl
theorem drop_at (s : ByteArray) (pos : Nat) (h : pos < s.size) : s.data.toList.drop pos = (s[pos]'h) :: s.data.toList.drop (pos + 1) := by
  have hl : pos < s.data.toList.length := by rw [Array.length_toList]; exact h
  rw [List.drop_eq_getElem_cons hl]
  rfl

set_option maxHeartbeats 1000000 in
theorem readDigits_any (s : ByteArray) (base : Int) (w : World) (hs : base = 10 ∨ base = 16 ∨ base = 2) (hsz : s.size < 35184372088832) :
    Calls Tryd.prog 33 #[.string s, .int .i64 base] w fun e w' =>
      e = .returned (.tuple #[.int .i64 (readD base s.data.toList).1, .bool (readD base s.data.toList).2]) ∧ Below w.heap.size w w' := by
  obtain ⟨F, hF⟩ : ∃ F, feed base (0, false) s.data.toList = F := ⟨_, rfl⟩
  have hR : readD base s.data.toList = F.getD (0, false) := by rw [readD, hF]
  rw [hR]
  clear hR
  go_enter Tryd.func33, Tryd.ntmps33
  go_wp2
  go_loopg [] s.size (fun gk wx => ∃ (pos : Nat) (v : Int) (wh : Bool), wx.heap[w.heap.size]? = some (digO base v wh) ∧ wx.heap[w.heap.size + 1]? = some (.stringIter s pos) ∧ Below w.heap.size w wx ∧
    feed base (v, wh) (s.data.toList.drop pos) = F ∧ 0 ≤ v ∧ v ≤ 4294967296 ∧ s.size ≤ pos + gk ∧ pos ≤ s.size)
  case atStart =>
    refine ⟨0, 0, false, ?_, ?_, ((Below.refl _ w).alloc (Nat.le_refl _) _).alloc (by simp) _, by simpa using hF, by omega, by omega, by omega, by omega⟩
    · have h1 := heap_alloc_new w (digO base 0 false)
      exact (Below.heap_alloc _ _ _ (by simp)).trans h1
    · have := World.iter_heap (w.alloc (digO base 0 false)) s 0
      have e : (w.alloc (digO base 0 false)).heap.size = w.heap.size + 1 := by simp
      rw [e] at this
      exact this
  case round =>
    obtain ⟨pos, v, wh, hd, hit, hbw, hf, hv0, hv1, hfu, hps⟩ := hrel
    have hsz1 : w.heap.size + 1 < wr.heap.size := (Array.getElem?_eq_some_iff.1 hit).1
    by_cases hlt : pos < s.size
    · obtain ⟨g', rfl⟩ : ∃ g', gk = g' + 1 := ⟨gk - 1, by omega⟩
      have hnx : ∀ ty, (Instr.next (.pointer (some ⟨w.heap.size + 1, 0, none⟩)) true ty).run Tryd.prog wr = _ := fun ty => Lib.run_next_any_at wr (w.heap.size + 1) s pos ty hit hlt
      have hrl := Lib.rune_le s pos
      have hfe := drop_at s pos hlt
      obtain ⟨R, hR⟩ : ∃ R, (Utf8.decode s pos).1 = R := ⟨_, rfl⟩
      obtain ⟨K, hK⟩ : ∃ K, (Utf8.decode s pos).2 = K := ⟨_, rfl⟩
      have hst : (stepD base (v, wh) (R : Int) = none ∧ F = none) ∨ (K = 1 ∧ ∃ st, stepD base (v, wh) (R : Int) = some st ∧ feed base st (s.data.toList.drop (pos + 1)) = F) := by
        rw [hfe, feed_cons] at hf
        by_cases ha : (s[pos]'hlt).toNat < 128
        · have hd := decode_ascii s pos hlt ha
          rw [hd] at hR hK
          subst hR
          cases hq : stepD base (v, wh) ((s[pos]'hlt).toNat : Int) with
          | none => rw [hq] at hf; exact .inl ⟨rfl, hf.symm⟩
          | some st => rw [hq] at hf; exact .inr ⟨hK.symm, st, rfl, hf⟩
        · have hd := (decode_high s pos hlt (by omega)).1
          rw [hR] at hd
          rw [stepD_high base (v, wh) _ (by omega : (128 : Int) ≤ ((s[pos]'hlt).toNat : Int))] at hf
          exact .inl ⟨stepD_high base (v, wh) _ (by omega), hf.symm⟩
      rw [hR, hK] at hnx
      rw [hR] at hrl
      have hit2 := Lib.iterAt_heap wr (w.heap.size + 1) s pos (pos + K) hit
      have hbw2 := Lib.below_iterAt hbw (k := w.heap.size + 1) (by omega) s (pos + K)
      have hd2 : (wr.iterAt (w.heap.size + 1) s (pos + K)).heap[w.heap.size]? = _ := (Lib.iterAt_other wr (w.heap.size + 1) w.heap.size s (pos + K) (by omega)).trans hd
      obtain ⟨W, hWd⟩ : ∃ W, wr.iterAt (w.heap.size + 1) s (pos + K) = W := ⟨_, rfl⟩
      rw [hWd] at hnx hit2 hbw2 hd2
      have cT := take_any w.heap.size base v (R : Int) wh W hd2 (by omega) (by omega) hv0 hv1 hs
      have hszW : w.heap.size + 1 < W.heap.size := (Array.getElem?_eq_some_iff.1 hit2).1
      clear hit hbw hd hWd hf hfe
      rcases hst with ⟨h1, h2⟩ | ⟨hK1, st, h1, h2⟩
      · rw [h1] at cT
        clear h1
        go_wp2_with (go_at_call 51; go_must (refine cT.mono ?_; rintro e W' ⟨rfl, hbut, -⟩))
        go_ret2
        exact ⟨by rw [h2]; rfl, hbw2.trans (hbut.below (Nat.le_refl _))⟩
      · have hbd := stepD_bd hs hv0 hv1 h1
        rw [h1] at cT
        clear h1
        go_wp2_with (go_at_call 51; go_must (refine cT.mono ?_; rintro e W' ⟨rfl, hbut, hdg⟩))
        go_roundg g'
        case measure => omega
        case rel => exact ⟨pos + 1, st.1, st.2, hdg st rfl, (hbut.block _ (by omega)).trans (hK1 ▸ hit2), hbw2.trans (hbut.below (Nat.le_refl _)), h2, hbd.1, hbd.2, by omega, by omega⟩
    · have hnx : ∀ ty, (Instr.next (.pointer (some ⟨w.heap.size + 1, 0, none⟩)) true ty).run Tryd.prog wr = _ := fun ty => Lib.run_next_end_at wr (w.heap.size + 1) s pos ty hit hlt
      have hnil : s.data.toList.drop pos = [] := List.drop_eq_nil_of_le (by rw [Array.length_toList]; show s.size ≤ pos; omega)
      rw [hnil, feed] at hf
      obtain ⟨c0, c1, c2, f1, f2⟩ := dig_cells hd
      clear hnil hd hit
      go_wp2
      go_region
      all_goals go_wp2
      all_goals go_ret2
      all_goals exact ⟨by rw [← hf]; rfl, hbw.drew⟩
end Go.Proofs.YtelgiffhgkbpeaaDoor
