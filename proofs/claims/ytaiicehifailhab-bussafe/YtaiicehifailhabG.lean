/- Bytes and pairs put down behind bytes of one's own. -/
import Derived.Test.YtaiicehifailhabF
namespace Go.Proofs.Ytaiicehifailhab
open Go.RowKit
attribute [local go_sem ↓] Go.wp_at_zero Go.wp_at_succ
set_option linter.unusedVariables false
set_option linter.unusedSimpArgs false

def by8 (x : Int) : Nat := (x % 256).toNat
theorem by8_lt (x : Int) : by8 x < 256 := by unfold by8; omega
theorem by8_is (x : Int) : x % 256 = ((by8 x : Nat) : Int) := by unfold by8; omega
theorem by8_wrap (x : Int) : IntKind.u8.wrap x = ((by8 x : Nat) : Int) := by rw [IntKind.wrap_u8]; exact by8_is x
def pairB (l : List Int) : List Nat := l.flatMap fun x => [by8 x, by8 (x / 256)]
theorem pairB_app (l m : List Int) : pairB (l ++ m) = pairB l ++ pairB m := by simp [pairB]
theorem pairB_len (l : List Int) : (pairB l).length = 2 * l.length := by
  induction l with
  | nil => rfl
  | cons x l ih => rw [show x :: l = [x] ++ l from rfl, pairB_app, List.length_append, ih]; simp [pairB]; omega
theorem pairB_B (l : List Int) : isB (pairB l) := by
  intro x hx
  simp only [pairB, List.mem_flatMap] at hx
  obtain ⟨y, _, hy⟩ := hx
  simp at hy
  rcases hy with rfl | rfl <;> exact by8_lt _
/-- A list that does not lie in that block. -/
def Off (v : Value) (r : Option Nat) : Prop := ∀ b off len c, v = .slice (some ⟨b, off, none⟩) len c → 0 < len → r ≠ some b
theorem rd_off {w w' : World} {v : Value} {l : List Int} {r : Option Nat} (h : rd w v l) (hg : w.grownBy w' r) (ho : Off v r) : rd w' v l := by
  obtain ⟨a, cap, rfl, h | ⟨b, off, rfl, hc⟩⟩ := h
  · exact ⟨a, cap, rfl, .inl h⟩
  · exact ⟨_, cap, rfl, .inr ⟨b, off, rfl, fun i hi => hg.cell (hc i hi) (fun e => ho b off _ _ rfl (by omega) e.symm)⟩⟩
/-- Bytes of one's own in w', behind those in w at the block r. -/
def NewB (B : Nat) (w w' : World) (r : Option Nat) (a' : Option Addr) (cap' : Nat) (l : List Nat) : Prop :=
  OwnB B w' a' cap' l ∧ w.grownBy w' r ∧ ((Value.slice a' l.length cap').ownBlock = r ∨ ∀ y, (Value.slice a' l.length cap').ownBlock = some y → w.heap.size ≤ y)
theorem ownB_more {B : Nat} {w : World} {a : Option Addr} {cap : Nat} {l : List Nat} (h : OwnB B w a cap l) (x : Nat) (hl : l.length ≤ 1000000) (hB : B ≤ w.heap.size) :
    ∃ a' cap' w', (Builtin.append_ #[30, 30] 30 #[.slice a l.length cap, .slice (some ⟨w.heap.size, 0, none⟩) 1 1]).run Try.prog (w.alloc (.cells #[.int .u8 (x : Int)] 5)) = .ok (.slice a' (l.length + 1) cap') w' ∧
      NewB B w w' (Value.slice a l.length cap).ownBlock a' cap' (l ++ [x]) := by
  obtain ⟨i0, hi, hz0, hz1, hz2⟩ := info_parts info5
  obtain ⟨v', w', r1, r2, r3, r4, r5⟩ := run_append_own_at (P := Try.prog) (w.alloc (.cells #[.int .u8 (x : Int)] 5)) B 30 30 5 i0 _ 1 1 Try.underlying30 hi hz0 hz1 hz2 rfl (by omega) _ _ _ (World.ownsRow.alloc h _) ⟨w.heap.size, 0, none⟩ 1 1 [.int .u8 (x : Int)] rfl
    (fun j u hj => by
      rw [addn, at_cell (heap_alloc_new w _) _]
      simpa using hj)
    (by simp [Value.oneCell']) (by unfold maxLen; omega) (by omega) (by simp; omega)
  have r2' := r2
  obtain ⟨_, ⟨hx, hn⟩ | ⟨g', cap', cur, rfl, _⟩⟩ := r2'
  · omega
  · refine ⟨_, cap', w', r1, ?_, ?_, ?_⟩
    · unfold OwnB
      rw [bV_app, List.length_append]
      exact r2
    · refine grown_join (gr_alloc (World.grownBy.refl _ _) _) r3 (.inl rfl)
    · rcases r5 with h5 | h5
      · exact .inl h5
      · right
        intro y hy
        have : some y = some (w.alloc (.cells #[.int .u8 (x : Int)] 5)).heap.size := hy.symm.trans h5
        simp at this
        omega
theorem newB_join {B : Nat} {w w1 w2 : World} {r r1 : Option Nat} {a : Option Addr} {cap : Nat} {l : List Nat} (hg : w.grownBy w1 r) (hr : r1 = r ∨ ∀ y, r1 = some y → w.heap.size ≤ y) (h : NewB B w1 w2 r1 a cap l) : NewB B w w2 r a cap l := by
  obtain ⟨h1, h2, h3⟩ := h
  refine ⟨h1, grown_join hg h2 hr, ?_⟩
  rcases h3 with h3 | h3
  · rw [h3]; exact hr
  · right
    intro y hy
    have := h3 y hy
    have := hg.size
    omega
theorem off_new {w : World} {vn : Value} {ns : List Int} {r : Option Nat} (hn : rd w vn ns) (h : ∀ y, r = some y → w.heap.size ≤ y) : Off vn r := by
  intro b off len c e hpos e2
  obtain ⟨a, cap, e', h0 | ⟨b', off', e3, hc⟩⟩ := hn
  · subst h0
    rw [e'] at e
    injection e with _ e5 _
    simp at e5
    omega
  · rw [e'] at e
    injection e with e4 e5 _
    rw [e3] at e4
    injection e4 with e4
    injection e4 with e6 e7
    have := h _ e2
    have := World.block_lt_of_cell? w _ (hc 0 (by omega))
    simp at this
    omega

set_option maxHeartbeats 1000000 in
theorem putBytes_any (B : Nat) (l : List Nat) (ns : List Int) (a : Option Addr) (cap : Nat) (vn : Value) (w : World) (h : OwnB B w a cap l) (hn : rd w vn ns) (ho : Off vn (Value.slice a l.length cap).ownBlock) (hl : l.length + ns.length ≤ 100000) (hB : B ≤ w.heap.size) :
    Calls Try.prog 15 #[.slice a l.length cap, vn] w fun e w' => ∃ a' cap', e = .returned (.slice a' (l.length + ns.length) cap') ∧ NewB B w w' (Value.slice a l.length cap).ownBlock a' cap' (l ++ ns.map by8) := by
  obtain ⟨na, nc, rfl, _⟩ := id hn
  obtain ⟨n, hnn⟩ : ∃ n, ns.length = n := ⟨_, rfl⟩
  obtain ⟨L, hLL⟩ : ∃ n, l.length = n := ⟨_, rfl⟩
  have HN : Hid (ns.length = n) := hnn
  have HL : Hid (l.length = L) := hLL
  obtain ⟨r, hr⟩ : ∃ r, (Value.slice a l.length cap).ownBlock = r := ⟨_, rfl⟩
  have HO : Hid (OwnB B w a cap l ∧ rd w (.slice na ns.length nc) ns ∧ Off (.slice na ns.length nc) r ∧ (Value.slice a l.length cap).ownBlock = r) := hidI ⟨h, hn, by rw [← hr]; exact ho, hr⟩
  rw [hr]
  rw [hnn, hLL] at hl ⊢
  clear h hn ho hnn hLL hr
  go_enter Try.func15, Try.ntmps15
  go_wp2
  go_loopg [0, 9] n (fun gk s0 s9 wx => ∃ (k : Nat) (a' : Option Addr) (cap' : Nat), s9 = .int .i64 k ∧ s0 = .slice a' (L + k) cap' ∧ k ≤ n ∧ gk = n - k ∧ Hid (NewB B w wx r a' cap' (l ++ (ns.take k).map by8)))
  case atStart => exact ⟨0, a, cap, rfl, rfl, Nat.zero_le _, by omega, hidI (by simpa using ⟨HO.out.1, World.grownBy.refl _ _, .inl HO.out.2.2.2⟩)⟩
  case round =>
    obtain ⟨k, a', cap', rfl, rfl, hk, hgk, HK⟩ := hrel
    have HG : Hid (gk = n - k) := hgk
    clear hgk
    by_cases hlt : k < n
    · have hkl : k < ns.length := by rw [HN.out]; exact hlt
      obtain ⟨h1, h2, h3⟩ := HK.out
      obtain ⟨o1, o2, o3, o4⟩ := HO.out
      have hlen : (l ++ (ns.take k).map by8).length = L + k := by simp [HL.out]; omega
      obtain ⟨b, off, cp, hbe, hc⟩ := rd_at (rd_off o2 h2 o3) (by omega)
      injection hbe with e1 e2 e3
      subst e1
      have q0 := hc k hkl
      have hT : ns.take (k + 1) = ns.take k ++ [ns.getD k 0] := by
        rw [List.take_add_one]
        simp [List.getD, hkl]
      have HT : Hid (_ = _) := hT
      have := h2.size
      obtain ⟨a2, cap2, w5, hrun, hnew⟩ := ownB_more h1 (by8 (ns.getD k 0)) (by omega) (by omega)
      have HNEW : Hid (NewB B w w5 r a2 cap2 (l ++ (ns.take (k + 1)).map by8)) := hidI (by
        rw [HT.out, List.map_append, ← List.append_assoc]
        exact newB_join h2 h3 hnew)
      rw [hlen] at hrun
      have HRUN : Hid (_ = _) := hrun
      have hu := by8_wrap (ns.getD k 0)
      have hu2 := by8_is (ns.getD k 0)
      clear hc hkl hT h1 h2 h3 o1 o2 o3 o4 hrun hnew hlen e2 e3
      generalize ns.getD k 0 = x at *
      generalize by8 x = y at *
      have i1 : (0 : Int) ≤ (k : Int) := by omega
      have i2 : (k : Int) < (n : Int) := by omega
      go_wp2_with (first | (at_builtin; refine hidG ?_))
      refine hidI ?_
      refine wpList_append_run rfl _ _ 30 rfl _ _ _ w5 rfl rfl HRUN.out ?_
      go_wp2
      have hgl := HG.out
      go_roundg (n - (k + 1))
      all_goals first | omega | exact ⟨k + 1, a2, cap2, by go_num, by rw [Nat.add_assoc], by omega, by omega, HNEW⟩
    · have hk' : ¬ ((k : Int) < (n : Int)) := by omega
      have hkn : ns.take k = ns := List.take_of_length_le (by rw [HN.out]; omega)
      have hk2 : k = n := by omega
      rw [hkn] at HK
      subst hk2
      go_wp2
      go_ret
      exact ⟨a', cap', rfl, HK.out⟩
set_option maxHeartbeats 1000000 in
theorem putPairs_any (B : Nat) (l : List Nat) (ns : List Int) (a : Option Addr) (cap : Nat) (vn : Value) (w : World) (h : OwnB B w a cap l) (hn : rd w vn ns) (ho : Off vn (Value.slice a l.length cap).ownBlock) (hl : l.length + ns.length ≤ 10000) (hB : B ≤ w.heap.size) :
    Calls Try.prog 17 #[.slice a l.length cap, vn] w fun e w' => ∃ a' cap', e = .returned (.slice a' (l.length + 2 * ns.length) cap') ∧ NewB B w w' (Value.slice a l.length cap).ownBlock a' cap' (l ++ pairB ns) := by
  obtain ⟨na, nc, rfl, _⟩ := id hn
  obtain ⟨n, hnn⟩ : ∃ n, ns.length = n := ⟨_, rfl⟩
  obtain ⟨L, hLL⟩ : ∃ n, l.length = n := ⟨_, rfl⟩
  have HN : Hid (ns.length = n) := hnn
  have HL : Hid (l.length = L) := hLL
  obtain ⟨r, hr⟩ : ∃ r, (Value.slice a l.length cap).ownBlock = r := ⟨_, rfl⟩
  have HO : Hid (OwnB B w a cap l ∧ rd w (.slice na ns.length nc) ns ∧ Off (.slice na ns.length nc) r ∧ (Value.slice a l.length cap).ownBlock = r) := hidI ⟨h, hn, by rw [← hr]; exact ho, hr⟩
  rw [hr]
  rw [hnn, hLL] at hl ⊢
  clear h hn ho hnn hLL hr
  go_enter Try.func17, Try.ntmps17
  go_wp2
  go_loopg [0, 9] n (fun gk s0 s9 wx => ∃ (k : Nat) (a' : Option Addr) (cap' : Nat), s9 = .int .i64 k ∧ s0 = .slice a' (L + 2 * k) cap' ∧ k ≤ n ∧ gk = n - k ∧ Hid (NewB B w wx r a' cap' (l ++ pairB (ns.take k))))
  case atStart => exact ⟨0, a, cap, rfl, rfl, Nat.zero_le _, by omega, hidI (by simpa [pairB] using ⟨HO.out.1, World.grownBy.refl _ _, .inl HO.out.2.2.2⟩)⟩
  case round =>
    obtain ⟨k, a', cap', rfl, rfl, hk, hgk, HK⟩ := hrel
    have HG : Hid (gk = n - k) := hgk
    clear hgk
    by_cases hlt : k < n
    · have hkl : k < ns.length := by rw [HN.out]; exact hlt
      obtain ⟨h1, h2, h3⟩ := HK.out
      obtain ⟨o1, o2, o3, o4⟩ := HO.out
      have hlen : (l ++ pairB (ns.take k)).length = L + 2 * k := by simp [HL.out, pairB_len]; omega
      obtain ⟨b, off, cp, hbe, hc⟩ := rd_at (rd_off o2 h2 o3) (by omega)
      injection hbe with e1 e2 e3
      subst e1
      have q0 := hc k hkl
      have hT : ns.take (k + 1) = ns.take k ++ [ns.getD k 0] := by
        rw [List.take_add_one]
        simp [List.getD, hkl]
      have HT : Hid (_ = _) := hT
      have hsz := h2.size
      obtain ⟨x, hx⟩ : ∃ x, ns.getD k 0 = x := ⟨_, rfl⟩
      rw [hx] at HT q0
      have hrd : rd (wr.alloc (.cells #[.int .i64 x, .int .i64 (x / 256)] 3)) (.slice (some ⟨wr.heap.size, 0, none⟩) 2 2) [x, x / 256] :=
        ⟨_, _, rfl, .inr ⟨_, 0, rfl, fun i hi => by
          rw [at_cell (heap_alloc_new wr _)]
          have : i = 0 ∨ i = 1 := by simp at hi; omega
          rcases this with rfl | rfl <;> rfl⟩⟩
      have hlt2 := World.ownsRow.lt h1
      have cP := putBytes_any B _ [x, x / 256] a' cap' _ _ (World.ownsRow.alloc h1 _) hrd (fun b' off' len c e _ e2 => by
        injection e with e1
        simp at e1
        have := hlt2 _ e2
        omega) (by simp [hlen]; omega) (by simp; omega)
      rw [hlen] at cP
      have HNEW : Hid (∀ w5 a2 cap2, NewB B (wr.alloc (.cells #[.int .i64 x, .int .i64 (x / 256)] 3)) w5 (Value.slice a' (l ++ pairB (ns.take k)).length cap').ownBlock a2 cap2 ((l ++ pairB (ns.take k)) ++ [x, x / 256].map by8) → NewB B w w5 r a2 cap2 (l ++ pairB (ns.take (k + 1)))) := hidI (fun w5 a2 cap2 hn => by
        rw [HT.out, pairB_app, ← List.append_assoc]
        exact newB_join (gr_alloc h2 _) h3 hn)
      rw [hlen] at HNEW
      clear hc hkl hT h1 h2 h3 o1 o2 o3 o4 hlen e2 e3 hlt2 hrd
      have i1 : (0 : Int) ≤ (k : Int) := by omega
      have i2 : (k : Int) < (n : Int) := by omega
      go_wp2_with fail
      refine cP.mono ?_
      rintro e w5 ⟨a2, cap2, rfl, hnew⟩
      have HNEW2 := hidI (HNEW.out _ _ _ hnew)
      clear hnew HNEW cP
      go_wp2
      have hgl := HG.out
      go_roundg (n - (k + 1))
      all_goals first | omega | exact ⟨k + 1, a2, cap2, by go_num, by simp; omega, by omega, by omega, HNEW2⟩
    · have hk' : ¬ ((k : Int) < (n : Int)) := by omega
      have hkn : ns.take k = ns := List.take_of_length_le (by rw [HN.out]; omega)
      have hk2 : k = n := by omega
      rw [hkn] at HK
      subst hk2
      go_wp2
      go_ret
      exact ⟨a', cap', rfl, HK.out⟩
end Go.Proofs.Ytaiicehifailhab
