/- The writer of numbers. -/
import Derived.Test.YtlbipcecdcmgdaaDoorC
import Derived.ArgAppend
namespace Go.Proofs.YtlbipcecdcmgdaaDoor
open Go.RowKit
attribute [local go_sem ↓] Go.wp_at_zero Go.wp_at_succ
set_option linter.unusedVariables false
set_option linter.unusedSimpArgs false

/-- Bytes to which more can be put: one's own, or a list without room. -/
def Gw (B : Nat) (l0 : List Nat) (w : World) (a : Option Addr) (cap : Nat) (l : List Nat) : Prop :=
  OwnB B w a cap l ∨ l = l0 ∧ ∃ b, b < B ∧ a = some ⟨b, 0, none⟩ ∧ cap = l.length ∧ 0 < l.length ∧ ∀ i, i < l.length → w.cell? ⟨b, i, none⟩ = some (.int .u8 ((l.getD i 0 : Nat) : Int))
theorem Gw.rd {B : Nat} {l0 : List Nat} {w : World} {a : Option Addr} {cap : Nat} {l : List Nat} (h : Gw B l0 w a cap l) : rdB w (.slice a l.length cap) l := by
  rcases h with h | ⟨_, b, _, rfl, rfl, h0, hc⟩
  · exact h.rd
  · exact ⟨_, _, rfl, Nat.le_refl _, .inr ⟨b, 0, rfl, fun i hi => by rw [Nat.zero_add]; exact hc i hi⟩⟩
/-- One byte more. -/
theorem Gw.more {B : Nat} {l0 : List Nat} {w : World} {a : Option Addr} {cap : Nat} {l : List Nat} (h : Gw B l0 w a cap l) (x : Nat) (hl : l.length ≤ 1000000) (hB : B ≤ w.heap.size) :
    ∃ a' cap' w', (Builtin.append_ #[23, 23] 23 #[.slice a l.length cap, .slice (some ⟨w.heap.size, 0, none⟩) 1 1]).run Tryd.prog (w.alloc (.cells #[.int .u8 (x : Int)] 5)) = .ok (.slice a' (l.length + 1) cap') w' ∧
      OwnB B w' a' cap' (l ++ [x]) ∧ (∀ k, k < B → w'.heap[k]? = w.heap[k]?) ∧ ∀ w0 : World, w0.heap.size ≤ B → w0.grownBy w none → w0.grownBy w' none := by
  obtain ⟨i0, hi, hz0, hz1, hz2⟩ := info_parts info5
  have hnew : ∀ (j : Nat) (u : Value), ([Value.int .u8 (x : Int)] : List Value)[j]? = some u → (w.alloc (.cells #[.int .u8 (x : Int)] 5)).cell? ((⟨w.heap.size, 0, none⟩ : Addr).add j) = some u := fun j u hj => by
    rw [addn, at_cell (heap_alloc_new w _) _]
    simpa using hj
  rcases h with h | ⟨_, b, hb, rfl, rfl, h0, hc⟩
  · obtain ⟨v', w', r1, r2, r3, r4, r5⟩ := run_append_own_at (P := Tryd.prog) (w.alloc (.cells #[.int .u8 (x : Int)] 5)) B 23 23 5 i0 _ 1 1 Tryd.underlying23 hi hz0 hz1 hz2 rfl (by omega) _ _ _ (World.ownsRow.alloc h _) ⟨w.heap.size, 0, none⟩ 1 1 [.int .u8 (x : Int)] rfl hnew
      (by simp [Value.oneCell']) (by unfold maxLen; omega) (by omega) (by simp; omega)
    have r2' := r2
    obtain ⟨_, ⟨hx, hn⟩ | ⟨g', cap', cur, rfl, _⟩⟩ := r2'
    · omega
    · refine ⟨_, cap', w', r1, ?_, fun k hk => ?_, fun w0 h0 hg => ?_⟩
      · unfold OwnB
        rw [bV_app, List.length_append]
        exact r2
      · have := r3.block k (by simp; omega) (fun e => by have := World.ownsRow.lt h k e.symm; omega)
        rw [this, hp_old (by omega)]
      · refine grown_join (gr_alloc hg _) r3 (.inr fun y hy => ?_)
        have := World.ownsRow.lt h y hy
        omega
  · obtain ⟨v', w', r1, r2, r3⟩ := run_append_arg_grows (P := Tryd.prog) (w.alloc (.cells #[.int .u8 (x : Int)] 5)) 23 23 5 i0 _ 1 1 Tryd.underlying23 hi hz0 hz1 hz2 rfl (by omega) ⟨b, 0, none⟩ l.length l.length (bV l) (by rw [bV_len]; omega)
      (fun j u hj => by
        simp [bV] at hj
        obtain ⟨y, hy, rfl⟩ := hj
        have hj : j < l.length := (List.getElem?_eq_some_iff.1 hy).1
        rw [addn, Nat.zero_add]
        have := (gr_alloc (World.grownBy.refl w none) (.cells #[.int .u8 (x : Int)] 5)).cell (hc j hj) (by simp)
        rw [this]
        simp [List.getD_eq_getElem?_getD, hy])
      ⟨w.heap.size, 0, none⟩ 1 1 [.int .u8 (x : Int)] rfl hnew (by omega) (by unfold maxLen; omega) (by omega)
    have r2' := r2
    obtain ⟨_, ⟨hx, hn⟩ | ⟨g', cap', cur, rfl, _⟩⟩ := r2'
    · omega
    · refine ⟨_, cap', w', r1, ?_, fun k hk => ?_, fun w0 h0 hg => grown_join (gr_alloc hg _) r3 (.inl rfl)⟩
      · unfold OwnB
        rw [bV_app, List.length_append]
        exact own_low r2 (by simp; omega)
      · rw [r3.block k (by simp; omega) (by simp), hp_old (by omega)]
/-- The writer at block p, behind the world w0. -/
structure WrAt (w0 : World) (l0 : List Nat) (p : Nat) (w : World) (l : List Nat) : Prop where
  base : w0.heap.size ≤ p
  grown : w0.grownBy w none
  at_ : ∃ a cap, w.heap[p]? = some (.cells #[.slice a l.length cap] 73) ∧ Gw (p + 1) l0 w a cap l

theorem four_take (n k : Nat) (hk : k < 4) : (four n).take (k + 1) = (four n).take k ++ [n / 256 ^ k % 256] := by
  have h : k = 0 ∨ k = 1 ∨ k = 2 ∨ k = 3 := by omega
  rcases h with rfl | rfl | rfl | rfl <;> simp [four]
set_option maxHeartbeats 1000000 in
theorem number48 (w0 : World) (l0 : List Nat) (p : Nat) (l : List Nat) (n : Nat) (w : World) (h : WrAt w0 l0 p w l) (hn : n < 2 ^ 32) (hl : l.length ≤ 100000) : Calls Tryd.prog 48 #[.pointer (some ⟨p, 0, none⟩), .int .i64 (n : Int)] w fun e w' => e = .returned (.tuple #[]) ∧ WrAt w0 l0 p w' (l ++ four n) := by
  go_enter Tryd.func48, Tryd.ntmps48
  go_wp2
  go_loopg [1, 4] 4 (fun gk s1 s4 wx => ∃ k : Nat, s4 = .int .i64 k ∧ s1 = .int .i64 ((n / 256 ^ k : Nat) : Int) ∧ k ≤ 4 ∧ gk = 4 - k ∧ Hid (WrAt w0 l0 p wx (l ++ (four n).take k)))
  case atStart => exact ⟨0, rfl, by simp, Nat.zero_le _, by omega, hidI (by simpa using h)⟩
  case round =>
    obtain ⟨k, rfl, rfl, hk, hgk, HW⟩ := hrel
    have HG : Hid (gk = 4 - k) := hgk
    clear hgk
    by_cases hlt : k < 4
    · have HT : Hid (_ = _) := four_take n k hlt
      have hdd : n / 256 ^ (k + 1) = n / 256 ^ k / 256 := by rw [Nat.div_div_eq_div_mul, Nat.pow_succ]
      have HD : Hid (_ = _) := hdd
      have hm : n / 256 ^ k < 2 ^ 32 := Nat.lt_of_le_of_lt (Nat.div_le_self _ _) hn
      clear hdd
      generalize n / 256 ^ k = m at *
      obtain ⟨hbase, hgr, a, cap, hbox, hgw⟩ := HW.out
      have hlen : (l ++ (four n).take k).length ≤ 1000000 := by simp [four_len]; omega
      have hplt := at_lt hbox
      obtain ⟨a', cap', w5, hrun, ho5, hkeep, hgg⟩ := hgw.more (m % 256) hlen (by omega)
      have hbox5 := (hkeep p (by omega)).trans hbox
      have hg5 := hgg w0 (by omega) hgr
      have c0 : wr.cell? ⟨p, 0, none⟩ = some (.slice a (l ++ (four n).take k).length cap) := at_cell hbox 0
      have c5 : w5.cell? ⟨p, 0, none⟩ = some (.slice a (l ++ (four n).take k).length cap) := at_cell hbox5 0
      have f5 := at_frozen hbox5 0
      have hu : IntKind.u8.wrap (m : Int) = ((m % 256 : Nat) : Int) := by rw [IntKind.wrap_u8]; omega
      have hu2 : (m : Int) % 256 = ((m % 256 : Nat) : Int) := by omega
      have HNEW : Hid (WrAt w0 l0 p (w5.setCell ⟨p, 0, none⟩ (.slice a' ((l ++ (four n).take k).length + 1) cap')) (l ++ (four n).take (k + 1))) := hidI (by
        rw [HT.out, ← List.append_assoc]
        refine ⟨hbase, gr_own hg5 hbase _ _, a', cap', ?_, .inl (own_but ho5 (gr_set (World.grownBy.refl _ _) _ _) (by omega))⟩
        have := at_set hbox5 0 (.slice a' ((l ++ (four n).take k).length + 1) cap')
        rw [List.length_append (bs := [m % 256])]
        simpa using this)
      have HRUN : Hid (_ = _) := hrun
      clear hbase hgr hbox hgw hlen hrun ho5 hkeep hgg hbox5 hg5 HW hplt
      generalize (l ++ (four n).take k).length = L at *
      generalize hq : m % 256 = x at *
      clear hq
      have j2 : (k : Int) < 4 := by omega
      go_wp2_with (first | (at_builtin; refine hidG ?_))
      refine hidI ?_
      refine wpList_append_run rfl _ _ 23 rfl _ _ _ w5 rfl rfl HRUN.out ?_
      go_wp2
      have hgl := HG.out
      go_roundg (4 - (k + 1))
      all_goals first | omega | exact ⟨k + 1, by go_num, by rw [HD.out]; simp, by omega, by omega, HNEW⟩
    · have j2 : ¬ (k : Int) < 4 := by omega
      have hk4 : k = 4 := by omega
      subst hk4
      go_wp2
      go_end0
      exact ⟨rfl, by have := HW.out; rwa [List.take_of_length_le (by simp [four_len])] at this⟩
end Go.Proofs.YtlbipcecdcmgdaaDoor
