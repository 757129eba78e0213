/- samePins, sameShape. -/
import Derived.Test.YtphnadhkoigegaaM
import Derived.Deep.LoopGhost
import Derived.Deep.QuietTactic
import Derived.BigQuiet
import Derived.Deep.RegionHeld3
namespace Go.Proofs.Ytphnadhkoigegaa
open Go.RowKit
attribute [local go_sem ↓] Go.wp_at_zero Go.wp_at_succ
set_option linter.unusedVariables false
set_option linter.unusedSimpArgs false

theorem pin_at {w : World} {c : Nat} {l : List (ByteArray × Int)} (h : w.heap[c]? = some (.cells (pinArr l) 49)) (k : Nat) (hk : k < l.length) :
    w.cell? ⟨c, k * 2, none⟩ = some (.string (l[k]).1) ∧ w.cell? ⟨c, k * 2 + 1, none⟩ = some (.int .i64 (l[k]).2) := by
  rw [at_cell h, at_cell h]
  unfold pinArr
  simp only [List.getElem?_toArray]
  clear h
  induction l generalizing k with
  | nil => simp at hk
  | cons x l ih =>
    cases k with
    | zero => simp
    | succ k =>
      have := ih k (by simpa using hk)
      simp only [List.flatMap_cons, List.cons_append, List.nil_append, List.getElem_cons_succ]
      rw [show (k + 1) * 2 = k * 2 + 1 + 1 by omega]
      simpa using this

/-- Two lists of pins that are the same. -/
theorem samePins_yes (l : List (ByteArray × Int)) (c d : Nat) (w : World) (hlen : l.length ≤ 5) (hc : w.heap[c]? = some (.cells (pinArr l) 49)) (hd : w.heap[d]? = some (.cells (pinArr l) 49)) :
    Calls Try.prog 12 #[.slice (some ⟨c, 0, none⟩) l.length l.length, .slice (some ⟨d, 0, none⟩) l.length l.length] w fun e w' => e = .returned (.bool true) ∧ w.grownBy w' none := by
  have HC : Hid (w.heap[c]? = some (.cells (pinArr l) 49)) := hc
  have HD : Hid (w.heap[d]? = some (.cells (pinArr l) 49)) := hd
  clear hc hd
  obtain ⟨n, hn⟩ : ∃ n, l.length = n := ⟨_, rfl⟩
  rw [hn] at hlen ⊢
  have HN : Hid (l.length = n) := hn
  clear hn
  go_enter Try.func12, Try.ntmps12
  go_wp2
  go_loopg [5] n (fun gk s5 wx => ∃ k : Nat, s5 = .int .i64 k ∧ k ≤ n ∧ gk = n - k ∧ w.grownBy wx none)
  case atStart => exact ⟨0, rfl, Nat.zero_le _, by omega, World.grownBy.refl _ _⟩
  case round =>
    obtain ⟨k, rfl, hk, hgk, hgr⟩ := hrel
    have HG : Hid (gk = n - k) := hgk
    clear hgk
    by_cases hlt : k < n
    · have hkl : k < l.length := by rw [HN.out]; exact hlt
      obtain ⟨a1, a2⟩ := pin_at (kept hgr HC.out) k hkl
      obtain ⟨b1, b2⟩ := pin_at (kept hgr HD.out) k hkl
      generalize (l[k]).1 = s at a1 b1
      generalize (l[k]).2 = z at a2 b2
      have i1 : (0 : Int) ≤ (k : Int) := by omega
      have i2 : (k : Int) < (n : Int) := by omega
      go_wp2
      go_region_held3 (fun w' => w'.cell? ⟨c, k * 2, none⟩ = some (.string s) ∧ w'.cell? ⟨c, k * 2 + 1, none⟩ = some (.int .i64 z) ∧ w'.cell? ⟨d, k * 2, none⟩ = some (.string s) ∧ w'.cell? ⟨d, k * 2 + 1, none⟩ = some (.int .i64 z)) (go_keep) (fail)
      go_wp2
      have hgl := HG.out
      go_roundg (n - (k + 1))
      all_goals first | omega | exact ⟨k + 1, by go_num, by omega, by omega, gr_drew hgr⟩
    · have hk' : ¬ ((k : Int) < (n : Int)) := by omega
      go_wp2
      go_ret
      exact ⟨rfl, hgr⟩

theorem samePins_nil (w : World) : Calls Try.prog 12 #[.slice none 0 0, .slice none 0 0] w fun e w' => e = .returned (.bool true) ∧ w = w' := by
  go_enter Try.func12, Try.ntmps12
  go_wp2
  refine wp_loop_rounds 1 ?_
  rw [rounds_succ]
  go_wp2
  go_ret
  exact ⟨rfl, rfl⟩

/-- A shape's three lists of pins. -/
def shpV (b1 b2 b3 i o s : Nat) : Value := .agg #[.slice (some ⟨b1, 0, none⟩) i i, .slice (some ⟨b2, 0, none⟩) o o, .slice (some ⟨b3, 0, none⟩) s s]
/-- They lie there. -/
def ShpAt (w : World) (b1 b2 b3 : Nat) (I O S : List (ByteArray × Int)) : Prop := w.heap[b1]? = some (.cells (pinArr I) 49) ∧ w.heap[b2]? = some (.cells (pinArr O) 49) ∧ w.heap[b3]? = some (.cells (pinArr S) 49)
theorem ShpAt.kept {w w' : World} {b1 b2 b3 : Nat} {I O S : List (ByteArray × Int)} (h : ShpAt w b1 b2 b3 I O S) (hg : w.grownBy w' none) : ShpAt w' b1 b2 b3 I O S := ⟨Ytphnadhkoigegaa.kept hg h.1, Ytphnadhkoigegaa.kept hg h.2.1, Ytphnadhkoigegaa.kept hg h.2.2⟩

set_option maxHeartbeats 2000000 in
theorem sameShape_yes (I O S : List (ByteArray × Int)) (b1 b2 b3 c1 c2 c3 : Nat) (w : World) (hI : I.length ≤ 5) (hO : O.length ≤ 5) (hS : S.length ≤ 5) (hb : ShpAt w b1 b2 b3 I O S) (hc : ShpAt w c1 c2 c3 I O S) :
    Calls Try.prog 10 #[shpV b1 b2 b3 I.length O.length S.length, shpV c1 c2 c3 I.length O.length S.length] w fun e w' => e = .returned (.bool true) ∧ w.grownBy w' none := by
  have HB : Hid (ShpAt w b1 b2 b3 I O S) := hb
  have HC : Hid (ShpAt w c1 c2 c3 I O S) := hc
  clear hb hc
  unfold shpV
  go_enter Try.func10, Try.ntmps10
  go_wp2_with fail
  refine (samePins_yes I b1 c1 _ hI ?_ ?_).mono ?_
  · exact kept (gr_alloc (gr_alloc (World.grownBy.refl _ none) _) _) HB.out.1
  · exact kept (gr_alloc (gr_alloc (World.grownBy.refl _ none) _) _) HC.out.1
  rintro e w1 ⟨rfl, hg1⟩
  have hX := kept hg1 ((hp_old (by simp) _).trans (heap_alloc_new w _))
  have hY := kept hg1 (hp_new (k := w.heap.size + 1) (by simp) _)
  have x1 := at_cell hX 1
  have y1 := at_cell hY 1
  simp at x1 y1
  have hgw : w.grownBy w1 none := (gr_alloc (gr_alloc (World.grownBy.refl w none) _) _).trans hg1
  go_wp2_with fail
  refine (samePins_yes O b2 c2 _ hO ?_ ?_).mono ?_
  · exact kept hgw HB.out.2.1
  · exact kept hgw HC.out.2.1
  rintro e w2 ⟨rfl, hg2⟩
  have x2 := at_cell (kept hg2 hX) 2
  have y2 := at_cell (kept hg2 hY) 2
  simp at x2 y2
  clear x1 y1
  go_wp2_with fail
  refine (samePins_yes S b3 c3 _ hS ?_ ?_).mono ?_
  · exact kept (hgw.trans hg2) HB.out.2.2
  · exact kept (hgw.trans hg2) HC.out.2.2
  rintro e w3 ⟨rfl, hg3⟩
  go_wp2_with fail
  go_ret
  exact ⟨rfl, hgw.trans (hg2.trans hg3)⟩

set_option maxHeartbeats 2000000 in
theorem sameShape_nil (w : World) :
    Calls Try.prog 10 #[.agg #[.slice none 0 0, .slice none 0 0, .slice none 0 0], .agg #[.slice none 0 0, .slice none 0 0, .slice none 0 0]] w fun e w' => e = .returned (.bool true) ∧ w.grownBy w' none := by
  go_enter Try.func10, Try.ntmps10
  go_wp2_with (first | (go_at_call 12; refine (samePins_nil _).mono ?_; rintro e w' ⟨rfl, rfl⟩))
  go_ret
  exact ⟨rfl, gr_alloc (gr_alloc (World.grownBy.refl _ _) _) _⟩
end Go.Proofs.Ytphnadhkoigegaa
