/- Record, the program's. -/
import Derived.Test.YtlbipcecdcmgdaaDoorG
namespace Go.Proofs.YtlbipcecdcmgdaaDoor
open Go.RowKit
attribute [local go_sem ↓] Go.wp_at_zero Go.wp_at_succ
set_option linter.unusedVariables false
set_option linter.unusedSimpArgs false

def nN (l : List Int) : List Nat := l.map Int.toNat
theorem nN_len (l : List Int) : (nN l).length = l.length := by simp [nN]
theorem okW_iff (n : Int) : okW n = true ↔ 0 ≤ n ∧ n ≤ 4294967295 := by simp [okW]
theorem iN_nN {l : List Int} (h : l.all okW = true) : iN (nN l) = l := by
  unfold iN nN
  rw [List.map_map]
  conv => rhs; rw [← List.map_id l]
  apply List.map_congr_left
  intro x hx
  have := (okW_iff x).1 (List.all_eq_true.1 h x hx)
  simp
  omega
theorem nN_32 {l : List Int} (h : l.all okW = true) : is32 (nN l) := by
  intro x hx
  unfold nN at hx
  rw [List.mem_map] at hx
  obtain ⟨y, hy, rfl⟩ := hx
  have := (okW_iff y).1 (List.all_eq_true.1 h y hy)
  omega
def headS (l : List Int) (s : Nat) : List Nat := summedS [80, 87, 82, 49] [s, l.length]
def bodyS (l : List Int) : List Nat := summedS [] (nN l)
theorem headS_len (l : List Int) (s : Nat) : (headS l s).length = 16 := by simp [headS, summedS, fourL_len, four_len]
theorem bodyS_len (l : List Int) : (bodyS l).length = l.length * 4 + 4 := by simp [bodyS, summedS, fourL_len, four_len, nN_len]
theorem headS_B (l : List Int) (s : Nat) : isB (headS l s) := isB_app (isB_app (by intro x hx; simp at hx; omega) (fourL_B _)) (four_B _)
theorem bodyS_B (l : List Int) : isB (bodyS l) := isB_app (isB_app (by intro x hx; simp at hx) (fourL_B _)) (four_B _)
def recS (l : List Int) (s : Int) : List Nat := if lookE l s = 0 then headS l s.toNat ++ bodyS l else []
def RecP (w w' : World) (e : Ending) (R : List Nat) (c : Nat) : Prop :=
  ∃ a cap, e = .returned (.tuple #[.slice a R.length cap, .int .i64 (c : Int)]) ∧ OwnB w.heap.size w' a cap R ∧ w.grownBy w' none
theorem look_ok {l : List Int} {s : Int} (h : lookE l s = 0) : l.length ≤ 2000 ∧ okW s = true ∧ l.all okW = true := by
  unfold lookE at h
  split at h
  · omega
  · split at h
    · rename_i h1 h2
      simp only [Bool.and_eq_true] at h2
      exact ⟨by omega, h2.1, h2.2⟩
    · omega
theorem partsL_any (l : List Int) (s : Int) (u : Value) (w : World) (hu : rd w u l) (h : lookE l s = 0) (hB : Beg w) :
    Calls Tryd.prog 30 #[u, .int .i64 s] w fun e w' => ∃ a c a' c', e = .returned (.tuple #[.slice a (headS l s.toNat).length c, .slice a' (bodyS l).length c']) ∧ OwnB w.heap.size w' a c (headS l s.toNat) ∧ (∃ B, w.heap.size ≤ B ∧ (∀ x, (Value.slice a (headS l s.toNat).length c).ownBlock = some x → x < B) ∧ OwnB B w' a' c' (bodyS l)) ∧ w.grownBy w' none := by
  obtain ⟨h1, h2, h3⟩ := look_ok h
  have hs := (okW_iff s).1 h2
  have c := parts_any (nN l) s.toNat u w (by rw [iN_nN h3]; exact hu) (nN_32 h3) (by omega) (by rw [nN_len]; exact h1) hB
  have e1 : ((s.toNat : Nat) : Int) = s := by omega
  rw [nN_len, e1] at c
  exact c
/-- A list of bytes behind a list of one's own. -/
theorem run_join {B : Nat} {w : World} {a a' : Option Addr} {c c' : Nat} {l m : List Nat} (h : OwnB B w a c l) (h' : rdB w (.slice a' m.length c') m) (hm : 0 < m.length) (hl : l.length + m.length ≤ 1000000) (hB : B ≤ w.heap.size) :
    ∃ b d w', (Builtin.append_ #[23, 23] 23 #[.slice a l.length c, .slice a' m.length c']).run Tryd.prog w = .ok (.slice b (l ++ m).length d) w' ∧ OwnB B w' b d (l ++ m) ∧ ∀ w0 : World, w0.heap.size ≤ B → w0.grownBy w none → w0.grownBy w' none := by
  obtain ⟨i0, hi, hz0, hz1, hz2⟩ := info_parts info5
  rcases h'.cells with h0 | ⟨b, off, rfl, hc⟩
  · omega
  obtain ⟨v', w', r1, r2, r3, r4, r5⟩ := run_append_own_at (P := Tryd.prog) w B 23 23 5 i0 _ 1 1 Tryd.underlying23 hi hz0 hz1 hz2 rfl (by omega) _ _ _ h ⟨b, off, none⟩ m.length c' (bV m) (by rw [bV_len]; omega) hc (bV_one m) (by unfold maxLen; omega) (by omega) hB
  have r2' := r2
  obtain ⟨_, ⟨hx, hn⟩ | ⟨g', cap', cur, rfl, _⟩⟩ := r2'
  · omega
  · refine ⟨_, cap', w', by rw [List.length_append]; exact r1, ?_, fun w0 h0 hg => grown_join hg r3 (.inr fun y hy => ?_)⟩
    · unfold OwnB
      rw [bV_app, List.length_append]
      exact r2
    · have := World.ownsRow.lt h y hy
      omega
set_option maxHeartbeats 1000000 in
theorem record_any (l : List Int) (s : Int) (u : Value) (w : World) (hu : rd w u l) (hl : l.length ≤ 17592186044416) (hB : Beg w) : Calls Tryd.prog 10 #[u, .int .i64 s] w fun e w' => RecP w w' e (recS l s) (lookE l s) := by
  have c := lookAt_any l s u w hu hl
  by_cases h : lookE l s = 0
  · have hR : recS l s = headS l s.toNat ++ bodyS l := by unfold recS; rw [if_pos h]
    rw [hR, h]
    rw [h] at c
    have cP := fun (W : World) (hg : w.grownBy W none) => partsL_any l s u W (rd_grown hu hg) h (hB.grown hg)
    have HH : Hid (_ = _) := headS_len l s.toNat
    have HB : Hid (_ = _) := bodyS_len l
    have h2000 := (look_ok h).1
    generalize headS l s.toNat = X at *
    generalize bodyS l = Y at *
    go_enter Tryd.func10, Tryd.ntmps10
    go_wp2_with fail
    refine c.mono ?_
    rintro e w1 ⟨rfl, hg1⟩
    go_wp2_with fail
    refine (cP _ hg1).mono ?_
    rintro e w2 ⟨a, c, a', c', rfl, ho, ⟨B, hB1, _, ho'⟩, hg2⟩
    obtain ⟨b, d, w3, hrun, ho3, hgg⟩ := run_join ho ho'.rd (by have := HB.out; omega) (by have := HB.out; have := HH.out; omega) hg2.size
    have HRUN : Hid (_ = _) := hrun
    have hg3 := hgg w1 (Nat.le_refl _) hg2
    clear hrun hgg
    go_wp2_with (first | (at_builtin; refine hidG ?_))
    refine hidI ?_
    refine wpList_append_run rfl _ _ 23 rfl _ _ _ w3 rfl rfl HRUN.out ?_
    go_wp2
    go_ret2
    exact ⟨_, _, by simp, own_low ho3 hg1.size, grown_join hg1 hg3 (.inl rfl)⟩
  · have hR : recS l s = [] := by unfold recS; rw [if_neg h]
    rw [hR]
    have h0 : ¬ ((lookE l s : Nat) : Int) = 0 := by omega
    generalize lookE l s = E at *
    go_enter Tryd.func10, Tryd.ntmps10
    go_wp2_with fail
    refine c.mono ?_
    rintro e w1 ⟨rfl, hg1⟩
    go_wp2
    go_ret2
    exact ⟨_, _, rfl, OwnB.nil _ _, hg1⟩
end Go.Proofs.YtlbipcecdcmgdaaDoor
