/- The closure that says where ways meet. -/
import Derived.Test.YtbaijehecncclaaDoorL1
namespace Go.Proofs.YtbaijehecncclaaDoor
open Go.RowKit
attribute [local go_sem ↓] Go.wp_at_zero Go.wp_at_succ
set_option linter.unusedVariables false
set_option linter.unusedSimpArgs false

def natsI (l : List Nat) : List Int := l.map (fun (p : Nat) => (p : Int))

/-- What comes of it: the heights behind, or none. -/
def MeetPost (hb : Nat) (m : Option (List Int)) (w : World) (e : Ending) (w' : World) : Prop :=
  w.grownBy w' (some hb) ∧ match m with
    | some hs' => e = .returned (.bool true) ∧ w'.heap[hb]? = some (.cells (intsA hs') 3)
    | none => e = .returned (.bool false)

theorem meet_cons (h : Int) (p : Nat) (ps : List Nat) (hs : List Int) : meet h (p :: ps) hs = if hs.getD p 0 = -1 then meet h ps (hs.set p h) else if hs.getD p 0 = h then meet h ps hs else none := rfl

set_option maxRecDepth 10000 in
set_option maxHeartbeats 4000000 in
theorem meet_any (c hb pb n : Nat) (h : Int) (ps : List Nat) (hs : List Int) (w : World) (hC : w.heap[c]? = some (.cells #[.slice (some ⟨hb, 0, none⟩) n n] 29)) (hH : w.heap[hb]? = some (.cells (intsA hs) 3)) (hP : w.heap[pb]? = some (.cells (intsA (natsI ps)) 3))
    (hn : hs.length = n) (hps : ∀ p, p ∈ ps → p < n) (hl : ps.length ≤ 2) (h1 : hb ≠ c) (h2 : hb ≠ pb) (h0 : 0 ≤ h) (hbig : n ≤ 1000000000000) :
    Calls Tryd.prog 38 #[.int .i64 h, .slice (some ⟨pb, 0, none⟩) ps.length ps.length, .pointer (some ⟨c, 0, none⟩)] w (MeetPost hb (meet h ps hs) w) := by
  have HC : Hid (w.heap[c]? = some (.cells #[.slice (some ⟨hb, 0, none⟩) n n] 29)) := hC
  have HH : Hid (w.heap[hb]? = some (.cells (intsA hs) 3)) := hH
  have HP : Hid (w.heap[pb]? = some (.cells (intsA (natsI ps)) 3)) := hP
  have HPS : Hid (∀ p, p ∈ ps → p < n) := hps
  have HN : Hid (hs.length = n) := hn
  obtain ⟨m, hm⟩ : ∃ m, ps.length = m := ⟨_, rfl⟩
  have HM : Hid (ps.length = m) := hm
  rw [hm] at hl ⊢
  clear hC hH hP hps hn hm
  go_enter Tryd.func38, Tryd.ntmps38
  go_wp2
  go_loopg [10] m (fun gk s10 wx => ∃ (j : Nat) (hj : List Int), s10 = .int .i64 j ∧ j ≤ m ∧ gk = m - j ∧ wx.heap[hb]? = some (.cells (intsA hj) 3) ∧ hj.length = n ∧ meet h (ps.drop j) hj = meet h ps hs ∧ w.grownBy wx (some hb))
  case atStart => exact ⟨0, hs, rfl, Nat.zero_le _, by omega, HH.out, HN.out, rfl, World.grownBy.refl _ _⟩
  case round =>
    obtain ⟨j, hj, rfl, hjm, hgk, har, hal, hme, hgr⟩ := hrel
    have HG : Hid (gk = m - j) := hgk
    have HA : Hid (wr.heap[hb]? = some (.cells (intsA hj) 3)) := har
    have HE : Hid (meet h (ps.drop j) hj = meet h ps hs) := hme
    clear hgk har hme
    by_cases hlt : j < m
    · have hjl : j < ps.length := by rw [HM.out]; exact hlt
      obtain ⟨p, hp⟩ : ∃ p, ps[j] = p := ⟨_, rfl⟩
      have hpn : p < n := HPS.out p (by rw [← hp]; exact List.getElem_mem hjl)
      have HDR : Hid (ps.drop j = p :: ps.drop (j + 1)) := (by rw [← hp]; exact List.drop_eq_getElem_cons hjl : ps.drop j = p :: ps.drop (j + 1))
      have q0 : wr.cell? ⟨pb, j, none⟩ = some (.int .i64 (p : Int)) := by
        rw [ints_get (keptBut hgr HP.out (fun e => h2 e.symm)) j (by simpa [natsI] using hjl)]
        simp [natsI, hjl, hp]
      have c0 : wr.cell? ⟨c, 0, none⟩ = some (.slice (some ⟨hb, 0, none⟩) n n) := by
        rw [at_cell (keptBut hgr HC.out (fun e => h1 e.symm))]; rfl
      have z0 := ints_get HA.out p (by omega)
      have f0 := at_frozen HA.out p
      have i1 : (0 : Int) ≤ (j : Int) := by omega
      have i2 : (j : Int) < (m : Int) := by omega
      have j1 : (0 : Int) ≤ (p : Int) := by omega
      have j2 : (p : Int) < (n : Int) := by omega
      clear hp
      obtain ⟨z, hz⟩ : ∃ z, hj.getD p 0 = z := ⟨_, rfl⟩
      rw [hz] at z0
      have HZ : Hid (hj.getD p 0 = z) := hz
      have HMC : Hid (meet h ps hs = if z = -1 then meet h (ps.drop (j + 1)) (hj.set p h) else if z = h then meet h (ps.drop (j + 1)) hj else none) := (by rw [← HE.out, HDR.out, meet_cons, hz] : meet h ps hs = if z = -1 then meet h (ps.drop (j + 1)) (hj.set p h) else if z = h then meet h (ps.drop (j + 1)) hj else none)
      clear hz
      by_cases hm1 : z = -1
      · subst hm1
        have HF : Hid (meet h (ps.drop (j + 1)) (hj.set p h) = meet h ps hs) := (by rw [HMC.out, if_pos rfl] : meet h (ps.drop (j + 1)) (hj.set p h) = meet h ps hs)
        go_wp2
        have hgl := HG.out
        go_roundg (m - (j + 1))
        all_goals first | omega | exact ⟨j + 1, hj.set p h, by go_num, by omega, by omega, by rw [at_set HA.out, intsA_set], by simp [hal], HF.out, gr_set hgr _ _⟩
      · have e1 : (z == -1) = false := by simpa using hm1
        by_cases hzh : z = h
        · subst hzh
          have HF : Hid (meet z (ps.drop (j + 1)) hj = meet z ps hs) := (by rw [HMC.out, if_neg hm1, if_pos rfl] : meet z (ps.drop (j + 1)) hj = meet z ps hs)
          go_wp2
          have hgl := HG.out
          go_roundg (m - (j + 1))
          all_goals first | omega | exact ⟨j + 1, hj, by go_num, by omega, by omega, HA.out, hal, HF.out, hgr⟩
        · have e2 : (z == h) = false := by simpa using hzh
          have HF : Hid (meet h ps hs = none) := (by rw [HMC.out, if_neg hm1, if_neg hzh] : meet h ps hs = none)
          go_wp2
          go_ret
          exact ⟨hgr, by rw [HF.out]; exact rfl⟩
    · have hj' : ¬ ((j : Int) < (m : Int)) := by omega
      have hjm2 : j = m := by omega
      have HF : Hid (meet h ps hs = some hj) := (by rw [← HE.out, List.drop_eq_nil_of_le (by rw [HM.out]; omega)]; rfl : meet h ps hs = some hj)
      go_wp2
      go_ret
      exact ⟨hgr, by rw [HF.out]; exact ⟨rfl, HA.out⟩⟩
end Go.Proofs.YtbaijehecncclaaDoor
