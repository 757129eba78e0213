/- Texts put together: Ng, Nh, Ni, Nj, Nk, Nl, Nm, O1, O2. -/
import Derived.Test.YtcgbfhpmkpglkaaGreatDoorQ16
import Derived.Deep.Slices
import Derived.ChangeSame
import Derived.SizedLaws
import Derived.ProofKit
import Derived.OpenShut
import Derived.ShutString
import Derived.ChangeOld
import Derived.Test.YtcgbfhpmkpglkaaGreatDoorTie
import Derived.Test.YtcgbfhpmkpglkaaGreatDoorCards
import Derived.PinnedBridge
import Derived.Lib.LaidTab
import Derived.Lay
import Derived.LaidOnce
import Derived.SevenTiedAt
import Derived.Below
import Derived.Stop.Joined
import Derived.Lib.SmallJoins
/- The machine: what may be run. -/
namespace Go.Proofs.YtcgbfhpmkpglkaaGreatDoor
open Go.RowKit
attribute [local go_sem ↓] Go.wp_at_zero Go.wp_at_succ
set_option linter.unusedVariables false
set_option linter.unusedSimpArgs false

/-- What is answered: a fault, or none. -/
def mayR (D : (∀ p : Prop, Decidable p) × Unit) (ps : List Pr) (unit : Int) (fl : Nat) : Int :=
  if (verR D ps).2.1 ≠ 0 then 12 else if unit < 0 ∨ (ps.length : Int) ≤ unit then 6 else if fl ≠ (ps.getD unit.toNat pr0).fs.length then 4 else 0

set_option maxHeartbeats 2000000 in
theorem mayRun_any (cv : Value) (ps : List Pr) (unit : Int) (fa : Option Addr) (fl fc : Nat) (w : World) (hC : CdP w cv ps) (hS : Stds w) (hl : ps.length ≤ 1000000000000000) :
    Calls Tryz.prog 17 #[.agg #[cv], .int .i64 unit, .slice fa fl fc] w fun e w' => e = .returned (.int .i64 (mayR (Classical.propDecidable, ()) ps unit fl)) ∧ w.grownBy w' none := by
  obtain ⟨ca, cap, rfl, hcap, hc⟩ := hC
  have HC : Hid (CdP w (.slice ca ps.length cap) ps) := ⟨ca, cap, rfl, hcap, hc⟩
  have HCC : Hid (ps = [] ∨ ∃ b off, ca = some ⟨b, off, none⟩ ∧ ∀ i, i < ps.length → ∃ fv sv tv, PrAt w b (off + i * 5) (ps.getD i pr0) fv sv tv) := hc
  have HS : Hid (Stds w) := hS
  obtain ⟨n, hn⟩ : ∃ n, ps.length = n := ⟨_, rfl⟩
  have HN : Hid (ps.length = n) := hn
  rw [hn] at hl hcap HC
  obtain ⟨l, cd, un, hR⟩ : ∃ l cd un, verR (Classical.propDecidable, ()) ps = (l, cd, un) := ⟨_, _, _, rfl⟩
  have HR : Hid (verR (Classical.propDecidable, ()) ps = (l, cd, un)) := hR
  have cV : ∀ W, w.grownBy W none → Calls Tryz.prog 14 #[.agg #[.slice ca n cap]] W (VerPost W (l, cd, un)) := fun W hW => by
    rw [← hR]
    exact verify_any _ ps W (HC.out.grown hW) (HS.out.grown hW) (by omega)
  have HRV : Hid (mayR (Classical.propDecidable, ()) ps unit fl = if cd ≠ 0 then 12 else if unit < 0 ∨ (n : Int) ≤ unit then 6 else if fl ≠ (ps.getD unit.toNat pr0).fs.length then 4 else 0) := by
    unfold mayR; rw [hR, hn]
    exact rfl
  rw [hn]
  generalize mayR (Classical.propDecidable, ()) ps unit fl = R at HRV ⊢
  clear hc hS hR hn hcap
  obtain ⟨H, hH⟩ : ∃ H, w.heap.size = H := ⟨_, rfl⟩
  go_enter Tryz.func17, Tryz.ntmps17
  go_wp2_with fail
  refine (cV _ (gr1 _ _)).mono ?_
  rintro e w1 ⟨v, rfl, hown, hg⟩
  have HG : Hid (w.grownBy w1 none) := (gr1 _ _).trans hg
  have z1 := at_cell (kept hg (hp_new hH.symm (.cells #[.slice ca n cap] 24))) 0
  simp at z1
  have z1a : ∀ o : Obj, (w1.alloc o).cell? ⟨H, 0, none⟩ = some (.slice ca n cap) := fun o => (gr1 w1 o).cell z1 (by simp)
  obtain ⟨H1, hH1⟩ : ∃ H1, w1.heap.size = H1 := ⟨_, rfl⟩
  clear hown hg cV
  by_cases h1 : cd = 0
  · subst h1
    by_cases h2 : unit < 0
    · have g2 : decide (unit < 0) = true := by simpa using h2
      have e : R = 6 := by rw [HRV.out, if_neg (by simp), if_pos (.inl h2)]
      subst e
      clear HRV
      go_wp2
      go_ret
      exact ⟨rfl, gr_alloc HG.out _⟩
    · have g2 : decide (unit < 0) = false := by simpa using h2
      obtain ⟨k, rfl⟩ := Int.eq_ofNat_of_zero_le (show 0 ≤ unit by omega)
      by_cases h3 : k < n
      · have g3 : decide ((n : Int) ≤ (k : Int)) = false := by simp; omega
        obtain ⟨b, off, rfl, hcc⟩ : ∃ b off, ca = some ⟨b, off, none⟩ ∧ ∀ i, i < ps.length → ∃ fv sv tv, PrAt w b (off + i * 5) (ps.getD i pr0) fv sv tv := by
          rcases HCC.out with h | h
          · have := HN.out; rw [h] at this; simp at this; omega
          · exact h
        obtain ⟨fv, sv, tv, hp⟩ := hcc k (by rw [HN.out]; exact h3)
        obtain ⟨fa', fc', rfl, _⟩ := hp.first
        have hq := HG.out.cell hp.fcell (by simp)
        have e0 : R = if fl ≠ (ps.getD k pr0).fs.length then 4 else 0 := by rw [HRV.out, if_neg (by simp), if_neg (by omega)]; rfl
        clear HRV HCC HC
        generalize hm : (ps.getD k pr0).fs.length = m at hq e0
        have hqa : ∀ o : Obj, (w1.alloc o).cell? ⟨b, off + k * 5 + 2, none⟩ = some (.slice fa' m fc') := fun o => (gr1 w1 o).cell hq (by simp)
        have i1 : (0 : Int) ≤ (k : Int) := by omega
        have i2 : (k : Int) < (n : Int) := by omega
        clear hcc hp hm
        by_cases h4 : fl = m
        · subst h4
          have e : R = 0 := by rw [e0, if_neg (by simp)]
          clear e0
          subst e
          go_wp2
          go_ret
          exact ⟨rfl, gr_alloc HG.out _⟩
        · have g4 : ((fl : Int) == (m : Int)) = false := by simp; omega
          have g5 : ((fl : Int) != (m : Int)) = true := by simp; omega
          have e : R = 4 := by rw [e0, if_pos h4]
          clear e0
          subst e
          go_wp2
          go_ret
          exact ⟨rfl, gr_alloc HG.out _⟩
      · have g3 : decide ((n : Int) ≤ (k : Int)) = true := by simp; omega
        have e : R = 6 := by rw [HRV.out, if_neg (by simp), if_pos (.inr (by omega))]
        subst e
        clear HRV
        go_wp2
        go_ret
        exact ⟨rfl, gr_alloc HG.out _⟩
  · have g1 : (cd != 0) = true := by simpa using h1
    have e : R = 12 := by rw [HRV.out, if_pos h1]
    subst e
    clear HRV
    go_wp2
    go_ret
    exact ⟨rfl, gr_alloc HG.out _⟩
end Go.Proofs.YtcgbfhpmkpglkaaGreatDoor

/- The machine: Run, plain parts. -/
namespace Go.Proofs.YtcgbfhpmkpglkaaGreatDoor
open Go.RowKit
set_option linter.unusedVariables false
set_option linter.unusedSimpArgs false

/-- A result that lies in a box. -/
theorem ran_out (W : World) (b : Nat) (cs : Array Value) (hs : cs.size = 4) (hg : W.heap[b]? = some (.cells cs 28)) : (((asAddr (.pointer (some ⟨b, 0, none⟩))).run Tryz.prog W).andThen fun a w' => (loadVar 28 a).run Tryz.prog w') = .ok (.agg cs) W := by
  have hi : (Tryz.prog.info? 28).map (·.size) = some 4 := by kernel_rfl
  have h := run_loadVar_row (P := Tryz.prog) W b 28 28 cs (0, 0) _ hg Tryz.underlying28 rfl (by rw [hs]; exact hi)
  simp [asAddr, h, Result.andThen]
/-- What it says that a unit may be run. -/
theorem mayR_zero {ps : List Pr} {unit : Int} {m : Nat} (h : mayR (Classical.propDecidable, ()) ps unit m = 0) : ∃ (k : Nat) (bds : List Int) (e : Int), unit = (k : Int) ∧ k < ps.length ∧ verR (Classical.propDecidable, ()) ps = (bds, 0, e) ∧ m = (ps.getD k pr0).fs.length := by
  unfold mayR at h
  split at h
  · simp at h
  · rename_i h1
    split at h
    · simp at h
    · rename_i h2
      split at h
      · simp at h
      · rename_i h3
        obtain ⟨k, rfl⟩ := Int.eq_ofNat_of_zero_le (show 0 ≤ unit by omega)
        obtain ⟨bds, cd, e, hR⟩ : ∃ bds cd e, verR (Classical.propDecidable, ()) ps = (bds, cd, e) := ⟨_, _, _, rfl⟩
        rw [hR] at h1
        refine ⟨k, bds, e, rfl, by omega, ?_, by simpa using h3⟩
        rw [hR]
        simp at h1
        rw [h1]
theorem copy_fr {w : World} {F m fc : Nat} {fa : Option Addr} {fr : List Int} (hF : FrAt w F (List.replicate m 0)) (hr : rd w (.slice fa m fc) fr) (hm : fr.length = m) :
    ∃ w', (Builtin.copy_ #[25, 25] 3 #[.slice (some ⟨F, 0, none⟩) m m, .slice fa m fc]).run Tryz.prog w = .ok (.int .i64 m) w' ∧ FrAt w' F fr ∧ (∀ k, k ≠ F → w'.heap[k]? = w.heap[k]?) ∧ w'.heap.size = w.heap.size ∧ w'.os = w.os ∧ w'.tape = w.tape ∧ w'.output = w.output := by
  have hs : (Tryz.prog.info? 3).map (·.size) = some 1 := by kernel_rfl
  obtain ⟨a, cap, e, h⟩ := hr
  rcases h with rfl | ⟨b, off, rfl, hc⟩
  · simp at hm
    subst hm
    refine ⟨w, ?_, by simpa using hF, fun _ _ => rfl, rfl, rfl, rfl, rfl⟩
    exact run_copy_none (P := Tryz.prog) w 25 25 3 3 (some ⟨F, 0, none⟩) fa 0 0 0 fc Tryz.underlying25 hs (by simp)
  · injection e with e1 e2 e3
    subst e1
    have hr := run_copy_row (P := Tryz.prog) w 25 25 3 3 F 0 m m ⟨b, off, none⟩ m fc (intsA (List.replicate m 0)) 3 (fr.map (Value.int .i64)) Tryz.underlying25 hs hF (by rw [List.length_map, hm]; simp)
      (fun j v hj => by
        rw [addn]
        have hj' : j < fr.length := by
          rcases Nat.lt_or_ge j fr.length with h | h
          · exact h
          · simp [List.getElem?_eq_none, h] at hj
        rw [hc j hj']
        simp [List.getD, hj'] at hj ⊢
        exact hj)
      (by simp [intsA, hm]) (by simp [Value.oneCell'])
    rw [List.length_map, hm] at hr
    refine ⟨_, hr, ?_, fun k hk => setRow_other _ _ _ _ hk, by simp [World.setRow], rfl, rfl, rfl⟩
    unfold FrAt
    rw [setRow_heap _ _ _ _ 3 _ hF]
    simp [intsA]
end Go.Proofs.YtcgbfhpmkpglkaaGreatDoor

/- The machine: Run. -/
namespace Go.Proofs.YtcgbfhpmkpglkaaGreatDoor
open Go.RowKit
attribute [local go_sem ↓] Go.wp_at_zero Go.wp_at_succ
set_option linter.unusedVariables false
set_option linter.unusedSimpArgs false

/-- What Run answers: a fault; or a frame as long as the one given, steps within the bound, faults. -/
def RunPost (w : World) (ps : List Pr) (unit : Int) (m : Nat) (e : Ending) (w' : World) : Prop :=
  w.grownBy w' none ∧ ((mayR (Classical.propDecidable, ()) ps unit m ≠ 0 ∧ e = .returned (.agg #[.slice none 0 0, .int .i64 0, .int .i64 0, .int .i64 (mayR (Classical.propDecidable, ()) ps unit m)]))
    ∨ (mayR (Classical.propDecidable, ()) ps unit m = 0 ∧ ∃ (F : Nat) (sp fl : Int), e = .returned (.agg #[.slice (some ⟨F, 0, none⟩) m m, .int .i64 sp, .int .i64 fl, .int .i64 0]) ∧ 0 ≤ sp ∧ sp ≤ (verR (Classical.propDecidable, ()) ps).1.getD unit.toNat 0 ∧ 0 ≤ fl ∧ fl ≤ sp))

theorem verS_frame {ps : List Pr} : ∀ (m k : Nat) (b bds : List Int) (e : Int), verS (Classical.propDecidable, ()) ps m k b = (bds, 0, e) → ∀ u, k ≤ u → u < k + m → (ps.getD u pr0).fs.length ≤ 20000 := by
  intro m
  induction m with
  | zero => intro k b bds e hv u h1 h2; omega
  | succ m ih =>
    intro k b bds e hv u h1 h2
    simp only [verS] at hv
    by_cases h0 : (unitS (Classical.propDecidable, ()) ps k b).2 = 0
    · rw [if_pos h0] at hv
      by_cases hu : u = k
      · subst hu
        unfold unitS lookS at h0
        split at h0
        · rename_i hP
          exact hP.frame
        · simp at h0
      · exact ih (k + 1) _ bds e hv u (by omega) (by omega)
    · rw [if_neg h0] at hv
      simp at hv
      exact absurd hv.2.1 h0

set_option maxRecDepth 10000 in
set_option maxHeartbeats 2000000 in
theorem run_any (cv : Value) (ps : List Pr) (unit now : Int) (fa : Option Addr) (fr : List Int) (fc : Nat) (w : World) (hC : CdP w cv ps) (hS : Stds w) (hl : ps.length ≤ 1000000000000000) (hf : rd w (.slice fa fr.length fc) fr) :
    Calls Tryz.prog 8 #[.agg #[cv], .int .i64 unit, .slice fa fr.length fc, .int .i64 now] w (RunPost w ps unit fr.length) := by
  obtain ⟨ca, cap, rfl, hcap, hc⟩ := hC
  have HC : Hid (CdP w (.slice ca ps.length cap) ps) := ⟨ca, cap, rfl, hcap, hc⟩
  have HCC : Hid (ps = [] ∨ ∃ b off, ca = some ⟨b, off, none⟩ ∧ ∀ i, i < ps.length → ∃ fv sv tv, PrAt w b (off + i * 5) (ps.getD i pr0) fv sv tv) := hc
  have HS : Hid (Stds w) := hS
  have HF : Hid (rd w (.slice fa fr.length fc) fr) := hf
  obtain ⟨n, hn⟩ : ∃ n, ps.length = n := ⟨_, rfl⟩
  have HN : Hid (ps.length = n) := hn
  obtain ⟨m, hm⟩ : ∃ m, fr.length = m := ⟨_, rfl⟩
  have HM : Hid (fr.length = m) := hm
  rw [hn] at hl hcap HC
  obtain ⟨R, hR⟩ : ∃ R, mayR (Classical.propDecidable, ()) ps unit m = R := ⟨_, rfl⟩
  have HR : Hid (mayR (Classical.propDecidable, ()) ps unit m = R) := hR
  have cV : ∀ W, w.grownBy W none → Calls Tryz.prog 17 #[.agg #[.slice ca n cap], .int .i64 unit, .slice fa m fc] W fun e w' => e = .returned (.int .i64 R) ∧ W.grownBy w' none := fun W hW => by
    rw [← hR]
    exact mayRun_any _ ps unit fa m fc W (HC.out.grown hW) (HS.out.grown hW) (by omega)
  rw [hn, hm]
  clear hc hS hR hn hcap hf hm
  obtain ⟨H, hH⟩ : ∃ H, w.heap.size = H := ⟨_, rfl⟩
  have HHH : Hid (w.heap.size = H) := hH
  go_enter Tryz.func8, Tryz.ntmps8
  go_wp2_with fail
  refine (cV _ (gr_alloc (gr1 _ _) _)).mono ?_
  rintro e w1 ⟨rfl, hg⟩
  have HG : Hid (w.grownBy w1 none) := (gr_alloc (gr1 _ _) _).trans hg
  have z1 := at_cell (kept ((gr1 _ _).trans hg) (hp_new hH.symm (.cells #[.slice ca n cap] 24))) 0
  simp at z1
  have HZ1 : Hid (w1.cell? ⟨H, 0, none⟩ = some (.slice ca n cap)) := z1
  have HZ2 : Hid (w1.heap[H + 1]? = some (.cells #[.slice none 0 0, .int .i64 0, .int .i64 0, .int .i64 0] 28)) := kept hg (hp_new (by simp [hH]) _)
  obtain ⟨H1, hH1⟩ : ∃ H1, w1.heap.size = H1 := ⟨_, rfl⟩
  have HH1 : Hid (w1.heap.size = H1) := hH1
  clear hg cV
  by_cases h1 : R = 0
  · subst h1
    obtain ⟨k, bds, ue, rfl, hk, hv, hmk⟩ := mayR_zero HR.out
    have m0 : (0 : Int) ≤ (m : Int) := by omega
    have hun : ∃ b off, ca = some ⟨b, off, none⟩ ∧ ∀ i, i < ps.length → ∃ fv sv tv, PrAt w b (off + i * 5) (ps.getD i pr0) fv sv tv := by
      rcases HCC.out with h | h
      · rw [h] at hk; simp at hk
      · exact h
    obtain ⟨pb, po, rfl, hpr⟩ := hun
    have h16 : ps.length ≤ 16 := by
      rcases Nat.lt_or_ge 16 ps.length with h | h
      · unfold verR at hv; rw [if_pos h] at hv; simp at hv
      · exact h
    have hv2 := hv
    unfold verR at hv2
    rw [if_neg (by omega)] at hv2
    obtain ⟨u1, u2, u3⟩ := units_run (c := w) (pb := pb) (po := po) (pcap := cap) (now := now) hpr HS.out h16 ps.length 0 [] bds ue (by omega) rfl (by simp) (by simp) hv2
    have HRW : Hid (RunW w pb po n cap k m (bds.getD k 0) now) := by have h := u3 k hk; rw [HN.out, ← hmk] at h; exact h
    have hm2 : m ≤ 20000 := by rw [hmk]; exact verS_frame ps.length 0 [] bds ue hv2 k (by omega) (by omega)
    have HBD : Hid ((verR (Classical.propDecidable, ()) ps).1.getD k 0 = bds.getD k 0 ∧ 0 ≤ bds.getD k 0 ∧ bds.getD k 0 ≤ 1000000000) := by
      rw [hv]
      refine ⟨rfl, u2 _ ?_⟩
      have : k < bds.length := by omega
      simp [List.getD, this]
    have HK16 : Hid (k ≤ 16) := by have := h16; exact (Nat.le_of_lt (Nat.lt_of_lt_of_le hk this))
    have HKN : Hid (k < n) := by rw [← HN.out]; exact hk
    clear hv hv2 hpr hmk u1 u2 u3 hk h16 z1
    have HFa : Hid (FrAt (w1.alloc (.cells (intsA (List.replicate m 0)) 3)) H1 (List.replicate m 0)) := hp_new hH1.symm _
    obtain ⟨w2, hrun, hfr, hoth, hsz, ho1, ho2, ho3⟩ := copy_fr (w := w1.alloc (.cells (intsA (List.replicate m 0)) 3)) (fc := fc) (fa := fa) (fr := fr) HFa.out (by have h := HF.out; rw [HM.out] at h; exact rd_grown h (gr_alloc HG.out _)) HM.out
    have hmk := make_ints m (by omega) w1
    rw [hH1] at hmk
    have hs2 : w2.heap.size = H1 + 1 := by rw [hsz]; simp [hH1]
    have hHH := HHH.out
    have hle : H ≤ H1 := by have := HG.out.size; omega
    have HG2 : Hid (w.grownBy w2 none) := by
      refine ⟨ho1.trans HG.out.os, ho2.trans HG.out.tape, ho3.trans HG.out.output, by omega, fun x hx h => ?_⟩
      rw [hoth x (by omega)]
      exact ((gr1 w1 _).block x (by have := HG.out.size; omega) (by simp)).trans (HG.out.block x hx h)
    have HZ3 : Hid (w2.heap[H + 1]? = some (.cells #[.slice none 0 0, .int .i64 0, .int .i64 0, .int .i64 0] 28)) := by
      have hlt := at_lt HZ2.out
      rw [hoth (H + 1) (by omega)]
      exact kept (gr1 w1 _) HZ2.out
    have z3 : w2.cell? ⟨H, 0, none⟩ = some (.slice (some ⟨pb, po, none⟩) n cap) := by
      have hlt := at_lt HZ2.out
      have e : w2.cell? ⟨H, 0, none⟩ = (w1.alloc (.cells (intsA (List.replicate m 0)) 3)).cell? ⟨H, 0, none⟩ := by
        unfold World.cell?
        rw [hoth H (by omega)]
      rw [e]
      exact (gr1 w1 _).cell HZ1.out (by simp)
    have hlt2 : H + 1 < H1 := by have := at_lt HZ2.out; omega
    have z3a : ∀ o : Obj, (w2.alloc o).cell? ⟨H, 0, none⟩ = some (.slice (some ⟨pb, po, none⟩) n cap) := fun o => (gr1 w2 o).cell z3 (by simp)
    have i1 : (0 : Int) ≤ (k : Int) := by omega
    have i2 : (k : Int) < (n : Int) := by have := HKN.out; omega
    have HFR : Hid (FrAt w2 H1 fr) := hfr
    clear hoth hsz ho1 ho2 ho3 hfr
    go_wp2_with fail
    have HCT : Hid (Ctx w (w2.alloc (.cells #[.slice (some ⟨pb, po, none⟩) n cap, .int .i64 now, .slice none 0 0, .int .i64 0, .int .i64 0] 56)) (H1 + 2) (H1 + 1) H1 0 m m fr (.slice (some ⟨pb, po, none⟩) n cap) now none 0 [] 0 0) :=
      ⟨⟨hp_new hs2.symm _, ⟨by simp [hs2], .inl ⟨rfl, rfl⟩⟩, by omega⟩, kept (gr1 _ _) HFR.out, by omega, by omega, gr_alloc HG2.out _, by omega, by omega, by omega, by simp [hs2], by have := HM.out; omega, by omega, by omega, by simp, by omega, by omega, by omega, by omega⟩
    refine (HRW.out _ _ _ _ _ _ _ _ _ _ _ _ HCT.out (by have := HBD.out; omega) (by omega) (by have := HK16.out; simp; omega)).mono ?_
    rintro e w4 ⟨rfl, sa', sc', st', ar', sp', fl', g1, g2, g3, g4, g5, g6, g7, g8, g9, g10⟩
    have hb4 := g1.blk
    have y3 := at_cell hb4 3
    have y4 := at_cell hb4 4
    simp at y3 y4
    have HZ4 : Hid (w4.heap[H + 1]? = some (.cells #[.slice none 0 0, .int .i64 0, .int .i64 0, .int .i64 0] 28)) :=
      (g9.block (H + 1) (by simp [hs2]; omega) (by omega) (by simp; omega) (by simp [sb])).trans (kept (gr1 _ _) HZ3.out)
    have HG4 : Hid (w.grownBy w4 none) := grown_chg (gr_alloc HG2.out _) g9 (by omega) (fun y hy => by simp at hy; omega) (fun y hy => by simp [sb] at hy)
    have HSP : Hid (0 ≤ sp' ∧ sp' ≤ bds.getD k 0 ∧ 0 ≤ fl' ∧ fl' ≤ sp') := ⟨by omega, by omega, by omega, by omega⟩
    have f0 := at_frozen HZ4.out 0
    have f1 := at_frozen HZ4.out 1
    have f2 := at_frozen HZ4.out 2
    have f3 := at_frozen HZ4.out 3
    have r0 := at_cell HZ4.out 0
    have r1 := at_cell HZ4.out 1
    have r2 := at_cell HZ4.out 2
    have r3 := at_cell HZ4.out 3
    simp at r0 r1 r2 r3
    clear g1 g2 g3 g4 g5 g6 g7 g8 g9 g10 hb4 hrun hmk z3 z3a HCT
    have n1 : ¬ H1 = H := by omega
    have n2 : ¬ H = H1 := by omega
    go_wp2
    go_region_held3 (fun w' => w'.cell? ⟨H1 + 1, 3, none⟩ = some (.int .i64 sp') ∧ w'.cell? ⟨H1 + 1, 4, none⟩ = some (.int .i64 fl')) (go_keep) (fail)
    go_wp2
    refine ⟨rfl, .agg #[.slice (some ⟨H1, 0, none⟩) m m, .int .i64 sp', .int .i64 fl', .int .i64 0], ?_, ?_⟩
    · simp [results, Tryz.f8]
      exact ran_out _ _ _ rfl (kept (gr_drew (World.grownBy.refl _ _)) (by rw [at_set (at_set (at_set (at_set HZ4.out 0 _) 1 _) 2 _) 3 _]; rfl))
    · refine ⟨gr_drew (((HG4.out.trans2 (by omega) 0 _).trans2 (by omega) 1 _ |>.trans2 (by omega) 2 _).trans2 (by omega) 3 _), .inr ⟨HR.out, H1, sp', fl', rfl, HSP.out.1, ?_, HSP.out.2.2.1, HSP.out.2.2.2⟩⟩
      have h := HBD.out.1
      rw [show ((k : Int)).toNat = k by simp, h]
      exact HSP.out.2.1
  · have g1 : (R != 0) = true := by simpa using h1
    have f0 := at_frozen HZ2.out 0
    have f1 := at_frozen HZ2.out 1
    have f2 := at_frozen HZ2.out 2
    have f3 := at_frozen HZ2.out 3
    have r0 := at_cell HZ2.out 0
    have r1 := at_cell HZ2.out 1
    have r2 := at_cell HZ2.out 2
    have r3 := at_cell HZ2.out 3
    simp at r0 r1 r2 r3
    go_wp2
    refine ⟨rfl, .agg #[.slice none 0 0, .int .i64 0, .int .i64 0, .int .i64 R], ?_, ?_⟩
    · simp [results, Tryz.f8]
      exact ran_out _ _ _ rfl (by rw [at_set (at_set (at_set (at_set HZ2.out 0 _) 1 _) 2 _) 3 _]; rfl)
    · have hHH := HHH.out
      exact ⟨((HG.out.trans2 (by omega) 0 _).trans2 (by omega) 1 _ |>.trans2 (by omega) 2 _).trans2 (by omega) 3 _, .inl ⟨by rw [HR.out]; exact h1, by rw [HR.out]⟩⟩
end Go.Proofs.YtcgbfhpmkpglkaaGreatDoor

/- The law's own small code. -/
namespace Go.Proofs.YtcgbfhpmkpglkaaGreatDoor
open Go.RowKit
set_option linter.unusedVariables false
set_option linter.unusedSimpArgs false

def smT : List Ins := [⟨1, 1, 0, 0⟩, ⟨10, 0, 0, 0⟩]
theorem sm_nth (i : Nat) : (nth smT i).d = 1 ∨ (nth smT i).d = 10 ∨ (nth smT i).d = 0 := by
  match i with
  | 0 => exact .inl rfl
  | 1 => exact .inr (.inl rfl)
  | i + 2 => exact .inr (.inr (by simp [smT, nth]))
theorem sm_ok : ProgOk [] 1 0 smT := by
  refine ⟨by omega, by omega, by decide, ?_, ⟨?_, ?_⟩, ?_, ?_, ?_⟩
  · intro i hi
    match i, hi with
    | 0, _ => rfl
    | 1, _ => rfl
  · intro i h
    have := sm_nth i
    simp [isR] at h
    omega
  · intro i h
    have := sm_nth i
    simp [isE] at h
    omega
  · decide
  · intro i hi h
    have := sm_nth i
    omega
  · exact ⟨_, rfl, rfl⟩
theorem sm_sum : sumT [] smT = 2 := by decide
end Go.Proofs.YtcgbfhpmkpglkaaGreatDoor

/- The law's own small code is run in two steps. -/
namespace Go.Proofs.YtcgbfhpmkpglkaaGreatDoor
open Go.RowKit
attribute [local go_sem ↓] Go.wp_at_zero Go.wp_at_succ
set_option linter.unusedVariables false
set_option linter.unusedSimpArgs false

/-- Where it stands. -/
def SmP (c w0 : World) (B M F off fn fc : Nat) (ar : List Int) (pv : Value) (now : Int) (r0 : Option Nat) (sp0 fl0 : Int) (gk i : Nat) (wx : World) : Prop :=
  ∃ sa sc, Ctx c wx B M F off fn fc ar pv now sa sc (if i = 1 then [1] else []) (sp0 + i) fl0 ∧ Chg M (some F) r0 w0 wx ∧ Nx w0 r0 (sb sa) ∧ gk = 2 - i

set_option maxRecDepth 10000 in
set_option maxHeartbeats 8000000 in
theorem run_sm (c : World) (u pb po np pcap fn tb to' tc : Nat) (now : Int) (hT : TxtC c pb (po + u * 5) tb to' 2 tc smT)
    (w : World) (B M F off fc : Nat) (ar : List Int) (sa0 : Option Addr) (sc0 : Nat) (sp0 fl0 : Int) (h0 : Ctx c w B M F off fn fc ar (.slice (some ⟨pb, po, none⟩) np pcap) now sa0 sc0 [] sp0 fl0) (hsp0 : sp0 ≤ 1000) :
    Calls Tryz.prog 18 #[.pointer (some ⟨M, 0, none⟩), .pointer (some ⟨pb, po + u * 5, none⟩), .slice (some ⟨F, off, none⟩) fn fc] w fun e w' => e = .returned (.tuple #[]) ∧ ∃ sa' sc', Ctx c w' B M F off fn fc ar (.slice (some ⟨pb, po, none⟩) np pcap) now sa' sc' [] (sp0 + 2) fl0 ∧ Chg M (some F) (sb sa0) w w' := by
  have HT : Hid (TxtC c pb (po + u * 5) tb to' 2 tc smT) := hT
  have HH0 : Hid (Ctx c w B M F off fn fc ar (.slice (some ⟨pb, po, none⟩) np pcap) now sa0 sc0 [] sp0 fl0) := h0
  have hs00 := h0.s0
  clear hT h0
  obtain ⟨C, hC⟩ : ∃ C, w.heap.size = C := ⟨_, rfl⟩
  go_enter Tryz.func18, Tryz.ntmps18
  go_wp2_with fail
  have HR0 : Hid (SmP c w B M F off fn fc ar (.slice (some ⟨pb, po, none⟩) np pcap) now (sb sa0) sp0 fl0 2 0 (w.alloc (.cells (intsA (List.replicate 40 0)) 82))) :=
    ⟨sa0, sc0, by simpa using HH0.out.kept (gr1 _ _), Chg.of_none (gr1 _ _), Nx.refl _ _, rfl⟩
  go_loopg [7] 2 (fun gk s7 wx => ∃ i : Nat, s7 = .int .i64 i ∧ i ≤ 2 ∧ SmP c w B M F off fn fc ar (.slice (some ⟨pb, po, none⟩) np pcap) now (sb sa0) sp0 fl0 gk i wx)
  case atStart => exact ⟨0, rfl, Nat.zero_le _, HR0.out⟩
  case round =>
    obtain ⟨i, rfl, hin, sa, sc, hctx, hchg, hnx, hgk⟩ := hrel
    have hq4 := hctx.cw.cell HT.out.cell (by simp)
    by_cases hlt : i < 2
    · have m3 := at_cell hctx.ma.blk 3
      simp at m3
      have f3 := at_frozen hctx.ma.blk 3
      have hw3 := fault_more (sp0 + i) (by omega) (by omega)
      have i1 : (0 : Int) ≤ (i : Int) := by omega
      have i2 : (i : Int) < (2 : Int) := by omega
      have hx2 := hctx.step (by omega)
      have hC2 : Chg M (some F) (sb sa) wr (wr.setCell ⟨M, 3, none⟩ (.int .i64 (sp0 + i + 1))) := chg_set M 3 _ _ wr _
      have HX2 : Hid (Ctx c (wr.setCell ⟨M, 3, none⟩ (.int .i64 (sp0 + i + 1))) B M F off fn fc ar (.slice (some ⟨pb, po, none⟩) np pcap) now sa sc (if i = 1 then [1] else []) (sp0 + i + 1) fl0) := hx2
      have HCH : Hid (Chg M (some F) (sb sa0) w (wr.setCell ⟨M, 3, none⟩ (.int .i64 (sp0 + i + 1)))) := hchg.trans hnx hC2
      have HNX : Hid (Nx w (sb sa0) (sb sa)) := hnx
      have HIN : Hid (InsAt c tb (to' + i * 4) (nth smT i)) := HT.out.ins i hlt
      have HGK : Hid (gk = 2 - i) := hgk
      clear hctx hchg hnx hx2 hC2 hgk
      go_upto_region 6 with fail
      generalize hw2 : wr.setCell ⟨M, 3, none⟩ (.int .i64 (sp0 + (i : Int) + 1)) = w2 at HX2 HCH ⊢
      obtain ⟨q0, q1, q2, q3⟩ := HIN.out.grown HX2.out.cw
      clear hw2 m3 f3 hw3 hq4
      have hi2 : i = 0 ∨ i = 1 := by omega
      have HCL : ∃ st', (if i = 0 then [1] else []) = st' ∧ Calls Tryz.prog 32 #[.pointer (some ⟨M, 0, none⟩), .pointer (some ⟨tb, to' + i * 4, none⟩), .slice (some ⟨F, off, none⟩) fn fc] w2 (DoP w2 B M F (.slice (some ⟨pb, po, none⟩) np pcap) now (sb sa) st' ar (sp0 + i + 1) fl0) := by
        rcases hi2 with rfl | rfl
        · exact ⟨[1], rfl, do_push 1 HX2.out HIN.out⟩
        · exact ⟨[], rfl, do_drop (r := []) 1 HX2.out HIN.out⟩
      obtain ⟨st', hst', HCL⟩ := HCL
      have HST : Hid ((if i = 0 then [1] else []) = st') := hst'
      have hd : ∃ d, (nth smT i).d = d ∧ (d == 11) = false ∧ (d == 12) = false ∧ (d == 13) = false ∧ (d == 14) = false := by
        rcases hi2 with rfl | rfl
        · exact ⟨1, rfl, rfl, rfl, rfl, rfl⟩
        · exact ⟨10, rfl, rfl, rfl, rfl, rfl⟩
      obtain ⟨d, hd, g11, g12, g13, g14⟩ := hd
      rw [hd] at q0
      clear hd hst' q1 q2 q3 hi2
      go_wp2_with fail
      refine HCL.mono ?_
      rintro e w3 ⟨rfl, ⟨sa', sc', b1, b2, b3⟩, b4⟩
      have HN3 : Hid (SmP c w B M F off fn fc ar (.slice (some ⟨pb, po, none⟩) np pcap) now (sb sa0) sp0 fl0 (2 - (i + 1)) (i + 1) w3) := by
        have hx := HX2.out
        have e1 : (if i + 1 = 1 then [1] else []) = st' := by rw [← HST.out]; simp
        refine ⟨sa', sc', ?_, HCH.out.trans HNX.out b2, Nx.trans HCH.out.size HNX.out b3, rfl⟩
        rw [e1, show sp0 + ((i + 1 : Nat) : Int) = sp0 + (i : Int) + 1 by omega]
        exact ⟨b1, b4, hx.fm, hx.fb, grown_chg hx.cw b2 hx.cM (fun y hy => by simp at hy; have := hx.cF; omega) (fun y hy => by have := (hx.ma.row y hy).1; have := hx.cB; omega), hx.cM, hx.cB, hx.cF, by have := hx.bw; have := b2.size; omega, hx.hn, hx.nc, hx.n2, by rw [← HST.out]; split <;> simp, hx.f0, hx.f1, hx.s0, hx.s1⟩
      clear b1 b2 b3 b4 HCL
      go_wp2
      go_roundg (2 - (i + 1))
      case rel => exact ⟨i + 1, by go_num, by omega, HN3.out⟩
      case measure => have := HGK.out; omega
    · have hie : i = 2 := by omega
      subst hie
      have HEX : Hid (∃ sa' sc', Ctx c wr B M F off fn fc ar (.slice (some ⟨pb, po, none⟩) np pcap) now sa' sc' [] (sp0 + 2) fl0 ∧ Chg M (some F) (sb sa0) w wr) := ⟨sa, sc, by simpa using hctx, hchg⟩
      clear hctx hchg hnx
      go_wp2
      go_end0
      exact ⟨rfl, HEX.out⟩
end Go.Proofs.YtcgbfhpmkpglkaaGreatDoor

/- Run at the law's own small code. -/
namespace Go.Proofs.YtcgbfhpmkpglkaaGreatDoor
open Go.RowKit
attribute [local go_sem ↓] Go.wp_at_zero Go.wp_at_succ
set_option linter.unusedVariables false
set_option linter.unusedSimpArgs false

def smPr : Pr := ⟨1, ByteArray.empty, [], [], smT⟩
theorem sm_ver : verR (Classical.propDecidable, ()) [smPr] = ([2], 0, 0) := by
  have h : unitS (Classical.propDecidable, ()) [smPr] 0 [] = (2, 0) := by
    show lookS (Classical.propDecidable, ()) [] [] 1 0 smT = (2, 0)
    unfold lookS
    rw [if_pos sm_ok, sm_sum]
    rfl
  unfold verR
  rw [if_neg (by simp)]
  show verS _ _ 1 0 [] = _
  simp only [verS, h]
  rfl
theorem sm_may : mayR (Classical.propDecidable, ()) [smPr] 0 0 = 0 := by
  unfold mayR
  rw [sm_ver]
  rfl
def SmPost (w : World) (e : Ending) (w' : World) : Prop :=
  w.grownBy w' none ∧ ∃ F, e = .returned (.agg #[.slice (some ⟨F, 0, none⟩) 0 0, .int .i64 2, .int .i64 0, .int .i64 0])

set_option maxRecDepth 10000 in
set_option maxHeartbeats 2000000 in
theorem run_small (cv : Value) (ps : List Pr) (hps : ps = [smPr]) (unit now : Int) (hu0 : unit = 0) (fa : Option Addr) (fr : List Int) (hfr0 : fr = []) (fc : Nat) (w : World) (hC : CdP w cv ps) (hS : Stds w) (hl : ps.length ≤ 1000000000000000) (hf : rd w (.slice fa fr.length fc) fr) :
    Calls Tryz.prog 8 #[.agg #[cv], .int .i64 unit, .slice fa fr.length fc, .int .i64 now] w (SmPost w) := by
  have HPS : Hid (ps = [smPr] ∧ unit = 0 ∧ fr = []) := ⟨hps, hu0, hfr0⟩
  clear hps hu0 hfr0
  obtain ⟨ca, cap, rfl, hcap, hc⟩ := hC
  have HC : Hid (CdP w (.slice ca ps.length cap) ps) := ⟨ca, cap, rfl, hcap, hc⟩
  have HCC : Hid (ps = [] ∨ ∃ b off, ca = some ⟨b, off, none⟩ ∧ ∀ i, i < ps.length → ∃ fv sv tv, PrAt w b (off + i * 5) (ps.getD i pr0) fv sv tv) := hc
  have HS : Hid (Stds w) := hS
  have HF : Hid (rd w (.slice fa fr.length fc) fr) := hf
  obtain ⟨n, hn⟩ : ∃ n, ps.length = n := ⟨_, rfl⟩
  have HN : Hid (ps.length = n) := hn
  obtain ⟨m, hm⟩ : ∃ m, fr.length = m := ⟨_, rfl⟩
  have HM : Hid (fr.length = m) := hm
  rw [hn] at hl hcap HC
  obtain ⟨R, hR⟩ : ∃ R, mayR (Classical.propDecidable, ()) ps unit m = R := ⟨_, rfl⟩
  have HR : Hid (mayR (Classical.propDecidable, ()) ps unit m = R) := hR
  have cV : ∀ W, w.grownBy W none → Calls Tryz.prog 17 #[.agg #[.slice ca n cap], .int .i64 unit, .slice fa m fc] W fun e w' => e = .returned (.int .i64 R) ∧ W.grownBy w' none := fun W hW => by
    rw [← hR]
    exact mayRun_any _ ps unit fa m fc W (HC.out.grown hW) (HS.out.grown hW) (by omega)
  rw [hn, hm]
  clear hc hS hR hn hcap hf hm
  obtain ⟨H, hH⟩ : ∃ H, w.heap.size = H := ⟨_, rfl⟩
  have HHH : Hid (w.heap.size = H) := hH
  go_enter Tryz.func8, Tryz.ntmps8
  go_wp2_with fail
  refine (cV _ (gr_alloc (gr1 _ _) _)).mono ?_
  rintro e w1 ⟨rfl, hg⟩
  have HG : Hid (w.grownBy w1 none) := (gr_alloc (gr1 _ _) _).trans hg
  have z1 := at_cell (kept ((gr1 _ _).trans hg) (hp_new hH.symm (.cells #[.slice ca n cap] 24))) 0
  simp at z1
  have HZ1 : Hid (w1.cell? ⟨H, 0, none⟩ = some (.slice ca n cap)) := z1
  have HZ2 : Hid (w1.heap[H + 1]? = some (.cells #[.slice none 0 0, .int .i64 0, .int .i64 0, .int .i64 0] 28)) := kept hg (hp_new (by simp [hH]) _)
  obtain ⟨H1, hH1⟩ : ∃ H1, w1.heap.size = H1 := ⟨_, rfl⟩
  have HH1 : Hid (w1.heap.size = H1) := hH1
  clear hg cV
  by_cases h1 : R = 0
  · subst h1
    obtain ⟨k, bds, ue, rfl, hk, hv, hmk⟩ := mayR_zero HR.out
    have m0 : (0 : Int) ≤ (m : Int) := by omega
    have hun : ∃ b off, ca = some ⟨b, off, none⟩ ∧ ∀ i, i < ps.length → ∃ fv sv tv, PrAt w b (off + i * 5) (ps.getD i pr0) fv sv tv := by
      rcases HCC.out with h | h
      · rw [h] at hk; simp at hk
      · exact h
    obtain ⟨pb, po, rfl, hpr⟩ := hun
    have h16 : ps.length ≤ 16 := by
      rcases Nat.lt_or_ge 16 ps.length with h | h
      · unfold verR at hv; rw [if_pos h] at hv; simp at hv
      · exact h
    have hv2 := hv
    unfold verR at hv2
    rw [if_neg (by omega)] at hv2
    obtain ⟨u1, u2, u3⟩ := units_run (c := w) (pb := pb) (po := po) (pcap := cap) (now := now) hpr HS.out h16 ps.length 0 [] bds ue (by omega) rfl (by simp) (by simp) hv2
    have hk0 : k = 0 := by have := HPS.out.2.1; omega
    obtain ⟨fv, sv, tv, hp⟩ := hpr k hk
    have htx := hp.text
    have htc := hp.tcell
    rw [HPS.out.1, show [smPr].getD k pr0 = smPr by rw [hk0]; rfl] at htx
    obtain ⟨ta, tc, rfl, hta⟩ := htx
    obtain ⟨tb, to', rfl, hti⟩ : ∃ b off, ta = some ⟨b, off, none⟩ ∧ ∀ i, i < smT.length → InsAt w b (off + i * 4) (nth smT i) := by
      rcases hta with h | ⟨b, off, rfl, h⟩
      · cases h
      · exact ⟨b, off, rfl, fun i hi => ⟨(h i hi).1, (h i hi).2.1, (h i hi).2.2.1, (h i hi).2.2.2⟩⟩
    have HTC : Hid (TxtC w pb (po + k * 5) tb to' 2 tc smT) := ⟨htc, rfl, hti⟩
    clear hp htc hta hti hk0
    have hm2 : m ≤ 20000 := by rw [hmk]; exact verS_frame ps.length 0 [] bds ue hv2 k (by omega) (by omega)
    have HBD : Hid ((verR (Classical.propDecidable, ()) ps).1.getD k 0 = bds.getD k 0 ∧ 0 ≤ bds.getD k 0 ∧ bds.getD k 0 ≤ 1000000000) := by
      rw [hv]
      refine ⟨rfl, u2 _ ?_⟩
      have : k < bds.length := by omega
      simp [List.getD, this]
    have HK16 : Hid (k ≤ 16) := by have := h16; exact (Nat.le_of_lt (Nat.lt_of_lt_of_le hk this))
    have HKN : Hid (k < n) := by rw [← HN.out]; exact hk
    clear hv hv2 hpr hmk u1 u2 u3 hk h16 z1
    have HFa : Hid (FrAt (w1.alloc (.cells (intsA (List.replicate m 0)) 3)) H1 (List.replicate m 0)) := hp_new hH1.symm _
    obtain ⟨w2, hrun, hfr, hoth, hsz, ho1, ho2, ho3⟩ := copy_fr (w := w1.alloc (.cells (intsA (List.replicate m 0)) 3)) (fc := fc) (fa := fa) (fr := fr) HFa.out (by have h := HF.out; rw [HM.out] at h; exact rd_grown h (gr_alloc HG.out _)) HM.out
    have hmk := make_ints m (by omega) w1
    rw [hH1] at hmk
    have hs2 : w2.heap.size = H1 + 1 := by rw [hsz]; simp [hH1]
    have hHH := HHH.out
    have hle : H ≤ H1 := by have := HG.out.size; omega
    have HG2 : Hid (w.grownBy w2 none) := by
      refine ⟨ho1.trans HG.out.os, ho2.trans HG.out.tape, ho3.trans HG.out.output, by omega, fun x hx h => ?_⟩
      rw [hoth x (by omega)]
      exact ((gr1 w1 _).block x (by have := HG.out.size; omega) (by simp)).trans (HG.out.block x hx h)
    have HZ3 : Hid (w2.heap[H + 1]? = some (.cells #[.slice none 0 0, .int .i64 0, .int .i64 0, .int .i64 0] 28)) := by
      have hlt := at_lt HZ2.out
      rw [hoth (H + 1) (by omega)]
      exact kept (gr1 w1 _) HZ2.out
    have z3 : w2.cell? ⟨H, 0, none⟩ = some (.slice (some ⟨pb, po, none⟩) n cap) := by
      have hlt := at_lt HZ2.out
      have e : w2.cell? ⟨H, 0, none⟩ = (w1.alloc (.cells (intsA (List.replicate m 0)) 3)).cell? ⟨H, 0, none⟩ := by
        unfold World.cell?
        rw [hoth H (by omega)]
      rw [e]
      exact (gr1 w1 _).cell HZ1.out (by simp)
    have hlt2 : H + 1 < H1 := by have := at_lt HZ2.out; omega
    have z3a : ∀ o : Obj, (w2.alloc o).cell? ⟨H, 0, none⟩ = some (.slice (some ⟨pb, po, none⟩) n cap) := fun o => (gr1 w2 o).cell z3 (by simp)
    have i1 : (0 : Int) ≤ (k : Int) := by omega
    have i2 : (k : Int) < (n : Int) := by have := HKN.out; omega
    have HFR : Hid (FrAt w2 H1 fr) := hfr
    clear hoth hsz ho1 ho2 ho3 hfr
    go_wp2_with fail
    have HCT : Hid (Ctx w (w2.alloc (.cells #[.slice (some ⟨pb, po, none⟩) n cap, .int .i64 now, .slice none 0 0, .int .i64 0, .int .i64 0] 56)) (H1 + 2) (H1 + 1) H1 0 m m fr (.slice (some ⟨pb, po, none⟩) n cap) now none 0 [] 0 0) :=
      ⟨⟨hp_new hs2.symm _, ⟨by simp [hs2], .inl ⟨rfl, rfl⟩⟩, by omega⟩, kept (gr1 _ _) HFR.out, by omega, by omega, gr_alloc HG2.out _, by omega, by omega, by omega, by simp [hs2], by have := HM.out; omega, by omega, by omega, by simp, by omega, by omega, by omega, by omega⟩
    refine (run_sm w k pb po n cap m tb to' tc now HTC.out _ _ _ _ _ _ _ _ _ _ _ HCT.out (by omega)).mono ?_
    rintro e w4 ⟨rfl, sa', sc', hct4, g9⟩
    have g1 := hct4.ma
    have hb4 := g1.blk
    have y3 := at_cell hb4 3
    have y4 := at_cell hb4 4
    simp at y3 y4
    have HZ4 : Hid (w4.heap[H + 1]? = some (.cells #[.slice none 0 0, .int .i64 0, .int .i64 0, .int .i64 0] 28)) :=
      (g9.block (H + 1) (by simp [hs2]; omega) (by omega) (by simp; omega) (by simp [sb])).trans (kept (gr1 _ _) HZ3.out)
    have HG4 : Hid (w.grownBy w4 none) := grown_chg (gr_alloc HG2.out _) g9 (by omega) (fun y hy => by simp at hy; omega) (fun y hy => by simp [sb] at hy)
    have f0 := at_frozen HZ4.out 0
    have f1 := at_frozen HZ4.out 1
    have f2 := at_frozen HZ4.out 2
    have f3 := at_frozen HZ4.out 3
    have r0 := at_cell HZ4.out 0
    have r1 := at_cell HZ4.out 1
    have r2 := at_cell HZ4.out 2
    have r3 := at_cell HZ4.out 3
    simp at r0 r1 r2 r3
    clear g1 g9 hct4 hb4 hrun hmk z3 z3a HCT
    have n1 : ¬ H1 = H := by omega
    have n2 : ¬ H = H1 := by omega
    go_wp2
    go_region_held3 (fun w' => w'.cell? ⟨H1 + 1, 3, none⟩ = some (.int .i64 2) ∧ w'.cell? ⟨H1 + 1, 4, none⟩ = some (.int .i64 0)) (go_keep) (fail)
    go_wp2
    refine ⟨rfl, .agg #[.slice (some ⟨H1, 0, none⟩) m m, .int .i64 2, .int .i64 0, .int .i64 0], ?_, ?_⟩
    · simp [results, Tryz.f8]
      exact ran_out _ _ _ rfl (kept (gr_drew (World.grownBy.refl _ _)) (by rw [at_set (at_set (at_set (at_set HZ4.out 0 _) 1 _) 2 _) 3 _]; rfl))
    · refine ⟨gr_drew (((HG4.out.trans2 (by omega) 0 _).trans2 (by omega) 1 _ |>.trans2 (by omega) 2 _).trans2 (by omega) 3 _), H1, by have h := HM.out; rw [HPS.out.2.2] at h; simp at h; rw [← h]⟩
  · exact absurd (by have h := HR.out; have h2 := HM.out; rw [HPS.out.1, HPS.out.2.1] at h; rw [HPS.out.2.2] at h2; simp at h2; rw [← h2, sm_may] at h; exact h.symm) h1
end Go.Proofs.YtcgbfhpmkpglkaaGreatDoor

/- The law CodeBounded, whatever comes in. -/
namespace Go.Proofs.YtcgbfhpmkpglkaaGreatDoor
open Go.RowKit
attribute [local go_sem ↓] Go.wp_at_zero Go.wp_at_succ
set_option linter.unusedVariables false
set_option linter.unusedSimpArgs false

theorem sm_cd {W : World} {b tb : Nat} {t1 t2 : TypeId} (hT : W.heap[tb]? = some (.cells #[.int .i64 1, .int .i64 1, .int .i64 0, .int .i64 0, .int .i64 10, .int .i64 0, .int .i64 0, .int .i64 0] t1))
    (hP : W.heap[b]? = some (.cells #[.int .i64 1, .string ByteArray.empty, .slice none 0 0, .slice none 0 0, .slice (some ⟨tb, 0, none⟩) 2 2] t2)) : CdP W (.slice (some ⟨b, 0, none⟩) 1 1) [smPr] := by
  refine ⟨_, 1, rfl, by simp, .inr ⟨b, 0, rfl, fun i hi => ?_⟩⟩
  have h0 : i = 0 := by simp at hi; omega
  subst h0
  have a0 := at_cell hP 0
  have a1 := at_cell hP 1
  have a2 := at_cell hP 2
  have a3 := at_cell hP 3
  have a4 := at_cell hP 4
  simp at a0 a1 a2 a3 a4
  refine ⟨.slice none 0 0, .slice none 0 0, .slice (some ⟨tb, 0, none⟩) 2 2, a0, a1, a2, a3, a4, ⟨_, _, rfl, .inl rfl⟩, ⟨_, _, rfl, .inl rfl⟩, ⟨_, _, rfl, .inr ⟨tb, 0, rfl, fun i hi => ?_⟩⟩⟩
  match i, hi with
  | 0, _ =>
    have b0 := at_cell hT 0
    have b1 := at_cell hT 1
    have b2 := at_cell hT 2
    have b3 := at_cell hT 3
    exact ⟨b0, b1, b2, b3⟩
  | 1, _ =>
    have b0 := at_cell hT 4
    have b1 := at_cell hT 5
    have b2 := at_cell hT 6
    have b3 := at_cell hT 7
    exact ⟨b0, b1, b2, b3⟩

theorem verS_facts {w : World} {ps : List Pr} {b off cap : Nat} (hc : ∀ i, i < ps.length → ∃ fv sv tv, PrAt w b (off + i * 5) (ps.getD i pr0) fv sv tv) (hS : Stds w) {l : List Int} {fu : Int} (h : verR (Classical.propDecidable, ()) ps = (l, 0, fu)) : l.length = ps.length ∧ ∀ x, x ∈ l → 0 ≤ x ∧ x ≤ 1000000000 := by
  have h16 : ps.length ≤ 16 := by
    rcases Nat.lt_or_ge 16 ps.length with h' | h'
    · unfold verR at h; rw [if_pos h'] at h; simp at h
    · exact h'
  unfold verR at h
  rw [if_neg (by omega)] at h
  obtain ⟨u1, u2, u3⟩ := units_run (c := w) (pb := b) (po := off) (pcap := cap) (now := 0) hc hS h16 ps.length 0 [] l fu (by omega) rfl (by simp) (by simp) h
  exact ⟨u1, u2⟩

theorem verS_none {ps : List Pr} : ∀ (m k : Nat) (b l : List Int) (c e : Int), verS (Classical.propDecidable, ()) ps m k b = (l, c, e) → c ≠ 0 → l = [] := by
  intro m
  induction m with
  | zero => intro k b l c e h hc; simp [verS] at h; exact absurd h.2.1.symm hc
  | succ m ih =>
    intro k b l c e h hc
    simp only [verS] at h
    split at h
    · exact ih _ _ _ _ _ h hc
    · simp at h; exact h.1
theorem verR_none {ps : List Pr} {l : List Int} {c e : Int} (h : verR (Classical.propDecidable, ()) ps = (l, c, e)) (hc : c ≠ 0) : l = [] := by
  unfold verR at h
  split at h
  · simp at h; exact h.1
  · exact verS_none _ _ _ _ _ _ h hc

set_option maxRecDepth 10000 in
set_option maxHeartbeats 2000000 in
theorem law_any (cv : Value) (ps : List Pr) (unit now : Int) (fa : Option Addr) (fr : List Int) (fc : Nat) (w : World) (hC : CdP w cv ps) (hS : Stds w) (hl : ps.length ≤ 1000000000000000) (hf : rd w (.slice fa fr.length fc) fr) :
    Calls Tryz.prog 4 #[.agg #[cv], .int .i64 unit, .slice fa fr.length fc, .int .i64 now] w fun e w' => e = .returned (.bool true) ∧ w.grownBy w' none := by
  obtain ⟨ca, cap, rfl, hcap, hc⟩ := hC
  have HC : Hid (CdP w (.slice ca ps.length cap) ps) := ⟨ca, cap, rfl, hcap, hc⟩
  have HCC : Hid (ps = [] ∨ ∃ b off, ca = some ⟨b, off, none⟩ ∧ ∀ i, i < ps.length → ∃ fv sv tv, PrAt w b (off + i * 5) (ps.getD i pr0) fv sv tv) := hc
  have HS : Hid (Stds w) := hS
  have HF : Hid (rd w (.slice fa fr.length fc) fr) := hf
  obtain ⟨n, hn⟩ : ∃ n, ps.length = n := ⟨_, rfl⟩
  have HN : Hid (ps.length = n) := hn
  obtain ⟨m, hm⟩ : ∃ m, fr.length = m := ⟨_, rfl⟩
  have HM : Hid (fr.length = m) := hm
  obtain ⟨l, fcd, fu, hR⟩ : ∃ l fcd fu, verR (Classical.propDecidable, ()) ps = (l, fcd, fu) := ⟨_, _, _, rfl⟩
  have HR : Hid (verR (Classical.propDecidable, ()) ps = (l, fcd, fu)) := hR
  have HL : Hid (ps.length ≤ 1000000000000000) := hl
  have cV : ∀ W, w.grownBy W none → Calls Tryz.prog 14 #[.agg #[.slice ca n cap]] W (VerPost W (l, fcd, fu)) := fun W hW => by
    have h := verify_any _ ps W (HC.out.grown hW) (HS.out.grown hW) HL.out
    rw [hR, hn] at h
    exact h
  have cR : ∀ W, w.grownBy W none → Calls Tryz.prog 8 #[.agg #[.slice ca n cap], .int .i64 unit, .slice fa m fc, .int .i64 now] W (RunPost W ps unit m) := fun W hW => by
    have h := run_any _ ps unit now fa fr fc W (HC.out.grown hW) (HS.out.grown hW) HL.out (rd_grown HF.out hW)
    rw [hn, hm] at h
    exact h
  have cVs : ∀ W v, Stds W → CdP W v [smPr] → Calls Tryz.prog 14 #[.agg #[v]] W (VerPost W ([2], 0, 0)) := fun W v h1 h2 => by
    have h := verify_any v [smPr] W h2 h1 (by simp)
    rw [sm_ver] at h
    exact h
  have cRs : ∀ W v, Stds W → CdP W v [smPr] → Calls Tryz.prog 8 #[.agg #[v], .int .i64 0, .slice none 0 0, .int .i64 0] W (SmPost W) := fun W v h1 h2 =>
    run_small v [smPr] rfl 0 0 rfl none [] rfl 0 W h2 h1 (by simp) ⟨_, _, rfl, .inl rfl⟩
  rw [hn, hm]
  clear hc hS hR hn hcap hf hm hl
  have fS : ∀ (v : Value) (a b c : Int) (w : World), Sem.run Tryz.prog (Instr.field 28 (.agg #[v, .int .i64 a, .int .i64 b, .int .i64 c]) 1) w = .ok (.int .i64 a) w := fun _ _ _ _ _ => by kernel_rfl
  have fC : ∀ (v : Value) (a b c : Int) (w : World), Sem.run Tryz.prog (Instr.field 28 (.agg #[v, .int .i64 a, .int .i64 b, .int .i64 c]) 3) w = .ok (.int .i64 c) w := fun _ _ _ _ _ => by kernel_rfl
  obtain ⟨H, hH⟩ : ∃ H, w.heap.size = H := ⟨_, rfl⟩
  have HHH : Hid (w.heap.size = H) := hH
  go_enter Tryz.func4, Tryz.ntmps4
  go_wp2_with fail
  refine (cVs _ _ (HS.out.grown (gr_alloc (gr_alloc (gr_alloc (gr1 _ _) _) _) _)) (sm_cd (tb := H + 1) (b := H + 1 + 1) (t1 := 40) (t2 := 44) ?_ ?_)).mono ?_
  · rw [hp_old (by simp [hH]), hp_old (by simp [hH]), hp_new (by simp [hH])]
  · rw [hp_old (by simp [hH]), hp_new (by simp [hH])]; rfl
  rintro e w1 ⟨v2, rfl, hown, hg1⟩
  obtain ⟨vb, vo, vc, rfl, hv2⟩ := rd_at hown.rd (by simp)
  have hv0 := hv2 0 (by simp)
  simp at hv0
  have HG1 : Hid (w.grownBy w1 none) := (gr_alloc (gr_alloc (gr_alloc (gr1 _ _) _) _) _).trans hg1
  have HSM : Hid (CdP w1 (.slice (some ⟨H + 1 + 1, 0, none⟩) 1 1) [smPr]) := by
    refine CdP.grown (sm_cd (tb := H + 1) (b := H + 1 + 1) (t1 := 40) (t2 := 44) ?_ ?_) hg1
    · rw [hp_old (by simp [hH]), hp_old (by simp [hH]), hp_new (by simp [hH])]
    · rw [hp_old (by simp [hH]), hp_new (by simp [hH])]; rfl
  have HB0 : Hid (w1.heap[H]? = some (.cells #[.slice ca n cap] 24)) := kept hg1 (by rw [hp_old (by simp [hH]; omega), hp_old (by simp [hH]; omega), hp_old (by simp [hH]), hp_new hH.symm])
  have HB3 : Hid (w1.heap[H + 1 + 1 + 1]? = some (.cells #[.slice (some ⟨H + 1 + 1, 0, none⟩) 1 1] 24)) := kept hg1 (by rw [hp_new (by simp [hH])])
  have z3 := at_cell HB3.out 0
  simp at z3
  have hv1 : ∀ o : Obj, (w1.alloc o).cell? ⟨vb, vo, none⟩ = some (.int .i64 2) := fun o => (gr1 w1 o).cell hv0 (by simp)
  have z4 : ∀ o : Obj, (w1.alloc o).cell? ⟨H + 1 + 1 + 1, 0, none⟩ = some (.slice (some ⟨H + 1 + 1, 0, none⟩) 1 1) := fun o => (gr1 w1 o).cell z3 (by simp)
  clear hown hv2 hg1
  go_wp2_with fail
  refine (cRs _ _ (HS.out.grown (gr_alloc HG1.out _)) (HSM.out.grown (gr1 _ _))).mono ?_
  rintro e w2 ⟨hg2, F, rfl⟩
  have HG2 : Hid (w.grownBy w2 none) := (gr_alloc HG1.out _).trans hg2
  have HB4 : Hid (w2.heap[H]? = some (.cells #[.slice ca n cap] 24)) := kept hg2 (kept (gr1 _ _) HB0.out)
  have z5 := at_cell HB4.out 0
  simp at z5
  have z6 : ∀ o : Obj, (w2.alloc o).cell? ⟨H, 0, none⟩ = some (.slice ca n cap) := fun o => (gr1 w2 o).cell z5 (by simp)
  clear hg2 z3 z4 hv0 hv1 cVs cRs
  go_wp2_with fail
  first | refine (cV _ HG2.out).mono ?_ | refine (cV _ (gr_alloc HG2.out _)).mono ?_
  rintro e w3 ⟨bv, rfl, hown3, hg3⟩
  have HG3 : Hid (w.grownBy w3 none) := by first | exact HG2.out.trans hg3 | exact (gr_alloc HG2.out _).trans hg3
  have HB5 : Hid (w3.heap[H]? = some (.cells #[.slice ca n cap] 24)) := by first | exact kept hg3 HB4.out | exact kept hg3 (kept (gr1 _ _) HB4.out)
  have z7 := at_cell HB5.out 0
  simp at z7
  have z8 : ∀ o : Obj, (w3.alloc o).cell? ⟨H, 0, none⟩ = some (.slice ca n cap) := fun o => (gr1 w3 o).cell z7 (by simp)
  obtain ⟨ba, bc, rfl, hbr⟩ := hown3.rd
  dsimp only at hbr
  have HBR : Hid (l = [] ∨ ∃ b off, ba = some ⟨b, off, none⟩ ∧ ∀ i, i < l.length → w3.cell? ⟨b, off + i, none⟩ = some (.int .i64 (l.getD i 0))) := hbr
  clear hown3 hg3 z5 z6 hbr cV
  dsimp only
  by_cases hf0 : fcd = 0
  · subst hf0
    have hfacts : l.length = n ∧ ∀ x, x ∈ l → 0 ≤ x ∧ x ≤ 1000000000 := by
      rcases HCC.out with h | ⟨b, off, rfl, hc⟩
      · have h1 := HR.out
        have h2 := HN.out
        rw [h] at h1 h2
        simp [verR, verS] at h1
        obtain ⟨rfl, -⟩ := h1
        exact ⟨h2, by simp⟩
      · have h1 := verS_facts (cap := cap) hc HS.out HR.out
        exact ⟨h1.1.trans HN.out, h1.2⟩
    have HLF : Hid (l.length = n ∧ ∀ x, x ∈ l → 0 ≤ x ∧ x ≤ 1000000000) := hfacts
    have hln := hfacts.1
    clear hfacts
    generalize hll : l.length = L at *
    subst hln
    by_cases h2 : unit < 0
    · have g2 : decide (unit < 0) = true := by simpa using h2
      have hmr : mayR (Classical.propDecidable, ()) ps unit m = 6 := by
        unfold mayR
        rw [HR.out, if_neg (by simp), if_pos (.inl h2)]
      have HMR : Hid (mayR (Classical.propDecidable, ()) ps unit m = 6) := hmr
      clear hmr
      go_wp2_with fail
      first | refine (cR _ HG3.out).mono ?_ | refine (cR _ (gr_alloc HG3.out _)).mono ?_
      rintro e w4 ⟨hg4, ⟨_, he⟩ | ⟨h, _⟩⟩
      · rw [HMR.out] at he
        subst he
        go_wp2
        go_ret
        exact ⟨rfl, by first | exact HG3.out.trans hg4 | exact (gr_alloc HG3.out _).trans hg4⟩
      · exact absurd (HMR.out.symm.trans h) (by decide)
    · have g2 : decide (unit < 0) = false := by simpa using h2
      obtain ⟨k, rfl⟩ := Int.eq_ofNat_of_zero_le (show 0 ≤ unit by omega)
      by_cases h3 : k < L
      · have g3 : decide ((L : Int) ≤ (k : Int)) = false := by simp; omega
        obtain ⟨b, off, rfl, hcc⟩ : ∃ b off, ca = some ⟨b, off, none⟩ ∧ ∀ i, i < ps.length → ∃ fv sv tv, PrAt w b (off + i * 5) (ps.getD i pr0) fv sv tv := by
          rcases HCC.out with h | h
          · have := HN.out; rw [h] at this; simp at this; omega
          · exact h
        obtain ⟨fv, sv, tv, hp⟩ := hcc k (by rw [HN.out]; exact h3)
        obtain ⟨fa', fc', rfl, _⟩ := hp.first
        have hq := HG3.out.cell hp.fcell (by simp)
        have e0 : mayR (Classical.propDecidable, ()) ps (k : Int) m = if m ≠ (ps.getD k pr0).fs.length then 4 else 0 := by
          have h3' : k < ps.length := by rw [HN.out]; exact h3
          unfold mayR
          rw [HR.out, if_neg (by simp), if_neg (by omega)]
          rfl
        have HE0 : Hid (mayR (Classical.propDecidable, ()) ps (k : Int) m = if m ≠ (ps.getD k pr0).fs.length then 4 else 0) := e0
        clear e0
        generalize hm : (ps.getD k pr0).fs.length = q at hq HE0
        have hqa : ∀ o : Obj, (w3.alloc o).cell? ⟨b, off + k * 5 + 2, none⟩ = some (.slice fa' q fc') := fun o => (gr1 w3 o).cell hq (by simp)
        have i1 : (0 : Int) ≤ (k : Int) := by omega
        have i2 : (k : Int) < (L : Int) := by omega
        clear hcc hp hm
        by_cases h4 : m = q
        · subst h4
          have hmr : mayR (Classical.propDecidable, ()) ps (k : Int) m = 0 := by rw [HE0.out, if_neg (by simp)]
          have HMR : Hid (mayR (Classical.propDecidable, ()) ps (k : Int) m = 0) := hmr
          clear hmr HE0
          obtain ⟨bb, bo, rfl, hbc⟩ : ∃ b off, ba = some ⟨b, off, none⟩ ∧ ∀ i, i < L → w3.cell? ⟨b, off + i, none⟩ = some (.int .i64 (l.getD i 0)) := by
            rcases HBR.out with h | h
            · rw [h] at hll; simp at hll; omega
            · exact h
          have hb1 := hbc k (by omega)
          have hbx : 0 ≤ l.getD k 0 ∧ l.getD k 0 ≤ 1000000000 := HLF.out.2 _ (by
            have : k < l.length := by omega
            simp [List.getD, this])
          have HRL : Hid ((verR (Classical.propDecidable, ()) ps).1.getD (k : Int).toNat 0 = l.getD k 0) := by rw [HR.out]; exact rfl
          generalize l.getD k 0 = bk at hb1 hbx HRL
          clear hbc
          go_wp2_with fail
          first | refine (cR _ HG3.out).mono ?_ | refine (cR _ (gr_alloc HG3.out _)).mono ?_
          rintro e w4 ⟨hg4, ⟨h, _⟩ | ⟨_, F2, sp, fl, he, r1, r2, r3, r4⟩⟩
          · exact absurd HMR.out h
          · rw [HRL.out] at r2
            subst he
            have hb2 : w4.cell? ⟨bb, bo + k, none⟩ = some (.int .i64 bk) := by
              first | exact hg4.cell hb1 (by simp) | exact hg4.cell ((gr1 w3 _).cell hb1 (by simp)) (by simp)
            have hb3 : ∀ o : Obj, (w4.alloc o).cell? ⟨bb, bo + k, none⟩ = some (.int .i64 bk) := fun o => (gr1 w4 o).cell hb2 (by simp)
            have d1 : decide (0 ≤ sp) = true := by simpa using r1
            have d2 : decide (sp ≤ bk) = true := by simpa using r2
            have d3 : decide (bk ≤ 1000000000) = true := by simpa using hbx.2
            have d4 : decide (0 ≤ fl) = true := by simpa using r3
            have d5 : decide (fl ≤ sp) = true := by simpa using r4
            have hbx2 := hbx.2
            have HG4 : Hid (w.grownBy w4 none) := by first | exact HG3.out.trans hg4 | exact (gr_alloc HG3.out _).trans hg4
            clear hg4 z7 z8 hqa hq hb1 cR
            obtain ⟨H4, hH4⟩ : ∃ H4, w4.heap.size = H4 := ⟨_, rfl⟩
            have hbr : (w4.alloc (.cells #[.slice (some ⟨F2, 0, none⟩) m m, .int .i64 sp, .int .i64 fl, .int .i64 0] 28)).heap[H4]? = some (.cells #[.slice (some ⟨F2, 0, none⟩) m m, .int .i64 sp, .int .i64 fl, .int .i64 0] 28) := hp_new hH4.symm _
            have c0 := at_cell hbr 0
            have c1 := at_cell hbr 1
            have c2 := at_cell hbr 2
            have c3 := at_cell hbr 3
            simp at c0 c1 c2 c3
            clear hbr
            go_wp2
            go_region_held3 (fun w' => w'.cell? ⟨H4, 0, none⟩ = some (.slice (some ⟨F2, 0, none⟩) m m) ∧ w'.cell? ⟨H4, 1, none⟩ = some (.int .i64 sp) ∧ w'.cell? ⟨H4, 2, none⟩ = some (.int .i64 fl) ∧ w'.cell? ⟨H4, 3, none⟩ = some (.int .i64 0) ∧ w'.cell? ⟨bb, bo + k, none⟩ = some (.int .i64 bk)) (go_keep) (fail)
            go_wp2
            go_ret
            exact ⟨rfl, gr_drew (gr_alloc HG4.out _)⟩
        · have g4 : ((m : Int) == (q : Int)) = false := by simp; omega
          have g5 : ((m : Int) != (q : Int)) = true := by simp; omega
          have hmr : mayR (Classical.propDecidable, ()) ps (k : Int) m = 4 := by rw [HE0.out, if_pos h4]
          have HMR : Hid (mayR (Classical.propDecidable, ()) ps (k : Int) m = 4) := hmr
          clear hmr HE0
          go_wp2_with fail
          first | refine (cR _ HG3.out).mono ?_ | refine (cR _ (gr_alloc HG3.out _)).mono ?_
          rintro e w4 ⟨hg4, ⟨_, he⟩ | ⟨h, _⟩⟩
          · rw [HMR.out] at he
            subst he
            go_wp2
            go_ret
            exact ⟨rfl, by first | exact HG3.out.trans hg4 | exact (gr_alloc HG3.out _).trans hg4⟩
          · exact absurd (HMR.out.symm.trans h) (by decide)
      · have g3 : decide ((L : Int) ≤ (k : Int)) = true := by simp; omega
        have hmr : mayR (Classical.propDecidable, ()) ps (k : Int) m = 6 := by
          have h3' : ps.length ≤ k := by rw [HN.out]; omega
          unfold mayR
          rw [HR.out, if_neg (by simp), if_pos (.inr (by omega))]
        have HMR : Hid (mayR (Classical.propDecidable, ()) ps (k : Int) m = 6) := hmr
        clear hmr
        go_wp2_with fail
        first | refine (cR _ HG3.out).mono ?_ | refine (cR _ (gr_alloc HG3.out _)).mono ?_
        rintro e w4 ⟨hg4, ⟨_, he⟩ | ⟨h, _⟩⟩
        · rw [HMR.out] at he
          subst he
          go_wp2
          go_ret
          exact ⟨rfl, by first | exact HG3.out.trans hg4 | exact (gr_alloc HG3.out _).trans hg4⟩
        · exact absurd (HMR.out.symm.trans h) (by decide)
  · obtain rfl : l = [] := verR_none HR.out hf0
    have hfb : (fcd == 0) = false := by simpa using hf0
    have hmr : mayR (Classical.propDecidable, ()) ps unit m = 12 := by
      unfold mayR
      rw [HR.out]
      simp [hf0]
    have HMR : Hid (mayR (Classical.propDecidable, ()) ps unit m = 12) := hmr
    clear hmr
    go_wp2_with fail
    first | refine (cR _ HG3.out).mono ?_ | refine (cR _ (gr_alloc HG3.out _)).mono ?_
    rintro e w4 ⟨hg4, ⟨_, he⟩ | ⟨h, _⟩⟩
    · rw [HMR.out] at he
      subst he
      go_wp2
      go_ret
      exact ⟨rfl, by first | exact HG3.out.trans hg4 | exact (gr_alloc HG3.out _).trans hg4⟩
    · exact absurd (HMR.out.symm.trans h) (by decide)
end Go.Proofs.YtcgbfhpmkpglkaaGreatDoor

/- What comes in, opened: words, texts, slots, units. -/
namespace Go.Proofs.YtcgbfhpmkpglkaaGreatDoor
open Go.ChangeShapes Go.WideShapes Go.ChangeAt Go.RowKit
set_option linter.unusedVariables false
set_option linter.unusedSimpArgs false

structure BdP (ps : List Pr) : Prop where
  n : ps.length * 96 ≤ 140737488351232
  fs : ∀ i, i < ps.length → (ps.getD i pr0).fs.length ≤ 17592186043904
  sl : ∀ i, i < ps.length → (ps.getD i pr0).sl.length * 56 ≤ 140737488351232
  tx : ∀ i, i < ps.length → (ps.getD i pr0).tx.length * 32 ≤ 140737488351232

theorem bytes3 : Tryz.prog.bytesOf 3 = 8 := by kernel_rfl
theorem bytes40 : Tryz.prog.bytesOf 40 = 32 := by kernel_rfl
theorem bytes62 : Tryz.prog.bytesOf 62 = 56 := by kernel_rfl
theorem bytes44 : Tryz.prog.bytesOf 44 = 96 := by kernel_rfl
theorem cells3 : Tryz.prog.cellsOf 3 = 1 := by kernel_rfl
theorem cells4 : Tryz.prog.cellsOf 4 = 1 := by kernel_rfl
theorem cells9 : Tryz.prog.cellsOf 9 = 1 := by kernel_rfl
theorem cells38 : Tryz.prog.cellsOf 38 = 1 := by kernel_rfl
theorem cells59 : Tryz.prog.cellsOf 59 = 1 := by kernel_rfl
theorem cells60 : Tryz.prog.cellsOf 60 = 1 := by kernel_rfl
theorem cells37 : Tryz.prog.cellsOf 37 = 1 := by kernel_rfl
theorem cells25 : Tryz.prog.cellsOf 25 = 1 := by kernel_rfl
theorem cells42 : Tryz.prog.cellsOf 42 = 1 := by kernel_rfl
theorem cells41 : Tryz.prog.cellsOf 41 = 1 := by kernel_rfl
theorem cells22 : Tryz.prog.cellsOf 22 = 1 := by kernel_rfl
theorem cells40 : Tryz.prog.cellsOf 40 = 4 := by kernel_rfl
theorem cells62 : Tryz.prog.cellsOf 62 = 6 := by kernel_rfl
theorem cells44 : Tryz.prog.cellsOf 44 = 5 := by kernel_rfl

theorem spot_none {w : World} {x : Addr} {v : Value} (h : w.cell? (x.add 0) = some v) : ∃ b off, x = ⟨b, off, none⟩ := by
  have hs := World.cell?_spot h
  obtain ⟨b, off, sp⟩ := x
  cases sp with
  | none => exact ⟨b, off, rfl⟩
  | some y => simp [Addr.add] at hs

theorem len4 {α : Type} {l : List α} (h : l.length = 4) : ∃ a b c d, l = [a, b, c, d] := by
  match l, h with
  | [a, b, c, d], _ => exact ⟨a, b, c, d, rfl⟩
theorem len5 {α : Type} {l : List α} (h : l.length = 5) : ∃ a b c d e, l = [a, b, c, d, e] := by
  match l, h with
  | [a, b, c, d, e], _ => exact ⟨a, b, c, d, e, rfl⟩
theorem len6 {α : Type} {l : List α} (h : l.length = 6) : ∃ a b c d e f, l = [a, b, c, d, e, f] := by
  match l, h with
  | [a, b, c, d, e, f], _ => exact ⟨a, b, c, d, e, f, rfl⟩

section
variable {H : Type} {enc : TypeId × Value → H} {w : World}

theorem weights_mem_all {P : Program} {e : TypeId} {d : DataW H} : ∀ {ds : List (DataW H)}, d ∈ ds → ∀ n ∈ d.weights P e, n ∈ DataW.weightsAll P e ds
  | x :: r, hd, n, hn => by
    simp only [DataW.weightsAll, List.mem_append]
    rcases List.mem_cons.1 hd with rfl | hd
    · exact .inl hn
    · exact .inr (weights_mem_all hd n hn)
  | [], hd, _, _ => by simp at hd

theorem rd_sized {fuel : Nat} {v : Value} {x : DataW H × List MemPlace} (h : DataW.trod enc Tryz.prog w 0 (fun _ => true) true fuel 25 [v] = some x) (hw : ∀ n ∈ x.1.weights Tryz.prog 25, n ≤ reachBytes) : ∃ l, rd w v l ∧ l.length ≤ 17592186043904 := by
  rcases open_ints Tryz.underlying25 Tryz.underlying3 cells3 h with ⟨hcs, _⟩ | ⟨a, len, cap, zs, hcs, _, hl, hm, hz, hx, hcell, hwz⟩
  · simp at hcs
    subst hcs
    exact ⟨[], ⟨_, _, rfl, .inl rfl⟩, by simp⟩
  · simp at hcs hz
    subst hcs
    have hlen : (zs.take len).length = len := by simp; omega
    have hb : len ≤ 17592186043904 := by
      have := hw ((zs.take len).length * 8 + (zs.drop len).length * 8) (by
        rw [hx]
        simp only [DataW.weights, Tryz.underlying25, bytes3, lits, List.length_map, List.mem_cons]
        left
        omega)
      unfold reachBytes at this
      omega
    refine ⟨zs.take len, ⟨a, cap, by rw [hlen], ?_⟩, by rw [hlen]; exact hb⟩
    by_cases h0 : len = 0
    · left
      simp [h0]
    · right
      obtain ⟨b, off, rfl⟩ := spot_none (hcell 0 (by omega))
      refine ⟨b, off, rfl, fun i hi => ?_⟩
      have hi' : i < len := by rw [hlen] at hi; exact hi
      have hc := hcell i (by omega)
      rw [addn] at hc
      rw [hc]
      have e : (zs.take len).getD i 0 = zs.getD i 0 := by
        simp [List.getD, hi']
      rw [e]

theorem txt_sized {fuel : Nat} {v : Value} {x : DataW H × List MemPlace} (h : DataW.trod enc Tryz.prog w 0 (fun _ => true) true fuel 41 [v] = some x) (hw : ∀ n ∈ x.1.weights Tryz.prog 41, n ≤ reachBytes) : ∃ l, TxtAt w v l ∧ l.length * 32 ≤ 140737488351232 := by
  rcases Deep.open_slice Tryz.underlying41 h with ⟨hcs, _⟩ | ⟨a, len, cap, m, n, D, Pl, hcs, _, hl, hm, hmm, hxx, hx⟩
  · simp at hcs
    subst hcs
    exact ⟨[], ⟨_, _, rfl, .inl rfl⟩, by simp⟩
  · simp at hcs hmm
    subst hcs
    have hb : len * 32 ≤ 140737488351232 := by
      have := hw (len * 32 + (m - len) * 32) (by
        rw [hxx]
        simp only [DataW.weights, Tryz.underlying41, bytes40, List.length_map, List.length_range, List.mem_cons]
        left
        omega)
      unfold reachBytes at this
      omega
    have each : ∀ i, i < len → ∃ y : Ins, w.cell? (a.add (i * 4)) = some (.int .i64 y.d) ∧ w.cell? (a.add (i * 4 + 1)) = some (.int .i64 y.a) ∧ w.cell? (a.add (i * 4 + 2)) = some (.int .i64 y.b) ∧ w.cell? (a.add (i * 4 + 3)) = some (.int .i64 y.c) := fun i hi => by
      obtain ⟨cs', h1, h2⟩ := hx i (by omega)
      rw [cells40] at h1
      obtain ⟨_, hlen, hcell⟩ := World.cells?_some h1
      obtain ⟨xs, k, hk, hxy, _, hxl, hf⟩ := DataW.trod_struct Tryz.underlying40 h2
      obtain ⟨y0, y1, y2, y3, rfl⟩ := len4 hxl
      obtain ⟨v0, v1, v2, v3, rfl⟩ := len4 hlen
      focus
        have g0 := hf 0 _ rfl
        have g1 := hf 1 _ rfl
        have g2 := hf 2 _ rfl
        have g3 := hf 3 _ rfl
        simp [cells3, cells38] at g0 g1 g2 g3
        have e0 := hcell 0 (by omega)
        have e1 := hcell 1 (by omega)
        have e2 := hcell 2 (by omega)
        have e3 := hcell 3 (by omega)
        rw [Deep.add_add] at e0 e1 e2 e3
        obtain ⟨d, hd, _, _⟩ := DataW.trod_int Tryz.underlying38 g0
        obtain ⟨a', ha, _, _⟩ := DataW.trod_int Tryz.underlying3 g1
        obtain ⟨b', hb', _, _⟩ := DataW.trod_int Tryz.underlying3 g2
        obtain ⟨c', hc', _, _⟩ := DataW.trod_int Tryz.underlying3 g3
        simp at hd ha hb' hc'
        subst hd ha hb' hc'
        exact ⟨⟨d, a', b', c'⟩, by simpa using e0, by simpa using e1, by simpa using e2, by simpa using e3⟩
    obtain ⟨f, hfa⟩ := @Deep.choose_lt Ins ⟨⟨0, 0, 0, 0⟩⟩ _ _ each
    refine ⟨(List.range len).map f, ⟨some a, cap, by simp, ?_⟩, by simpa using hb⟩
    by_cases h0 : len = 0
    · left; simp [h0]
    · right
      obtain ⟨b, off, rfl⟩ := spot_none (by simpa using (hfa 0 (by omega)).1)
      refine ⟨b, off, rfl, fun i hi => ?_⟩
      have hi' : i < len := by simpa using hi
      have hnth : nth ((List.range len).map f) i = f i := by simp [nth, hi']
      have hc := hfa i hi'
      rw [addn, addn, addn, addn] at hc
      rw [hnth]
      simpa only [Nat.add_assoc] using hc

theorem slt_sized {fuel : Nat} {v : Value} {x : DataW H × List MemPlace} (h : DataW.trod enc Tryz.prog w 0 (fun _ => true) true fuel 42 [v] = some x) (hw : ∀ n ∈ x.1.weights Tryz.prog 42, n ≤ reachBytes) : ∃ l, SlAt w v l ∧ l.length * 56 ≤ 140737488351232 := by
  rcases Deep.open_slice Tryz.underlying42 h with ⟨hcs, _⟩ | ⟨a, len, cap, m, n, D, Pl, hcs, _, hl, hm, hmm, hxx, hx⟩
  · simp at hcs
    subst hcs
    exact ⟨[], ⟨_, _, rfl, .inl rfl⟩, by simp⟩
  · simp at hcs hmm
    subst hcs
    have hb : len * 56 ≤ 140737488351232 := by
      have := hw (len * 56 + (m - len) * 56) (by
        rw [hxx]
        simp only [DataW.weights, Tryz.underlying42, bytes62, List.length_map, List.length_range, List.mem_cons]
        left
        omega)
      unfold reachBytes at this
      omega
    have each : ∀ i, i < len → ∃ y : Slt, w.cell? (a.add (i * 6)) = some (.string y.path) ∧ w.cell? (a.add (i * 6 + 1)) = some (.int .i64 y.kind) ∧ w.cell? (a.add (i * 6 + 2)) = some (.int .i64 y.at') ∧ w.cell? (a.add (i * 6 + 3)) = some (.int .i64 y.len) ∧ w.cell? (a.add (i * 6 + 4)) = some (.bool y.keep) ∧ w.cell? (a.add (i * 6 + 5)) = some (.int .i64 y.role) := fun i hi => by
      obtain ⟨cs', h1, h2⟩ := hx i (by omega)
      rw [cells62] at h1
      obtain ⟨_, hlen, hcell⟩ := World.cells?_some h1
      obtain ⟨xs, k, hk, hxy, _, hxl, hf⟩ := DataW.trod_struct Tryz.underlying62 h2
      obtain ⟨y0, y1, y2, y3, y4, y5, rfl⟩ := len6 hxl
      obtain ⟨v0, v1, v2, v3, v4, v5, rfl⟩ := len6 hlen
      focus
        have g0 := hf 0 _ rfl
        have g1 := hf 1 _ rfl
        have g2 := hf 2 _ rfl
        have g3 := hf 3 _ rfl
        have g4 := hf 4 _ rfl
        have g5 := hf 5 _ rfl
        simp [cells3, cells4, cells9, cells59, cells60] at g0 g1 g2 g3 g4 g5
        have e0 := hcell 0 (by omega)
        have e1 := hcell 1 (by omega)
        have e2 := hcell 2 (by omega)
        have e3 := hcell 3 (by omega)
        have e4 := hcell 4 (by omega)
        have e5 := hcell 5 (by omega)
        rw [Deep.add_add] at e0 e1 e2 e3 e4 e5
        obtain ⟨p, hp, _, _⟩ := DataW.trod_string Tryz.underlying9 g0
        obtain ⟨k', hk', _, _⟩ := DataW.trod_int Tryz.underlying59 g1
        obtain ⟨a', ha, _, _⟩ := DataW.trod_int Tryz.underlying3 g2
        obtain ⟨l', hl', _, _⟩ := DataW.trod_int Tryz.underlying3 g3
        obtain ⟨q', hq', _⟩ := DataW.trod_bool Tryz.underlying4 g4
        obtain ⟨r', hr', _, _⟩ := DataW.trod_int Tryz.underlying60 g5
        simp at hp hk' ha hl' hq' hr'
        subst hp hk' ha hl' hq' hr'
        exact ⟨⟨p, k', a', l', q', r'⟩, by simpa using e0, by simpa using e1, by simpa using e2, by simpa using e3, by simpa using e4, by simpa using e5⟩
    obtain ⟨f, hfa⟩ := @Deep.choose_lt Slt ⟨slt0⟩ _ _ each
    refine ⟨(List.range len).map f, ⟨some a, cap, by simp, ?_⟩, by simpa using hb⟩
    by_cases h0 : len = 0
    · left; simp [h0]
    · right
      obtain ⟨b, off, rfl⟩ := spot_none (by simpa using (hfa 0 (by omega)).1)
      refine ⟨b, off, rfl, fun i hi => ?_⟩
      have hi' : i < len := by simpa using hi
      have hnth : ((List.range len).map f).getD i slt0 = f i := by simp [List.getD, hi']
      have hc := hfa i hi'
      rw [addn, addn, addn, addn, addn, addn] at hc
      rw [hnth]
      simpa only [Nat.add_assoc] using hc

theorem cd_sized {fuel : Nat} {v : Value} {x : DataW H × List MemPlace} (h : DataW.trod enc Tryz.prog w 0 (fun _ => true) true fuel 22 [v] = some x) (hw : ∀ n ∈ x.1.weights Tryz.prog 22, n ≤ reachBytes) : ∃ l, CdP w v l ∧ BdP l := by
  rcases Deep.open_slice Tryz.underlying22 h with ⟨hcs, _⟩ | ⟨a, len, cap, m, n, D, Pl, hcs, _, hl, hm, hmm, hxx, hx⟩
  · simp at hcs
    subst hcs
    exact ⟨[], ⟨_, _, rfl, by simp, .inl rfl⟩, ⟨by simp, by simp, by simp, by simp⟩⟩
  · simp at hcs hmm
    subst hcs
    have hb : len * 96 ≤ 140737488351232 := by
      have := hw (len * 96 + (m - len) * 96) (by
        rw [hxx]
        simp only [DataW.weights, Tryz.underlying22, bytes44, List.length_map, List.length_range, List.mem_cons]
        left
        omega)
      unfold reachBytes at this
      omega
    have each : ∀ i, i < len → ∃ y : Pr × Value × Value × Value, w.cell? (a.add (i * 5)) = some (.int .i64 y.1.k) ∧ w.cell? (a.add (i * 5 + 1)) = some (.string y.1.nm) ∧ w.cell? (a.add (i * 5 + 2)) = some y.2.1 ∧ w.cell? (a.add (i * 5 + 3)) = some y.2.2.1 ∧ w.cell? (a.add (i * 5 + 4)) = some y.2.2.2 ∧
        rd w y.2.1 y.1.fs ∧ SlAt w y.2.2.1 y.1.sl ∧ TxtAt w y.2.2.2 y.1.tx ∧ y.1.fs.length ≤ 17592186043904 ∧ y.1.sl.length * 56 ≤ 140737488351232 ∧ y.1.tx.length * 32 ≤ 140737488351232 := fun i hi => by
      obtain ⟨cs', h1, h2⟩ := hx i (by omega)
      have hwi : ∀ k ∈ (D i).weights Tryz.prog 44, k ≤ reachBytes := fun k hk => hw k (by
        rw [hxx]
        simp only [DataW.weights, Tryz.underlying22, List.mem_cons, List.mem_append]
        right; left
        exact weights_mem_all (d := D i) (List.mem_map.2 ⟨i, List.mem_range.2 hi, rfl⟩) k hk)
      rw [cells44] at h1
      obtain ⟨_, hlen, hcell⟩ := World.cells?_some h1
      obtain ⟨xs, k, hk, hxy, _, hxl, hf⟩ := DataW.trod_struct Tryz.underlying44 h2
      obtain ⟨y0, y1, y2, y3, y4, rfl⟩ := len5 hxl
      obtain ⟨v0, v1, v2, v3, v4, rfl⟩ := len5 hlen
      focus
        have g0 := hf 0 _ rfl
        have g1 := hf 1 _ rfl
        have g2 := hf 2 _ rfl
        have g3 := hf 3 _ rfl
        have g4 := hf 4 _ rfl
        simp [cells37, cells9, cells25, cells42, cells41] at g0 g1 g2 g3 g4
        have e0 := hcell 0 (by omega)
        have e1 := hcell 1 (by omega)
        have e2 := hcell 2 (by omega)
        have e3 := hcell 3 (by omega)
        have e4 := hcell 4 (by omega)
        rw [Deep.add_add] at e0 e1 e2 e3 e4
        simp only [Prod.mk.injEq] at hxy
        have hD := hxy.1
        have wt : ∀ k, k ∈ y2.1.weights Tryz.prog 25 ∨ k ∈ y3.1.weights Tryz.prog 42 ∨ k ∈ y4.1.weights Tryz.prog 41 → k ≤ reachBytes := fun k hk => hwi k (by
          rw [hD]
          simp only [DataW.weights, Tryz.underlying44]
          simp [DataW.weightsEach]
          rcases hk with h | h | h
          · exact .inr (.inr (.inl h))
          · exact .inr (.inr (.inr (.inl h)))
          · exact .inr (.inr (.inr (.inr h))))
        obtain ⟨k', hk', _, _⟩ := DataW.trod_int Tryz.underlying37 g0
        obtain ⟨s', hs', _, _⟩ := DataW.trod_string Tryz.underlying9 g1
        obtain ⟨fs, r1, b1⟩ := rd_sized g2 (fun k hk => wt k (.inl hk))
        obtain ⟨sl, r2, b2⟩ := slt_sized g3 (fun k hk => wt k (.inr (.inl hk)))
        obtain ⟨tx, r3, b3⟩ := txt_sized g4 (fun k hk => wt k (.inr (.inr hk)))
        simp at hk' hs'
        subst hk' hs'
        exact ⟨(⟨k', s', fs, sl, tx⟩, v2, v3, v4), by simpa using e0, by simpa using e1, by simpa using e2, by simpa using e3, by simpa using e4, r1, r2, r3, b1, b2, b3⟩
    obtain ⟨f, hfa⟩ := @Deep.choose_lt (Pr × Value × Value × Value) ⟨(pr0, .slice none 0 0, .slice none 0 0, .slice none 0 0)⟩ _ _ each
    have hget : ∀ i, i < len → ((List.range len).map (fun i => (f i).1)).getD i pr0 = (f i).1 := fun i hi => by simp [List.getD, hi]
    refine ⟨(List.range len).map (fun i => (f i).1), ⟨some a, cap, by simp, by simpa using hl, ?_⟩, ⟨by simpa using hb, fun i hi => ?_, fun i hi => ?_, fun i hi => ?_⟩⟩
    · by_cases h0 : len = 0
      · left; simp [h0]
      · right
        obtain ⟨b, off, rfl⟩ := spot_none (by simpa using (hfa 0 (by omega)).1)
        refine ⟨b, off, rfl, fun i hi => ?_⟩
        have hi' : i < len := by simpa using hi
        obtain ⟨c0, c1, c2, c3, c4, r1, r2, r3, _⟩ := hfa i hi'
        rw [addn] at c0 c1 c2 c3 c4
        rw [hget i hi']
        exact ⟨_, _, _, c0, by simpa only [Nat.add_assoc] using c1, by simpa only [Nat.add_assoc] using c2, by simpa only [Nat.add_assoc] using c3, by simpa only [Nat.add_assoc] using c4, r1, r2, r3⟩
    · have hi' : i < len := by simpa using hi
      rw [hget i hi']; exact (hfa i hi').2.2.2.2.2.2.2.2.1
    · have hi' : i < len := by simpa using hi
      rw [hget i hi']; exact (hfa i hi').2.2.2.2.2.2.2.2.2.1
    · have hi' : i < len := by simpa using hi
      rw [hget i hi']; exact (hfa i hi').2.2.2.2.2.2.2.2.2.2
end
end Go.Proofs.YtcgbfhpmkpglkaaGreatDoor

/- What comes in: the table that is laid, code, a frame. -/
namespace Go.Proofs.YtcgbfhpmkpglkaaGreatDoor
open Go.ChangeShapes Go.WideShapes Go.ChangeAt Go.RowKit Go.Lib
set_option linter.unusedVariables false
set_option linter.unusedSimpArgs false

def laidL : List (String × DataW Unit) := [("plantwright/code.standards", Rows.laid_plantwright_code_standards)]

theorem bytes_eq {s : ByteArray} {l : List UInt8} (h : s.data.toList = l) : s = { data := l.toArray } := by
  subst h
  simp
set_option maxRecDepth 100000 in
theorem stds_of_laid {W : World} (h : laidMetH Tryz.prog laidL W) : Stds W := by
  rw [MakeChecks.laidMetH_plain _ _ _ (by kernel_rfl)] at h
  obtain ⟨g', t', cs, fuel, p, hg', ht', hvar, hd⟩ := (show VarReads Tryz.prog W "plantwright/code.standards" Rows.laid_plantwright_code_standards from Lib.laidMet.reads h (.head _))
  have hg : Tryz.prog.globalNamed "plantwright/code.standards" = some 0 := by kernel_rfl
  have hty : (Tryz.prog.globals[0]?).map (·.type) = some 129 := by kernel_rfl
  obtain rfl := Option.some.inj (hg.symm.trans hg')
  obtain rfl := Option.some.inj (hty.symm.trans ht')
  have c9 : Tryz.prog.cellsOf 9 = 1 := by kernel_rfl
  obtain ⟨xs, m, _, hx, hl, hxl, hf⟩ := DataW.trod_array Tryz.underlying129 hd
  have hx1 : xs.map (·.1) = [.lit (.string [116, 111, 110]), .lit (.string [116, 111, 102]), .lit (.string [116, 112]), .lit (.string [99, 116, 117]), .lit (.string [99, 116, 100]), .lit (.string [99, 116, 117, 100]), .lit (.string [114, 95, 116, 114, 105, 103]), .lit (.string [102, 95, 116, 114, 105, 103]), .lit (.string [115, 114]), .lit (.string [114, 115]), .lit (.string [114, 97, 109, 112]), .lit (.string [104, 121, 115, 116])] := by
    have := congrArg Prod.fst hx
    simp only [Rows.laid_plantwright_code_standards, DataW.agg.injEq] at this
    exact this.symm
  have key : ∀ k (l : List UInt8), k < 12 → (xs.map (·.1))[k]? = some (.lit (.string l)) → W.cell? ⟨0, k, none⟩ = some (.string { data := l.toArray }) := fun k l hk hl' => by
    have h1 := hf k hk
    rw [c9, Nat.mul_one] at h1
    rw [List.getElem?_map] at hl'
    obtain ⟨y, hy, hy1⟩ := Option.map_eq_some_iff.1 hl'
    rw [hy] at h1
    obtain ⟨s, hs1, hs2, _⟩ := DataW.trod_string Tryz.underlying9 h1
    have hs3 : s.data.toList = l := by
      rw [hs2] at hy1
      simpa using hy1
    rw [World.var?_cell hg hvar k]
    have hk2 : cs.toList[k]? = some (.string s) := by
      have h2 : (cs.toList.drop k)[0]? = ((cs.toList.drop k).take 1)[0]? := by simp
      rw [hs1] at h2
      simpa using h2
    rw [← Array.getElem?_toList, hk2, bytes_eq hs3]
  intro k hk
  have h12 : k = 0 ∨ k = 1 ∨ k = 2 ∨ k = 3 ∨ k = 4 ∨ k = 5 ∨ k = 6 ∨ k = 7 ∨ k = 8 ∨ k = 9 ∨ k = 10 ∨ k = 11 := by omega
  rcases h12 with rfl | rfl | rfl | rfl | rfl | rfl | rfl | rfl | rfl | rfl | rfl | rfl <;> exact key _ _ (by omega) (by rw [hx1]; rfl)

theorem array1 {α : Type} {cs : Array α} (h : cs.size = 1) : ∃ c0, cs = #[c0] := by
  obtain ⟨l⟩ := cs
  match l, h with
  | [c0], _ => exact ⟨c0, rfl⟩
theorem cells24 : Tryz.prog.cellsOf 24 = 1 := by kernel_rfl
theorem all_laidOut : laidOutB Tryz.prog = true := by kernel_rfl
theorem all_own : ownKnob Tryz.prog.godebug = none := by kernel_rfl

section
variable {H : Type} {enc : TypeId × Value → H} {W : World}
set_option maxRecDepth 100000 in
theorem code_in {base : Nat} {v0 : Value} {d0 : DataW H} {p0 : List MemPlace} (hv : Value.okWide Tryz.prog W .any base 24 v0) (h0 : ∃ fuel, DataW.trod enc Tryz.prog W 0 (fun _ => true) true fuel 24 v0.cells.toList = some (d0, p0)) (hw : ∀ k ∈ d0.weights Tryz.prog 24, k ≤ reachBytes) : ∃ x, v0 = .agg #[x] ∧ ∃ ps, CdP W x ps ∧ BdP ps := by
  obtain ⟨cs, rfl, hcs⟩ := okWide_struct Tryz.underlying24 hv
  obtain ⟨c0, rfl⟩ := array1 (hcs.trans cells24)
  obtain ⟨fuel, hf⟩ := h0
  obtain ⟨y0, n, hx, _, hy⟩ := trod_struct1 Tryz.underlying24 hf
  simp only [Prod.mk.injEq] at hx
  have hy' : DataW.trod enc Tryz.prog W 0 (fun _ => true) true n 22 [c0] = some y0 := by simpa [Value.cells, cells22] using hy
  have hw' : ∀ k ∈ y0.1.weights Tryz.prog 22, k ≤ reachBytes := fun k hk => hw k (by
    rw [hx.1]
    simp only [DataW.weights, Tryz.underlying24]
    simp [DataW.weightsEach]
    exact hk)
  obtain ⟨l, h1, h2⟩ := cd_sized hy' hw'
  exact ⟨c0, rfl, l, h1, h2⟩
end
end Go.Proofs.YtcgbfhpmkpglkaaGreatDoor
