/- IndexFunc over queues, workTo. -/
import Derived.Test.YtholmeebkgpjjaaM2
namespace Go.Proofs.Ytholmeebkgpjjaa
open Go.RowKit
attribute [local go_sem ↓] Go.wp_at_zero Go.wp_at_succ
set_option linter.unusedVariables false
set_option linter.unusedSimpArgs false

theorem full_any (ao : Option Addr) (n cap : Nat) (w : World) (hn : n ≤ 1000000) : Calls Try.prog 41 #[.slice ao n cap] w fun e w' => e = .returned (.bool (decide (0 < n))) ∧ w = w' := by
  by_cases h : 0 < n
  · have h' : (0 : Int) < (n : Int) := by omega
    go_enter Try.func41, Try.ntmps41
    go_wp2
    go_ret
    exact ⟨ret_bool (by simp [h]), rfl⟩
  · have h' : n = 0 := by omega
    subst h'
    go_enter Try.func41, Try.ntmps41
    go_wp2
    go_ret
    exact ⟨ret_bool (by simp), rfl⟩
def fqV (o : Option Nat) : Int := match o with
  | some i => i
  | none => -1
set_option maxHeartbeats 2000000 in
theorem index_any (qb L : Nat) (q : Nat → List Jb) (qm : Nat → Qm) (w : World) (hL : L ≤ 16) (hq : w.heap[qb]? = some (.cells (qcells L q qm).toArray 65)) (hn : ∀ i, i < L → (q i).length ≤ 1000000) :
    Calls Try.prog 40 #[.slice (some ⟨qb, 0, none⟩) L L, .func (.func 41) #[] #[]] w fun e w' => e = .returned (.int .i64 (fqV (firstQ L q))) ∧ w = w' := by
  have HC : Hid (∀ i, i < L → w.cell? ⟨qb, i, none⟩ = some (.slice (qm i).ao (q i).length (qm i).cap)) := fun i hi => by rw [at_cell hq]; exact qcells_get hi
  have HN : Hid (∀ i, i < L → (q i).length ≤ 1000000) := hn
  clear hq hn
  go_enter Try.func40, Try.ntmps40
  go_wp2_with fail
  go_loop [8] (fun s => ∃ k : Nat, k ≤ L ∧ s = .int .i64 k ∧ Hid (∀ x, x < k → q x = [])) (fun s => L - (intOf s).toNat)
  case atStart => exact ⟨0, Nat.zero_le _, rfl, fun x hx => by omega⟩
  case round =>
    obtain ⟨k, hk, rfl, HE⟩ := hrel
    by_cases hlt : k < L
    · have hc := HC.out k hlt
      have hn := HN.out k hlt
      have hemp : (q k).length = 0 → q k = [] := List.length_eq_zero_iff.1
      have hne : 0 < (q k).length → firstQ L q = some k := fun h => firstQ_some.2 ⟨hlt, fun e => by rw [e] at h; simp at h, HE.out⟩
      generalize (q k).length = n at *
      generalize (qm k).ao = ao at *
      generalize (qm k).cap = cap at *
      have i1 : (0 : Int) ≤ (k : Int) := by omega
      have i2 : (k : Int) < (L : Int) := by omega
      have cF := full_any ao n cap w hn
      by_cases h0 : 0 < n
      · have HF : Hid (firstQ L q = some k) := hne h0
        rw [decide_eq_true h0] at cF
        clear hemp hne
        go_wp2_with (first | (go_at_call 41; refine cF.mono ?_; rintro e w' ⟨rfl, rfl⟩))
        go_ret
        refine ⟨?_, rfl⟩
        rw [HF.out]
        rfl
      · have HF : Hid (∀ x, x < k + 1 → q x = []) := fun x hx => by
          rcases Nat.lt_or_ge x k with h1 | h1
          · exact HE.out x h1
          · rw [show x = k by omega]; exact hemp (by omega)
        rw [decide_eq_false h0] at cF
        clear hemp hne
        go_wp2_with (first | (go_at_call 41; refine cF.mono ?_; rintro e w' ⟨rfl, rfl⟩))
        go_round
        case rel => exact ⟨k + 1, by omega, by go_num, HF.out⟩
        case measure => simp [intOf]; omega
    · have HF : Hid (firstQ L q = none) := firstQ_none.2 (fun i hi => HE.out i (by omega))
      go_wp2
      go_ret
      refine ⟨?_, rfl⟩
      rw [HF.out]
      rfl
def JbOk (L : Nat) (q : Nat → List Jb) : Prop := ∀ i, i < L → ∀ j, j ∈ q i → 1 ≤ j.left ∧ j.left ≤ 1000000
theorem JbOk.work1 {L : Nat} {s : Ps} {i : Nat} {e : Int} (h : JbOk L s.q) (hi : i < L) (he : s.now < e) : JbOk L (work1 i e s).q := by
  unfold Go.Proofs.Ytholmeebkgpjjaa.work1
  cases hq : s.q i with
  | nil => exact h
  | cons j r =>
    dsimp only
    intro k hk x hx
    by_cases e' : k = i
    · subst e'
      rw [upd_same] at hx
      have hj := h k hi j (by rw [hq]; simp)
      split at hx
      · exact h k hk x (by rw [hq]; simp [hx])
      · rcases List.mem_cons.1 hx with rfl | hx
        · dsimp only; omega
        · exact h k hk x (by rw [hq]; simp [hx])
    · rw [upd_other _ _ e'] at hx
      exact h k hk x hx
theorem putS_len (o : List Sl) (x : Sl) : (putS o x).length ≤ o.length + 1 := by
  unfold putS
  cases hl : o.getLast? with
  | none => simp
  | some k =>
    dsimp only
    split
    · simp
    · simp
theorem work1_meas {s : Ps} {i : Nat} {e : Int} {L : Nat} (h : JbOk L s.q) (hi : i < L) (hne : s.q i ≠ []) (h1 : s.now < e) : s.now < (work1 i e s).now ∧ (work1 i e s).now ≤ e ∧ (work1 i e s).out.length ≤ s.out.length + 1 ∧ ∀ k, ((work1 i e s).q k).length ≤ (s.q k).length := by
  unfold work1
  cases hq : s.q i with
  | nil => exact (hne hq).elim
  | cons j r =>
    have hj := h i hi j (by rw [hq]; simp)
    dsimp only
    refine ⟨by omega, by omega, putS_len _ _, fun k => ?_⟩
    unfold upd
    split
    · rename_i e'
      subst e'
      rw [hq]
      split
      · simp
      · simp
    · exact Nat.le_refl _
/-- Up to a moment. -/
theorem workN_step {L : Nat} {e : Int} {n : Nat} {s : Ps} {i : Nat} (h1 : s.now < e) (hf : firstQ L s.q = some i) : workN L e (n + 1) s = workN L e n (work1 i e s) := by
  conv => lhs; unfold workN
  rw [if_pos h1, hf]
theorem workN_idle {L : Nat} {e : Int} {n : Nat} {s : Ps} (h1 : s.now < e) (hf : firstQ L s.q = none) : workN L e (n + 1) s = { s with now := e } := by
  unfold workN
  rw [if_pos h1, hf]
theorem workN_end {L : Nat} {e : Int} {n : Nat} {s : Ps} (h1 : ¬ s.now < e) : workN L e n s = s := by
  cases n with
  | zero => rfl
  | succ n => unfold workN; rw [if_neg h1]
set_option maxHeartbeats 4000000 in
theorem workTo_any (w0 : World) (Fr : Nat → Obj → Prop) (B pb qb L : Nat) (s : Ps) (qm : Nat → Qm) (pa : Option Addr) (pc : Nat) (e : Int) (w : World) (h : ProcAt w0 Fr B pb qb L s qm pa pc w)
    (hL : L ≤ 16) (hl : s.out.length ≤ 50000) (h0 : 0 ≤ s.now) (h2 : e ≤ 20000) (hj : JbOk L s.q) (hn : ∀ i, i < L → (s.q i).length ≤ 1000000) :
    Calls Try.prog 29 #[.pointer (some ⟨pb, 0, none⟩), .int .i64 e] w (WorkP w0 Fr B pb qb L (workTo L e s)) := by
  go_enter Try.func29, Try.ntmps29
  go_wp2_with fail
  go_loopg [4] (e - s.now).toNat (fun gk _ wx => ∃ (s' : Ps) (qm' : Nat → Qm) (pa' : Option Addr) (pc' : Nat), Hid (ProcAt w0 Fr B pb qb L s' qm' pa' pc' wx) ∧ Hid (∃ n, gk ≤ n ∧ workN L e n s' = workTo L e s) ∧ Hid (JbOk L s'.q) ∧ Hid (∀ i, i < L → (s'.q i).length ≤ 1000000) ∧ 0 ≤ s'.now ∧ gk = (e - s'.now).toNat ∧ s'.out.length + gk ≤ 80000)
  case atStart => exact ⟨s, qm, pa, pc, h, hide ⟨_, Nat.le_refl _, rfl⟩, hj, hn, h0, rfl, by omega⟩
  case round =>
    obtain ⟨s', qm', pa', pc', HP, HT, HJ, HN, h0', hgk, ho⟩ := hrel
    have p0 : wr.cell? ⟨pb, 0, none⟩ = some (.int .i64 s'.now) := at_cell HP.out.p 0
    have pz := at_frozen HP.out.p 0
    have p1 : wr.cell? ⟨pb, 1, none⟩ = some (.slice (some ⟨qb, 0, none⟩) L L) := at_cell HP.out.p 1
    have HGK : Hid (gk = (e - s'.now).toNat) := hgk
    by_cases hlt : s'.now < e
    · have cI := index_any qb L s'.q qm' wr hL HP.out.q HN.out
      obtain ⟨n1, hn1, hT1⟩ := HT.out
      obtain ⟨n, hgn⟩ : ∃ n, n1 = n + 1 := ⟨n1 - 1, by omega⟩
      cases hf : firstQ L s'.q with
      | none =>
        rw [hf] at cI
        have hfq : fqV none = -1 := rfl
        rw [hfq] at cI
        clear hfq
        have HF : Hid (workTo L e s = { s' with now := e }) := by
          rw [← hT1, hgn]
          exact hide (workN_idle hlt hf)
        have HP2 : Hid (ProcAt w0 Fr B pb qb L { s' with now := e } qm' pa' pc' (wr.setCell ⟨pb, 0, none⟩ (.int .i64 e))) := HP.out.setNow e
        clear hf hT1
        go_wp2_with (first | (go_at_call 40; refine cI.mono ?_; rintro e w' ⟨rfl, rfl⟩))
        refine bodyPost_ret (results_none rfl _ _ _) rfl ?_
        exact ⟨rfl, qm', pa', pc', by rw [HF.out]; exact HP2.out⟩
      | some i =>
        rw [hf] at cI
        have hfq : fqV (some i) = (i : Int) := rfl
        rw [hfq] at cI
        clear hfq
        obtain ⟨hi, hne, _⟩ := firstQ_some.1 hf
        obtain ⟨j, r, hjr⟩ : ∃ j r, s'.q i = j :: r := by
          cases hq : s'.q i with
          | nil => exact (hne hq).elim
          | cons j r => exact ⟨j, r, rfl⟩
        have hjo := HJ.out i hi j (by rw [hjr]; simp)
        have cW := work_any w0 Fr B pb qb L s' qm' pa' pc' i e j r wr HP.out hi hL hjr (by omega) h0' hlt h2 hjo.1 hjo.2
        have hme := work1_meas HJ.out hi hne hlt
        have HJ2 : Hid (JbOk L (work1 i e s').q) := HJ.out.work1 hi hlt
        have HN2 : Hid (∀ k, k < L → ((work1 i e s').q k).length ≤ 1000000) := fun k hk => Nat.le_trans (hme.2.2.2 k) (HN.out k hk)
        have HT2 : Hid (∀ m, (e - (work1 i e s').now).toNat ≤ m → True) := fun _ _ => trivial
        have HT3 : Hid (workN L e n (work1 i e s') = workTo L e s) := by
          rw [← hT1, hgn]
          exact hide (workN_step hlt hf).symm
        have h5 := hme.1
        have h6 := hme.2.1
        have h7 := hme.2.2.1
        generalize hs2 : work1 i e s' = s2 at *
        have ii : ¬ ((i : Int) < 0) := by omega
        clear hf hne hme hjr hs2 hT1
        go_wp2_with (first | (go_at_call 40; refine cI.mono ?_; rintro e w' ⟨rfl, rfl⟩) | (go_at_call 42; refine cW.mono ?_; rintro e w2 ⟨rfl, qm2, pa2, pc2, HP2⟩))
        have hgl := HGK.out
        have HP3 : Hid (ProcAt w0 Fr B pb qb L s2 qm2 pa2 pc2 w2) := HP2
        go_roundg (e - s2.now).toNat
        all_goals first | omega | exact ⟨s2, qm2, pa2, pc2, HP3.out, hide ⟨n, by omega, HT3.out⟩, HJ2.out, HN2.out, by omega, rfl, by omega⟩
    · have HF : Hid (workTo L e s = s') := by
        obtain ⟨n1, _, hT1⟩ := HT.out
        rw [← hT1]
        exact hide (workN_end hlt)
      clear hgk
      go_wp2
      go_end0
      exact ⟨rfl, qm', pa', pc', by rw [HF.out]; exact HP.out⟩
end Go.Proofs.Ytholmeebkgpjjaa
