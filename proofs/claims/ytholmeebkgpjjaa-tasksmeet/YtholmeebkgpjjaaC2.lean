/- The document's Takes and Tasked. -/
import Derived.Test.YtholmeebkgpjjaaC
namespace Go.Proofs.Ytholmeebkgpjjaa
open Go.RowKit
attribute [local go_sem ↓] Go.wp_at_zero Go.wp_at_succ
set_option linter.unusedVariables false
set_option linter.unusedSimpArgs false

def takV (o : Option Nat) (D : Int) : Int := match o with
  | some s => s + 1
  | none => D + 1
set_option maxHeartbeats 1000000 in
theorem takes_any (l : List Tk) (i : Nat) (D : Int) (v : Value) (w : World) (ho : Oks l) (hl : l.length ≤ 16) (hi : i < l.length) (h0 : 1 ≤ D) (h1 : D ≤ 1000000) (hv : TsAt w v l) :
    Calls Try.prog 21 #[v, .int .i64 i, .int .i64 D] w fun e w' => e = .returned (.int .i64 (takV (lfp (l.getD i tk0).cost (l.take i) D.toNat) D)) ∧ w.grownBy w' none := by
  obtain ⟨a, cap, rfl, hcap, _⟩ := id hv
  have hoki := (ok_iff _).1 (ho.at i hi)
  have hbase := taken_bd (ho.take i) 1 (by omega) (by omega)
  have hS0 := Sought.one (ho.take i) (c := (l.getD i tk0).cost) (by omega) hbase.1
  have cN : ∀ r : Int, 0 ≤ r → r ≤ 1000000 → Calls Try.prog 31 #[.int .i64 r, .pointer (some ⟨w.heap.size, 0, none⟩), .pointer (some ⟨w.heap.size + 1, 0, none⟩)] ((w.alloc (.cells #[.slice a l.length cap] 22)).alloc (.cells #[.int .i64 i] 3)) fun e w' => e = .returned (.int .i64 (need (l.getD i tk0).cost (l.take i) r)) ∧ (w.alloc (.cells #[.slice a l.length cap] 22)).alloc (.cells #[.int .i64 i] 3) = w' := fun r hr0 hr1 =>
    need_any l i r _ _ _ _ ho hl hi hr0 hr1 (hv.grown (gr_alloc (gr_alloc (World.grownBy.refl _ _) _) _)) (by
      rw [at_cell ((hp_old (by simp) _).trans (heap_alloc_new w _)) 0]; rfl) (by
      rw [at_cell (hp_new (by simp) _) 0]; rfl)
  have hlen : ((l.take i).length : Int) ≤ 16 := by simp; omega
  have hnb : ∀ r : Int, 0 ≤ r → r ≤ 1000000 → need (l.getD i tk0).cost (l.take i) r ≤ 17000000000000 := fun r hr0 hr1 => by
    have := taken_bd (ho.take i) r hr0 hr1
    unfold need; omega
  have HN := fun r (h : Sought (l.getD i tk0).cost (l.take i) r) (hne : need (l.getD i tk0).cost (l.take i) r ≠ r) => h.next (ho.take i) hne
  generalize (l.getD i tk0).cost = c at *
  generalize l.take i = la at *
  go_enter Try.func21, Try.ntmps21
  go_wp2
  go_loop [8, 9] (fun r _ => ∃ k : Int, r = .int .i64 k ∧ Sought c la k) (fun r _ => (1000001 - intOf r).toNat)
  case atStart => exact ⟨_, rfl, hS0⟩
  case round =>
    obtain ⟨k, rfl, hs⟩ := hrel
    have hk1 : 1 ≤ k := hs.1
    by_cases hd : k ≤ D
    · have cK := cN k (by omega) (by omega)
      have hb := hnb k (by omega) (by omega)
      have hk2 := hs.2.1
      have hn := HN k hs
      have hfo := hs.found (D := D.toNat)
      have HS : Hid (Sought c la k) := hs
      generalize need c la k = N at *
      have HN' : Hid (N ≠ k → Sought c la N ∧ k < N) := hn
      have HF' : Hid (N = k → k ≤ D.toNat → lfp c la D.toNat = some (k - 1).toNat) := hfo
      clear cN hnb HN hS0 hn hfo hs
      by_cases he : N = k
      · have hx := HF'.out he (by omega)
        have HX : Hid (takV (lfp c la D.toNat) D = k) := by
          have e : takV (lfp c la D.toNat) D = k := by rw [hx]; unfold takV; simp only; omega
          exact e
        have hb2 : (N == k) = true := by simp [he]
        clear hx
        subst he
        go_wp2_with (first | (go_at_call 31; refine cK.mono ?_; rintro e w' ⟨rfl, rfl⟩))
        go_ret
        exact ⟨ret_int HX.out.symm, gr_alloc (gr_alloc (World.grownBy.refl _ _) _) _⟩
      · obtain ⟨hn1, hn2⟩ := HN'.out he
        have HN1 : Hid (Sought c la N) := hn1
        have hb2 : (N == k) = false := by simp [he]
        clear hn1 he
        go_wp2_with (first | (go_at_call 31; refine cK.mono ?_; rintro e w' ⟨rfl, rfl⟩))
        go_round
        case rel => exact ⟨_, rfl, HN1.out⟩
        case measure => simp [intOf]; omega
    · have hover := hs.over (D := D.toNat) (by omega)
      have HX : Hid (takV (lfp c la D.toNat) D = D + 1) := by
        have e : takV (lfp c la D.toNat) D = D + 1 := by rw [hover]; rfl
        exact e
      clear hover
      go_wp2
      go_ret
      exact ⟨ret_int HX.out.symm, gr_alloc (gr_alloc (World.grownBy.refl _ _) _) _⟩

set_option maxHeartbeats 4000000 in
theorem tasked_any (l : List Tk) (v : Value) (w : World) (hm : l.length ≤ maxLen) (hv : TsAt w v l) :
    Calls Try.prog 20 #[v] w fun e w' => e = .returned (flV (lookS l)) ∧ w.grownBy w' none := by
  obtain ⟨a, cap, rfl, hcap, _⟩ := id hv
  unfold maxLen at hm
  by_cases hl : l.length < 1 ∨ 16 < l.length
  · rw [look_size hl]
    rcases hl with h1 | h1
    all_goals
      go_enter Try.func20, Try.ntmps20
      go_wp2
      exact bodyPost_ret (v := .agg #[.int .i64 4, .int .i64 0, .int .i64 0]) (by simp [results, Try.results20, go_sem]) rfl ⟨rfl, by first | exact gr_own (gr_alloc (World.grownBy.refl _ _) _) (Nat.le_refl _) _ _ | exact gr_alloc (World.grownBy.refl _ _) _⟩
  · have h1 : ¬ (l.length : Int) < 1 := by omega
    have h2 : ¬ (16 : Int) < (l.length : Int) := by omega
    go_enter Try.func20, Try.ntmps20
    go_wp2
    go_loopw [3] (fun i wx => ∃ k : Nat, k ≤ l.length ∧ i = .int .i64 k ∧ (∀ j, j < k → okB (l.getD j tk0) = true) ∧ (w.alloc (.cells #[.int .i64 0, .int .i64 0, .int .i64 0] 26)).grownBy wx none) (fun i _ => l.length - (intOf i).toNat)
    case atStart => exact ⟨0, Nat.zero_le _, rfl, fun j hj => by omega, World.grownBy.refl _ _⟩
    case round =>
      obtain ⟨k, hk, rfl, hoks, hg⟩ := hrel
      obtain ⟨hbl, f0, f1, f2, z0, z1, z2, hgw⟩ := flt hg
      by_cases hlt : k < l.length
      · obtain ⟨b, off, cap', he, hc⟩ := (hv.grown hgw).at (by omega)
        injection he with e1 e2 e3
        subst e1 e3
        obtain ⟨c0, c1, c2, c3, c4⟩ := hc k hlt
        have HL := look_some (l := l) hl hlt
        have HO : ∀ (h : okB (l.getD k tk0) = true) j, j < k + 1 → okB (l.getD j tk0) = true := fun h j hj => by
          rcases Nat.lt_or_ge j k with h1 | h1
          · exact hoks j h1
          · rw [show j = k by omega]; exact h
        have HL' : Hid (okB (l.getD k tk0) = false → lookS l = (19, (k : Int))) := fun h => HL h hoks
        have HO' : Hid (okB (l.getD k tk0) = true → ∀ j, j < k + 1 → okB (l.getD j tk0) = true) := HO
        have HV : Hid (TsAt w (.slice (some ⟨b, off, none⟩) l.length cap) l) := hv
        have HGW : Hid (w.grownBy wr none) := hgw
        have HG : Hid ((w.alloc (.cells #[.int .i64 0, .int .i64 0, .int .i64 0] 26)).grownBy wr none) := hg
        clear hc HL HO hoks hv hgw hg
        generalize l.getD k tk0 = t at *
        have hnF : ¬ (1 ≤ t.per ∧ t.per ≤ 1000000 ∧ 0 ≤ t.off ∧ t.off ≤ 1000000 ∧ 1 ≤ t.cost ∧ t.cost ≤ t.per ∧ 1 ≤ t.dead ∧ t.dead ≤ t.per) → okB t = false := fun h => by unfold okB; exact decide_eq_false h
        have hnT : (1 ≤ t.per ∧ t.per ≤ 1000000 ∧ 0 ≤ t.off ∧ t.off ≤ 1000000 ∧ 1 ≤ t.cost ∧ t.cost ≤ t.per ∧ 1 ≤ t.dead ∧ t.dead ≤ t.per) → okB t = true := fun h => (ok_iff t).2 h
        have HNF : Hid (¬ (1 ≤ t.per ∧ t.per ≤ 1000000 ∧ 0 ≤ t.off ∧ t.off ≤ 1000000 ∧ 1 ≤ t.cost ∧ t.cost ≤ t.per ∧ 1 ≤ t.dead ∧ t.dead ≤ t.per) → okB t = false) := hnF
        have HNT : Hid ((1 ≤ t.per ∧ t.per ≤ 1000000 ∧ 0 ≤ t.off ∧ t.off ≤ 1000000 ∧ 1 ≤ t.cost ∧ t.cost ≤ t.per ∧ 1 ≤ t.dead ∧ t.dead ≤ t.per) → okB t = true) := hnT
        clear hnF hnT
        go_wp2
        case roundEnd => exact ⟨⟨k + 1, by omega, by go_num, HO'.out (HNT.out (by omega)), gr_alloc HG.out _⟩, by simp [intOf]; omega⟩
        all_goals
          have hF := HL'.out (HNF.out (by omega))
          refine bodyPost_ret (v := .agg #[.int .i64 19, .int .i64 k, .int .i64 0]) (by simp [results, Try.results20, go_sem, f0, f1, f2, hbl]) rfl ⟨by rw [hF]; rfl, ?_⟩
          exact gr_alloc (gr_own (gr_own (gr_own HGW.out (Nat.le_refl _) _ _) (Nat.le_refl _) _ _) (Nat.le_refl _) _ _) _
      · have HF : Hid (lookS l = (0, 0)) := look_none (l := l) hl (fun i hi => hoks i (by omega))
        go_wp2
        refine bodyPost_ret (v := .agg #[.int .i64 0, .int .i64 0, .int .i64 0]) (by simp [results, Try.results20, go_sem, f0, f1, f2]) rfl ⟨by rw [HF.out]; rfl, ?_⟩
        first | exact gr_own (gr_own (gr_own hgw (Nat.le_refl _) _ _) (Nat.le_refl _) _ _) (Nat.le_refl _) _ _ | exact hgw
end Go.Proofs.Ytholmeebkgpjjaa
