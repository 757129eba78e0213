/- The document's Takes and Tasked. -/
import Derived.Test.YtholmeebkgpjjaaA4
namespace Go.Proofs.Ytholmeebkgpjjaa
open Go.RowKit
attribute [local go_sem ↓] Go.wp_at_zero Go.wp_at_succ
set_option linter.unusedVariables false
set_option linter.unusedSimpArgs false

set_option maxHeartbeats 1000000 in
theorem need_any (l : List Tk) (i : Nat) (r : Int) (p q : Nat) (v : Value) (w : World) (ho : Oks l) (hl : l.length ≤ 16) (hi : i < l.length) (h0 : 0 ≤ r) (h1 : r ≤ 1000000)
    (hv : TsAt w v l) (hp : w.cell? ⟨p, 0, none⟩ = some v) (hq : w.cell? ⟨q, 0, none⟩ = some (.int .i64 i)) :
    Calls Try.prog 31 #[.int .i64 r, .pointer (some ⟨p, 0, none⟩), .pointer (some ⟨q, 0, none⟩)] w fun e w' => e = .returned (.int .i64 (need (l.getD i tk0).cost (l.take i) r)) ∧ w = w' := by
  obtain ⟨b, off, cap, rfl, hc⟩ := hv.at (by omega)
  have hc3 := (hc i hi).2.2.2.1
  have HC : Hid (∀ i, i < l.length → w.cell? ⟨b, off + i * 5, none⟩ = some (.string (l.getD i tk0).name) ∧ w.cell? ⟨b, off + i * 5 + 1, none⟩ = some (.int .i64 (l.getD i tk0).per) ∧ w.cell? ⟨b, off + i * 5 + 2, none⟩ = some (.int .i64 (l.getD i tk0).off) ∧ w.cell? ⟨b, off + i * 5 + 3, none⟩ = some (.int .i64 (l.getD i tk0).cost) ∧ w.cell? ⟨b, off + i * 5 + 4, none⟩ = some (.int .i64 (l.getD i tk0).dead)) := hc
  clear hc
  have hoki := (ok_iff _).1 (ho.at i hi)
  generalize l.getD i tk0 = ti at *
  go_enter Try.func31, Try.ntmps31
  go_wp2
  go_loop [5, 6, 7] (fun n k _ => ∃ j : Nat, j ≤ i ∧ k = .int .i64 j ∧ n = .int .i64 (need ti.cost (l.take j) r)) (fun _ k _ => i - (intOf k).toNat)
  case atStart => exact ⟨0, Nat.zero_le _, rfl, by simp [need, taken]⟩
  case round =>
    obtain ⟨j, hj, rfl, rfl⟩ := hrel
    by_cases hlt : j < i
    · obtain ⟨c0, c1, c2, c3, c4⟩ := HC.out j (by omega)
      have hok := (ok_iff _).1 (ho.at j (by omega))
      have hts := taken_take l j r (by omega)
      have htb := taken_bd (ho.take j) r h0 h1
      have hub := up_bd (n := r) (p := (l.getD j tk0).per) (by omega) h0
      have hur := up_ref (n := r) (p := (l.getD j tk0).per) (by omega) h0
      have hpb := prod_bd (c := (l.getD j tk0).cost) (u := up r (l.getD j tk0).per) (by omega) (by omega) hub.1 (by omega)
      have hlen : ((l.take j).length : Int) ≤ 16 := by simp; omega
      have HS : Hid (need ti.cost (l.take (j + 1)) r = need ti.cost (l.take j) r + up r (l.getD j tk0).per * (l.getD j tk0).cost) := by
        have e : need ti.cost (l.take (j + 1)) r = need ti.cost (l.take j) r + up r (l.getD j tk0).per * (l.getD j tk0).cost := by
          unfold need; rw [hts, Int.mul_comm (up r _)]; omega
        exact e
      have hnb : 0 ≤ need ti.cost (l.take j) r ∧ need ti.cost (l.take j) r ≤ 17000000000000 := by unfold need; omega
      rw [Int.mul_comm] at hpb
      clear hts htb
      generalize l.getD j tk0 = t at *
      generalize need ti.cost (l.take j) r = N at *
      have h5 : 0 ≤ r / t.per := Int.ediv_nonneg h0 (by omega)
      have h6 : 0 ≤ r % t.per := Int.emod_nonneg _ (by omega)
      by_cases hm : 0 < r % t.per
      · rw [if_pos hm] at hur
        rw [hur] at HS hub hpb
        have HS' : Hid (need ti.cost (l.take (j + 1)) r = N + (r / t.per + 1) * t.cost) := HS
        clear hur HS
        go_wp2
        go_round
        case rel => exact ⟨j + 1, by omega, by go_num, by rw [HS'.out]⟩
        case measure => simp [intOf]; omega
      · rw [if_neg hm] at hur
        rw [hur] at HS hub hpb
        have HS' : Hid (need ti.cost (l.take (j + 1)) r = N + (r / t.per) * t.cost) := HS
        clear hur HS
        go_wp2
        go_round
        case rel => exact ⟨j + 1, by omega, by go_num, by rw [HS'.out]⟩
        case measure => simp [intOf]; omega
    · go_wp2
      go_ret
      exact ⟨ret_int (by rw [show j = i by omega]), rfl⟩
end Go.Proofs.Ytholmeebkgpjjaa
