/- What ton and tof answer while an input lasts; masks. -/
import Derived.Test.YtphnadhkoigegaaL1
import Derived.Test.YtphnadhkoigegaaM
namespace Go.Proofs.Ytphnadhkoigegaa
open Go.RowKit
set_option linter.unusedVariables false

theorem mask_bd (n m : Int) (h0 : 0 ≤ m) (h1 : m ≤ 4294967295) : 0 ≤ bits .and .i64 n m ∧ bits .and .i64 n m ≤ m := by
  unfold bits
  have e : (BitVec.ofInt IntKind.i64.bits n &&& BitVec.ofInt IntKind.i64.bits m).toNat ≤ m.toNat := by
    show (BitVec.ofInt 64 n &&& BitVec.ofInt 64 m).toNat ≤ _
    rw [BitVec.toNat_and]
    refine Nat.le_trans Nat.and_le_right ?_
    rw [BitVec.toNat_ofInt]
    have : m % ((2 ^ 64 : Nat) : Int) = m := Int.emod_eq_of_lt h0 (by omega)
    rw [this]
    exact Nat.le_refl _
  obtain ⟨q, hq⟩ : ∃ q, (BitVec.ofInt IntKind.i64.bits n &&& BitVec.ofInt IntKind.i64.bits m).toNat = q := ⟨_, rfl⟩
  rw [hq] at e
  simp only [hq]
  rw [IntWalk.i64_left]
  unfold wrap64
  omega

/-- ton's state while its input has been on for H (-1: it is not). -/
def OnI (N H : Int) (late : Bool) (l : List Int) : Prop :=
  (H = -1 ∧ late = false ∧ l = [0, 0, 0, 0]) ∨ (0 ≤ H ∧ H ≤ 4294967295 ∧ ∃ a, 0 ≤ a ∧ a ≤ 4294967295 ∧ l = [1, (N - H) % 4294967296, yesN late, a])
/-- tof's state while its input has been off for L (-1: it is not). -/
def OffI (N L : Int) (held : Bool) (l : List Int) : Prop :=
  (L = -1 ∧ l = [0, 0, yesN held, 0]) ∨ (0 ≤ L ∧ L ≤ 4294967295 ∧ ∃ a, 0 ≤ a ∧ a ≤ 4294967295 ∧ l = if held then [1, (N - L) % 4294967296, 1, a] else [0, 0, 0, a])

theorem wrap4 (a b c d : Int) (ha : a = 0 ∨ a = 1) (hb0 : 0 ≤ b) (hb1 : b ≤ 4294967295) (hc : c = 0 ∨ c = 1) (hd0 : 0 ≤ d) (hd1 : d ≤ 4294967295) : wrapL [1, 5, 1, 5] [a, b, c, d] = [a, b, c, d] := by
  simp only [wrapL, List.length_cons, List.length_nil, if_true, List.zipWith_cons_cons, List.zipWith_nil_right, wrapK1, wrapK5]
  rw [show a % 2 = a by omega, show b % 4294967296 = b by omega, show c % 2 = c by omega, show d % 4294967296 = d by omega]
theorem wrap2 (a b : Int) (ha : a = 0 ∨ a = 1) (hb0 : 0 ≤ b) (hb1 : b ≤ 4294967295) : wrapL [1, 5] [a, b] = [a, b] := by
  simp only [wrapL, List.length_cons, List.length_nil, if_true, List.zipWith_cons_cons, List.zipWith_nil_right, wrapK1, wrapK5]
  rw [show a % 2 = a by omega, show b % 4294967296 = b by omega]
theorem gone_is (N H : Int) (h0 : 0 ≤ H) (h1 : H ≤ 4294967295) : goneN (wrapK 5 N) ((N - H) % 4294967296) = H := by
  unfold goneN
  rw [wrapK5, wrapK5]
  omega
theorem gone_zero (N : Int) : goneN (wrapK 5 N) (wrapK 5 N) = 0 := by
  unfold goneN
  rw [wrapK5]
  omega

theorem on_len {N H : Int} {late : Bool} {l : List Int} (h : OnI N H late l) : l.length = 4 := by
  rcases h with ⟨_, _, rfl⟩ | ⟨_, _, a, _, _, rfl⟩ <;> rfl
theorem off_len {N L : Int} {held : Bool} {l : List Int} (h : OffI N L held l) : l.length = 4 := by
  rcases h with ⟨_, rfl⟩ | ⟨_, _, a, _, _, rfl⟩
  · rfl
  · cases held <;> rfl
theorem on_step {N H : Int} {late : Bool} {l : List Int} (d : Int) (h : OnI N H late l) (hd : 0 ≤ d) (hH : H + d ≤ 4294967295) : OnI (N + d) (if 0 ≤ H then H + d else H) late l := by
  rcases h with ⟨rfl, rfl, rfl⟩ | ⟨h0, h1, a, ha0, ha1, rfl⟩
  · exact .inl ⟨by simp, rfl, rfl⟩
  · rw [if_pos h0]
    exact .inr ⟨by omega, hH, a, ha0, ha1, by rw [show N + d - (H + d) = N - H by omega]⟩
theorem off_step {N L : Int} {held : Bool} {l : List Int} (d : Int) (h : OffI N L held l) (hd : 0 ≤ d) (hH : L + d ≤ 4294967295) : OffI (N + d) (if 0 ≤ L then L + d else L) held l := by
  rcases h with ⟨rfl, rfl⟩ | ⟨h0, h1, a, ha0, ha1, rfl⟩
  · exact .inl ⟨by simp, rfl⟩
  · rw [if_pos h0]
    exact .inr ⟨by omega, hH, a, ha0, ha1, by rw [show N + d - (L + d) = N - L by omega]⟩

/-- ton, its input on: fresh. -/
theorem ton_new {N pt : Int} {late : Bool} {l : List Int} (hp0 : 0 ≤ pt) (hp1 : pt ≤ 4294967295) (h : OnI N (-1) late l) :
    late = false ∧ ∃ l' a', tonF (wrapL [1, 5, 1, 5] l) (wrapL [1, 5] [1, pt]) (wrapK 5 N) = (l', [yesN (decide (pt ≤ 0)), a']) ∧ OnI N 0 (decide (pt ≤ 0)) l' := by
  rcases h with ⟨_, rfl, rfl⟩ | ⟨h0, _⟩
  · refine ⟨rfl, [1, wrapK 5 N, yesN (decide (pt ≤ 0)), min 0 pt], min 0 pt, ?_, .inr ⟨by omega, by omega, min 0 pt, by omega, by omega, by rw [wrapK5]; simp⟩⟩
    rw [wrap4 0 0 0 0 (by simp) (by omega) (by omega) (by simp) (by omega) (by omega), wrap2 1 pt (by simp) hp0 hp1]
    simp only [tonF, gone_zero]
    simp
  · omega
/-- ton, its input on, and it was. -/
theorem ton_old {N H pt : Int} {late : Bool} {l : List Int} (hp0 : 0 ≤ pt) (hp1 : pt ≤ 4294967295) (hH : 0 ≤ H) (h : OnI N H late l) :
    ∃ l' a', tonF (wrapL [1, 5, 1, 5] l) (wrapL [1, 5] [1, pt]) (wrapK 5 N) = (l', [yesN (late || decide (pt ≤ H)), a']) ∧ OnI N H (late || decide (pt ≤ H)) l' := by
  rcases h with ⟨h0, _⟩ | ⟨h0, h1, a, ha0, ha1, rfl⟩
  · omega
  · rw [wrap4 1 ((N - H) % 4294967296) (yesN late) a (by simp) (by omega) (by omega) (bit_yes _) ha0 ha1, wrap2 1 pt (by simp) hp0 hp1]
    simp only [tonF, gone_is N H h0 h1]
    cases late
    · exact ⟨[1, (N - H) % 4294967296, yesN (decide (pt ≤ H)), min H pt], min H pt, by simp [yesN], .inr ⟨h0, h1, min H pt, by omega, by omega, by simp [yesN]⟩⟩
    · exact ⟨[1, (N - H) % 4294967296, 1, a], a, by simp [yesN], .inr ⟨h0, h1, a, ha0, ha1, by simp [yesN]⟩⟩
theorem ton_no {N H pt : Int} {late : Bool} {l : List Int} (hp0 : 0 ≤ pt) (hp1 : pt ≤ 4294967295) (h : OnI N H late l) :
    tonF (wrapL [1, 5, 1, 5] l) (wrapL [1, 5] [0, pt]) (wrapK 5 N) = ([0, 0, 0, 0], [0, 0]) := by
  rw [wrap2 0 pt (by simp) hp0 hp1]
  obtain ⟨a, b, c, d, e⟩ := form4 1 5 1 5 l
  rw [e]
  simp [tonF]
theorem tof_yes {N L pt : Int} {held : Bool} {l : List Int} (hp0 : 0 ≤ pt) (hp1 : pt ≤ 4294967295) (h : OffI N L held l) :
    tofF (wrapL [1, 5, 1, 5] l) (wrapL [1, 5] [1, pt]) (wrapK 5 N) = ([0, 0, 1, 0], [1, 0]) := by
  rw [wrap2 1 pt (by simp) hp0 hp1]
  obtain ⟨a, b, c, d, e⟩ := form4 1 5 1 5 l
  rw [e]
  simp [tofF]
/-- tof, its input off. -/
theorem tof_no {N L L' pt : Int} {held : Bool} {l : List Int} (hp0 : 0 ≤ pt) (hp1 : pt ≤ 4294967295) (hL : L' = if L < 0 then 0 else L) (h : OffI N L held l) :
    ∃ l' a', tofF (wrapL [1, 5, 1, 5] l) (wrapL [1, 5] [0, pt]) (wrapK 5 N) = (l', [yesN (held && decide (L' < pt)), a']) ∧ OffI N L' (held && decide (L' < pt)) l' := by
  rcases h with ⟨rfl, rfl⟩ | ⟨h0, h1, a, ha0, ha1, rfl⟩
  · have e : L' = 0 := by simpa using hL
    subst e
    rw [wrap4 0 0 (yesN held) 0 (by simp) (by omega) (by omega) (bit_yes _) (by omega) (by omega), wrap2 0 pt (by simp) hp0 hp1]
    cases held
    · exact ⟨[0, 0, 0, 0], 0, by simp [tofF, yesN], .inr ⟨by omega, by omega, 0, by omega, by omega, by simp⟩⟩
    · by_cases hq : pt ≤ 0
      · have hq' : ¬ 0 < pt := by omega
        exact ⟨[0, 0, 0, min 0 pt], min 0 pt, by simp [tofF, yesN, gone_zero, hq], .inr ⟨by omega, by omega, min 0 pt, by omega, by omega, by simp [hq']⟩⟩
      · have hq' : 0 < pt := by omega
        exact ⟨[1, wrapK 5 N, 1, min 0 pt], min 0 pt, by simp [tofF, yesN, gone_zero, hq], .inr ⟨by omega, by omega, min 0 pt, by omega, by omega, by simp [hq', wrapK5]⟩⟩
  · have e : L' = L := by rw [hL, if_neg (by omega)]
    subst e
    cases held
    · rw [if_neg (by simp), wrap4 0 0 0 a (by simp) (by omega) (by omega) (by simp) ha0 ha1, wrap2 0 pt (by simp) hp0 hp1]
      exact ⟨[0, 0, 0, a], a, by simp [tofF, yesN], .inr ⟨by omega, by omega, a, ha0, ha1, by simp⟩⟩
    · rw [if_pos rfl, wrap4 1 ((N - L') % 4294967296) 1 a (by simp) (by omega) (by omega) (by simp) ha0 ha1, wrap2 0 pt (by simp) hp0 hp1]
      by_cases hq : pt ≤ L'
      · have hq' : ¬ L' < pt := by omega
        exact ⟨[0, 0, 0, min L' pt], min L' pt, by simp [tofF, yesN, gone_is N L' h0 h1, hq], .inr ⟨by omega, by omega, min L' pt, by omega, by omega, by simp [hq']⟩⟩
      · have hq' : L' < pt := by omega
        exact ⟨[1, (N - L') % 4294967296, 1, min L' pt], min L' pt, by simp [tofF, yesN, gone_is N L' h0 h1, hq], .inr ⟨by omega, by omega, min L' pt, by omega, by omega, by simp [hq']⟩⟩
end Go.Proofs.Ytphnadhkoigegaa
