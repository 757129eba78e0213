/- Plain facts: what a frame tells is what was put into it; a link behind frames and ticks. -/
import Derived.Test.YtaiicehifailhabU
namespace Go.Proofs.Ytaiicehifailhab
set_option linter.unusedVariables false
set_option linter.unusedSimpArgs false

theorem by8_two {x : Int} (h0 : 0 ≤ x) (h1 : x < 65536) : by8 x + 256 * by8 (x / 256) = x.toNat := by
  unfold by8
  omega
theorem pairV_end (l : List Nat) {x : Int} (h0 : 0 ≤ x) (h1 : x < 65536) : pairV (l ++ pairB [x]) l.length = x.toNat := by
  rw [← by8_two h0 h1]
  unfold pairV
  simp [pairB, List.getD_eq_getElem?_getD, List.getElem?_append_right]
theorem pairV_pairB (ls : List Int) (r : List Nat) (h : ls.all okW = true) : ∀ i, i < ls.length → pairV (pairB ls ++ r) (i * 2) = (ls.getD i 0).toNat := by
  induction ls with
  | nil => intro i hi; simp at hi
  | cons x xs ih =>
    intro i hi
    rw [List.all_cons, Bool.and_eq_true] at h
    have hx := wi_iff.1 h.1
    have hp : pairB (x :: xs) = by8 x :: by8 (x / 256) :: pairB xs := by simp [pairB]
    rw [hp]
    cases i with
    | zero =>
      show by8 x + 256 * by8 (x / 256) = x.toNat
      exact by8_two hx.1 (by omega)
    | succ i =>
      have := ih h.2 i (by simpa using hi)
      rw [show (i + 1) * 2 = (i * 2) + 2 by omega]
      simpa [pairV, List.getD_eq_getElem?_getD] using this
theorem frameE_parts {st sq : Int} {ls : List Int} (h : frameE st sq ls = 0) : (0 ≤ st ∧ st ≤ 247) ∧ (0 ≤ sq ∧ sq ≤ 255) ∧ ls.length ≤ 60 ∧ ls.all okW = true := by
  unfold frameE at h
  split at h
  · rename_i k
    rw [Bool.and_eq_true, wi_iff, wi_iff] at k
    refine ⟨k.1, k.2, ?_⟩
    unfold lookE at h
    split at h
    · omega
    · split at h
      · rename_i k2; exact ⟨by omega, k2⟩
      · omega
  · omega
theorem frameS_B (st sq : Int) (ls : List Int) : isB (frameS st sq ls) := by
  unfold frameS
  split
  · exact isB_app (headF_B _ _ _) (pairB_B _)
  · intro x hx; simp at hx
theorem open_frame {st sq : Int} {ls : List Int} (h : frameE st sq ls = 0) : openE (frameS st sq ls) = 0 ∧ openS (frameS st sq ls) = st.toNat ∧ openQ (frameS st sq ls) = sq.toNat ∧ openW (frameS st sq ls) = ls := by
  obtain ⟨⟨s1, s2⟩, ⟨q1, q2⟩, hl, ho⟩ := frameE_parts h
  have hF : frameS st sq ls = headF st sq ls ++ pairB [((crc (headF st sq ls) : Nat) : Int)] := by unfold frameS; rw [if_pos h]
  have hC := crc_lt (headF_B st sq ls)
  have hHl := headF_len st sq ls
  rw [hF]
  have hE : pairV (headF st sq ls ++ pairB [((crc (headF st sq ls) : Nat) : Int)]) (headF st sq ls).length = crc (headF st sq ls) := by
    rw [pairV_end _ (by omega) (by omega)]; simp
  obtain ⟨c, hc⟩ : ∃ c, crc (headF st sq ls) = c := ⟨_, rfl⟩
  rw [hc] at hE hC ⊢
  have hlen : (headF st sq ls ++ pairB [(c : Int)]).length = 2 * ls.length + 5 := by rw [List.length_append, hHl, pairB_len]; simp; omega
  have hcons : headF st sq ls ++ pairB [(c : Int)] = by8 st :: by8 sq :: by8 ls.length :: (pairB ls ++ pairB [(c : Int)]) := by simp [headF]
  have g0 : (headF st sq ls ++ pairB [(c : Int)]).getD 0 0 = st.toNat := by rw [hcons]; show by8 st = _; unfold by8; omega
  have g1 : (headF st sq ls ++ pairB [(c : Int)]).getD 1 0 = sq.toNat := by rw [hcons]; show by8 sq = _; unfold by8; omega
  have g2 : (headF st sq ls ++ pairB [(c : Int)]).getD 2 0 = ls.length := by rw [hcons]; show by8 ls.length = _; unfold by8; omega
  have hz : openE (headF st sq ls ++ pairB [(c : Int)]) = 0 := by
    unfold openE
    rw [if_neg (by omega), g2, if_neg (by rw [hlen]; simp), if_neg, g0, if_neg (by omega), if_neg (by omega)]
    have e : (headF st sq ls ++ pairB [(c : Int)]).length - 2 = (headF st sq ls).length := by omega
    rw [e, hE]
    rw [List.take_left, hc]
    simp
  refine ⟨hz, ?_, ?_, ?_⟩
  · unfold openS; rw [if_pos hz, g0]
  · unfold openQ; rw [if_pos hz, g1]
  · unfold openW
    rw [if_pos hz, g2, hcons]
    apply List.ext_getElem
    · simp [wordsOf]
    · intro i h1 h2
      simp only [wordsOf, List.getElem_map, List.getElem_range]
      have := pairV_pairB ls (pairB [(c : Int)]) ho i h2
      simp only [List.drop_succ_cons, List.drop_zero]
      rw [this]
      have hx := wi_iff.1 (List.all_eq_true.1 ho ls[i] (List.getElem_mem _))
      have : ls.getD i 0 = ls[i] := by simp [List.getD, h2]
      rw [this]
      omega
/-- The frame that is sent as the n-th. -/
def frN (n : Nat) : List Nat := frameS 5 (((n % 256 : Nat)) : Int) [(n : Int), 1000 - (n : Int)]
theorem frN_E {n : Nat} (h : n < 400) : frameE 5 (((n % 256 : Nat)) : Int) [(n : Int), 1000 - (n : Int)] = 0 := by
  unfold frameE
  rw [wi_yes (by omega) (by omega), wi_yes (by omega) (by omega)]
  unfold lookE
  simp [wi_yes (lo := 0) (hi := 65535) (n := (n : Int)) (by omega) (by omega), wi_yes (lo := 0) (hi := 65535) (n := 1000 - (n : Int)) (by omega) (by omega)]
theorem frN_open {n : Nat} (h : n < 400) : openE (frN n) = 0 ∧ openS (frN n) = 5 ∧ openQ (frN n) = n % 256 ∧ openW (frN n) = [(n : Int), 1000 - (n : Int)] := by
  obtain ⟨a, b, c, d⟩ := open_frame (frN_E h)
  exact ⟨a, b, c.trans (Int.toNat_natCast _), d⟩
theorem frN_B (n : Nat) : isB (frN n) := frameS_B _ _ _
theorem frN_len (n : Nat) : (frN n).length ≤ 125 := frameS_len _ _ _
/-- How a link stands: what is newest (-1: nothing), ticks since then. -/
def Stt (wt : Nat) (nw : Int) (qt : Nat) (L : Lk) : Prop :=
  L.st = 5 ∧ L.wa = (wt : Int) ∧ L.sa = [0, 65535] ∧ (0 ≤ L.sq ∧ L.sq ≤ 255) ∧ (1 ≤ wt ∧ wt ≤ 6) ∧
    ((nw = -1 ∧ L.wo = [0, 65535] ∧ L.ag = 0 ∧ L.fr = false) ∨ ((0 ≤ nw ∧ nw < 400) ∧ L.wo = [nw, 1000 - nw] ∧ L.sq = nw % 256 ∧ L.ag = (qt : Int) ∧ qt < wt ∧ L.fr = true))
theorem stt_could {wt qt : Nat} {nw : Int} {L : Lk} (h : Stt wt nw qt L) : couldB L = true := by
  obtain ⟨st, wa, sa, wo, sq, ag, fr⟩ := L
  obtain ⟨h1, h2, h3, h4, h5, h6⟩ := h
  dsimp only at *
  subst h1 h2 h3
  have hS : startE 5 (wt : Int) [0, 65535] = 0 := by
    unfold startE
    rw [wi_yes (by omega) (by omega), wi_yes (by omega) (by omega)]
    decide
  unfold couldB
  dsimp only
  rw [hS, wi_yes h4.1 h4.2]
  rcases h6 with ⟨rfl, rfl, rfl, rfl⟩ | ⟨hn, rfl, _, rfl, hq, rfl⟩
  · rw [wi_yes (by omega) (by omega)]
    simp [wi]
  · rw [wi_yes (by omega) (by omega)]
    simp [wi_yes (lo := 0) (hi := 65535) (n := nw) (by omega) (by omega), wi_yes (lo := 0) (hi := 65535) (n := 1000 - nw) (by omega) (by omega)]
theorem stt_tick {wt qt : Nat} {nw : Int} {L : Lk} (h : Stt wt nw qt L) : tickE L = 0 ∧ Stt wt (if wt ≤ qt + 1 then -1 else nw) (qt + 1) (tickL L) := by
  have hc := stt_could h
  refine ⟨by unfold tickE; rw [if_pos hc], ?_⟩
  unfold tickL
  rw [if_pos hc]
  obtain ⟨st, wa, sa, wo, sq, ag, fr⟩ := L
  obtain ⟨h1, h2, h3, h4, h5, h6⟩ := h
  dsimp only at *
  subst h1 h2 h3
  rcases h6 with ⟨rfl, rfl, rfl, rfl⟩ | ⟨hn, rfl, hs, rfl, hq, rfl⟩
  · rw [if_neg (show ¬ (false = true) by simp)]
    refine ⟨rfl, rfl, rfl, h4, h5, .inl ⟨by split <;> rfl, rfl, rfl, rfl⟩⟩
  · rw [if_pos rfl]
    by_cases hw : wt ≤ qt + 1
    · rw [if_pos hw, if_pos (by omega)]
      exact ⟨rfl, rfl, rfl, h4, h5, .inl ⟨rfl, rfl, rfl, rfl⟩⟩
    · rw [if_neg hw, if_neg (by omega)]
      exact ⟨rfl, rfl, rfl, h4, h5, .inr ⟨hn, rfl, hs, by simp, by omega, rfl⟩⟩
/-- Is the frame heard? -/
def hearB (nw : Int) (k : Nat) : Bool := decide (nw < 0) || (decide (0 < ((k : Int) - nw + 512) % 256) && decide (((k : Int) - nw + 512) % 256 < 128))
theorem stt_take {wt qt : Nat} {nw : Int} {L : Lk} (h : Stt wt nw qt L) {k : Nat} (hk : k < 400) :
    (hearB nw k = true → takeE L (frN k) = 0 ∧ Stt wt (k : Int) 0 (takeL L (frN k))) ∧ (hearB nw k = false → takeE L (frN k) = 18 ∧ takeL L (frN k) = L) := by
  have hc := stt_could h
  obtain ⟨o1, o2, o3, o4⟩ := frN_open hk
  have hE : takeE L (frN k) = newsE L 5 (k % 256) [(k : Int), 1000 - (k : Int)] := by unfold takeE; rw [if_pos hc, if_pos o1, o2, o3, o4]
  have hL : takeL L (frN k) = if takeE L (frN k) = 0 then ⟨L.st, L.wa, L.sa, [(k : Int), 1000 - (k : Int)], ((k % 256 : Nat) : Int), 0, true⟩ else L := by unfold takeL; rw [if_pos hc, o3, o4]
  obtain ⟨st, wa, sa, wo, sq, ag, fr⟩ := L
  obtain ⟨h1, h2, h3, h4, h5, h6⟩ := h
  dsimp only at *
  subst h1 h2 h3
  rcases h6 with ⟨rfl, rfl, rfl, rfl⟩ | ⟨hn, rfl, rfl, rfl, hq, rfl⟩
  · have hz : newsE ⟨5, (wt : Int), [0, 65535], [0, 65535], sq, 0, false⟩ 5 (k % 256) [(k : Int), 1000 - (k : Int)] = 0 := by
      unfold newsE; simp
    rw [hz] at hE
    refine ⟨fun _ => ⟨hE, ?_⟩, fun hh => by simp [hearB] at hh⟩
    rw [hL, if_pos hE]
    exact ⟨rfl, rfl, rfl, ⟨by show (0 : Int) ≤ ((k % 256 : Nat) : Int); omega, by show ((k % 256 : Nat) : Int) ≤ 255; omega⟩, h5, .inr ⟨⟨by omega, by omega⟩, rfl, by show ((k % 256 : Nat) : Int) = (k : Int) % 256; omega, rfl, by omega, rfl⟩⟩
  · have hd : ((by8 (((k % 256 : Nat) : Int) - nw % 256) : Nat) : Int) = ((k : Int) - nw + 512) % 256 := by unfold by8; omega
    have hz : newsE ⟨5, (wt : Int), [0, 65535], [nw, 1000 - nw], nw % 256, (qt : Int), true⟩ 5 (k % 256) [(k : Int), 1000 - (k : Int)] = if hearB nw k = true then 0 else 18 := by
      unfold newsE
      dsimp only
      rw [if_neg (by simp), if_neg (by simp)]
      generalize by8 (((k % 256 : Nat) : Int) - nw % 256) = d at hd
      unfold hearB
      rw [← hd]
      by_cases hh : 1 ≤ d ∧ d ≤ 127
      · rw [if_neg (by simp [hh]), if_pos]
        simp
        omega
      · rw [if_pos ⟨rfl, hh⟩, if_neg]
        simp
        omega
    rw [hz] at hE
    refine ⟨fun hh => ?_, fun hh => ?_⟩
    · rw [if_pos hh] at hE
      refine ⟨hE, ?_⟩
      rw [hL, if_pos hE]
      exact ⟨rfl, rfl, rfl, ⟨by show (0 : Int) ≤ ((k % 256 : Nat) : Int); omega, by show ((k % 256 : Nat) : Int) ≤ 255; omega⟩, h5, .inr ⟨⟨by omega, by omega⟩, rfl, by show ((k % 256 : Nat) : Int) = (k : Int) % 256; omega, rfl, by omega, rfl⟩⟩
    · rw [if_neg (by simp [hh])] at hE
      refine ⟨hE, ?_⟩
      rw [hL, if_neg (by omega)]
end Go.Proofs.Ytaiicehifailhab
