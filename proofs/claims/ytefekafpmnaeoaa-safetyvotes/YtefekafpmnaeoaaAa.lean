/- Numbers picked; what sensors tell, out of raw numbers. -/
import Derived.Test.YtefekafpmnaeoaaW
namespace Go.Proofs.Ytefekafpmnaeoaa
open Go.RowKit
attribute [local go_sem ↓] Go.wp_at_zero Go.wp_at_succ
set_option linter.unusedVariables false
set_option linter.unusedSimpArgs false

def in64 (n : Int) : Prop := -9223372036854775808 ≤ n ∧ n ≤ 9223372036854775807
def pk (n : Int) (m : Nat) : Nat := ((if n < 0 then -(n + 1) else n) % (m : Int)).toNat
theorem pk_lt (n : Int) {m : Nat} (h : 0 < m) : pk n m < m := by
  unfold pk
  have h1 := Int.emod_lt_of_pos (if n < 0 then -(n + 1) else n) (show (0 : Int) < m by omega)
  have h2 := Int.emod_nonneg (if n < 0 then -(n + 1) else n) (show (m : Int) ≠ 0 by omega)
  omega
theorem pk_cast (n : Int) {m : Nat} (h : 0 < m) : ((pk n m : Nat) : Int) = (if n < 0 then -(n + 1) else n) % (m : Int) := by
  unfold pk
  have h2 := Int.emod_nonneg (if n < 0 then -(n + 1) else n) (show (m : Int) ≠ 0 by omega)
  omega
theorem picked_any (n : Int) (m : Nat) (w : World) (hn : in64 n) (hm : 0 < m) (hm2 : m < 9223372036854775807) : Calls Try.prog 21 #[.int .i64 n, .int .i64 (m : Int)] w fun e w' => e = .returned (.int .i64 ((pk n m : Nat) : Int)) ∧ w = w' := by
  have hc := pk_cast n hm
  obtain ⟨h1, h2⟩ := hn
  have hm0 : (0 : Int) < (m : Int) := by omega
  have hm1 : ¬ (m : Int) = 0 := by omega
  by_cases h : n < 0
  · rw [if_pos h] at hc
    have e2 : (-(n + 1)).tmod (m : Int) = -(n + 1) % (m : Int) := Int.tmod_eq_emod_of_nonneg (by omega)
    go_enter Try.func21, Try.ntmps21
    go_wp2
    go_ret
    refine ⟨ret_int ?_, rfl⟩
    rw [hc]
  · rw [if_neg h] at hc
    have e2 : n.tmod (m : Int) = n % (m : Int) := Int.tmod_eq_emod_of_nonneg (by omega)
    go_enter Try.func21, Try.ntmps21
    go_wp2
    go_ret
    exact ⟨ret_int rfl, rfl⟩

/-- What the sensors tell, out of raw numbers. -/
def tellL (raw : List Int) : List Int := (List.range 6).map fun i => if i < raw.length then (pk (raw.getD i 0) 3 : Int) else 0
def tellK (raw : List Int) (k : Nat) : List Int := (List.range 6).map fun i => if i < k ∧ i < raw.length then (pk (raw.getD i 0) 3 : Int) else 0
theorem tellK_len (raw : List Int) (k : Nat) : (tellK raw k).length = 6 := by simp [tellK]
theorem tellK_zero (raw : List Int) : tellK raw 0 = List.replicate 6 0 := by
  apply List.ext_getElem
  · simp [tellK]
  · intro i h1 h2
    rw [List.getElem_replicate]
    simp only [tellK, List.getElem_map, List.getElem_range]
    rw [if_neg (by omega)]
theorem tellK_set (raw : List Int) (k : Nat) (hk : k < raw.length) : (tellK raw k).set k (pk (raw.getD k 0) 3 : Int) = tellK raw (k + 1) := by
  apply List.ext_getElem
  · simp [tellK]
  · intro i h1 h2
    rw [List.getElem_set]
    simp only [tellK, List.getElem_map, List.getElem_range]
    by_cases h : k = i
    · subst h; simp [hk]
    · rw [if_neg h]
      by_cases h' : i < k ∧ i < raw.length
      · rw [if_pos h', if_pos ⟨by omega, h'.2⟩]
      · rw [if_neg h', if_neg (by omega)]
theorem tellK_all (raw : List Int) (k : Nat) (hk : k = 6 ∨ raw.length ≤ k) : tellK raw k = tellL raw := by
  apply List.ext_getElem
  · simp [tellK, tellL]
  · intro i h1 h2
    have : i < 6 := by simpa [tellK] using h1
    simp only [tellK, tellL, List.getElem_map, List.getElem_range]
    by_cases h' : i < raw.length
    · rw [if_pos h', if_pos ⟨by omega, h'⟩]
    · rw [if_neg h', if_neg (by omega)]
theorem tellL_len (raw : List Int) : (tellL raw).length = 6 := by simp [tellL]
theorem tellL_ok (raw : List Int) : (tellL raw).any tl = false := by
  rw [List.any_eq_false]
  intro x hx
  simp only [tellL, List.mem_map, List.mem_range] at hx
  obtain ⟨i, hi, rfl⟩ := hx
  split
  · have := pk_lt (raw.getD i 0) (m := 3) (by omega)
    simp only [tl, ne_eq, decide_eq_true_eq]
    omega
  · simp [tl]
theorem make6 (w : World) : (Instr.makeSlice 26 (.int .i64 6) (.int .i64 6)).run Try.prog w = .ok (.slice (some ⟨w.heap.size, 0, none⟩) 6 6) (w.alloc (.cells (intsA (List.replicate 6 0)) 3)) := make_ints 6 (by omega) w
set_option maxRecDepth 10000 in
set_option maxHeartbeats 1000000 in
theorem tellS_any (raw : List Int) (key : Bool) (v : Value) (w : World) (hv : rd w v raw) (hz : ∀ x ∈ raw, in64 x) (hl : raw.length ≤ 17592186043904) :
    Calls Try.prog 19 #[.agg #[v, .bool key]] w fun e w' => NwP w w' e (tellL raw) := by
  obtain ⟨va, vc, rfl, _⟩ := id hv
  have hW : (w.alloc (.cells #[.slice va raw.length vc, .bool key] 47)).heap[w.heap.size]? = some (.cells #[.slice va raw.length vc, .bool key] 47) := heap_alloc_new _ _
  have hg0 : w.grownBy (w.alloc (.cells #[.slice va raw.length vc, .bool key] 47)) none := gr_alloc (World.grownBy.refl _ _) _
  obtain ⟨p, hp⟩ : ∃ p, w.heap.size = p := ⟨_, rfl⟩
  have hs0 : (w.alloc (.cells #[.slice va raw.length vc, .bool key] 47)).heap.size = p + 1 := by simp; omega
  rw [hp] at hW
  go_enter Try.func19, Try.ntmps19
  go_upto_region 1 with fail
  have HP := hidI hp
  clear hp
  generalize w.alloc (.cells #[.slice va raw.length vc, .bool key] 47) = W0 at *
  have hmk := make6 W0
  have hOw : OwnV (p + 1) (W0.alloc (.cells (intsA (List.replicate 6 0)) 3)) (.slice (some ⟨p + 1, 0, none⟩) 6 6) (List.replicate 6 0) := by
    have := own_made (w := W0) (B := p + 1) (n := 6) (by omega) (by omega)
    unfold OwnL at this
    rw [hs0, List.length_replicate] at this
    unfold OwnV
    rw [List.length_replicate]
    exact this
  rw [hs0] at hmk
  have gM : W0.grownBy (W0.alloc (.cells (intsA (List.replicate 6 0)) 3)) none := gr_alloc (World.grownBy.refl _ _) _
  obtain ⟨m, hm⟩ : ∃ m, raw.length = m := ⟨_, rfl⟩
  have HM := hidI hm
  have HX := hidI (And.intro (rd_grown hv hg0) (And.intro hg0 (And.intro hW (And.intro hs0 hz))))
  have HOW := hidI (And.intro hOw gM)
  rw [hm] at hl ⊢
  clear hv hg0 hW hs0 hz hOw gM hm
  go_upto_region 2 with fail
  clear hmk
  go_wp2_with fail
  go_loopg [4] 6 (fun gk s4 wx => ∃ k : Nat, s4 = .int .i64 k ∧ k ≤ 6 ∧ gk = 6 - k ∧ Hid (k ≤ m ∧ W0.grownBy wx none ∧ OwnV (p + 1) wx (.slice (some ⟨p + 1, 0, none⟩) (tellK raw k).length 6) (tellK raw k)))
  case atStart => exact ⟨0, rfl, by omega, by omega, hidI ⟨Nat.zero_le _, HOW.out.2, by rw [tellK_len, tellK_zero]; exact HOW.out.1⟩⟩
  case round =>
    obtain ⟨k, rfl, hk, hgk, HK⟩ := hrel
    have HG : Hid (gk = 6 - k) := hgk
    clear hgk
    obtain ⟨hkm, hg, hO⟩ := HK.out
    obtain ⟨x1, x2, x3, x4, x5⟩ := HX.out
    have y0 : wr.cell? ⟨p, 0, none⟩ = some (.slice va m vc) := by have := at_cell (kept hg x3) 0; rw [HM.out] at this; exact this
    have fin : Hid (k = 6 ∨ m ≤ k → NwP w wr (.returned (.slice (some ⟨p + 1, 0, none⟩) 6 6)) (tellL raw)) := hidI (fun h => by
      rw [tellK_all raw k (by rw [HM.out]; exact h)] at hO
      refine ⟨some ⟨p + 1, 0, none⟩, 6, by rw [tellL_len], own_low (B := p + 1) hO (by rw [HP.out]; omega), grown_join x2 hg (.inl rfl)⟩)
    by_cases hlt : k < 6
    · have j0 : (k : Int) < 6 := by omega
      by_cases hlm : k < m
      · have hkl : k < raw.length := by rw [HM.out]; exact hlm
        obtain ⟨va1, vc1, ev, h | ⟨b, off, rfl, hc⟩⟩ := rd_grown x1 hg
        · subst h; simp at hkl
        simp at ev
        obtain ⟨rfl, rfl⟩ := ev
        have q0 := hc k hkl
        have hx : in64 (raw.getD k 0) := by
          have : raw.getD k 0 = raw[k] := by simp [List.getD, hkl]
          rw [this]; exact x5 _ (List.getElem_mem _)
        have cP := picked_any (raw.getD k 0) 3 wr hx (by omega) (by omega)
        have HST : Hid ((tellK raw k).set k (pk (raw.getD k 0) 3 : Int) = tellK raw (k + 1)) := hidI (tellK_set raw k hkl)
        generalize raw.getD k 0 = x at *
        generalize pk x 3 = y at *
        have c4 := hO.get k (by rw [tellK_len]; exact hlt)
        have f4 := hO.frozen k
        have HB := hidI (And.intro hO (And.intro hg x4))
        have j1 : (0 : Int) ≤ (k : Int) := by omega
        have j2 : (k : Int) < (m : Int) := by omega
        clear hc hkl x1 x2 x3 x4 x5 hO hg HK fin hx
        go_wp2_with fail
        refine cP.mono ?_
        rintro e w' ⟨rfl, rfl⟩
        go_wp2
        have hgl := HG.out
        go_roundg (6 - (k + 1))
        all_goals first | omega | exact ⟨k + 1, by go_num, by omega, by omega, hidI ⟨by omega, gr_own HB.out.2.1 (by rw [HB.out.2.2]; omega) _ _, by rw [← HST.out, List.length_set]; exact HB.out.1.store k _⟩⟩
      · have j2 : ¬ (k : Int) < (m : Int) := by omega
        clear x1 x2 x3 x4 x5 hO hg HK
        go_wp2
        go_ret
        exact fin.out (.inr (by omega))
    · have j0 : ¬ (k : Int) < 6 := by omega
      clear x1 x2 x3 x4 x5 hO hg HK
      go_wp2
      go_ret
      exact fin.out (.inl (by omega))
end Go.Proofs.Ytefekafpmnaeoaa
