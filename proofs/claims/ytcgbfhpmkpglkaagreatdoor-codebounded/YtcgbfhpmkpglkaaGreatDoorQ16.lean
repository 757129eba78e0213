/- Texts put together: V9, Nc, P2, S0, Ne, Nd, Nf, P3. -/
import Derived.Test.YtcgbfhpmkpglkaaGreatDoorQ15
import Derived.Test.YtcgbfhpmkpglkaaGreatDoorQ12
/- Plain facts: the stack's heights on the way. -/
namespace Go.Proofs.YtcgbfhpmkpglkaaGreatDoor
set_option linter.unusedVariables false
set_option linter.unusedSimpArgs false

theorem hgt_succ {t : List Ins} {tk gv : Nat → Int} {i : Nat} {hs' : List Int} (h : hgt t tk gv (i + 1) = some hs') : ∃ hs, hgt t tk gv i = some hs ∧
    (((hs[i]?).getD 0 = -1 ∧ hs' = hs) ∨ ((hs[i]?).getD 0 ≠ -1 ∧ tk i ≤ (hs[i]?).getD 0 ∧ (hs[i]?).getD 0 - tk i + gv i ≤ 1000 ∧ meet ((hs[i]?).getD 0 - tk i + gv i) (ways t i) hs = some hs')) := by
  simp only [hgt, Option.bind_eq_some_iff] at h
  obtain ⟨hs, h1, h2⟩ := h
  refine ⟨hs, h1, ?_⟩
  split at h2
  · rename_i e
    simp at h2
    exact .inl ⟨e, h2.symm⟩
  · rename_i e
    split at h2
    · simp at h2
    · exact .inr ⟨e, by omega, by omega, h2⟩
theorem hgt_keep {t : List Ins} {tk gv : Nat → Int} (hg : ∀ i, 0 ≤ gv i) {i : Nat} {hs : List Int} (h1 : hgt t tk gv i = some hs) : ∀ (m : Nat) (hs' : List Int), hgt t tk gv (i + m) = some hs' → ∀ p : Nat, (hs[p]?).getD 0 ≠ -1 → (hs'[p]?).getD 0 = (hs[p]?).getD 0
  | 0, hs', h2, p, hp => by
    rw [Nat.add_zero, h1] at h2
    simp at h2
    rw [h2]
  | m + 1, hs', h2, p, hp => by
    obtain ⟨hs2, h3, h4⟩ := hgt_succ (i := i + m) h2
    have ih := hgt_keep hg h1 m hs2 h3 p hp
    rcases h4 with ⟨_, rfl⟩ | ⟨e, h5, h6, h7⟩
    · exact ih
    · have := (meet_keep (by have := hg (i + m); omega) (hgt_ge hg h3) h7).2.1 p (by rw [ih]; exact hp)
      rw [this, ih]
theorem hgt_some {t : List Ins} {tk gv : Nat → Int} {n : Nat} {hs : List Int} (h : hgt t tk gv n = some hs) : ∀ m i, i + m = n → ∃ hs', hgt t tk gv i = some hs'
  | 0, i, e => ⟨hs, by rw [← h, ← e]; rfl⟩
  | m + 1, i, e => by
    obtain ⟨hs2, h2⟩ := hgt_some h m (i + 1) (by omega)
    obtain ⟨hs3, h3, _⟩ := hgt_succ h2
    exact ⟨hs3, h3⟩
/-- The height of the stack at a place, as it is when the place is come to. -/
def Hh (t : List Ins) (i : Nat) : Int := (((hgt t (tkN t) (gvN t) i).getD [])[i]?).getD 0
theorem gvN_pos (t : List Ins) : ∀ i, 0 ≤ gvN t i := fun i => (gvS_bd (nth t i)).1
theorem Hh_zero (t : List Ins) : Hh t 0 = 0 := by simp [Hh, hgt]
theorem Hh_ge {t : List Ins} (h : StackOk t) {i : Nat} (hi : i ≤ t.length) : -1 ≤ Hh t i := by
  obtain ⟨hs, h1, _⟩ := h
  obtain ⟨hs', h2⟩ := hgt_some h1 (t.length - i) i (by omega)
  unfold Hh
  rw [h2]
  exact hgt_ge (gvN_pos t) h2 i
theorem Hh_end {t : List Ins} (h : StackOk t) : Hh t t.length = 0 := by
  obtain ⟨hs, h1, h2⟩ := h
  unfold Hh
  rw [h1]
  exact h2
/-- From one place to the next. -/
theorem Hh_step {t : List Ins} (h : StackOk t) {i : Nat} (hi : i < t.length) (hl : Hh t i ≠ -1) : tkN t i ≤ Hh t i ∧ Hh t i - tkN t i + gvN t i ≤ 1000 ∧ (∀ p, p ∈ ways t i → i < p → p ≤ t.length → Hh t p = Hh t i - tkN t i + gvN t i) ∧ (∀ p, p ∈ ways t i → p ≤ i → Hh t p ≠ -1 → Hh t p = Hh t i - tkN t i + gvN t i) := by
  obtain ⟨hs, h1, h2⟩ := h
  have hg := gvN_pos t
  obtain ⟨hs1, a1⟩ := hgt_some h1 (t.length - i) i (by omega)
  obtain ⟨hs2, a2⟩ := hgt_some h1 (t.length - (i + 1)) (i + 1) (by omega)
  have e1 : Hh t i = (hs1[i]?).getD 0 := by unfold Hh; rw [a1]; rfl
  rw [e1] at hl ⊢
  obtain ⟨hs3, a3, a4⟩ := hgt_succ a2
  rw [a1] at a3
  simp at a3
  subst a3
  rcases a4 with ⟨a4, _⟩ | ⟨a4, a5, a6, a7⟩
  · exact absurd a4 hl
  · have hge := hgt_ge hg a1
    have hlen := hgt_len a1
    have hpos : 0 ≤ (hs1[i]?).getD 0 - tkN t i + gvN t i := by have := hg i; omega
    have hm := meet_keep hpos hge a7
    refine ⟨a5, a6, fun p hp hip hpn => ?_, fun p hp hip hpl => ?_⟩
    · have h3 : (hs2[p]?).getD 0 = (hs1[i]?).getD 0 - tkN t i + gvN t i := by
        rcases hm.2.2 p hp with h | h
        · exact h
        · omega
      obtain ⟨hs4, a8⟩ := hgt_some h1 (t.length - p) p (by omega)
      have h4 := hgt_keep hg a2 (p - (i + 1)) hs4 (by rw [show i + 1 + (p - (i + 1)) = p by omega]; exact a8) p (by rw [h3]; omega)
      unfold Hh
      rw [a8]
      show (hs4[p]?).getD 0 = _
      rw [h4, h3]
    · obtain ⟨hs4, a8⟩ := hgt_some h1 (t.length - p) p (by omega)
      have e2 : Hh t p = (hs4[p]?).getD 0 := by unfold Hh; rw [a8]; rfl
      rw [e2] at hpl ⊢
      have h4 := hgt_keep hg a8 (i - p) hs1 (by rw [show p + (i - p) = i by omega]; exact a1) p hpl
      have h5 := hm.2.1 p (by rw [h4]; exact hpl)
      rcases hm.2.2 p hp with h | h
      · rw [← h, h5, h4]
      · omega
/-- The loops that hold a place were begun by what was come to. -/
def Lc (t : List Ins) (i : Nat) : Prop := ∀ f, inL t f i = true → Hh t f ≠ -1
theorem lc_zero (t : List Ins) : Lc t 0 := fun f h => by rw [inL_zero] at h; simp at h
/-- Counters in a list. -/
def cF (cs : List Int) : Int → Int := fun a => if 0 ≤ a then cs.getD a.toNat 0 else 0
theorem cF_set (cs : List Int) (a : Int) (x : Int) (h0 : 0 ≤ a) (h1 : a.toNat < cs.length) : cF (cs.set a.toNat x) = upd (cF cs) a x := by
  funext b
  unfold cF upd
  by_cases e : b = a
  · subst e
    simp [h0, h1]
  · rw [if_neg e]
    by_cases hb : 0 ≤ b
    · rw [if_pos hb]
      show _ = (if 0 ≤ b then cs.getD b.toNat 0 else 0)
      rw [if_pos hb]
      simp [List.getD, List.getElem?_set, show ¬ a.toNat = b.toNat by omega]
    · rw [if_neg hb]
      show _ = (if 0 ≤ b then cs.getD b.toNat 0 else 0)
      rw [if_neg hb]
theorem prog_lk {l : List (Int × Nat)} {kd : Int} {fn : Nat} {t : List Ins} (h : ProgOk l kd fn t) : Lk t :=
  ⟨h.rds, pairs_of h.rds h.nest, may_bs h.may, may_fwd h.may, (jumps_join h.rds (may_fwd h.may)).2 h.jumps⟩
end Go.Proofs.YtcgbfhpmkpglkaaGreatDoor

/- The machine: an instruction, by what it changes. -/
namespace Go.Proofs.YtcgbfhpmkpglkaaGreatDoor
open Go.RowKit
set_option linter.unusedVariables false
set_option linter.unusedSimpArgs false

/-- What is left: a stack of a height, a frame as long as it was, some steps and faults more. -/
def Wk (w : World) (B M F : Nat) (pv : Value) (now : Int) (r0 : Option Nat) (al sl : Nat) (sp fl bd X : Int) (w' : World) : Prop :=
  ∃ sa' sc' st' ar' sp' fl', MaC w' B M pv now sa' sc' st' sp' fl' ∧ FrAt w' F ar' ∧ ar'.length = al ∧ st'.length = sl ∧ sp ≤ sp' ∧ sp' ≤ sp + bd ∧ fl ≤ fl' ∧ fl' ≤ fl + X + (sp' - sp) ∧ Chg M (some F) r0 w w' ∧ Nx w r0 (sb sa')
/-- What is asked of a unit's run. -/
def RunW (c : World) (pb po np pcap u fnu : Nat) (bd now : Int) : Prop :=
  ∀ (w : World) (B M F off fc : Nat) (ar : List Int) (sa : Option Addr) (sc : Nat) (st : List Int) (sp fl : Int), Ctx c w B M F off fnu fc ar (.slice (some ⟨pb, po, none⟩) np pcap) now sa sc st sp fl → sp + bd ≤ 1000000000 → fl ≤ sp → st.length + 1000 * u ≤ 16000 →
    Calls Tryz.prog 18 #[.pointer (some ⟨M, 0, none⟩), .pointer (some ⟨pb, po + u * 5, none⟩), .slice (some ⟨F, off, none⟩) fnu fc] w fun e w' => e = .returned (.tuple #[]) ∧ Wk w B M F (.slice (some ⟨pb, po, none⟩) np pcap) now (sb sa) ar.length st.length sp fl bd 0 w'
theorem wk_of {w w' : World} {B M F : Nat} {pv : Value} {now : Int} {r0 : Option Nat} {st' ar' : List Int} {sp' fl' : Int} {e : Ending} {al sl : Nat} {sp fl bd : Int} (h : DoP w B M F pv now r0 st' ar' sp' fl' e w') (h1 : ar'.length = al) (h2 : st'.length = sl) (h3 : sp ≤ sp') (h4 : sp' ≤ sp + bd) (h5 : fl ≤ fl') (h6 : fl' ≤ fl + 1 + (sp' - sp)) : e = .returned (.tuple #[]) ∧ Wk w B M F pv now r0 al sl sp fl bd 1 w' := by
  obtain ⟨a, ⟨sa', sc', b1, b2, b3⟩, d⟩ := h
  exact ⟨a, sa', sc', st', ar', sp', fl', b1, d, h1, h2, h3, h4, h5, h6, b2, b3⟩
theorem last1 {st : List Int} (h : 1 ≤ st.length) : ∃ r a, st = r ++ [a] := ⟨st.dropLast, st.getLast (by intro e; rw [e] at h; simp at h), (List.dropLast_concat_getLast _).symm⟩
theorem last2 {st : List Int} (h : 2 ≤ st.length) : ∃ r a b, st = r ++ [a] ++ [b] := by
  obtain ⟨r, b, rfl⟩ := last1 (by omega : 1 ≤ st.length)
  obtain ⟨r', a, rfl⟩ := last1 (st := r) (by simp at h; omega)
  exact ⟨r', a, b, rfl⟩
theorem last3 {st : List Int} (h : 3 ≤ st.length) : ∃ r g a b, st = r ++ [g] ++ [a] ++ [b] := by
  obtain ⟨r, a, b, rfl⟩ := last2 (by omega : 2 ≤ st.length)
  obtain ⟨r', g, rfl⟩ := last1 (st := r) (by simp at h; omega)
  exact ⟨r', g, a, b, rfl⟩

theorem do_weak {c w : World} {B M F off n fc : Nat} {ar : List Int} {pb po np pcap : Nat} {now : Int} {sa : Option Addr} {sc : Nat} {st : List Int} {sp fl : Int} {tb o : Nat} (l : List (Int × Nat)) (bds : List Int) (tl i : Nat) (x : Ins)
    (h : Ctx c w B M F off n fc ar (.slice (some ⟨pb, po, none⟩) np pcap) now sa sc st sp fl) (hx : InsAt c tb o x) (hm : mayS l n tl i x = true) (hd : x.d ≠ 11 ∧ x.d ≠ 12 ∧ x.d ≠ 13 ∧ x.d ≠ 14) (hS : Stds c)
    (htk : tkS x ≤ st.length) (hnp : l.length ≤ np) (hfst : ∀ u, u < l.length → ∃ fa ffc, c.cell? ⟨pb, po + u * 5 + 2, none⟩ = some (.slice fa (l.getD u (0, 0)).2 ffc)) (hR : ∀ u, u < l.length → RunW c pb po np pcap u (l.getD u (0, 0)).2 (bds.getD u 0) now)
    (hb0 : ∀ u, 0 ≤ bds.getD u 0) (hsp : sp + (stepS bds x - 1) ≤ 1000000000) (hfl : fl ≤ sp) (hst : st.length + 1000 * l.length ≤ 17000) :
    Calls Tryz.prog 32 #[.pointer (some ⟨M, 0, none⟩), .pointer (some ⟨tb, o, none⟩), .slice (some ⟨F, off, none⟩) n fc] w fun e w' => e = .returned (.tuple #[]) ∧ Wk w B M F (.slice (some ⟨pb, po, none⟩) np pcap) now (sb sa) ar.length ((st.length : Int) - tkS x + gvS x).toNat sp fl (stepS bds x - 1) 1 w' := by
  obtain ⟨d, a, b, cc⟩ := x
  simp only [mayS, Bool.and_eq_true] at hm
  obtain ⟨hu, hf⟩ := hm
  dsimp only at hd
  rcases dos d with rfl | rfl | rfl | rfl | rfl | rfl | rfl | rfl | rfl | rfl | rfl | rfl | rfl | rfl | rfl | rfl | rfl | rfl | hdd
  · simp [usesS] at hu
    obtain ⟨rfl, rfl⟩ := hu
    exact (do_push a h hx).mono fun e w' hp => wk_of hp rfl (by first | (simp [tkS, gvS]; done) | (simp [tkS, gvS]; omega)) (by omega) (by simp [stepS]) (by omega) (by omega)
  · simp [usesS] at hu
    obtain ⟨rfl, rfl⟩ := hu
    simp [fieldsS, hasW, isW] at hf
    obtain ⟨j, rfl⟩ := Int.eq_ofNat_of_zero_le (show 0 ≤ a by omega)
    exact (do_load j (by omega) h hx).mono fun e w' hp => wk_of hp rfl (by first | (simp [tkS, gvS]; done) | (simp [tkS, gvS]; omega)) (by omega) (by simp [stepS]) (by omega) (by omega)
  · simp [usesS] at hu
    obtain ⟨rfl, rfl⟩ := hu
    simp [fieldsS, hasW, isW] at hf
    simp [tkS] at htk
    obtain ⟨r, v, rfl⟩ := last1 (st := st) (by omega)
    obtain ⟨j, rfl⟩ := Int.eq_ofNat_of_zero_le (show 0 ≤ a by omega)
    exact (do_store v j (by omega) h hx).mono fun e w' hp => wk_of hp (by simp) (by simp [tkS, gvS]) (by omega) (by simp [stepS]) (by omega) (by omega)
  · simp [fieldsS, hasW, isW] at hf
    simp [tkS] at htk
    obtain ⟨r, v, rfl⟩ := last1 (st := st) (by omega)
    exact (do_loadAt v a b cc (by omega) (by omega) (by omega) (by omega) (by omega) h hx).mono fun e w' hp => wk_of hp rfl (by simp [tkS, gvS]) (by omega) (by simp [stepS]) (by split <;> omega) (by split <;> omega)
  · simp [fieldsS, hasW, isW] at hf
    simp [tkS] at htk
    obtain ⟨r, i', v, rfl⟩ := last2 (st := st) (by omega)
    exact (do_storeAt i' v a b cc (by omega) (by omega) (by omega) (by omega) (by omega) h hx).mono fun e w' hp => wk_of hp (by split <;> simp) (by first | (simp [tkS, gvS]; done) | (simp [tkS, gvS]; omega)) (by omega) (by simp [stepS]) (by split <;> omega) (by split <;> omega)
  · simp [usesS] at hu
    subst hu
    have ho := opers_bd ⟨6, a, b, 0⟩
    simp [tkS] at htk
    by_cases h2 : opersS ⟨6, a, b, 0⟩ = 2
    · obtain ⟨r, v1, v2, rfl⟩ := last2 (st := st) (by omega)
      exact (do_work_two a b v1 v2 h2 h hx).mono fun e w' hp => wk_of hp rfl (by first | (simp [tkS, gvS, h2]; done) | (simp [tkS, gvS, h2]; omega)) (by omega) (by simp [stepS]) (by split <;> omega) (by split <;> omega)
    · have h1 : opersS ⟨6, a, b, 0⟩ = 1 := by omega
      obtain ⟨r, v1, rfl⟩ := last1 (st := st) (by omega)
      exact (do_work_one a b v1 h1 h hx).mono fun e w' hp => wk_of hp rfl (by simp [tkS, gvS, h1]) (by omega) (by simp [stepS]) (by split <;> omega) (by split <;> omega)
  · simp [usesS] at hu
    subst hu
    simp [tkS] at htk
    obtain ⟨r, v, rfl⟩ := last1 (st := st) (by omega)
    exact (do_turn v a b h hx).mono fun e w' hp => wk_of hp rfl (by simp [tkS, gvS]) (by omega) (by simp [stepS]) (by omega) (by omega)
  · simp [usesS] at hu
    obtain ⟨⟨rfl, rfl⟩, rfl⟩ := hu
    simp [tkS] at htk
    obtain ⟨r, g, v1, v2, rfl⟩ := last3 (st := st) (by omega)
    exact (do_pick g v1 v2 h hx).mono fun e w' hp => wk_of hp rfl (by first | (simp [tkS, gvS]; done) | (simp [tkS, gvS]; omega)) (by omega) (by simp [stepS]) (by omega) (by omega)
  · simp [usesS] at hu
    obtain ⟨⟨rfl, rfl⟩, rfl⟩ := hu
    simp [tkS] at htk
    obtain ⟨r, v, rfl⟩ := last1 (st := st) (by omega)
    exact (do_dup v h hx).mono fun e w' hp => wk_of hp rfl (by first | (simp [tkS, gvS]; done) | (simp [tkS, gvS]; omega)) (by omega) (by simp [stepS]) (by omega) (by omega)
  · simp [usesS] at hu
    obtain ⟨⟨rfl, rfl⟩, rfl⟩ := hu
    simp [tkS] at htk
    obtain ⟨r, v, rfl⟩ := last1 (st := st) (by omega)
    exact (do_drop v h hx).mono fun e w' hp => wk_of hp rfl (by simp [tkS, gvS]) (by omega) (by simp [stepS]) (by omega) (by omega)
  · exact absurd rfl hd.1
  · exact absurd rfl hd.2.1
  · exact absurd rfl hd.2.2.1
  · exact absurd rfl hd.2.2.2
  · simp [usesS] at hu
    obtain ⟨⟨rfl, rfl⟩, rfl⟩ := hu
    exact (do_late h hx).mono fun e w' hp => wk_of hp rfl (by simp [tkS, gvS]) (by omega) (by simp [stepS]) (by omega) (by omega)
  · simp [fieldsS, hasW, isW] at hf
    obtain ⟨j, rfl⟩ := Int.eq_ofNat_of_zero_le (show 0 ≤ a by omega)
    obtain ⟨k, rfl⟩ := Int.eq_ofNat_of_zero_le (show 0 ≤ b by omega)
    exact (do_fill j k cc (by omega) (by omega) h hx).mono fun e w' hp => wk_of hp (filled_len _ _ _ _) (by simp [tkS, gvS]) (by omega) (by simp [stepS]) (by omega) (by omega)
  · simp [usesS] at hu
    subst hu
    simp [fieldsS, callS, hasW, isW] at hf
    obtain ⟨u, rfl⟩ := Int.eq_ofNat_of_zero_le (show 0 ≤ a by omega)
    obtain ⟨j, rfl⟩ := Int.eq_ofNat_of_zero_le (show 0 ≤ b by omega)
    have hul : u < l.length := by omega
    have hgd : (l.getD u (0, 0)).2 = (l[u]?.getD (0, 0)).2 := rfl
    obtain ⟨fa, ffc, hc⟩ := hfst u hul
    have hstep : stepS bds ⟨17, (u : Int), (j : Int), 0⟩ = 1 + bds.getD u 0 := by simp [stepS]
    rw [hstep] at hsp ⊢
    refine (do_run u j (l.getD u (0, 0)).2 ffc fa (fun w' => Wk w B M F (.slice (some ⟨pb, po, none⟩) np pcap) now (sb sa) ar.length ((st.length : Int) - tkS ⟨17, (u : Int), (j : Int), 0⟩ + gvS ⟨17, (u : Int), (j : Int), 0⟩).toNat sp fl (1 + bds.getD u 0 - 1) 1 w') (by omega) (by simp at hf ⊢; omega) h hx hc ?_)
    intro W off' cc' hW ho' hc'
    refine (hR u hul W B M F off' cc' ar sa sc st sp fl ⟨h.ma.kept hW, h.fr.grown hW, h.fm, h.fb, h.cw.trans hW, h.cM, h.cB, h.cF, by have := h.bw; have := hW.size; omega, ho', hc', by have := h.n2; simp at hf; omega, h.sl, h.f0, h.f1, h.s0, h.s1⟩ (by omega) hfl (by omega)).mono ?_
    rintro e w' ⟨g0, sa', sc', st', ar', sp', fl', g1, g2, g3, g4, g5, g6, g7, g8, g9, g10⟩
    refine ⟨g0, ⟨sa', sc', st', ar', sp', fl', g1, g2, g3, ?_, g5, by omega, g7, by omega, (Chg.of_none hW).trans (Nx.refl _ _) g9, Nx.trans hW.size (Nx.refl _ _) g10⟩, ?_⟩
    · rw [g4]; simp [tkS, gvS]
    · exact grown_chg (h.cw.trans hW) g9 h.cM (fun y hy => by simp at hy; have := h.cF; omega) (fun y hy => by have := (h.ma.row y hy).1; have := h.cB; omega)
  · simp [usesS] at hu
    subst hu
    simp [fieldsS, hasW, isW] at hf
    obtain ⟨j, rfl⟩ := Int.eq_ofNat_of_zero_le (show 0 ≤ b by have := hf.2; omega)
    refine (do_std a j (by omega) (by omega) (by omega) hS h hx).mono fun e w' hp => wk_of hp.1 hp.2 (by simp [tkS, gvS]) (by omega) (by simp [stepS]) (by omega) (by omega)
  · simp [usesS, show ¬ d = 4 by omega, show ¬ d = 5 by omega, show ¬ d = 16 by omega, show ¬ d = 6 by omega, show ¬ d = 7 by omega, show ¬ d = 13 by omega, show ¬ d = 14 by omega, show ¬ d = 17 by omega, show ¬ d = 18 by omega, show ¬ d = 1 by omega, show ¬ d = 2 by omega, show ¬ d = 3 by omega, show ¬ d = 11 by omega, show ¬ d = 12 by omega, show ¬ d = 8 by omega, show ¬ d = 9 by omega, show ¬ d = 10 by omega, show ¬ d = 15 by omega] at hu
end Go.Proofs.YtcgbfhpmkpglkaaGreatDoor

/- lookOver: the bound of a unit, or why it may not be. -/
namespace Go.Proofs.YtcgbfhpmkpglkaaGreatDoor
open Go.RowKit
attribute [local go_sem ↓] Go.wp_at_zero Go.wp_at_succ
set_option linter.unusedVariables false
set_option linter.unusedSimpArgs false

/-- The steps of a text. -/
def sumT (bds : List Int) (t : List Ins) : Int := sumP t (fun k => stepS bds (nth t k)) t.length
/-- What is said of a unit: its bound and 0, or 0 and a fault. -/
def lookS (D : (∀ p : Prop, Decidable p) × Unit) (l : List (Int × Nat)) (bds : List Int) (kd : Int) (fn : Nat) (t : List Ins) : Int × Int :=
  @ite _ (ProgOk l kd fn t) (D.1 _) (if 1000000000 < sumT bds t then (0, 13) else (sumT bds t, 0)) (0, 12)

set_option maxHeartbeats 1000000 in
theorem lookOver_any (l : List (Int × Nat)) (bds : List Int) (kd : Int) (fn : Nat) (t : List Ins) (av bv : Value) (pb po : Nat) (tv : Value) (w : World) (h : UnAt w w.heap.size l kd fn t av bv pb po tv) (hS : Stds w) (hll : l.length ≤ 1000) (hbv : rd w bv bds) (hbl : bds.length = l.length) (hbd : ∀ b, b ∈ bds → 0 ≤ b ∧ b ≤ 1000000000) :
    Calls Tryz.prog 19 #[av, bv, .pointer (some ⟨pb, po, none⟩)] w fun e w' => e = .returned (.tuple #[.int .i64 (lookS (Classical.propDecidable, ()) l bds kd fn t).1, .int .i64 (lookS (Classical.propDecidable, ()) l bds kd fn t).2]) ∧ w.grownBy w' none := by
  obtain ⟨aa, acap, rfl, haa⟩ := h.ahead
  obtain ⟨ba, bcap, rfl, hba⟩ := hbv
  clear haa
  have HH : Hid (UnAt w w.heap.size l kd fn t (.slice aa l.length acap) (.slice ba bds.length bcap) pb po tv) := h
  have HV : Hid (rd w (.slice ba bds.length bcap) bds) := ⟨ba, bcap, rfl, hba⟩
  have HD : Hid (∀ b, b ∈ bds → 0 ≤ b ∧ b ≤ 1000000000) := hbd
  have HL : Hid (bds.length = l.length) := hbl
  have cM := mayBe_any w.heap.size l kd fn t (.slice aa l.length acap) (.slice ba bds.length bcap) pb po tv w (w.alloc (.cells #[.slice aa l.length acap, .slice ba bds.length bcap, .pointer (some ⟨pb, po, none⟩), .slice none 0 0, .slice none 0 0] 87)) h (gr1 _ _) ⟨_, _, heap_alloc_new _ _⟩ hS (by omega)
  clear h hbd hS hba hbl
  go_enter Tryz.func19, Tryz.ntmps19
  go_wp2_with fail
  refine cM.mono ?_
  rintro e w1 ⟨r, rfl, hr, hg1, hLd⟩
  clear cM
  have HR : Hid (r = true ↔ ProgOk l kd fn t) := hr
  have HLd : Hid (r = true → Laid w1 w.heap.size t (.slice aa l.length acap) (.slice ba bds.length bcap) pb po) := hLd
  clear hr hLd
  cases r with
  | false =>
    have HX : Hid (lookS (Classical.propDecidable, ()) l bds kd fn t = (0, 12)) := (by
      unfold lookS; rw [if_neg (fun hx => by have := HR.out.2 hx; simp at this)] : lookS (Classical.propDecidable, ()) l bds kd fn t = (0, 12))
    clear HR HLd
    go_wp2_with fail
    go_ret2
    refine ⟨?_, hg1⟩
    rw [HX.out]
    simp
  | true =>
    have HP : Hid (ProgOk l kd fn t) := HR.out.1 rfl
    have HX : Hid (lookS (Classical.propDecidable, ()) l bds kd fn t = if 1000000000 < sumT bds t then (0, 13) else (sumT bds t, 0)) := (by
      unfold lookS; rw [if_pos HP.out] : lookS (Classical.propDecidable, ()) l bds kd fn t = if 1000000000 < sumT bds t then (0, 13) else (sumT bds t, 0))
    have HLd2 : Hid (Laid w1 w.heap.size t (.slice aa l.length acap) (.slice ba bds.length bcap) pb po) := HLd.out rfl
    clear HR HLd
    obtain ⟨bb, tb, z1, z2, z3⟩ := HLd2.out
    have hB := may_bs HP.out.may
    have cB := bound_any w.heap.size tb t bds (timK t t.length) (.slice ba bds.length bcap) w1 (ovT_of HH.out hg1 HLd2.out.blk) HP.out.len (by rw [at_cell z1]; rfl) (rd_grown HV.out hg1) (by rw [at_cell z1]; rfl) z3 (timK_len _ _)
      (fun k hk => by
        rw [timK_get t k hk]
        have := prd_bd hB (k + 1) k
        simp only [top1] at this
        exact ⟨rfl, this.1, this.2⟩)
      (fun k hk => may_steps HP.out.may HP.out.frame HD.out HL.out k hk) (fun k hk hd => by have := may_run HP.out.may k hk hd; rw [HL.out]; exact this) (by rw [HL.out]; exact hll)
    clear z1 z2 z3 hB
    have HSM : Hid (sumP t (fun k => stepS bds (nth t k)) t.length = sumT bds t) := (rfl : sumP t (fun k => stepS bds (nth t k)) t.length = sumT bds t)
    rw [HSM.out] at cB
    generalize sumT bds t = S at *
    go_wp2_with fail
    refine cB.mono ?_
    rintro e w2 ⟨rfl, hg2⟩
    clear cB
    by_cases hS : 1000000000 < S
    · go_wp2_with fail
      go_ret2
      refine ⟨?_, hg1.trans hg2⟩
      rw [HX.out, if_pos hS]
      simp
    · go_wp2_with fail
      go_ret2
      refine ⟨?_, hg1.trans hg2⟩
      rw [HX.out, if_neg (by omega)]
      simp
end Go.Proofs.YtcgbfhpmkpglkaaGreatDoor

/- Code in memory; what is said of it. -/
namespace Go.Proofs.YtcgbfhpmkpglkaaGreatDoor
open Go.RowKit
set_option linter.unusedVariables false
set_option linter.unusedSimpArgs false

/-- A slot of a unit. -/
structure Slt where
  path : ByteArray
  kind : Int
  at' : Int
  len : Int
  keep : Bool
  role : Int
/-- A unit of code. -/
structure Pr where
  k : Int
  nm : ByteArray
  fs : List Int
  sl : List Slt
  tx : List Ins
def slt0 : Slt := ⟨ByteArray.empty, 0, 0, 0, false, 0⟩
def pr0 : Pr := ⟨0, ByteArray.empty, [], [], []⟩
/-- Slots that can be read at a slice's value. -/
def SlAt (w : World) (v : Value) (l : List Slt) : Prop :=
  ∃ a cap, v = .slice a l.length cap ∧ (l = [] ∨ ∃ b off, a = some ⟨b, off, none⟩ ∧ ∀ i, i < l.length →
    w.cell? ⟨b, off + i * 6, none⟩ = some (.string (l.getD i slt0).path) ∧ w.cell? ⟨b, off + i * 6 + 1, none⟩ = some (.int .i64 (l.getD i slt0).kind) ∧
    w.cell? ⟨b, off + i * 6 + 2, none⟩ = some (.int .i64 (l.getD i slt0).at') ∧ w.cell? ⟨b, off + i * 6 + 3, none⟩ = some (.int .i64 (l.getD i slt0).len) ∧
    w.cell? ⟨b, off + i * 6 + 4, none⟩ = some (.bool (l.getD i slt0).keep) ∧ w.cell? ⟨b, off + i * 6 + 5, none⟩ = some (.int .i64 (l.getD i slt0).role))
theorem SlAt.grown {w w' : World} {v : Value} {l : List Slt} (h : SlAt w v l) (hg : w.grownBy w' none) : SlAt w' v l := by
  obtain ⟨a, cap, rfl, h | ⟨b, off, rfl, hc⟩⟩ := h
  · exact ⟨a, cap, rfl, .inl h⟩
  · refine ⟨_, cap, rfl, .inr ⟨b, off, rfl, fun i hi => ?_⟩⟩
    obtain ⟨h0, h1, h2, h3, h4, h5⟩ := hc i hi
    exact ⟨hg.cell h0 (by simp), hg.cell h1 (by simp), hg.cell h2 (by simp), hg.cell h3 (by simp), hg.cell h4 (by simp), hg.cell h5 (by simp)⟩
structure PrAt (w : World) (b off : Nat) (p : Pr) (fv sv tv : Value) : Prop where
  kind : w.cell? ⟨b, off, none⟩ = some (.int .i64 p.k)
  name : w.cell? ⟨b, off + 1, none⟩ = some (.string p.nm)
  fcell : w.cell? ⟨b, off + 2, none⟩ = some fv
  scell : w.cell? ⟨b, off + 3, none⟩ = some sv
  tcell : w.cell? ⟨b, off + 4, none⟩ = some tv
  first : rd w fv p.fs
  slots : SlAt w sv p.sl
  text : TxtAt w tv p.tx
theorem PrAt.grown {w w' : World} {b off : Nat} {p : Pr} {fv sv tv : Value} (h : PrAt w b off p fv sv tv) (hg : w.grownBy w' none) : PrAt w' b off p fv sv tv :=
  ⟨hg.cell h.kind (by simp), hg.cell h.name (by simp), hg.cell h.fcell (by simp), hg.cell h.scell (by simp), hg.cell h.tcell (by simp), rd_grown h.first hg, h.slots.grown hg, h.text.grown hg⟩
/-- Units that can be read at a slice's value. -/
def CdP (w : World) (v : Value) (ps : List Pr) : Prop :=
  ∃ a cap, v = .slice a ps.length cap ∧ ps.length ≤ cap ∧ (ps = [] ∨ ∃ b off, a = some ⟨b, off, none⟩ ∧ ∀ i, i < ps.length → ∃ fv sv tv, PrAt w b (off + i * 5) (ps.getD i pr0) fv sv tv)
theorem CdP.grown {w w' : World} {v : Value} {ps : List Pr} (h : CdP w v ps) (hg : w.grownBy w' none) : CdP w' v ps := by
  obtain ⟨a, cap, rfl, hcap, h | ⟨b, off, rfl, hc⟩⟩ := h
  · exact ⟨a, cap, rfl, hcap, .inl h⟩
  · refine ⟨_, cap, rfl, hcap, .inr ⟨b, off, rfl, fun i hi => ?_⟩⟩
    obtain ⟨fv, sv, tv, h1⟩ := hc i hi
    exact ⟨fv, sv, tv, h1.grown hg⟩

/-- The units ahead of number k: kinds, and sizes of frames. -/
def ahd (ps : List Pr) (k : Nat) : List (Int × Nat) := (ps.take k).map (fun p => (p.k, p.fs.length))
theorem ahd_len (ps : List Pr) (k : Nat) (hk : k ≤ ps.length) : (ahd ps k).length = k := by simp [ahd]; omega
theorem ahd_get (ps : List Pr) (k i : Nat) (hi : i < k) (hk : k ≤ ps.length) : (ahd ps k).getD i (0, 0) = ((ps.getD i pr0).k, (ps.getD i pr0).fs.length) := by
  have h1 : i < ps.length := by omega
  simp [ahd, List.getD, List.getElem?_take, hi, h1]
theorem ahead_of {w : World} {b off cap c2 : Nat} {ps : List Pr} (hc : ∀ i, i < ps.length → ∃ fv sv tv, PrAt w b (off + i * 5) (ps.getD i pr0) fv sv tv) (k : Nat) (hk : k ≤ ps.length) : AhAt w (.slice (some ⟨b, off, none⟩) k c2) (ahd ps k) := by
  refine ⟨_, c2, by rw [ahd_len ps k hk], .inr ⟨b, off, rfl, fun i hi => ?_⟩⟩
  rw [ahd_len ps k hk] at hi
  obtain ⟨fv, sv, tv, h⟩ := hc i (by omega)
  rw [ahd_get ps k i hi hk]
  refine ⟨h.kind, ?_⟩
  obtain ⟨fa, fc, rfl, _⟩ := h.first
  exact ⟨fa, fc, h.fcell⟩

/-- What is said of unit k, these being the bounds of those ahead. -/
def unitS (D : (∀ p : Prop, Decidable p) × Unit) (ps : List Pr) (k : Nat) (b : List Int) : Int × Int := lookS D (ahd ps k) b (ps.getD k pr0).k (ps.getD k pr0).fs.length (ps.getD k pr0).tx
/-- What is said of the units from number k on, m of them: bounds, and a fault's number and unit. -/
def verS (D : (∀ p : Prop, Decidable p) × Unit) (ps : List Pr) : Nat → Nat → List Int → List Int × Int × Int
  | 0, _, b => (b, 0, 0)
  | m + 1, k, b => if (unitS D ps k b).2 = 0 then verS D ps m (k + 1) (b ++ [(unitS D ps k b).1]) else ([], (unitS D ps k b).2, k)
def verR (D : (∀ p : Prop, Decidable p) × Unit) (ps : List Pr) : List Int × Int × Int := if 16 < ps.length then ([], 12, 0) else verS D ps ps.length 0 []
theorem lookS_bd {l : List (Int × Nat)} {bds : List Int} {kd : Int} {fn : Nat} {t : List Ins} (hb : ∀ b, b ∈ bds → 0 ≤ b ∧ b ≤ 1000000000) (hl : bds.length = l.length) (h0 : (lookS (Classical.propDecidable, ()) l bds kd fn t).2 = 0) : 0 ≤ (lookS (Classical.propDecidable, ()) l bds kd fn t).1 ∧ (lookS (Classical.propDecidable, ()) l bds kd fn t).1 ≤ 1000000000 := by
  unfold lookS at *
  split
  · rename_i hp
    rw [if_pos hp] at h0
    split
    · simp
    · refine ⟨?_, by simp; omega⟩
      have key : ∀ k, k ≤ t.length → 0 ≤ sumP t (fun k => stepS bds (nth t k)) k := by
        intro k
        induction k with
        | zero => intro _; simp [sumP]
        | succ k ih =>
          intro hk
          have h1 := ih (by omega)
          have h2 := (may_steps hp.may hp.frame hb hl k (by omega)).1
          have h3 := (mul_ge h2 (prd_bd (may_bs hp.may) (k + 1) k).1).1
          have h4 : (0 : Int) ≤ top1 := by simp [top1]
          simp only [sumP]
          omega
      exact key t.length (Nat.le_refl _)
  · rename_i hp
    rw [if_neg hp] at h0
    simp at h0

/-- A list of numbers that the call owns, nil or not. -/
def OwnV (B : Nat) (w : World) (v : Value) (l : List Int) : Prop := w.ownsRow B 3 1 v l.length (l.map (Value.int .i64))
theorem OwnV.nil (B : Nat) (w : World) : OwnV B w (.slice none 0 0) [] := World.ownsRow_nil w B 3 1
theorem OwnV.kept {B : Nat} {w w' : World} {v : Value} {l : List Int} (h : OwnV B w v l) {row : Option Nat} (hg : w.grownBy w' row) (hne : v.ownBlock = none ∨ v.ownBlock ≠ row) : OwnV B w' v l := World.ownsRow.kept h hg hne
theorem OwnV.keptN {B : Nat} {w w' : World} {v : Value} {l : List Int} (h : OwnV B w v l) (hg : w.grownBy w' none) : OwnV B w' v l := by
  refine h.kept hg ?_
  cases hv : v.ownBlock with
  | none => exact .inl rfl
  | some x => exact .inr (by simp)
theorem OwnV.rd {B : Nat} {w : World} {v : Value} {l : List Int} (h : OwnV B w v l) : rd w v l := by
  have h' := h
  obtain ⟨_, ⟨rfl, hn⟩ | ⟨g, cap, cur, rfl, _⟩⟩ := h
  · have : l = [] := by simpa using hn
    subst this
    exact ⟨none, 0, rfl, .inl rfl⟩
  · refine ⟨_, cap, rfl, .inr ⟨g, 0, rfl, fun i hi => ?_⟩⟩
    rw [Nat.zero_add, World.ownsRow.cellAt h' i (by omega)]
    simp [hi]
theorem OwnV.row {B : Nat} {w : World} {v : Value} {l : List Int} (h : OwnV B w v l) : ∀ x, v.ownBlock = some x → B ≤ x := fun x hx => (World.ownsRow.lt h x hx).1
theorem OwnV.more {B : Nat} {W : World} {v : Value} {l : List Int} (h : OwnV B W v l) (x : Int) (xb : Nat) (hx : W.heap[xb]? = some (.cells #[.int .i64 x] 3)) (hl : l.length ≤ 1000000) (hB : B ≤ W.heap.size) :
    ∃ v' w', (Builtin.append_ #[25, 25] 25 #[v, .slice (some ⟨xb, 0, none⟩) 1 1]).run Tryz.prog W = .ok v' w' ∧ OwnV B w' v' (l ++ [x]) ∧ W.grownBy w' v.ownBlock := by
  obtain ⟨i0, hi, hz0, hz1, hz2⟩ := info_parts info3
  obtain ⟨v', w', r1, r2, r3, _, _⟩ := run_append_own_at (P := Tryz.prog) W B 25 25 3 i0 (.int .i64 0) 1 8 Tryz.underlying25 hi hz0 hz1 hz2 rfl (by omega) _ _ _ h ⟨xb, 0, none⟩ 1 1 [.int .i64 x] rfl
    (fun j u hj => by
      rw [addn, at_cell hx (0 + j)]
      simpa using hj)
    (by simp [Value.oneCell']) (by unfold maxLen; omega) (by omega) hB
  refine ⟨v', w', r1, ?_, r3⟩
  unfold OwnV
  simpa using r2
end Go.Proofs.YtcgbfhpmkpglkaaGreatDoor

/- The machine: from one place of a text to the next. -/
namespace Go.Proofs.YtcgbfhpmkpglkaaGreatDoor
open Go.RowKit
set_option linter.unusedVariables false
set_option linter.unusedSimpArgs false

/-- What a step from i to p asks and keeps. -/
def Nxt (t : List Ins) (s : Nat → Int) (c : Int → Int) (i p : Nat) (c' : Int → Int) : Prop :=
  s i + phi t s c' p ≤ phi t s c i ∧ Cn t c' p ∧ Lc t p ∧ Hh t p = Hh t i - tkN t i + gvN t i ∧ 0 ≤ Hh t p ∧ p ≤ t.length ∧ Hh t p ≤ 1000
theorem hh_nonneg {t : List Ins} {i : Nat} {h : Int} (h1 : tkN t i ≤ h) : 0 ≤ h - tkN t i + gvN t i := by
  have := gvN_pos t i
  omega
theorem nx_plain {t : List Ins} {s : Nat → Int} {l : List (Int × Nat)} {kd : Int} {fn : Nat} (hP : ProgOk l kd fn t) (hs : ∀ k, k < t.length → 0 ≤ s k) {c : Int → Int} {i : Nat} (hi : i < t.length) (hc : Cn t c i) (hl : Lc t i) (hh : Hh t i ≠ -1) (he : isE t i = false) (hr : isR t i = false) (hw : i + 1 ∈ ways t i) : Nxt t s c i (i + 1) c := by
  have L := prog_lk hP
  obtain ⟨a1, a2⟩ := go_plain (s := s) L hs hi hc he hr
  have h := Hh_step hP.stack hi hh
  have e := h.2.2.1 (i + 1) hw (by omega) (by omega)
  exact ⟨a1, a2, fun f hf => hl f (by rw [inL_self_next L.rds he hr f]; exact hf), e, by rw [e]; exact hh_nonneg h.1, by omega, by rw [e]; exact h.2.1⟩
theorem nx_jump {t : List Ins} {s : Nat → Int} {l : List (Int × Nat)} {kd : Int} {fn : Nat} (hP : ProgOk l kd fn t) (hs : ∀ k, k < t.length → 0 ≤ s k) {c : Int → Int} {i : Nat} (hi : i < t.length) (hc : Cn t c i) (hl : Lc t i) (hh : Hh t i ≠ -1) (hd : (nth t i).d = 11 ∨ (nth t i).d = 12) : Nxt t s c i (nth t i).a.toNat c ∧ ((nth t i).a.toNat : Int) = (nth t i).a := by
  have L := prog_lk hP
  obtain ⟨a1, a2⟩ := go_jumpP (s := s) L hs hi hc hd
  obtain ⟨h1, h2⟩ := L.fwd i hi hd
  have h := Hh_step hP.stack hi hh
  have e := h.2.2.1 (nth t i).a.toNat (by rcases hd with hd | hd <;> simp [ways, hd]) (by omega) (by omega)
  refine ⟨⟨a1, a2, fun g hg => hl g ?_, e, by rw [e]; exact hh_nonneg h.1, by omega, by rw [e]; exact h.2.1⟩, by omega⟩
  have h3 := inL_iff.1 hg
  have := L.jdoc i hi hd (g - 1) h3.2.2.1 (by rw [show g - 1 + 1 = g by omega]; exact hg)
  rw [show g - 1 + 1 = g by omega] at this
  exact this
theorem nx_enter {t : List Ins} {s : Nat → Int} {l : List (Int × Nat)} {kd : Int} {fn : Nat} (hP : ProgOk l kd fn t) (hs : ∀ k, k < t.length → 0 ≤ s k) {c : Int → Int} {i : Nat} (hi : i < t.length) (hc : Cn t c i) (hl : Lc t i) (hh : Hh t i ≠ -1) (he : isE t i = true) (hw : i + 1 ∈ ways t i) : Nxt t s c i (i + 1) (upd c (nth t i).a (nth t i).b) := by
  have L := prog_lk hP
  obtain ⟨a1, a2⟩ := go_enterP (s := s) L hs hi hc he
  have h := Hh_step hP.stack hi hh
  have e := h.2.2.1 (i + 1) hw (by omega) (by omega)
  refine ⟨a1, a2, fun f hf => ?_, e, by rw [e]; exact hh_nonneg h.1, by omega, by rw [e]; exact h.2.1⟩
  by_cases h1 : f ≤ i
  · exact hl f (by rw [inL_next L.rds (isE_notR he) h1]; exact hf)
  · have : f = i + 1 := by have := (inL_iff.1 hf).2.1; omega
    subst this
    rw [e]
    have := hh_nonneg h.1
    omega
theorem nx_back {t : List Ins} {s : Nat → Int} {l : List (Int × Nat)} {kd : Int} {fn : Nat} (hP : ProgOk l kd fn t) (hs : ∀ k, k < t.length → 0 ≤ s k) {c : Int → Int} {i : Nat} (hi : i < t.length) (hc : Cn t c i) (hl : Lc t i) (hh : Hh t i ≠ -1) (hr : isR t i = true) (hx : 0 < c (nth t i).a - 1) (hw : (nth t i).b.toNat ∈ ways t i) : Nxt t s c i (nth t i).b.toNat (upd c (nth t i).a (c (nth t i).a - 1)) ∧ ((nth t i).b.toNat : Int) = (nth t i).b := by
  have L := prog_lk hP
  obtain ⟨a1, a2⟩ := go_backP (s := s) L hs hi hc hr hx
  obtain ⟨hf, hfr, ha, hb⟩ := round_loop L.rds hr
  have h := Hh_step hP.stack hi hh
  have hle := (inL_iff.1 hf).2.1
  have e := h.2.2.2 (nth t i).b.toNat hw hle (hl _ hf)
  refine ⟨⟨a1, a2, fun g hg => ?_, e, by rw [e]; exact hh_nonneg h.1, by omega, by rw [e]; exact h.2.1⟩, hb⟩
  rcases Nat.lt_trichotomy g (nth t i).b.toNat with h1 | h1 | h1
  · exact hl g (by rw [(round_outer L hf hfr g h1).1]; exact hg)
  · rw [h1]; exact hl _ hf
  · have := (inL_iff.1 hg).2.1
    omega
theorem nx_leave {t : List Ins} {s : Nat → Int} {l : List (Int × Nat)} {kd : Int} {fn : Nat} (hP : ProgOk l kd fn t) (hs : ∀ k, k < t.length → 0 ≤ s k) {c : Int → Int} {i : Nat} (hi : i < t.length) (hc : Cn t c i) (hl : Lc t i) (hh : Hh t i ≠ -1) (hr : isR t i = true) (hx : ¬ 0 < c (nth t i).a - 1) (hw : i + 1 ∈ ways t i) : Nxt t s c i (i + 1) (upd c (nth t i).a (c (nth t i).a - 1)) := by
  have L := prog_lk hP
  obtain ⟨a1, a2⟩ := go_leaveP (s := s) L hs hi hc hr hx
  obtain ⟨hf, hfr, ha, hb⟩ := round_loop L.rds hr
  have h := Hh_step hP.stack hi hh
  have e := h.2.2.1 (i + 1) hw (by omega) (by omega)
  refine ⟨a1, a2, fun g hg => ?_, e, by rw [e]; exact hh_nonneg h.1, by omega, by rw [e]; exact h.2.1⟩
  rcases Nat.lt_trichotomy g (nth t i).b.toNat with h2 | h2 | h2
  · exact hl g (by rw [(round_outer L hf hfr g h2).2]; exact hg)
  · have := (inL_iff.1 hg).2.2.2
    rw [h2] at this
    omega
  · rw [(round_inner L hf hfr g h2).2] at hg
    simp at hg
end Go.Proofs.YtcgbfhpmkpglkaaGreatDoor

/- The machine: a unit's run ends within its bound. -/
namespace Go.Proofs.YtcgbfhpmkpglkaaGreatDoor
open Go.RowKit
attribute [local go_sem ↓] Go.wp_at_zero Go.wp_at_succ
set_option linter.unusedVariables false
set_option linter.unusedSimpArgs false

/-- Where a run stands. -/
def RlP (c w0 w1 : World) (B M F off fn fc al C : Nat) (sl0 : Int) (pv : Value) (now : Int) (r0 : Option Nat) (sp0 fl0 bd : Int) (t : List Ins) (s : Nat → Int) (gk i : Nat) (wx : World) : Prop :=
  ∃ sa sc st ar sp fl cs, Ctx c wx B M F off fn fc ar pv now sa sc st sp fl ∧ wx.heap[C]? = some (.cells (intsA cs) 82) ∧ (cs.length = 40 ∧ ∀ x, x ∈ cs → x ≤ 10000) ∧ ar.length = al ∧ Cn t (cF cs) i ∧ Lc t i ∧ (Hh t i ≠ -1 ∧ Hh t i ≤ 1000) ∧ (st.length : Int) = sl0 + Hh t i ∧ sp + phi t s (cF cs) i ≤ sp0 + bd ∧ sp0 ≤ sp ∧ fl0 ≤ fl ∧ fl ≤ fl0 + (sp - sp0) ∧ Chg M (some F) r0 w0 wx ∧ Nx w1 r0 (sb sa) ∧ gk = (phi t s (cF cs) i).toNat
theorem Ctx.step {c w : World} {B M F off n fc : Nat} {ar : List Int} {pv : Value} {now : Int} {sa : Option Addr} {sc : Nat} {st : List Int} {sp fl : Int} (h : Ctx c w B M F off n fc ar pv now sa sc st sp fl) (h1 : sp + 1 ≤ 1000000000000) : Ctx c (w.setCell ⟨M, 3, none⟩ (.int .i64 (sp + 1))) B M F off n fc ar pv now sa sc st (sp + 1) fl := by
  have hc : Chg M none (sb sa) w (w.setCell ⟨M, 3, none⟩ (.int .i64 (sp + 1))) := chg_set M 3 _ _ w _
  exact ⟨h.ma.setS (sp + 1), h.fr.chg hc h.fm rfl (fun y hy => by have := (h.ma.row y hy).1; have := h.fb; omega), h.fm, h.fb, grown_chg h.cw hc h.cM (fun y hy => by simp at hy) (fun y hy => by have := (h.ma.row y hy).1; have := h.cB; omega), h.cM, h.cB, h.cF, by have := h.bw; simpa using this, h.hn, h.nc, h.n2, h.sl, h.f0, h.f1, by have := h.s0; omega, h1⟩
theorem _root_.Go.World.grownBy.trans2 {c w : World} {C : Nat} (h : c.grownBy w none) (hC : c.heap.size ≤ C) (k : Nat) (v : Value) : c.grownBy (w.setCell ⟨C, k, none⟩ v) none :=
  ⟨h.os, h.tape, h.output, by simpa using h.size, fun x hx h1 => by rw [Below.heap_setCell _ _ _ _ (by simp; omega)]; exact h.block x hx h1⟩
theorem FrAt.getC {w : World} {C : Nat} {cs : List Int} (h : w.heap[C]? = some (.cells (intsA cs) 82)) (k : Nat) (hk : k < cs.length) : w.cell? ⟨C, k, none⟩ = some (.int .i64 (cs.getD k 0)) := by
  have := at_cell h k
  rw [this]
  simp [intsA, hk]
theorem at_lt1 {c : World} {tb o : Nat} {x : Ins} (h : InsAt c tb o x) : tb < c.heap.size := by
  cases hl : c.heap[tb]? with
  | none => have := h.d; simp [World.cell?, hl] at this
  | some o' => exact at_lt hl
theorem MaC.else {w : World} {B M C : Nat} {pv : Value} {now : Int} {sa : Option Addr} {sc : Nat} {st : List Int} {sp fl : Int} (h : MaC w B M pv now sa sc st sp fl) (hM : C ≠ M) (hr : some C ≠ sb sa) (k : Nat) (v : Value) : MaC (w.setCell ⟨C, k, none⟩ v) B M pv now sa sc st sp fl := by
  refine ⟨by rw [Below.heap_setCell _ _ _ _ (by simpa using Ne.symm hM)]; exact h.blk, ?_, h.lo⟩
  exact World.ownsRow.kept h.own (gr_set (World.grownBy.refl w (some C)) _ _) (.inr fun e => by rw [own_sb] at e; exact hr e.symm)
theorem Ctx.else {c w : World} {B M F off n fc C : Nat} {ar : List Int} {pv : Value} {now : Int} {sa : Option Addr} {sc : Nat} {st : List Int} {sp fl : Int} (h : Ctx c w B M F off n fc ar pv now sa sc st sp fl) (hC : B ≤ C) (hr : some C ≠ sb sa) (k : Nat) (v : Value) : Ctx c (w.setCell ⟨C, k, none⟩ v) B M F off n fc ar pv now sa sc st sp fl :=
  ⟨h.ma.else (by have := h.ma.lo; omega) hr k v, by unfold FrAt; rw [Below.heap_setCell _ _ _ _ (by have := h.fb; simp; omega)]; exact h.fr, h.fm, h.fb, h.cw.trans2 (by have := h.cB; omega) k v, h.cM, h.cB, h.cF, by have := h.bw; simpa using this, h.hn, h.nc, h.n2, h.sl, h.f0, h.f1, h.s0, h.s1⟩
theorem chg_else {M C : Nat} {F r : Option Nat} {w w' : World} (h : Chg M F r w w') (hC : w.heap.size ≤ C) (k : Nat) (v : Value) : Chg M F r w (w'.setCell ⟨C, k, none⟩ v) :=
  ⟨h.os, h.tape, h.output, by simpa using h.size, fun x hx h1 h2 h3 => by rw [Below.heap_setCell _ _ _ _ (by simp; omega)]; exact h.block x hx h1 h2 h3⟩
theorem cs_set {cs : List Int} (h : cs.length = 40 ∧ ∀ x, x ∈ cs → x ≤ 10000) (k : Nat) {v : Int} (hv : v ≤ 10000) : (cs.set k v).length = 40 ∧ ∀ x, x ∈ cs.set k v → x ≤ 10000 :=
  ⟨by simpa using h.1, fun x hx => by
    rcases List.mem_or_eq_of_mem_set hx with h1 | h1
    · exact h.2 x h1
    · omega⟩
theorem Ctx.kept {c w w' : World} {B M F off n fc : Nat} {ar : List Int} {pv : Value} {now : Int} {sa : Option Addr} {sc : Nat} {st : List Int} {sp fl : Int} (h : Ctx c w B M F off n fc ar pv now sa sc st sp fl) (hg : w.grownBy w' none) : Ctx c w' B M F off n fc ar pv now sa sc st sp fl :=
  ⟨h.ma.kept hg, h.fr.grown hg, h.fm, h.fb, h.cw.trans hg, h.cM, h.cB, h.cF, by have := h.bw; have := hg.size; omega, h.hn, h.nc, h.n2, h.sl, h.f0, h.f1, h.s0, h.s1⟩
/-- What is still to be done is at least the next instruction. -/
theorem phi_ge {t : List Ins} {s : Nat → Int} (L : Lk t) (hs : ∀ k, k < t.length → 0 ≤ s k) {c : Int → Int} {i : Nat} (hi : i < t.length) (hc : Cn t c i) : s i ≤ phi t s c i := by
  have hr : ∀ k, 0 ≤ rR t c i k := fun k => by
    unfold rR
    refine Int.mul_nonneg (by have := mM_pos L.bs i k (dn t.length); omega) ?_
    have := qQ_pos L.bs hc k (dn t.length)
    split <;> omega
  have h1 : 1 ≤ rR t c i i := by
    unfold rR
    rw [if_pos (Nat.le_refl _)]
    have h2 := mM_pos L.bs i i (dn t.length)
    have h3 := qQ_pos L.bs hc i (dn t.length)
    exact (mul_ge h2 (by omega)).1
  unfold phi
  rw [← sumI_one s i t.length hi]
  refine sumI_le _ (fun k hk => ?_)
  by_cases e : k = i
  · subst e
    rw [if_pos rfl]
    have := Int.mul_le_mul_of_nonneg_left h1 (hs k hk)
    omega
  · rw [if_neg e]
    exact Int.mul_nonneg (hs k hk) (hr k)
theorem rl_mk {c w0 w1 w' : World} {B M F off fn fc al C : Nat} {sl0 : Int} {pv : Value} {now : Int} {r0 : Option Nat} {sp0 fl0 bd : Int} {t : List Ins} {s : Nat → Int} {i p : Nat} {sa' : Option Addr} {sc' : Nat} {st' ar' : List Int} {sp sp' fl' : Int} {cs cs' : List Int}
    (hN : Nxt t s (cF cs) i p (cF cs')) (hx : Ctx c w' B M F off fn fc ar' pv now sa' sc' st' sp' fl') (hcb : w'.heap[C]? = some (.cells (intsA cs') 82)) (hcl : cs'.length = 40 ∧ ∀ x, x ∈ cs' → x ≤ 10000) (hal : ar'.length = al) (hst : (st'.length : Int) = sl0 + Hh t p) (hph : sp + phi t s (cF cs) i ≤ sp0 + bd) (h1 : sp0 ≤ sp') (h2 : sp' ≤ sp + s i) (h3 : fl0 ≤ fl') (h4 : fl' ≤ fl0 + (sp' - sp0)) (hchg : Chg M (some F) r0 w0 w') (hnx : Nx w1 r0 (sb sa')) :
    RlP c w0 w1 B M F off fn fc al C sl0 pv now r0 sp0 fl0 bd t s (phi t s (cF cs') p).toNat p w' := by
  obtain ⟨n1, n2, n3, n4, n5, n6, n7⟩ := hN
  exact ⟨sa', sc', st', ar', sp', fl', cs', hx, hcb, hcl, hal, n2, n3, ⟨by omega, n7⟩, hst, by omega, h1, h3, h4, hchg, hnx, rfl⟩
theorem rl_less {t : List Ins} {s : Nat → Int} {i p : Nat} {c c' : Int → Int} {gk : Nat} (L : Lk t) (hs : ∀ k, k < t.length → 0 ≤ s k) (hN : Nxt t s c i p c') (h1 : 1 ≤ s i) (hg : gk = (phi t s c i).toNat) : (phi t s c' p).toNat < gk := by
  obtain ⟨n1, n2, n3, n4, n5, n6, n7⟩ := hN
  have := phi_nonneg (s := s) L.bs hs n2
  omega
/-- A text in memory that stays. -/
structure TxtC (c : World) (pb q tb to' tn tc : Nat) (t : List Ins) : Prop where
  cell : c.cell? ⟨pb, q + 4, none⟩ = some (.slice (some ⟨tb, to', none⟩) tn tc)
  len : t.length = tn
  ins : ∀ i, i < tn → InsAt c tb (to' + i * 4) (nth t i)

set_option maxRecDepth 10000 in
set_option maxHeartbeats 8000000 in
theorem run_unit (c : World) (pb po np pcap u fn tb to' tn tc : Nat) (kd now : Int) (l : List (Int × Nat)) (bds : List Int) (t : List Ins) (hT : TxtC c pb (po + u * 5) tb to' tn tc t) (hP : ProgOk l kd fn t) (hlu : l.length = u) (hu : u ≤ 16) (hS : Stds c) (hnp : l.length ≤ np) (hfst : ∀ u, u < l.length → ∃ fa ffc, c.cell? ⟨pb, po + u * 5 + 2, none⟩ = some (.slice fa (l.getD u (0, 0)).2 ffc)) (hR : ∀ u, u < l.length → RunW c pb po np pcap u (l.getD u (0, 0)).2 (bds.getD u 0) now)
    (hb0 : ∀ u, 0 ≤ bds.getD u 0) (hsum : sumT bds t ≤ 1000000000) (hs1 : ∀ k, 1 ≤ stepS bds (nth t k)) : RunW c pb po np pcap u fn (sumT bds t) now := by
  intro w B M F off fc ar0 sa0 sc0 st0 sp0 fl0 h0 hsp0 hfl0 hst0
  have L := prog_lk hP
  have HL : Hid (Lk t) := L
  have HPO : Hid (ProgOk l kd fn t) := hP
  have HT : Hid (TxtC c pb (po + u * 5) tb to' tn tc t) := hT
  have HH0 : Hid (Ctx c w B M F off fn fc ar0 (.slice (some ⟨pb, po, none⟩) np pcap) now sa0 sc0 st0 sp0 fl0) := h0
  have HS1 : Hid (∀ k, 1 ≤ stepS bds (nth t k)) := hs1
  have HB0 : Hid (∀ u, 0 ≤ bds.getD u 0) := hb0
  have HSS : Hid (Stds c) := hS
  have HFS : Hid (∀ u, u < l.length → ∃ fa ffc, c.cell? ⟨pb, po + u * 5 + 2, none⟩ = some (.slice fa (l.getD u (0, 0)).2 ffc)) := hfst
  have HRR : Hid (∀ u, u < l.length → RunW c pb po np pcap u (l.getD u (0, 0)).2 (bds.getD u 0) now) := hR
  have htn := hT.len
  have htl := hP.len
  rw [htn] at htl
  have HLU : Hid (l.length = u) := hlu
  obtain ⟨s, hs⟩ : ∃ s : Nat → Int, s = fun k => stepS bds (nth t k) := ⟨_, rfl⟩
  have HSD : Hid (s = fun k => stepS bds (nth t k)) := hs
  have HSN : Hid (∀ k, 1 ≤ s k) := fun k => by rw [hs]; exact hs1 k
  have HS0 : Hid (∀ k, k < t.length → 0 ≤ s k) := fun k _ => by have := HSN.out k; omega
  have HPH : Hid (∀ c, phi t s c 0 = sumT bds t) := fun c => by
    rw [phi_first L.bs HSN.out c (by rw [hs]; exact hsum), hs]; rfl
  have hbw := h0.bw
  clear hT hP h0 hs1 hb0 hS hfst hR L hs
  obtain ⟨C, hC⟩ : ∃ C, w.heap.size = C := ⟨_, rfl⟩
  have HCC : Hid (w.heap.size = C) := hC
  generalize hbd : sumT bds t = bd at *
  have HBD : Hid (sumT bds t = bd) := hbd
  clear hbd
  go_enter Tryz.func18, Tryz.ntmps18
  go_wp2_with fail
  have HW1 : Hid ((w.alloc (.cells (intsA (List.replicate 40 0)) 82)).heap[C]? = some (.cells (intsA (List.replicate 40 0)) 82)) := (hp_new hC.symm _ : (w.alloc (.cells (intsA (List.replicate 40 0)) 82)).heap[C]? = some (.cells (intsA (List.replicate 40 0)) 82))
  have HR0 : Hid (RlP c w (w.alloc (.cells (intsA (List.replicate 40 0)) 82)) B M F off fn fc ar0.length C (st0.length : Int) (.slice (some ⟨pb, po, none⟩) np pcap) now (sb sa0) sp0 fl0 bd t s bd.toNat 0 (w.alloc (.cells (intsA (List.replicate 40 0)) 82))) :=
    ⟨sa0, sc0, st0, ar0, sp0, fl0, List.replicate 40 0, HH0.out.kept (gr1 _ _), HW1.out, ⟨by simp, fun x hx => by have := List.eq_of_mem_replicate hx; omega⟩, rfl, cn_first _, lc_zero t, by rw [Hh_zero]; exact ⟨by omega, by omega⟩, by rw [Hh_zero]; omega, by rw [HPH.out]; omega, by omega, by omega, by omega, Chg.of_none (gr1 _ _), Nx.refl _ _, by rw [HPH.out]⟩
  generalize hw1 : w.alloc (.cells (intsA (List.replicate 40 0)) 82) = w1 at HR0 HW1
  have hws : w1.heap.size = C + 1 := by rw [← hw1]; simp [hC]
  have HWG : Hid (w.grownBy w1 none) := hw1 ▸ gr1 _ _
  have HR1 : Hid (∀ y, (sb sa0) = some y → y < C ∧ B ≤ y) := fun y hy => by have := HH0.out.ma.row y hy; have := HCC.out; omega
  clear HPH HW1
  go_loopg [7] bd.toNat (fun gk s7 wx => ∃ i : Nat, s7 = .int .i64 i ∧ i ≤ tn ∧ RlP c w w1 B M F off fn fc ar0.length C (st0.length : Int) (.slice (some ⟨pb, po, none⟩) np pcap) now (sb sa0) sp0 fl0 bd t s gk i wx)
  case atStart => exact ⟨0, rfl, Nat.zero_le _, by have h := HR0.out; rw [← hw1] at h ⊢; exact h⟩
  case round =>
    obtain ⟨i, rfl, hin, sa, sc, st, ar, sp, fl, cs, hctx, hcb, ⟨hcl, hcm⟩, hal, hcn, hlc, ⟨hhl, hhm⟩, hsl, hph, hsp, hf1, hf2, hchg, hnx, hgk⟩ := hrel
    have HCX : Hid (Ctx c wr B M F off fn fc ar (.slice (some ⟨pb, po, none⟩) np pcap) now sa sc st sp fl) := hctx
    by_cases hlt : i < tn
    · have hit : i < t.length := by rw [htn]; exact hlt
      have hphi := phi_nonneg (s := s) HL.out.bs HS0.out hcn
      have hq4 := hctx.cw.cell HT.out.cell (by simp)
      have m3 := at_cell hctx.ma.blk 3
      simp at m3
      have f3 := at_frozen hctx.ma.blk 3
      have hw3 := fault_more sp hctx.s0 hctx.s1
      have i1 : (0 : Int) ≤ (i : Int) := by omega
      have i2 : (i : Int) < (tn : Int) := by omega
      go_upto_region 6 with fail
      have hsb : s i ≤ phi t s (cF cs) i := by
        have := HSN.out i
        have h1 : 1 ≤ 1 := by omega
        exact phi_ge HL.out HS0.out hit hcn
      have HSI : Hid (s i = stepS bds (nth t i)) := by rw [HSD.out]; exact rfl
      have hsi := HSN.out i
      have hspB : sp + 1 ≤ 1000000000 := by omega
      have hx2 := hctx.step (by omega)
      generalize hw2 : wr.setCell ⟨M, 3, none⟩ (.int .i64 (sp + 1)) = w2
      rw [hw2] at hx2
      have hC2 : Chg M (some F) (sb sa) wr w2 := hw2 ▸ chg_set M 3 _ _ wr _
      have hMB := hctx.ma.lo
      have hcb2 : w2.heap[C]? = some (.cells (intsA cs) 82) := by rw [← hw2, Below.heap_setCell _ _ _ _ (by simp; omega)]; exact hcb
      have HC2 : Hid (Ctx c w2 B M F off fn fc ar (.slice (some ⟨pb, po, none⟩) np pcap) now sa sc st (sp + 1) fl) := hx2
      have HCB : Hid (w2.heap[C]? = some (.cells (intsA cs) 82)) := hcb2
      have HCM : Hid (cs.length = 40 ∧ ∀ x, x ∈ cs → x ≤ 10000) := ⟨hcl, hcm⟩
      have HNW : Hid (Nx w (sb sa0) (sb sa)) := Nx.trans HWG.out.size (Nx.refl _ _) hnx
      have HCH : Hid (Chg M (some F) (sb sa0) w w2) := hchg.trans HNW.out hC2
      have HNX : Hid (Nx w1 (sb sa0) (sb sa)) := hnx
      have hFB := hctx.fb
      have HNC : Hid (some C ≠ sb sa) := fun e => by
        rcases hnx with h | h
        · have := (HR1.out C (h ▸ e.symm)).1; omega
        · have := h C e.symm; omega
      have hins := (HT.out.ins i hlt).grown hx2.cw
      have HIN : Hid (InsAt c tb (to' + i * 4) (nth t i)) := HT.out.ins i hlt
      have hmay := HPO.out.may i hit
      have hhs := Hh_step HPO.out.stack hit hhl
      have HHS : Hid (tkN t i ≤ Hh t i ∧ Hh t i - tkN t i + gvN t i ≤ 1000 ∧ (∀ p, p ∈ ways t i → i < p → p ≤ t.length → Hh t p = Hh t i - tkN t i + gvN t i) ∧ (∀ p, p ∈ ways t i → p ≤ i → Hh t p ≠ -1 → Hh t p = Hh t i - tkN t i + gvN t i)) := hhs
      have HCN : Hid (Cn t (cF cs) i) := hcn
      have HLC : Hid (Lc t i) := hlc
      have HPHI : Hid (0 ≤ phi t s (cF cs) i ∧ sp + phi t s (cF cs) i ≤ sp0 + bd ∧ s i ≤ phi t s (cF cs) i ∧ gk = (phi t s (cF cs) i).toNat) := ⟨hphi, hph, hsb, hgk⟩
      have HMAY : Hid (mayS l fn t.length i (nth t i) = true) := hmay
      have HHL : Hid (Hh t i ≠ -1) := hhl
      have hhge := Hh_ge HPO.out.stack (Nat.le_of_lt hit)
      obtain ⟨q0, q1, q2, q3⟩ := hins
      obtain ⟨x, hxe⟩ : ∃ x, nth t i = x := ⟨_, rfl⟩
      have HXE : Hid (nth t i = x) := hxe
      rw [hxe] at q0 q1 q2 q3
      obtain ⟨d, a, b, cc⟩ := x
      dsimp only at q0 q1 q2 q3
      clear hctx hcb hcn hlc hphi hph hsb hgk hmay hhs hw2 hC2 hcb2 hcm hchg hnx hx2 m3 f3 hw3 hq4 hxe
      by_cases h11 : d = 11
      · subst h11
        obtain ⟨nx, hk⟩ := nx_jump (s := s) HPO.out HS0.out hit HCN.out HLC.out HHL.out (by rw [HXE.out]; exact .inl rfl)
        have HNN : Hid (Nxt t s (cF cs) i (nth t i).a.toNat (cF cs)) := nx
        have hkt := nx.2.2.2.2.2.1
        rw [HXE.out] at hk hkt
        dsimp only at hk hkt
        obtain ⟨k, hkd⟩ : ∃ k, a.toNat = k := ⟨_, rfl⟩
        rw [hkd] at hk hkt
        have HKA : Hid ((nth t i).a.toNat = k) := by rw [HXE.out]; exact hkd
        subst hk
        clear nx hkd
        go_wp2
        go_roundg ((phi t s (cF cs) k).toNat)
        case rel => exact ⟨k, rfl, by omega, rl_mk (sp := sp) (HKA.out ▸ HNN.out) HC2.out HCB.out HCM.out hal (by have := (HKA.out ▸ HNN.out : Nxt t s (cF cs) i k (cF cs)).2.2.2.1; simp [tkN, gvN, HXE.out, tkS, gvS] at this; omega) HPHI.out.2.1 (by omega) (by omega) (by omega) (by omega) HCH.out HNX.out⟩
        case measure => exact rl_less HL.out HS0.out (HKA.out ▸ HNN.out : Nxt t s (cF cs) i k (cF cs)) (HSN.out i) HPHI.out.2.2.2
      · have g11 : (d == 11) = false := by simpa using h11
        by_cases h12 : d = 12
        · subst h12
          have HTK : Hid (1 ≤ Hh t i) := by have h1 := HHS.out.1; simp [tkN, HXE.out, tkS] at h1; exact h1
          obtain ⟨r, v, rfl⟩ := last1 (st := st) (by have := HTK.out; omega)
          obtain ⟨nx, hk⟩ := nx_jump (s := s) HPO.out HS0.out hit HCN.out HLC.out HHL.out (by rw [HXE.out]; exact .inr rfl)
          have ny := nx_plain (s := s) HPO.out HS0.out hit HCN.out HLC.out HHL.out (by simp [isE, HXE.out]) (by simp [isR, HXE.out]) (by simp [ways, HXE.out])
          have HNY : Hid (Nxt t s (cF cs) i (i + 1) (cF cs)) := ny
          have HNN : Hid (Nxt t s (cF cs) i (nth t i).a.toNat (cF cs)) := nx
          have hkt := nx.2.2.2.2.2.1
          rw [HXE.out] at hk hkt
          dsimp only at hk hkt
          obtain ⟨k, hkd⟩ : ∃ k, a.toNat = k := ⟨_, rfl⟩
          rw [hkd] at hk hkt
          have HKA : Hid ((nth t i).a.toNat = k) := by rw [HXE.out]; exact hkd
          have HNK : Hid (Nxt t s (cF cs) i k (cF cs)) := HKA.out ▸ HNN.out
          subst hk
          clear nx ny hkd
          have HCL := pop_any B M _ now sa sc r (sp + 1) fl v w2 HC2.out.ma (by have := HC2.out.sl; simp at this; omega)
          go_wp2_with fail
          refine HCL.mono ?_
          rintro e w3 ⟨rfl, g1, g2, g3⟩
          have HC3 : Hid (Ctx c w3 B M F off fn fc ar (.slice (some ⟨pb, po, none⟩) np pcap) now sa sc r (sp + 1) fl ∧ w3.heap[C]? = some (.cells (intsA cs) 82) ∧ ar.length = ar0.length ∧ Chg M (some F) (sb sa0) w w3 ∧ Nx w1 (sb sa0) (sb sa)) := by
            have hx := HC2.out
            refine ⟨⟨g1, hx.fr.chg g2 hx.fm rfl (fun y hy => by have := (hx.ma.row y hy).1; have := hx.fb; omega), hx.fm, hx.fb, grown_chg hx.cw g2 hx.cM (fun y hy => by simp at hy) (fun y hy => by have := (hx.ma.row y hy).1; have := hx.cB; omega), hx.cM, hx.cB, hx.cF, by have := hx.bw; have := g2.size; omega, hx.hn, hx.nc, hx.n2, by have := hx.sl; simp at this; omega, hx.f0, hx.f1, hx.s0, hx.s1⟩, ?_, hal, HCH.out.trans HNW.out g2.wide, HNX.out⟩
            rw [g2.block C (at_lt HCB.out) (by have := hx.ma.lo; omega) (fun e => by simp at e) (fun e => HNC.out e)]
            exact HCB.out
          have hln : (r.length : Int) + 1 = st0.length + Hh t i := by have := hsl; simp at this; omega
          have HLN : Hid ((r.length : Int) + 1 = st0.length + Hh t i) := hln
          clear hln
          obtain ⟨p0, p1, p2, p3⟩ := (HXE.out ▸ HIN.out : InsAt c tb (to' + i * 4) ⟨12, (k : Int), b, cc⟩).grown HC3.out.1.cw
          dsimp only at p0 p1 p2 p3
          clear g1 g2 g3 HCL q0 q1 q2 q3 hsl
          by_cases hv : v = 0
          · subst hv
            go_wp2
            go_roundg ((phi t s (cF cs) k).toNat)
            case rel =>
              obtain ⟨y1, y2, y3, y4, y5⟩ := HC3.out
              exact ⟨k, rfl, by omega, rl_mk (sp := sp) HNK.out y1 y2 HCM.out y3 (by have := HNK.out.2.2.2.1; simp [tkN, gvN, HXE.out, tkS, gvS] at this; have := HLN.out; omega) HPHI.out.2.1 (by omega) (by omega) (by omega) (by omega) y4 y5⟩
            case measure => exact rl_less HL.out HS0.out HNK.out (HSN.out i) HPHI.out.2.2.2
          · have hv' : (v == 0) = false := by simpa using hv
            go_wp2
            go_roundg ((phi t s (cF cs) (i + 1)).toNat)
            case rel =>
              obtain ⟨y1, y2, y3, y4, y5⟩ := HC3.out
              exact ⟨i + 1, by go_num, by omega, rl_mk (sp := sp) HNY.out y1 y2 HCM.out y3 (by have := HNY.out.2.2.2.1; simp [tkN, gvN, HXE.out, tkS, gvS] at this; have := HLN.out; omega) HPHI.out.2.1 (by omega) (by omega) (by omega) (by omega) y4 y5⟩
            case measure => exact rl_less HL.out HS0.out HNY.out (HSN.out i) HPHI.out.2.2.2
        · have g12 : (d == 12) = false := by simpa using h12
          by_cases h13 : d = 13
          · subst h13
            have ha := may_cnt HPO.out.may i (by simp [isE, HXE.out])
            rw [HXE.out] at ha
            dsimp only at ha
            obtain ⟨k, rfl⟩ := Int.eq_ofNat_of_zero_le ha.1
            have k1 : (0 : Int) ≤ (k : Int) := by omega
            have k2 : (k : Int) < (40 : Int) := ha.2
            have hk40 : k < cs.length := by omega
            have ny := nx_enter (s := s) HPO.out HS0.out hit HCN.out HLC.out HHL.out (by simp [isE, HXE.out]) (by simp [ways, HXE.out])
            have HNY : Hid (Nxt t s (cF cs) i (i + 1) (upd (cF cs) (k : Int) b)) := by have h := ny; rw [HXE.out] at h; exact h
            have cq := FrAt.getC HCB.out k hk40
            have cf := at_frozen HCB.out k
            generalize cs.getD k 0 = y at cq
            have htC : ¬ tb = C := fun e => by have := at_lt1 HIN.out; have := HC2.out.cM; have := HC2.out.ma.lo; omega
            have htD : ¬ C = tb := fun e => htC e.symm
            have HBB : Hid (b ≤ 10000) := by
              have h := (HL.out.bs i (by simp [isE, HXE.out])).2
              rw [HXE.out] at h
              exact h
            clear ny ha
            go_upto_region 14 with fail
            go_region_held3 (fun w' => w'.cell? ⟨tb, to' + i * 4 + 1, none⟩ = some (.int .i64 (k : Int)) ∧ w'.cell? ⟨tb, to' + i * 4 + 2, none⟩ = some (.int .i64 b)) (go_keep) (fail)
            have HC3 : Hid (Ctx c (w2.setCell ⟨C, k, none⟩ (.int .i64 b)).drew B M F off fn fc ar (.slice (some ⟨pb, po, none⟩) np pcap) now sa sc st (sp + 1) fl ∧ (w2.setCell ⟨C, k, none⟩ (.int .i64 b)).drew.heap[C]? = some (.cells (intsA (cs.set k b)) 82) ∧ Chg M (some F) (sb sa0) w (w2.setCell ⟨C, k, none⟩ (.int .i64 b)).drew) := by
              have hg : (w2.setCell ⟨C, k, none⟩ (.int .i64 b)).grownBy (w2.setCell ⟨C, k, none⟩ (.int .i64 b)).drew none := gr_drew (World.grownBy.refl _ _)
              have hBC := HH0.out.bw
              rw [HCC.out] at hBC
              refine ⟨(HC2.out.else hBC HNC.out k _).kept hg, ?_, (chg_else HCH.out (by rw [HCC.out]; exact Nat.le_refl _) k _).trans HNW.out (Chg.of_none hg)⟩
              refine kept hg ?_
              rw [at_set HCB.out, intsA_set]
            have HNZ : Hid (Nxt t s (cF cs) i (i + 1) (cF (cs.set k b))) := by
              have h := HNY.out
              rw [← cF_set cs (k : Int) b (by omega) (by simpa using hk40)] at h
              exact h
            clear cq cf
            go_wp2
            go_roundg ((phi t s (cF (cs.set k b)) (i + 1)).toNat)
            case rel =>
              obtain ⟨y1, y2, y3⟩ := HC3.out
              exact ⟨i + 1, by go_num, by omega, rl_mk (sp := sp) HNZ.out y1 y2 (cs_set HCM.out k (HBB.out)) hal (by have := HNZ.out.2.2.2.1; simp [tkN, gvN, HXE.out, tkS, gvS] at this; omega) HPHI.out.2.1 (by omega) (by omega) (by omega) (by omega) y3 HNX.out⟩
            case measure => exact rl_less HL.out HS0.out HNZ.out (HSN.out i) HPHI.out.2.2.2
          · have g13 : (d == 13) = false := by simpa using h13
            by_cases h14 : d = 14
            · subst h14
              have hr : isR t i = true := by simp [isR, HXE.out]
              obtain ⟨rl1, rl2, rl3, rl4⟩ := round_loop HL.out.rds hr
              have ha : 0 ≤ a ∧ a < 40 := by
                have h := may_cnt HPO.out.may ((nth t i).b.toNat - 1) (inL_iff.1 rl1).2.2.1
                have h2 : aOf t (nth t i).b.toNat = (nth t ((nth t i).b.toNat - 1)).a := rfl
                rw [← h2, rl3, HXE.out] at h
                exact h
              obtain ⟨k, rfl⟩ := Int.eq_ofNat_of_zero_le ha.1
              have k1 : (0 : Int) ≤ (k : Int) := by omega
              have k2 : (k : Int) < (40 : Int) := ha.2
              have hk40 : k < cs.length := by omega
              have cq := FrAt.getC HCB.out k hk40
              have cf := at_frozen HCB.out k
              have hyv : cF cs (k : Int) = cs.getD k 0 := by simp [cF]
              have hy1 : 1 ≤ cs.getD k 0 := by
                have h := HCN.out _ rl1
                rw [rl3, HXE.out] at h
                dsimp only at h
                omega
              have hy2 : cs.getD k 0 ≤ 10000 := HCM.out.2 _ (by simp [List.getD, hk40])
              generalize hyd : cs.getD k 0 = y at cq hyv hy1 hy2
              have HYV : Hid (cF cs (k : Int) = y) := hyv
              have hwr : IntKind.i64.wrap (y - 1) = y - 1 := IntWalk.i64_in _ (by omega)
              have HY : Hid (1 ≤ y ∧ y ≤ 10000) := ⟨hy1, hy2⟩
              have htC : ¬ tb = C := fun e => by have := at_lt1 HIN.out; have := HC2.out.cM; have := HC2.out.ma.lo; omega
              have HRR2 : Hid (isR t i = true) := hr
              clear ha hr rl1 rl2 rl3 rl4 hyv hyd hy1 hy2
              go_upto_region 17 with fail
              have HC3 : Hid (Ctx c (w2.setCell ⟨C, k, none⟩ (.int .i64 (y - 1))) B M F off fn fc ar (.slice (some ⟨pb, po, none⟩) np pcap) now sa sc st (sp + 1) fl ∧ (w2.setCell ⟨C, k, none⟩ (.int .i64 (y - 1))).heap[C]? = some (.cells (intsA (cs.set k (y - 1))) 82) ∧ Chg M (some F) (sb sa0) w (w2.setCell ⟨C, k, none⟩ (.int .i64 (y - 1)))) := by
                have hBC := HH0.out.bw
                rw [HCC.out] at hBC
                refine ⟨HC2.out.else hBC HNC.out k _, ?_, chg_else HCH.out (by rw [HCC.out]; exact Nat.le_refl _) k _⟩
                rw [at_set HCB.out, intsA_set]
              generalize hw3 : w2.setCell ⟨C, k, none⟩ (.int .i64 (y - 1)) = w3 at HC3 ⊢
              obtain ⟨p0, p1, p2, p3⟩ := (HXE.out ▸ HIN.out : InsAt c tb (to' + i * 4) ⟨14, (k : Int), b, cc⟩).grown HC3.out.1.cw
              dsimp only at p0 p1 p2 p3
              have cq3 := FrAt.getC HC3.out.2.1 k (by simpa using hk40)
              rw [show (cs.set k (y - 1)).getD k 0 = y - 1 by simp [List.getD, hk40]] at cq3
              have HCS : Hid (cF (cs.set k (y - 1)) = upd (cF cs) (k : Int) (y - 1)) := by
                have h := cF_set cs (k : Int) (y - 1) (by omega) (by simpa using hk40)
                exact h
              clear cq cf q0 q1 q2 q3 hw3
              by_cases hy : 0 < y - 1
              · have nx := nx_back (s := s) HPO.out HS0.out hit HCN.out HLC.out HHL.out HRR2.out (by rw [HXE.out]; dsimp only; rw [HYV.out]; exact hy) (by simp [ways, HXE.out])
                obtain ⟨nx, hk⟩ := nx
                rw [HXE.out] at nx hk
                dsimp only at nx hk
                rw [HYV.out, ← HCS.out] at nx
                obtain ⟨j, hj⟩ : ∃ j, b.toNat = j := ⟨_, rfl⟩
                rw [hj] at nx hk
                subst hk
                have HNZ : Hid (Nxt t s (cF cs) i j (cF (cs.set k (y - 1)))) := nx
                have hjt := nx.2.2.2.2.2.1
                clear nx hj
                have hyb : decide (0 < y - 1) = true := by simpa using hy
                go_wp2
                go_roundg ((phi t s (cF (cs.set k (y - 1))) j).toNat)
                case rel =>
                  obtain ⟨y1, y2, y3⟩ := HC3.out
                  exact ⟨j, rfl, by omega, rl_mk (sp := sp) HNZ.out y1 y2 (cs_set HCM.out k (by have := HY.out; omega)) hal (by have := HNZ.out.2.2.2.1; simp [tkN, gvN, HXE.out, tkS, gvS] at this; omega) HPHI.out.2.1 (by omega) (by omega) (by omega) (by omega) y3 HNX.out⟩
                case measure => exact rl_less HL.out HS0.out HNZ.out (HSN.out i) HPHI.out.2.2.2
              · have nx := nx_leave (s := s) HPO.out HS0.out hit HCN.out HLC.out HHL.out HRR2.out (by rw [HXE.out]; dsimp only; rw [HYV.out]; exact hy) (by simp [ways, HXE.out])
                rw [HXE.out] at nx
                dsimp only at nx
                rw [HYV.out, ← HCS.out] at nx
                have HNZ : Hid (Nxt t s (cF cs) i (i + 1) (cF (cs.set k (y - 1)))) := nx
                clear nx
                have hyb : decide (0 < y - 1) = false := by simpa using hy
                go_wp2
                go_roundg ((phi t s (cF (cs.set k (y - 1))) (i + 1)).toNat)
                case rel =>
                  obtain ⟨y1, y2, y3⟩ := HC3.out
                  exact ⟨i + 1, by go_num, by omega, rl_mk (sp := sp) HNZ.out y1 y2 (cs_set HCM.out k (by have := HY.out; omega)) hal (by have := HNZ.out.2.2.2.1; simp [tkN, gvN, HXE.out, tkS, gvS] at this; omega) HPHI.out.2.1 (by omega) (by omega) (by omega) (by omega) y3 HNX.out⟩
                case measure => exact rl_less HL.out HS0.out HNZ.out (HSN.out i) HPHI.out.2.2.2
            · have g14 : (d == 14) = false := by simpa using h14
              have hnE : isE t i = false := by simpa [isE, HXE.out] using h13
              have hnR : isR t i = false := by simpa [isR, HXE.out] using h14
              have nx := nx_plain (s := s) HPO.out HS0.out hit HCN.out HLC.out HHL.out hnE hnR (by simp [ways, HXE.out, h11, h12, h14])
              have HNN : Hid (Nxt t s (cF cs) i (i + 1) (cF cs)) := nx
              have HX : Hid (tkS ⟨d, a, b, cc⟩ ≤ Hh t i ∧ Hh t (i + 1) = Hh t i - tkS ⟨d, a, b, cc⟩ + gvS ⟨d, a, b, cc⟩ ∧ 0 ≤ Hh t (i + 1) ∧ stepS bds ⟨d, a, b, cc⟩ = s i ∧ Hh t i ≤ 1000) := by
                have h1 := HHS.out.1
                have h2 := nx.2.2.2.1
                have h3 := HHS.out.2.1
                have h4 := (gvS_bd ⟨d, a, b, cc⟩).1
                have h5 := (tkS_bd ⟨d, a, b, cc⟩).2
                have h6 := HSI.out
                simp only [tkN, gvN, HXE.out] at h1 h2 h3 h6
                exact ⟨h1, h2, nx.2.2.2.2.1, h6.symm, hhm⟩
              have HCL := do_weak l bds t.length i ⟨d, a, b, cc⟩ HC2.out (HXE.out ▸ HIN.out) (HXE.out ▸ HMAY.out) ⟨h11, h12, h13, h14⟩ HSS.out (by have := HX.out.1; omega) hnp HFS.out HRR.out HB0.out (by have := HX.out.2.2.2.1; have := HPHI.out; omega) (by omega) (by have := HX.out.2.2.2.2; have := HLU.out; omega)
              clear nx hnE hnR
              go_wp2_with fail
              refine HCL.mono ?_
              rintro e w3 ⟨rfl, sa', sc', st', ar', sp', fl', g1, g2, g3, g4, g5, g6, g7, g8, g9, g10⟩
              have HC3 : Hid (Ctx c w3 B M F off fn fc ar' (.slice (some ⟨pb, po, none⟩) np pcap) now sa' sc' st' sp' fl' ∧ w3.heap[C]? = some (.cells (intsA cs) 82) ∧ ar'.length = ar0.length ∧ (st'.length : Int) = (st0.length : Int) + Hh t (i + 1) ∧ sp0 ≤ sp' ∧ sp' ≤ sp + s i ∧ fl0 ≤ fl' ∧ fl' ≤ fl0 + (sp' - sp0) ∧ Chg M (some F) (sb sa0) w w3 ∧ Nx w1 (sb sa0) (sb sa')) := by
                obtain ⟨x1, x2, x3, x4, x5⟩ := HX.out
                have hx := HC2.out
                have hz := hx.s1
                have hph := HPHI.out
                have hf := hx.f0
                have hf' := hx.f1
                have hbw2 := hx.bw
                have hsz := g9.size
                refine ⟨⟨g1, g2, hx.fm, hx.fb, grown_chg hx.cw g9 hx.cM (fun y hy => by simp at hy; have := hx.cF; omega) (fun y hy => by have := (hx.ma.row y hy).1; have := hx.cB; omega), hx.cM, hx.cB, hx.cF, by omega, by rw [g3]; exact hx.hn, hx.nc, hx.n2, by have := HNN.out.2.2.2.2.2.2; omega, by omega, by omega, by have := hx.s0; omega, by omega⟩, ?_, by omega, by omega, by omega, by omega, by omega, by omega, HCH.out.trans HNW.out g9, Nx.trans (by have := at_lt HCB.out; omega) HNX.out g10⟩
                rw [g9.block C (at_lt HCB.out) (by have := hx.ma.lo; omega) (fun e => by simp at e; have := hx.fb; omega) (fun e => HNC.out e)]
                exact HCB.out
              clear g1 g2 g3 g4 g5 g6 g7 g8 g9 g10 HCL
              go_wp2
              go_roundg ((phi t s (cF cs) (i + 1)).toNat)
              case rel =>
                obtain ⟨y1, y2, y3, y4, y5, y6, y7, y8, y9, y10⟩ := HC3.out
                exact ⟨i + 1, by go_num, by omega, rl_mk (sp := sp) HNN.out y1 y2 HCM.out y3 y4 HPHI.out.2.1 y5 y6 y7 y8 y9 y10⟩
              case measure => exact rl_less HL.out HS0.out HNN.out (HSN.out i) HPHI.out.2.2.2
    · have hie : i = tn := by omega
      subst hie
      have hHe := Hh_end HPO.out.stack
      rw [htn] at hHe
      have HEX : Hid (Wk w B M F (.slice (some ⟨pb, po, none⟩) np pcap) now (sb sa0) ar0.length st0.length sp0 fl0 bd 0 wr) :=
        ⟨sa, sc, st, ar, sp, fl, hctx.ma, hctx.fr, hal, by omega, hsp, by have := phi_nonneg (s := s) HL.out.bs HS0.out hcn; omega, hf1, by omega, hchg, Nx.trans HWG.out.size (Nx.refl _ _) hnx⟩
      have hq4 := hctx.cw.cell HT.out.cell (by simp)
      clear hctx hcb hcn hlc hph hchg hnx hgk
      go_wp2
      go_end0
      exact ⟨rfl, HEX.out⟩
end Go.Proofs.YtcgbfhpmkpglkaaGreatDoor

/- The machine: every unit's run ends within its bound. -/
namespace Go.Proofs.YtcgbfhpmkpglkaaGreatDoor
open Go.RowKit
attribute [local go_sem ↓] Go.wp_at_zero Go.wp_at_succ
set_option linter.unusedVariables false
set_option linter.unusedSimpArgs false

set_option maxRecDepth 10000 in
set_option maxHeartbeats 4000000 in
/-- A unit with no text. -/
theorem run_none (c : World) (pb po np pcap u fn tc : Nat) (ta : Option Addr) (now : Int) (hT : c.cell? ⟨pb, po + u * 5 + 4, none⟩ = some (.slice ta 0 tc)) : RunW c pb po np pcap u fn 0 now := by
  intro w B M F off fc ar0 sa0 sc0 st0 sp0 fl0 h0 hsp0 hfl0 hst0
  have HH0 : Hid (Ctx c w B M F off fn fc ar0 (.slice (some ⟨pb, po, none⟩) np pcap) now sa0 sc0 st0 sp0 fl0) := h0
  have hq4 := h0.cw.cell hT (by simp)
  obtain ⟨C, hC⟩ : ∃ C, w.heap.size = C := ⟨_, rfl⟩
  have HCC : Hid (w.heap.size = C) := hC
  clear h0 hT
  go_enter Tryz.func18, Tryz.ntmps18
  go_wp2_with fail
  have hlt : pb < w.heap.size := by
    cases hl : w.heap[pb]? with
    | none => simp [World.cell?, hl] at hq4
    | some o' => exact at_lt hl
  have HG : Hid (w.grownBy (w.alloc (.cells (intsA (List.replicate 40 0)) 82)) none) := gr1 _ _
  have hq5 := HG.out.cell hq4 (by simp)
  have HWK : Hid (Wk w B M F (.slice (some ⟨pb, po, none⟩) np pcap) now (sb sa0) ar0.length st0.length sp0 fl0 0 0 (w.alloc (.cells (intsA (List.replicate 40 0)) 82))) := by
    have h := HH0.out.kept HG.out
    exact ⟨sa0, sc0, st0, ar0, sp0, fl0, h.ma, h.fr, rfl, rfl, by omega, by omega, by omega, by omega, Chg.of_none HG.out, Nx.refl _ _⟩
  have HQ5 : Hid ((w.alloc (.cells (intsA (List.replicate 40 0)) 82)).cell? ⟨pb, po + u * 5 + 4, none⟩ = some (.slice ta 0 tc)) := hq5
  clear hq4 hq5
  go_loopg [7] 0 (fun gk s7 wx => s7 = .int .i64 0 ∧ wx.cell? ⟨pb, po + u * 5 + 4, none⟩ = some (.slice ta 0 tc) ∧ Hid (Wk w B M F (.slice (some ⟨pb, po, none⟩) np pcap) now (sb sa0) ar0.length st0.length sp0 fl0 0 0 wx))
  case atStart => exact ⟨rfl, HQ5.out, HWK.out⟩
  case round =>
    obtain ⟨rfl, hq, hwk⟩ := hrel
    clear HQ5 HWK HG
    go_wp2
    go_end0
    exact ⟨rfl, hwk.out⟩

theorem units_run {c : World} {pb po pcap : Nat} {ps : List Pr} {now : Int} (hc : ∀ i, i < ps.length → ∃ fv sv tv, PrAt c pb (po + i * 5) (ps.getD i pr0) fv sv tv) (hS : Stds c) (h16 : ps.length ≤ 16) : ∀ (m k : Nat) (b bds : List Int) (e : Int), k + m = ps.length → b.length = k → (∀ x, x ∈ b → 0 ≤ x ∧ x ≤ 1000000000) → (∀ u, u < k → RunW c pb po ps.length pcap u (ps.getD u pr0).fs.length (b.getD u 0) now) → verS (Classical.propDecidable, ()) ps m k b = (bds, 0, e) →
    bds.length = ps.length ∧ (∀ x, x ∈ bds → 0 ≤ x ∧ x ≤ 1000000000) ∧ ∀ u, u < ps.length → RunW c pb po ps.length pcap u (ps.getD u pr0).fs.length (bds.getD u 0) now := by
  intro m
  induction m with
  | zero =>
    intro k b bds e hk hb hbd hR hv
    simp [verS] at hv
    obtain ⟨rfl, -⟩ := hv
    exact ⟨by omega, hbd, fun u hu => hR u (by omega)⟩
  | succ m ih =>
    intro k b bds e hk hb hbd hR hv
    simp only [verS] at hv
    by_cases h0 : (unitS (Classical.propDecidable, ()) ps k b).2 = 0
    · rw [if_pos h0] at hv
      have hbd1 := lookS_bd hbd (by rw [hb, ahd_len ps k (by omega)]) h0
      refine ih (k + 1) _ bds e (by omega) (by simp [hb]) (fun x hx => ?_) (fun u hu => ?_) hv
      · rw [List.mem_append, List.mem_singleton] at hx
        rcases hx with hx | rfl
        · exact hbd x hx
        · exact hbd1
      · by_cases huk : u < k
        · have := hR u huk
          rw [show (b ++ [(unitS (Classical.propDecidable, ()) ps k b).1]).getD u 0 = b.getD u 0 by simp [List.getD, List.getElem?_append, show u < b.length by omega]]
          exact this
        · have hu2 : u = k := by omega
          subst hu2
          rw [show (b ++ [(unitS (Classical.propDecidable, ()) ps u b).1]).getD u 0 = (unitS (Classical.propDecidable, ()) ps u b).1 by simp [List.getD, ← hb]]
          obtain ⟨fv, sv, tv, hp⟩ := hc u (by omega)
          unfold unitS lookS at h0 ⊢
          split at h0
          · rename_i hP
            rw [if_pos hP]
            split at h0
            · simp at h0
            · rename_i hsum
              rw [if_neg hsum]
              dsimp only
              have hl := ahd_len ps u (by omega)
              have hget : ∀ v, b.getD v 0 = 0 ∨ b.getD v 0 ∈ b := fun v => by
                by_cases hv : v < b.length
                · exact .inr (by simp [List.getD, hv])
                · exact .inl (by simp [List.getD, Nat.le_of_not_lt hv])
              have hb0 : ∀ v, 0 ≤ b.getD v 0 := fun v => by
                rcases hget v with h | h
                · omega
                · exact (hbd _ h).1
              have hR' : ∀ v, v < (ahd ps u).length → RunW c pb po ps.length pcap v ((ahd ps u).getD v (0, 0)).2 (b.getD v 0) now := fun v hv => by
                rw [hl] at hv
                rw [ahd_get ps u v hv (by omega)]
                exact hR v hv
              have hF' : ∀ v, v < (ahd ps u).length → ∃ fa ffc, c.cell? ⟨pb, po + v * 5 + 2, none⟩ = some (.slice fa ((ahd ps u).getD v (0, 0)).2 ffc) := fun v hv => by
                rw [hl] at hv
                rw [ahd_get ps u v hv (by omega)]
                obtain ⟨fv', sv', tv', h⟩ := hc v (by omega)
                obtain ⟨fa, fc, rfl, _⟩ := h.first
                exact ⟨fa, fc, h.fcell⟩
              obtain ⟨ta, tc, rfl, htx⟩ := hp.text
              by_cases hnil : (ps.getD u pr0).tx = []
              · have e : sumT b (ps.getD u pr0).tx = 0 := by rw [hnil]; rfl
                rw [e]
                have h4 := hp.tcell
                rw [hnil] at h4
                exact run_none c pb po ps.length pcap u _ tc ta now h4
              · rcases htx with h | ⟨tb, to', rfl, htx⟩
                · exact absurd h hnil
                · exact run_unit c pb po ps.length pcap u _ tb to' _ tc _ now (ahd ps u) b _ ⟨hp.tcell, rfl, fun i hi => ⟨(htx i hi).1, (htx i hi).2.1, (htx i hi).2.2.1, (htx i hi).2.2.2⟩⟩ hP hl (by omega) hS (by rw [hl]; omega) hF' hR' hb0 (by omega) (fun k => by
                    by_cases hk : k < (ps.getD u pr0).tx.length
                    · exact (may_steps hP.may hP.frame hbd (by rw [hb, hl]) k hk).1
                    · have e : nth (ps.getD u pr0).tx k = ⟨0, 0, 0, 0⟩ := by
                        unfold nth
                        rw [List.getElem?_eq_none (by omega)]
                        rfl
                      rw [e]
                      simp [stepS])
          · simp at h0
    · rw [if_neg h0] at hv
      simp at hv
      exact absurd hv.2.1 h0
end Go.Proofs.YtcgbfhpmkpglkaaGreatDoor

/- The program's Verify. -/
namespace Go.Proofs.YtcgbfhpmkpglkaaGreatDoor
open Go.RowKit
attribute [local go_sem ↓] Go.wp_at_zero Go.wp_at_succ
set_option linter.unusedVariables false
set_option linter.unusedSimpArgs false

/-- What comes of Verify. -/
def VerPost (w : World) (R : List Int × Int × Int) (e : Ending) (w' : World) : Prop :=
  ∃ v, e = .returned (.tuple #[v, .agg #[.int .i64 R.2.1, .int .i64 R.2.2, .int .i64 0]]) ∧ OwnV w.heap.size w' v R.1 ∧ w.grownBy w' none

set_option maxRecDepth 10000 in
set_option maxHeartbeats 2000000 in
theorem verify_any (cv : Value) (ps : List Pr) (w : World) (hC : CdP w cv ps) (hS : Stds w) (hl : ps.length ≤ 1000000000000000) :
    Calls Tryz.prog 14 #[.agg #[cv]] w (VerPost w (verR (Classical.propDecidable, ()) ps)) := by
  obtain ⟨ca, cap, rfl, hcap, hc⟩ := hC
  have HC : Hid (ps = [] ∨ ∃ b off, ca = some ⟨b, off, none⟩ ∧ ∀ i, i < ps.length → ∃ fv sv tv, PrAt w b (off + i * 5) (ps.getD i pr0) fv sv tv) := hc
  have HS : Hid (Stds w) := hS
  clear hc hS
  obtain ⟨n, hn⟩ : ∃ n, ps.length = n := ⟨_, rfl⟩
  have HN : Hid (ps.length = n) := hn
  rw [hn] at hl hcap ⊢
  clear hn
  by_cases h16 : 16 < n
  · have HR : Hid (verR (Classical.propDecidable, ()) ps = ([], 12, 0)) := (by unfold verR; rw [if_pos (by rw [HN.out]; exact h16)] : verR (Classical.propDecidable, ()) ps = ([], 12, 0))
    have h16' : (16 : Int) < (n : Int) := by omega
    go_enter Tryz.func14, Tryz.ntmps14
    go_wp2
    refine bodyPost_ret (v := .tuple #[.slice none 0 0, .agg #[.int .i64 12, .int .i64 0, .int .i64 0]]) (by simp [results, Tryz.results14, go_sem]) rfl ?_
    rw [HR.out]
    exact ⟨_, rfl, OwnV.nil _ _, gr_alloc (gr1 _ _) _⟩
  · have h16' : ¬ ((16 : Int) < (n : Int)) := by omega
    obtain ⟨H, hH⟩ : ∃ H, w.heap.size = H := ⟨_, rfl⟩
    go_enter Tryz.func14, Tryz.ntmps14
    go_wp2
    have HR : Hid (verR (Classical.propDecidable, ()) ps = verS (Classical.propDecidable, ()) ps n 0 []) := (by unfold verR; rw [if_neg (by rw [HN.out]; exact h16), HN.out] : verR (Classical.propDecidable, ()) ps = verS (Classical.propDecidable, ()) ps n 0 [])
    go_loopg [4, 16] n (fun gk s4 s16 wx => ∃ (k : Nat) (b : List Int) (bv : Value), bv = s4 ∧ s16 = .int .i64 k ∧ k ≤ n ∧ gk = n - k ∧ verS (Classical.propDecidable, ()) ps (n - k) k b = verS (Classical.propDecidable, ()) ps n 0 [] ∧ b.length = k ∧ (∀ x, x ∈ b → 0 ≤ x ∧ x ≤ 1000000000) ∧ OwnV (H + 2) wx bv b ∧ wx.heap[H]? = some (.cells #[.slice ca n cap] 24) ∧ wx.heap[H + 1]? = some (.cells #[.int .i64 0, .int .i64 0, .int .i64 0] 46) ∧ w.grownBy wx none ∧ H + 2 ≤ wx.heap.size)
    case atStart =>
      refine ⟨0, [], _, rfl, rfl, Nat.zero_le _, by omega, rfl, rfl, by simp, OwnV.nil _ _, ?_, ?_, gr_alloc (gr1 _ _) _, by simp [hH]⟩
      · rw [hp_old (by simp [hH]), hp_new hH.symm]
      · rw [hp_new (by simp [hH])]
    case round =>
      obtain ⟨k, b, bv, hs4, rfl, hk, hgk, hver, hbl, hbd, hown, hb0, hb1, hgr, hsz⟩ := hrel
      subst hs4
      have HG : Hid (gk = n - k) := hgk
      have HV : Hid (verS (Classical.propDecidable, ()) ps (n - k) k b = verS (Classical.propDecidable, ()) ps n 0 []) := hver
      have HBL : Hid (b.length = k) := hbl
      have HBD : Hid (∀ x, x ∈ b → 0 ≤ x ∧ x ≤ 1000000000) := hbd
      have HO : Hid (OwnV (H + 2) wr bv b) := hown
      have HB0 : Hid (wr.heap[H]? = some (.cells #[.slice ca n cap] 24)) := hb0
      have HB1 : Hid (wr.heap[H + 1]? = some (.cells #[.int .i64 0, .int .i64 0, .int .i64 0] 46)) := hb1
      clear hgk hver hbl hbd hown hb0 hb1
      by_cases hlt : k < n
      · have hkl : k < ps.length := by rw [HN.out]; exact hlt
        rcases HC.out with h | ⟨b', off, rfl, hc⟩
        · subst h; simp at hkl
        obtain ⟨fv, sv, tv, hp⟩ := hc k hkl
        have z0 := at_cell HB0.out 0
        simp at z0
        have hg0 := hgr
        have cL : ∀ w', wr.grownBy w' none → Calls Tryz.prog 19 #[.slice (some ⟨b', off, none⟩) k cap, bv, .pointer (some ⟨b', off + k * 5, none⟩)] w' fun e w2 => e = .returned (.tuple #[.int .i64 (unitS (Classical.propDecidable, ()) ps k b).1, .int .i64 (unitS (Classical.propDecidable, ()) ps k b).2]) ∧ w'.grownBy w2 none := fun w' hw' => by
          have hgw := hgr.trans hw'
          have hpw := hp.grown hgw
          obtain ⟨fa, fc, hfv, _⟩ := hpw.first
          refine lookOver_any (ahd ps k) b (ps.getD k pr0).k (ps.getD k pr0).fs.length (ps.getD k pr0).tx _ bv b' (off + k * 5) tv w' ⟨ahead_of (cap := cap) (fun i hi => ?_) k (by omega), hpw.kind, ⟨fa, fc, by rw [← hfv]; exact hpw.fcell⟩, hpw.tcell, hpw.text, Nat.le_refl _⟩ (HS.out.grown hgw) (by rw [ahd_len ps k (by omega)]; omega) (HO.out.keptN hw').rd (by rw [ahd_len ps k (by omega)]; exact HBL.out) HBD.out
          obtain ⟨f1, s1, t1, h1⟩ := hc i hi
          exact ⟨f1, s1, t1, h1.grown hgw⟩
        clear hc hp
        obtain ⟨u, hu⟩ : ∃ u, unitS (Classical.propDecidable, ()) ps k b = u := ⟨_, rfl⟩
        have HU : Hid (unitS (Classical.propDecidable, ()) ps k b = u) := hu
        rw [hu] at cL
        obtain ⟨bd, cd⟩ := u
        dsimp only at cL
        have i1 : (0 : Int) ≤ (k : Int) := by omega
        have i2 : (k : Int) < (n : Int) := by omega
        have i3 : (k : Int) ≤ (cap : Int) := by omega
        have i4 : k ≤ cap := by omega
        have i5 : k < n := by omega
        clear hu
        go_wp2
        go_region_held3 (fun w' => w'.cell? ⟨H, 0, none⟩ = some (.slice (some ⟨b', off, none⟩) n cap)) (first | (go_keep; done) | exact hg1.cell (by first | assumption | (go_keep; done)) (by simp)) (first | (go_at_call 19; refine (cL _ (gr_drew (World.grownBy.refl _ _))).mono ?_; rintro e w1 ⟨rfl, hg1⟩))
        have hgw1 : wr.grownBy w1 none := (gr_drew (World.grownBy.refl _ _)).trans hg1
        have HO1 : Hid (OwnV (H + 2) w1 bv b) := HO.out.keptN hgw1
        have e1 := kept hgw1 HB1.out
        have HE1 : Hid (w1.heap[H + 1]? = some (.cells #[.int .i64 0, .int .i64 0, .int .i64 0] 46)) := e1
        have z1 := at_cell e1 0
        have z2 := at_cell e1 1
        have z3 := at_cell e1 2
        simp at z1 z2 z3
        have f1 := at_frozen e1 0
        have f2 := at_frozen e1 1
        have f3 := at_frozen e1 2
        have hsz1 := hgw1.size
        have HVN : Hid (verS (Classical.propDecidable, ()) ps (n - k) k b = if cd = 0 then verS (Classical.propDecidable, ()) ps (n - (k + 1)) (k + 1) (b ++ [bd]) else ([], cd, (k : Int))) := (by
          rw [show n - k = (n - (k + 1)) + 1 by omega]
          simp only [verS, HU.out] : verS (Classical.propDecidable, ()) ps (n - k) k b = if cd = 0 then verS (Classical.propDecidable, ()) ps (n - (k + 1)) (k + 1) (b ++ [bd]) else ([], cd, (k : Int)))
        clear e1 cL hg1
        by_cases hcd : cd = 0
        · subst hcd
          have hb2 := lookS_bd HBD.out (by rw [ahd_len ps k (by omega)]; exact HBL.out) (show (unitS (Classical.propDecidable, ()) ps k b).2 = 0 by rw [HU.out])
          have HB2 : Hid (0 ≤ bd ∧ bd ≤ 1000000000) := (by
            have h := hb2
            rw [show lookS (Classical.propDecidable, ()) (ahd ps k) b (ps.getD k pr0).k (ps.getD k pr0).fs.length (ps.getD k pr0).tx = (bd, 0) from HU.out] at h
            exact h : 0 ≤ bd ∧ bd ≤ 1000000000)
          obtain ⟨v', w2, hrun, hown2, hg2⟩ := (HO1.out.keptN (gr1 w1 (.cells #[.int .i64 bd] 3))).more bd w1.heap.size (heap_alloc_new _ _) (by rw [HBL.out]; omega) (by simp; omega)
          have HRUN : Hid (_ = _) := hrun
          have HO2 : Hid (OwnV (H + 2) w2 v' (b ++ [bd])) := hown2
          have hrow := HO1.out.row
          have HG2 : Hid (w.grownBy w2 none ∧ w2.heap[H]? = some (.cells #[.slice (some ⟨b', off, none⟩) n cap] 24) ∧ w2.heap[H + 1]? = some (.cells #[.int .i64 0, .int .i64 0, .int .i64 0] 46) ∧ H + 2 ≤ w2.heap.size) := by
            refine ⟨grown_join (gr_alloc (hgr.trans hgw1) _) hg2 (.inr fun x hx => by have := hrow x hx; omega), ?_, ?_, ?_⟩
            · rw [hg2.block H (by simp; omega) (fun e => by have := hrow H e.symm; omega), hp_old (by omega)]; exact kept hgw1 HB0.out
            · rw [hg2.block (H + 1) (by simp; omega) (fun e => by have := hrow (H + 1) e.symm; omega), hp_old (by omega)]; exact HE1.out
            · have := hg2.size; simp at this; omega
          clear hrun hown2 hg2 hb2 hrow z1 z2 z3 f1 f2 f3
          go_wp2_with (first | (at_builtin; refine wpList_append_run rfl _ _ 25 rfl _ _ _ w2 rfl rfl HRUN.out ?_))
          have hgl := HG.out
          go_roundg (n - (k + 1))
          all_goals first | omega | exact ⟨k + 1, b ++ [bd], v', rfl, by go_num, by omega, by omega, by rw [← HV.out, HVN.out]; simp, by simp [HBL.out], (fun x hx => by
            rcases List.mem_append.1 hx with h | h
            · exact HBD.out x h
            · simp at h; subst h; exact HB2.out), HO2.out, HG2.out.2.1, HG2.out.2.2.1, HG2.out.1, HG2.out.2.2.2⟩
        · have ec : (cd == 0) = false := by simpa using hcd
          have ec2 : (cd != 0) = true := by simpa using hcd
          have HRR : Hid (verR (Classical.propDecidable, ()) ps = ([], cd, (k : Int))) := (by rw [HR.out, ← HV.out, HVN.out, if_neg hcd] : verR (Classical.propDecidable, ()) ps = ([], cd, (k : Int)))
          go_wp2
          refine bodyPost_ret (v := .tuple #[.slice none 0 0, .agg #[.int .i64 cd, .int .i64 k, .int .i64 0]]) (by simp [results, Tryz.results14, go_sem, z1, z2, z3]) rfl ?_
          rw [HRR.out]
          exact ⟨_, rfl, OwnV.nil _ _, by first | exact gr_own (gr_own (gr_own (hgr.trans hgw1) (by omega) _ _) (by omega) _ _) (by omega) _ _⟩
      · have hkn : k = n := by omega
        subst hkn
        have hk' : ¬ ((k : Int) < (k : Int)) := by omega
        have HRR : Hid (verR (Classical.propDecidable, ()) ps = (b, 0, 0)) := (by rw [HR.out, ← HV.out]; simp [verS] : verR (Classical.propDecidable, ()) ps = (b, 0, 0))
        have z1 := at_cell HB1.out 0
        have z2 := at_cell HB1.out 1
        have z3 := at_cell HB1.out 2
        simp at z1 z2 z3
        have f1 := at_frozen HB1.out 0
        have f2 := at_frozen HB1.out 1
        have f3 := at_frozen HB1.out 2
        clear HG
        go_wp2
        refine bodyPost_ret (v := .tuple #[bv, .agg #[.int .i64 0, .int .i64 0, .int .i64 0]]) (by simp [results, Tryz.results14, go_sem, z1, z2, z3]) rfl ?_
        rw [HRR.out]
        have g1 : wr.grownBy (((wr.setCell ⟨H + 1, 0, none⟩ (.int .i64 0)).setCell ⟨H + 1, 1, none⟩ (.int .i64 0)).setCell ⟨H + 1, 2, none⟩ (.int .i64 0)) (some (H + 1)) := gr_set (gr_set (gr_set (World.grownBy.refl _ _) _ _) _ _) _ _
        refine ⟨_, rfl, ?_, gr_own (gr_own (gr_own hgr (by omega) _ _) (by omega) _ _) (by omega) _ _⟩
        have h1 := HO.out.kept g1 (.inr fun e => by have := HO.out.row _ e; omega)
        obtain ⟨a1, a2⟩ := h1
        refine ⟨a1, ?_⟩
        rcases a2 with a2 | ⟨g, c, cur, q1, q2, q3⟩
        · exact .inl a2
        · exact .inr ⟨g, c, cur, q1, by omega, q3⟩
end Go.Proofs.YtcgbfhpmkpglkaaGreatDoor
