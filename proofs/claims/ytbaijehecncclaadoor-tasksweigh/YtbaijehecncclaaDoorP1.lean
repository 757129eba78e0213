/- mayLoops, mayBe, lookOver: what the program says of one unit. -/
import Derived.Test.YtbaijehecncclaaDoorA4
import Derived.Test.YtbaijehecncclaaDoorL2
import Derived.Test.YtbaijehecncclaaDoorL4
import Derived.Test.YtbaijehecncclaaDoorL7
import Derived.Test.YtbaijehecncclaaDoorV6
namespace Go.Proofs.YtbaijehecncclaaDoor
open Go.RowKit
attribute [local go_sem ↓] Go.wp_at_zero Go.wp_at_succ
set_option linter.unusedVariables false
set_option linter.unusedSimpArgs false

/-- What the program asks of a text, one instruction at a time. -/
def AllMay (l : List (Int × Nat)) (fn : Nat) (t : List Ins) : Prop := ∀ i, i < t.length → mayS l fn t.length i (nth t i) = true
theorem may_fields {l : List (Int × Nat)} {fn : Nat} {t : List Ins} (h : AllMay l fn t) (i : Nat) (hi : i < t.length) : fieldsS l fn t.length i (nth t i) = true := by
  have := h i hi
  simp only [mayS, Bool.and_eq_true] at this
  exact this.2
theorem may_fwd {l : List (Int × Nat)} {fn : Nat} {t : List Ins} (h : AllMay l fn t) : Fwd t := by
  intro i hi hd
  have := may_fields h i hi
  rcases hd with hd | hd <;> (simp [fieldsS, hd, isW] at this; omega)
theorem may_bs {l : List (Int × Nat)} {fn : Nat} {t : List Ins} (h : AllMay l fn t) : Bs t := by
  intro i he
  have hd : (nth t i).d = 13 := by simpa [isE] using he
  have := may_fields h i (isE_lt he)
  simp [fieldsS, hd, isW] at this
  omega
theorem may_cnt {l : List (Int × Nat)} {fn : Nat} {t : List Ins} (h : AllMay l fn t) : ∀ i, isE t i = true → 0 ≤ (nth t i).a ∧ (nth t i).a < 40 := by
  intro i he
  have hd : (nth t i).d = 13 := by simpa [isE] using he
  have := may_fields h i (isE_lt he)
  simp [fieldsS, hd, isW] at this
  omega
theorem may_ways {l : List (Int × Nat)} {fn : Nat} {t : List Ins} (h : AllMay l fn t) (hr : RdOk t) : WayOk t := by
  intro i hi
  refine ⟨may_fwd h i hi, fun hd => ?_⟩
  have := hr.rounds i (by simp [isR, hd])
  exact ⟨this.1, this.2.1⟩
theorem may_run {l : List (Int × Nat)} {fn : Nat} {t : List Ins} (h : AllMay l fn t) (i : Nat) (hi : i < t.length) (hd : (nth t i).d = 17) : 0 ≤ (nth t i).a ∧ (nth t i).a < l.length := by
  have := may_fields h i hi
  simp [fieldsS, hd, callS, isW] at this
  omega
theorem may_steps {l : List (Int × Nat)} {fn : Nat} {t : List Ins} {bds : List Int} (h : AllMay l fn t) (hf : fn ≤ 20000) (hb : ∀ b, b ∈ bds → 0 ≤ b ∧ b ≤ 1000000000) (hl : bds.length = l.length) (i : Nat) (hi : i < t.length) : 1 ≤ stepS bds (nth t i) ∧ stepS bds (nth t i) ≤ 1000000001 := by
  unfold stepS
  split
  · rename_i hd
    have := may_fields h i hi
    simp [fieldsS, hd, hasW] at this
    omega
  · split
    · rename_i hd
      have := may_run h i hi hd
      have hm : bds.getD (nth t i).a.toNat 0 ∈ bds := by
        have hlt : (nth t i).a.toNat < bds.length := by omega
        rw [List.getD, List.getElem?_eq_getElem hlt, Option.getD_some]
        exact List.getElem_mem hlt
      have := hb _ hm
      omega
    · omega

/-- What the program asks of a unit. -/
structure ProgOk (l : List (Int × Nat)) (kd : Int) (fn : Nat) (t : List Ins) : Prop where
  kind : 1 ≤ kd ∧ kd ≤ 3
  frame : fn ≤ 20000
  len : t.length ≤ 100000
  may : AllMay l fn t
  rds : RdOk t
  nest : nst t t.length ≠ none
  jumps : JumpsOk t (begK t t.length)
  stack : StackOk t

/-- A unit that lies ahead of what was made since: its cells, and what the one who looks it over has. -/
structure UnAt (w0 : World) (o : Nat) (l : List (Int × Nat)) (kd : Int) (fn : Nat) (t : List Ins) (av bv : Value) (pb po : Nat) (tv : Value) : Prop where
  ahead : AhAt w0 av l
  kind : w0.cell? ⟨pb, po, none⟩ = some (.int .i64 kd)
  frame : ∃ fa fc, w0.cell? ⟨pb, po + 2, none⟩ = some (.slice fa fn fc)
  text : w0.cell? ⟨pb, po + 4, none⟩ = some tv
  lies : TxtAt w0 tv t
  fresh : w0.heap.size ≤ o

def OvBlk (w : World) (o : Nat) (av bv : Value) (pb po : Nat) : Prop := ∃ s3 s4, w.heap[o]? = some (.cells #[av, bv, .pointer (some ⟨pb, po, none⟩), s3, s4] 64)
theorem ovT_of {w0 w : World} {o : Nat} {l : List (Int × Nat)} {kd : Int} {fn : Nat} {t : List Ins} {av bv : Value} {pb po : Nat} {tv : Value} (h : UnAt w0 o l kd fn t av bv pb po tv) (hg : w0.grownBy w none) (hb : OvBlk w o av bv pb po) : OvT w o t := by
  obtain ⟨s3, s4, hb⟩ := hb
  refine ⟨pb, po, tv, ?_, hg.cell h.text (by simp), h.lies.grown hg⟩
  rw [at_cell hb]; rfl
theorem ov_of {w0 w : World} {o : Nat} {l : List (Int × Nat)} {kd : Int} {fn : Nat} {t : List Ins} {av bv : Value} {pb po : Nat} {tv : Value} (h : UnAt w0 o l kd fn t av bv pb po tv) (hg : w0.grownBy w none) (hb : OvBlk w o av bv pb po) : Ov w o l fn t.length := by
  obtain ⟨s3, s4, hb⟩ := hb
  obtain ⟨fa, fc, hf⟩ := h.frame
  obtain ⟨ta, tc, rfl, _⟩ := h.lies
  refine ⟨⟨av, ?_, h.ahead.grown hg⟩, pb, po, fa, fc, ta, tc, ?_, hg.cell hf (by simp), hg.cell h.text (by simp)⟩
  · rw [at_cell hb]; rfl
  · rw [at_cell hb]; rfl

/-- Behind a look that found nothing wrong the lists lie there. -/
def Laid (w' : World) (o : Nat) (t : List Ins) (av bv : Value) (pb po : Nat) : Prop := ∃ bb tb, w'.heap[o]? = some (.cells #[av, bv, .pointer (some ⟨pb, po, none⟩), .slice (some ⟨bb, 0, none⟩) (t.length + 1) (t.length + 1), .slice (some ⟨tb, 0, none⟩) t.length t.length] 64) ∧ w'.heap[bb]? = some (.cells (intsA (begK t t.length)) 3) ∧ w'.heap[tb]? = some (.cells (intsA (timK t t.length)) 3)
theorem Laid.grown {w w' : World} {o : Nat} {t : List Ins} {av bv : Value} {pb po : Nat} (h : Laid w o t av bv pb po) (hg : w.grownBy w' none) : Laid w' o t av bv pb po := by
  obtain ⟨bb, tb, h1, h2, h3⟩ := h
  exact ⟨bb, tb, kept hg h1, kept hg h2, kept hg h3⟩
theorem Laid.blk {w : World} {o : Nat} {t : List Ins} {av bv : Value} {pb po : Nat} (h : Laid w o t av bv pb po) : OvBlk w o av bv pb po := by
  obtain ⟨bb, tb, h1, _⟩ := h
  exact ⟨_, _, h1⟩

def LookPost (w0 : World) (p : Prop) (o : Nat) (t : List Ins) (av bv : Value) (pb po : Nat) (e : Ending) (w' : World) : Prop :=
  ∃ r : Bool, e = .returned (.bool r) ∧ (r = true ↔ p) ∧ w0.grownBy w' none ∧ (r = true → Laid w' o t av bv pb po)

set_option maxHeartbeats 1000000 in
theorem mayLoops_any (o : Nat) (l : List (Int × Nat)) (kd : Int) (fn : Nat) (t : List Ins) (av bv : Value) (pb po : Nat) (tv : Value) (w0 w : World) (h : UnAt w0 o l kd fn t av bv pb po tv) (hg : w0.grownBy w none) (hb : OvBlk w o av bv pb po) (hl : t.length ≤ 100000) (hm : AllMay l fn t) :
    Calls Tryd.prog 29 #[.pointer (some ⟨o, 0, none⟩)] w (LookPost w0 (RdOk t ∧ nst t t.length ≠ none) o t av bv pb po) := by
  have cR := mayRounds_any o t w (ovT_of h hg hb) hl
  have HH : Hid (UnAt w0 o l kd fn t av bv pb po tv) := h
  have HB : Hid (OvBlk w o av bv pb po) := hb
  have HM : Hid (AllMay l fn t) := hm
  clear h hb hm
  go_enter Tryd.func29, Tryd.ntmps29
  go_wp2_with fail
  refine cR.mono ?_
  rintro e w1 ⟨r, rfl, hr, hg1⟩
  clear cR
  have HR : Hid (r = true ↔ RdOk t) := hr
  clear hr
  cases r with
  | false =>
    go_wp2_with fail
    go_ret
    exact ⟨false, rfl, by simp only [Bool.false_eq_true, false_iff]; exact fun hx => by have := HR.out.2 hx.1; simp at this, hg.trans hg1, by simp⟩
  | true =>
    have HRd : Hid (RdOk t) := HR.out.1 rfl
    clear HR
    obtain ⟨s3, s4, hbl⟩ := HB.out
    have cN := nest_any o pb po av bv s3 s4 tv t w0 w1 (hg.trans hg1) HH.out.fresh (kept hg1 hbl) HH.out.text HH.out.lies hl HRd.out (may_bs HM.out) (may_cnt HM.out)
    clear hbl
    go_wp2_with fail
    refine cN.mono ?_
    rintro e w2 ⟨r, rfl, hr, hg2, hL⟩
    have H2 : Hid (r = true ↔ nst t t.length ≠ none) := hr
    have H3 : Hid (r = true → Laid w2 o t av bv pb po) := hL
    clear hr hL cN
    go_wp2_with fail
    go_ret
    exact ⟨r, by simp, by rw [H2.out]; exact ⟨fun hx => ⟨HRd.out, hx⟩, fun hx => hx.2⟩, hg2, H3.out⟩

set_option maxRecDepth 10000 in
set_option maxHeartbeats 2000000 in
theorem mayBe_any (o : Nat) (l : List (Int × Nat)) (kd : Int) (fn : Nat) (t : List Ins) (av bv : Value) (pb po : Nat) (tv : Value) (w0 w : World) (h : UnAt w0 o l kd fn t av bv pb po tv) (hg : w0.grownBy w none) (hb : OvBlk w o av bv pb po) (hS : Stds w0) (hll : l.length ≤ 1000000000000) :
    Calls Tryd.prog 23 #[.pointer (some ⟨o, 0, none⟩)] w (LookPost w0 (ProgOk l kd fn t) o t av bv pb po) := by
  have HH : Hid (UnAt w0 o l kd fn t av bv pb po tv) := h
  have HB : Hid (OvBlk w o av bv pb po) := hb
  have HS : Hid (Stds w0) := hS
  clear h hb hS
  have k0 := hg.cell HH.out.kind (by simp)
  obtain ⟨fa, fc, k2⟩ := HH.out.frame
  have k2 := hg.cell k2 (by simp)
  obtain ⟨ta, tc, htv, hT⟩ := HH.out.lies
  have k4 := hg.cell HH.out.text (by simp)
  rw [htv] at k4
  have c2 : w.cell? ⟨o, 2, none⟩ = some (.pointer (some ⟨pb, po, none⟩)) := by obtain ⟨s3, s4, hbl⟩ := HB.out; rw [at_cell hbl]; rfl
  have HT : Hid (t = [] ∨ ∃ b off, ta = some ⟨b, off, none⟩ ∧ ∀ i, i < t.length →
    w0.cell? ⟨b, off + i * 4, none⟩ = some (.int .i64 (nth t i).d) ∧ w0.cell? ⟨b, off + i * 4 + 1, none⟩ = some (.int .i64 (nth t i).a) ∧
    w0.cell? ⟨b, off + i * 4 + 2, none⟩ = some (.int .i64 (nth t i).b) ∧ w0.cell? ⟨b, off + i * 4 + 3, none⟩ = some (.int .i64 (nth t i).c)) := hT
  clear hT htv
  obtain ⟨n, hn⟩ : ∃ n, t.length = n := ⟨_, rfl⟩
  have HN : Hid (t.length = n) := hn
  rw [hn] at k4
  clear hn
  by_cases q1 : kd < 1
  · have HX : Hid (¬ ProgOk l kd fn t) := fun hx => by have := hx.kind.1; omega
    go_enter Tryd.func23, Tryd.ntmps23
    go_wp2_with fail
    go_ret
    exact ⟨false, rfl, by simpa using HX.out, hg, by simp⟩
  by_cases q2 : 3 < kd
  · have HX : Hid (¬ ProgOk l kd fn t) := fun hx => by have := hx.kind.2; omega
    go_enter Tryd.func23, Tryd.ntmps23
    go_wp2_with fail
    go_ret
    exact ⟨false, rfl, by simpa using HX.out, hg, by simp⟩
  by_cases q3 : 20000 < fn
  · have HX : Hid (¬ ProgOk l kd fn t) := fun hx => by have := hx.frame; omega
    have q3' : (20000 : Int) < (fn : Int) := by omega
    go_enter Tryd.func23, Tryd.ntmps23
    go_wp2_with fail
    go_ret
    exact ⟨false, rfl, by simpa using HX.out, hg, by simp⟩
  by_cases q4 : 100000 < n
  · have HX : Hid (¬ ProgOk l kd fn t) := fun hx => by have := hx.len; rw [HN.out] at this; omega
    have q3' : ¬ ((20000 : Int) < (fn : Int)) := by omega
    have q4' : (100000 : Int) < (n : Int) := by omega
    go_enter Tryd.func23, Tryd.ntmps23
    go_wp2_with fail
    go_ret
    exact ⟨false, rfl, by simpa using HX.out, hg, by simp⟩
  have q3' : ¬ ((20000 : Int) < (fn : Int)) := by omega
  have q4' : ¬ ((100000 : Int) < (n : Int)) := by omega
  go_enter Tryd.func23, Tryd.ntmps23
  go_wp2_with fail
  go_loopg [43] n (fun gk s43 wx => ∃ k : Nat, s43 = .int .i64 k ∧ k ≤ n ∧ gk = n - k ∧ (∀ i, i < k → mayS l fn t.length i (nth t i) = true) ∧ w.grownBy wx none)
  case atStart => exact ⟨0, rfl, Nat.zero_le _, by omega, fun i hi => by omega, World.grownBy.refl _ _⟩
  case round =>
    obtain ⟨k, rfl, hk, hgk, hall, hgr⟩ := hrel
    have HG : Hid (gk = n - k) := hgk
    have HA : Hid (∀ i, i < k → mayS l fn t.length i (nth t i) = true) := hall
    clear hgk hall
    by_cases hlt : k < n
    · have hkl : k < t.length := by rw [HN.out]; exact hlt
      rcases HT.out with h | ⟨b', off, rfl, hc⟩
      · subst h; simp at hkl
      obtain ⟨q0, q1', q2', q3''⟩ := hc k hkl
      have q0 := (hg.trans hgr).cell q0 (by simp)
      have q1' := (hg.trans hgr).cell q1' (by simp)
      have q2' := (hg.trans hgr).cell q2' (by simp)
      have q3'' := (hg.trans hgr).cell q3'' (by simp)
      clear hc
      have cM : ∀ w', w.grownBy w' none → Calls Tryd.prog 28 #[.pointer (some ⟨o, 0, none⟩), .int .i64 k, insV (nth t k)] w' fun e w2 => e = .returned (.bool (mayS l fn t.length k (nth t k))) ∧ w'.grownBy w2 none := fun w' hw' => by
        refine mayInstr_any (nth t k) l fn t.length k o w' (ov_of HH.out (hg.trans hw') ?_) (HS.out.grown (hg.trans hw')) (by omega) hll (by omega) (by rw [HN.out]; omega)
        obtain ⟨s3, s4, hbl⟩ := HB.out
        exact ⟨s3, s4, kept hw' hbl⟩
      obtain ⟨r, hr⟩ : ∃ r, mayS l fn t.length k (nth t k) = r := ⟨_, rfl⟩
      rw [hr] at cM
      have HR : Hid (mayS l fn t.length k (nth t k) = r) := hr
      unfold insV at cM
      generalize (nth t k).d = d at *
      generalize (nth t k).a = a at *
      generalize (nth t k).b = b at *
      generalize (nth t k).c = c at *
      clear hr
      have i1 : (0 : Int) ≤ (k : Int) := by omega
      have i2 : (k : Int) < (n : Int) := by omega
      go_wp2_with fail
      refine (cM _ (gr_alloc hgr _)).mono ?_
      rintro e w1 ⟨rfl, hg1⟩
      clear cM
      cases r with
      | false =>
        have HX : Hid (¬ ProgOk l kd fn t) := fun hx => by have := hx.may k hkl; rw [HR.out] at this; simp at this
        go_wp2_with fail
        go_ret
        exact ⟨false, rfl, by simpa using HX.out, hg.trans ((gr_alloc hgr _).trans hg1), by simp⟩
      | true =>
        go_wp2_with fail
        have hgl := HG.out
        go_roundg (n - (k + 1))
        all_goals first | omega | exact ⟨k + 1, by go_num, by omega, by omega, fun i hi => (by
          by_cases e : i = k
          · subst e; exact HR.out
          · exact HA.out i (by omega)), (gr_alloc hgr _).trans hg1⟩
    · have hk' : ¬ ((k : Int) < (n : Int)) := by omega
      have hkn : k = n := by omega
      subst hkn
      have HM : Hid (AllMay l fn t) := fun i hi => HA.out i (by rw [HN.out] at hi; exact hi)
      have hbl : OvBlk wr o av bv pb po := by obtain ⟨s3, s4, hbl⟩ := HB.out; exact ⟨s3, s4, kept hgr hbl⟩
      have cL := mayLoops_any o l kd fn t av bv pb po tv w0 wr HH.out (hg.trans hgr) hbl (by rw [HN.out]; omega) HM.out
      clear HG hbl
      go_wp2_with fail
      refine cL.mono ?_
      rintro e w1 ⟨r, rfl, hr, hg1, hL⟩
      clear cL
      have HR1 : Hid (r = true ↔ (RdOk t ∧ nst t t.length ≠ none)) := hr
      have HL1 : Hid (r = true → Laid w1 o t av bv pb po) := hL
      clear hr hL
      cases r with
      | false =>
        have HX : Hid (¬ ProgOk l kd fn t) := fun hx => by have := HR1.out.2 ⟨hx.rds, hx.nest⟩; simp at this
        clear HR1 HL1
        go_wp2_with fail
        go_ret
        exact ⟨false, rfl, by simpa using HX.out, hg1, by simp⟩
      | true =>
        have HRd : Hid (RdOk t ∧ nst t t.length ≠ none) := HR1.out.1 rfl
        have HLd : Hid (Laid w1 o t av bv pb po) := HL1.out rfl
        clear HR1 HL1
        obtain ⟨bb, tb, z1, z2, z3⟩ := HLd.out
        have c3 : w1.cell? ⟨o, 3, none⟩ = some (.slice (some ⟨bb, 0, none⟩) (t.length + 1) (t.length + 1)) := by rw [at_cell z1]; rfl
        have cJ := mayJumps_any o bb t (begK t t.length) w1 (ovT_of HH.out hg1 HLd.out.blk) (by rw [HN.out]; omega) c3 z2 (begK_len _ _) (may_fwd HM.out)
        clear z1 z2 z3 c3
        go_wp2_with fail
        refine cJ.mono ?_
        rintro e w2 ⟨r, rfl, hr, hg2⟩
        clear cJ
        have HR2 : Hid (r = true ↔ JumpsOk t (begK t t.length)) := hr
        clear hr
        cases r with
        | false =>
          have HX : Hid (¬ ProgOk l kd fn t) := fun hx => by have := HR2.out.2 hx.jumps; simp at this
          clear HR2
          go_wp2_with fail
          go_ret
          exact ⟨false, rfl, by simpa using HX.out, hg1.trans hg2, by simp⟩
        | true =>
          have HJd : Hid (JumpsOk t (begK t t.length)) := HR2.out.1 rfl
          clear HR2
          have cK := mayStack_any o t w2 (ovT_of HH.out (hg1.trans hg2) (HLd.out.grown hg2).blk) (by rw [HN.out]; omega) (may_ways HM.out HRd.out.1)
          go_wp2_with fail
          refine cK.mono ?_
          rintro e w3 ⟨r, rfl, hr, hg3⟩
          clear cK
          have HR3 : Hid (r = true ↔ StackOk t) := hr
          clear hr
          go_wp2_with fail
          go_ret
          refine ⟨r, by simp, ?_, (hg1.trans hg2).trans hg3, fun _ => (HLd.out.grown hg2).grown hg3⟩
          rw [HR3.out]
          exact ⟨fun hx => ⟨by omega, by omega, by rw [HN.out]; omega, HM.out, HRd.out.1, HRd.out.2, HJd.out, hx⟩, fun hx => hx.stack⟩
end Go.Proofs.YtbaijehecncclaaDoor
