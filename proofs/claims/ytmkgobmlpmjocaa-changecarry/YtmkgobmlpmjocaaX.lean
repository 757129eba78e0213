/- Carry. -/
import Derived.Test.YtmkgobmlpmjocaaN
import Derived.Test.YtmkgobmlpmjocaaU
import Derived.Test.YtmkgobmlpmjocaaW
namespace Go.Proofs.Ytmkgobmlpmjocaa
open Go.RowKit
attribute [local go_sem ↓] Go.wp_at_zero Go.wp_at_succ
set_option linter.unusedVariables false
set_option linter.unusedSimpArgs false

theorem in_of_wf {n : Int} (h : (Lit.int .i64 n).wf = true) : n ≤ 9223372036854775807 := by
  have := h
  simp [Lit.wf, IntKind.min, IntKind.max, IntKind.signed, IntKind.bits] at this
  omega
theorem info30 : (Try.prog.info? 30).map (·.size) = some 3 := by kernel_rfl
theorem load30 (W : World) (p : Nat) (x y z : Value) (hg : W.heap[p]? = some (.cells #[x, y, z] 30)) : (loadVar 30 ⟨p, 0, none⟩).run Try.prog W = .ok (.agg #[x, y, z]) W :=
  run_loadVar_row (P := Try.prog) W p 30 30 #[x, y, z] (0, 0) _ hg Try.underlying30 rfl info30
theorem results30 {f : Func} {k m : Tmp} (hr : f.results = #[.cell k 30, .tmp m]) (tmps : Array Value) (W : World) (q : Nat) (x y z : Value) (h6 : tmps.getD k undef = .pointer (some ⟨q, 0, none⟩)) (hg : W.heap[q]? = some (.cells #[x, y, z] 30)) :
    (results f tmps).run Try.prog W = .ok (.tuple #[.agg #[x, y, z], tmps.getD m undef]) W := by
  have hl := load30 W q x y z hg
  have h6' : tmps[k]?.getD undef = .pointer (some ⟨q, 0, none⟩) := by simpa using h6
  simp [results, hr]
  rw [h6']
  simp [asAddr, hl, Result.andThen]

/-- Which error carrying tells. -/
def carE (fr fo : List Int) (so : List Slt) (fn : List Int) (sn : List Slt) : Int :=
  if okB fo so = false then 12 else if ¬ fr.length = fo.length then 4 else if okB fn sn = false then 12 else 0
def carR (fr fo : List Int) (so : List Slt) (fn : List Int) (sn : List Slt) : List Int := if carE fr fo so fn sn = 0 then carF fr so fn sn else []
def carL (fr fo : List Int) (so : List Slt) (fn : List Int) (sn : List Slt) : List ByteArray := if carE fr fo so fn sn = 0 then unkF so sn else []
def carH (fr fo : List Int) (so : List Slt) (fn : List Int) (sn : List Slt) : List ByteArray := if carE fr fo so fn sn = 0 then unkF sn so else []
/-- What a call tells: three lists of its own, no two in one row. -/
def CarP (w w' : World) (e : Ending) (err : Int) (F : List Int) (L H : List ByteArray) : Prop :=
  ∃ fa fc la lc ha hc B1 B2, e = .returned (.tuple #[.agg #[.slice fa F.length fc, .slice la L.length lc, .slice ha H.length hc], .int .i64 err]) ∧ OwnV w.heap.size w' (.slice fa F.length fc) F ∧ OwnP B1 w' la lc L ∧ OwnP B2 w' ha hc H ∧
    w.heap.size ≤ B1 ∧ B1 ≤ B2 ∧ (∀ y, (Value.slice fa F.length fc).ownBlock = some y → y < B1) ∧ (∀ y, (Value.slice la L.length lc).ownBlock = some y → y < B2) ∧ w.grownBy w' none
theorem CarP.zero {w w' : World} {err : Int} (hg : w.grownBy w' none) : CarP w w' (.returned (.tuple #[.agg #[.slice none 0 0, .slice none 0 0, .slice none 0 0], .int .i64 err])) err [] [] [] :=
  ⟨none, 0, none, 0, none, 0, w.heap.size, w.heap.size, rfl, World.ownsRow_nil _ _ _ _, OwnP.nil _ _, OwnP.nil _ _, Nat.le_refl _, Nat.le_refl _, by simp [Value.ownBlock], by simp [Value.ownBlock], hg⟩

theorem box3 {W : World} {q : Nat} {y0 y1 y2 x0 x1 x2 : Value} {T : TypeId} (h : W.heap[q]? = some (.cells #[y0, y1, y2] T)) : ((((W).setCell ⟨q, 0, none⟩ x0).setCell ⟨q, 1, none⟩ x1).setCell ⟨q, 2, none⟩ x2).heap[q]? = some (.cells #[x0, x1, x2] T) := by
  have := at_set (at_set (at_set h 0 x0) 1 x1) 2 x2
  simpa using this
theorem gr3n {w W : World} {q : Nat} {x0 x1 x2 : Value} (h : w.grownBy W none) (hq : w.heap.size ≤ q) : w.grownBy ((((W).setCell ⟨q, 0, none⟩ x0).setCell ⟨q, 1, none⟩ x1).setCell ⟨q, 2, none⟩ x2) none :=
  gr_own (gr_own (gr_own h hq _ _) hq _ _) hq _ _
theorem gr3 {w W : World} {q : Nat} {x0 x1 x2 : Value} (h : w.grownBy W (some q)) : w.grownBy ((((W).setCell ⟨q, 0, none⟩ x0).setCell ⟨q, 1, none⟩ x1).setCell ⟨q, 2, none⟩ x2) (some q) :=
  gr_set (gr_set (gr_set h _ _) _ _) _ _
theorem at3 {W : World} {q : Nat} {y0 y1 y2 : Value} {T : TypeId} (h : W.heap[q]? = some (.cells #[y0, y1, y2] T)) : W.cell? ⟨q, 0, none⟩ = some y0 ∧ W.cell? ⟨q, 1, none⟩ = some y1 ∧ W.cell? ⟨q, 2, none⟩ = some y2 ∧ W.frozen? ⟨q, 0, none⟩ = false ∧ W.frozen? ⟨q, 1, none⟩ = false ∧ W.frozen? ⟨q, 2, none⟩ = false :=
  ⟨at_cell h 0, at_cell h 1, at_cell h 2, at_frozen h 0, at_frozen h 1, at_frozen h 2⟩

theorem stepF_len {fr : List Int} {old : List Slt} {acc : List Int} {s : Slt} (ho : old.all (slB fr.length) = true) (hs : slB acc.length s = true) : (stepF fr old acc s).length = acc.length := by
  unfold stepF
  split
  · next h =>
    have h1 := at_fit ho h
    simp [slB, liesB] at hs
    have h2 : 1 ≤ wds s := by unfold wds; split <;> omega
    refine lay_len ?_
    simp
    omega
  · rfl
theorem carF_len {fr : List Int} {old : List Slt} (ho : old.all (slB fr.length) = true) : ∀ (sl : List Slt) (fs : List Int), sl.all (slB fs.length) = true → (carF fr old fs sl).length = fs.length
  | [], fs, _ => rfl
  | s :: sl, fs, h => by
    rw [List.all_cons, Bool.and_eq_true] at h
    have e := stepF_len (acc := fs) ho h.1
    have := carF_len ho sl (stepF fr old fs s) (by rw [e]; exact h.2)
    rw [e] at this
    exact this

set_option maxHeartbeats 1000000 in
theorem Carry_any (k k' : Int) (nm nm' : ByteArray) (ra oa na : Option Addr) (rc oc nc : Nat) (sv tv sv' tv' : Value) (fr fo fn : List Int) (so sn : List Slt) (w : World)
    (hr : rd w (.slice ra fr.length rc) fr) (hcap : fr.length ≤ rc) (ho : rd w (.slice oa fo.length oc) fo) (hn : rd w (.slice na fn.length nc) fn) (hSo : SlAt w sv so) (hSn : SlAt w sv' sn) (hwo : ∀ s ∈ so, WfS s) (hwn : ∀ s ∈ sn, WfS s) :
    Calls Try.prog 6 #[pV k nm (.slice oa fo.length oc) sv tv, .slice ra fr.length rc, pV k' nm' (.slice na fn.length nc) sv' tv'] w fun e w' => CarP w w' e (carE fr fo so fn sn) (carR fr fo so fn sn) (carL fr fo so fn sn) (carH fr fo so fn sn) := by
  have hlo : ∀ s ∈ so, s.len ≤ 9223372036854775807 := fun s hs => by exact in_of_wf (hwo s hs).len
  have hln : ∀ s ∈ sn, s.len ≤ 9223372036854775807 := fun s hs => by exact in_of_wf (hwn s hs).len
  have cM : ∀ W, w.grownBy W none → Calls Try.prog 16 #[pV k nm (.slice oa fo.length oc) sv tv] W fun e w' => e = .returned (.bool (okB fo so)) ∧ W.grownBy w' none := fun W hW => may_any k nm oa oc sv tv fo so W (hSo.grown hW) hlo
  have cN : ∀ W, w.grownBy W none → Calls Try.prog 16 #[pV k' nm' (.slice na fn.length nc) sv' tv'] W fun e w' => e = .returned (.bool (okB fn sn)) ∧ W.grownBy w' none := fun W hW => may_any k' nm' na nc sv' tv' fn sn W (hSn.grown hW) hln
  have HSO : Hid (SlAt w sv so) := hSo
  have HSN : Hid (SlAt w sv' sn) := hSn
  have HR : Hid (rd w (.slice ra fr.length rc) fr) := hr
  have HO : Hid (rd w (.slice oa fo.length oc) fo) := ho
  have HN : Hid (rd w (.slice na fn.length nc) fn) := hn
  have HWO : Hid (∀ s ∈ so, WfS s) := hwo
  have HWN : Hid (∀ s ∈ sn, WfS s) := hwn
  clear hr ho hn hwo hwn hlo hln
  obtain ⟨sa, sc, rfl, hS1⟩ := hSo
  obtain ⟨ta, tc, rfl, hS2⟩ := hSn
  clear hS1 hS2
  obtain ⟨qr, hqr⟩ : ∃ q, fr.length = q := ⟨_, rfl⟩
  obtain ⟨qo, hqo⟩ : ∃ q, fo.length = q := ⟨_, rfl⟩
  obtain ⟨qn, hqn⟩ : ∃ q, fn.length = q := ⟨_, rfl⟩
  have HQR : Hid (fr.length = qr) := hqr
  have HQO : Hid (fo.length = qo) := hqo
  have HQN : Hid (fn.length = qn) := hqn
  obtain ⟨mo, hmo⟩ : ∃ q, so.length = q := ⟨_, rfl⟩
  obtain ⟨mn, hmn⟩ : ∃ q, sn.length = q := ⟨_, rfl⟩
  have HMO : Hid (so.length = mo) := hmo
  have HMN : Hid (sn.length = mn) := hmn
  rw [hqr, hqo, hqn, hmo, hmn]
  rw [hqo, hmo] at cM
  rw [hqn, hmn] at cN
  rw [hqr] at hcap
  clear hqr hqo hqn hmo hmn
  unfold pV at *
  obtain ⟨p, hp⟩ : ∃ p, w.heap.size = p := ⟨_, rfl⟩
  have HP : Hid (w.heap.size = p) := hp
  generalize hw0 : ((w.alloc (.cells #[.int .i64 k, .string nm, .slice oa qo oc, .slice sa mo sc, tv] 27)).alloc (.cells #[.int .i64 k', .string nm', .slice na qn nc, .slice ta mn tc, tv'] 27)).alloc (.cells #[.slice none 0 0, .slice none 0 0, .slice none 0 0] 30) = w0
  have hg0 : w.grownBy w0 none := by rw [← hw0]; exact gr_alloc (gr_alloc (gr1 _ _) _) _
  have b0 : w0.heap[p]? = some (.cells #[.int .i64 k, .string nm, .slice oa qo oc, .slice sa mo sc, tv] 27) := by rw [← hw0, hp_old (by simp; omega), hp_old (by simp; omega)]; exact hp_new hp.symm _
  have b1 : w0.heap[p + 1]? = some (.cells #[.int .i64 k', .string nm', .slice na qn nc, .slice ta mn tc, tv'] 27) := by rw [← hw0, hp_old (by simp; omega)]; exact hp_new (by simp; omega) _
  have b2 : w0.heap[p + 2]? = some (.cells #[.slice none 0 0, .slice none 0 0, .slice none 0 0] 30) := by rw [← hw0]; exact hp_new (by simp; omega) _
  have x0 := at_cell b0 0
  have x1 := at_cell b0 1
  have x2 := at_cell b0 2
  have x3 := at_cell b0 3
  have x4 := at_cell b0 4
  have y0 := at_cell b1 0
  have y1 := at_cell b1 1
  have y2 := at_cell b1 2
  have y3 := at_cell b1 3
  have y4 := at_cell b1 4
  simp at x0 x1 x2 x3 x4 y0 y1 y2 y3 y4
  have B0 : Hid (w0.heap[p]? = some (.cells #[.int .i64 k, .string nm, .slice oa qo oc, .slice sa mo sc, tv] 27)) := b0
  have B1 : Hid (w0.heap[p + 1]? = some (.cells #[.int .i64 k', .string nm', .slice na qn nc, .slice ta mn tc, tv'] 27)) := b1
  have B2 : Hid (w0.heap[p + 1 + 1]? = some (.cells #[.slice none 0 0, .slice none 0 0, .slice none 0 0] 30)) := b2
  clear b0 b1 b2
  by_cases h1 : okB fo so = false
  · rw [h1] at cM
    have e0 : carE fr fo so fn sn = 12 := by simp [carE, *]
    have e1 : carR fr fo so fn sn = [] := by simp [carR, e0]
    have e2 : carL fr fo so fn sn = [] := by simp [carL, e0]
    have e3 : carH fr fo so fn sn = [] := by simp [carH, e0]
    rw [e0, e1, e2, e3]
    clear e0 e1 e2 e3
    clear h1
    go_enter Try.func6, Try.ntmps6
    go_wp2_with fail
    refine (cM _ hg0).mono ?_
    rintro e w1 ⟨rfl, hg1⟩
    have hgw1 := hg0.trans hg1
    have b4 : w1.heap[p + 1 + 1]? = some (.cells #[.slice none 0 0, .slice none 0 0, .slice none 0 0] 30) := kept hg1 B2.out
    obtain ⟨z0, z1, z2, f0, f1, f2⟩ := at3 b4
    clear hw0
    go_wp2_with fail
    refine bodyPost_ret (results30 rfl _ _ (p + 1 + 1) _ _ _ rfl (box3 b4)) rfl ?_
    exact CarP.zero (gr3n hgw1 (by have := HP.out; omega))
  · have h1' : okB fo so = true := by simpa using h1
    rw [h1'] at cM
    have hlo1 : qo ≤ 20000 := by simp [okB] at h1'; have := HQO.out; omega
    have hlo2 : mo ≤ 20000 := by simp [okB] at h1'; have := HMO.out; omega
    have hall : so.all (slB fo.length) = true := by
      have := h1'
      unfold okB at this
      rw [Bool.and_eq_true] at this
      exact this.2
    by_cases h2 : qr = qo
    · have h2s := h2.symm
      clear h2
      subst h2s
      have h2 : fr.length = fo.length := HQR.out.trans HQO.out.symm
      by_cases h3 : okB fn sn = false
      · rw [h3] at cN
        have e0 : carE fr fo so fn sn = 12 := by simp [carE, *]
        have e1 : carR fr fo so fn sn = [] := by simp [carR, e0]
        have e2 : carL fr fo so fn sn = [] := by simp [carL, e0]
        have e3 : carH fr fo so fn sn = [] := by simp [carH, e0]
        rw [e0, e1, e2, e3]
        clear e0 e1 e2 e3
        clear h1 h1' hall h3 h2
        go_enter Try.func6, Try.ntmps6
        go_wp2_with fail
        refine (cM _ hg0).mono ?_
        rintro e w1 ⟨rfl, hg1⟩
        have hgw1 := hg0.trans hg1
        have b4 : w1.heap[p + 1 + 1]? = some (.cells #[.slice none 0 0, .slice none 0 0, .slice none 0 0] 30) := kept hg1 B2.out
        have B41 : Hid (w1.heap[p + 1]? = some (.cells #[.int .i64 k', .string nm', .slice na qn nc, .slice ta mn tc, tv'] 27)) := kept hg1 B1.out
        have B40 : Hid (w1.heap[p]? = some (.cells #[.int .i64 k, .string nm, .slice oa qo oc, .slice sa mo sc, tv] 27)) := kept hg1 B0.out
        obtain ⟨z0, z1, z2, f0, f1, f2⟩ := at3 b4
        have x2' := at_cell B40.out 2
        have y0' := at_cell B41.out 0
        have y1' := at_cell B41.out 1
        have y2' := at_cell B41.out 2
        have y3' := at_cell B41.out 3
        have y4' := at_cell B41.out 4
        simp at x2' y0' y1' y2' y3' y4'
        clear hw0 x0 x1 x2 x3 x4 y0 y1 y2 y3 y4
        go_wp2_with fail
        refine (cN _ hgw1).mono ?_
        rintro e w2 ⟨rfl, hg2⟩
        have b5 : w2.heap[p + 1 + 1]? = some (.cells #[.slice none 0 0, .slice none 0 0, .slice none 0 0] 30) := kept hg2 b4
        clear z0 z1 z2 f0 f1 f2
        obtain ⟨z0, z1, z2, f0, f1, f2⟩ := at3 b5
        go_wp2_with fail
        refine bodyPost_ret (results30 rfl _ _ (p + 1 + 1) _ _ _ rfl (box3 b5)) rfl ?_
        exact CarP.zero (gr3n (hgw1.trans hg2) (by have := HP.out; omega))
      · have h3' : okB fn sn = true := by simpa using h3
        rw [h3'] at cN
        have hln1 : qn ≤ 20000 := by simp [okB] at h3'; have := HQN.out; omega
        have hln2 : mn ≤ 20000 := by simp [okB] at h3'; have := HMN.out; omega
        have hall' : sn.all (slB fn.length) = true := by
          have := h3'
          unfold okB at this
          rw [Bool.and_eq_true] at this
          exact this.2
        have e0 : carE fr fo so fn sn = 0 := by simp [carE, *]
        have e1 : carR fr fo so fn sn = carF fr so fn sn := by simp [carR, e0]
        have e2 : carL fr fo so fn sn = unkF so sn := by simp [carL, e0]
        have e3 : carH fr fo so fn sn = unkF sn so := by simp [carH, e0]
        rw [e0, e1, e2, e3]
        clear e0 e1 e2 e3
        have HAO : Hid (so.all (slB fr.length) = true) := by rw [h2]; exact hall
        have HAN : Hid (sn.all (slB fn.length) = true) := hall'
        have HL1 : Hid (mo ≤ 20000 ∧ mn ≤ 20000 ∧ qn ≤ 20000 ∧ qo ≤ 20000) := ⟨hlo2, hln2, hln1, hlo1⟩
        clear h1 h1' hall h3 h3' hall' hlo1 hlo2 hln1 hln2 h2
        go_enter Try.func6, Try.ntmps6
        go_wp2_with fail
        refine (cM _ hg0).mono ?_
        rintro e w1 ⟨rfl, hg1⟩
        have hgw1 := hg0.trans hg1
        have b4 : w1.heap[p + 1 + 1]? = some (.cells #[.slice none 0 0, .slice none 0 0, .slice none 0 0] 30) := kept hg1 B2.out
        have B41 : Hid (w1.heap[p + 1]? = some (.cells #[.int .i64 k', .string nm', .slice na qn nc, .slice ta mn tc, tv'] 27)) := kept hg1 B1.out
        have B40 : Hid (w1.heap[p]? = some (.cells #[.int .i64 k, .string nm, .slice oa qo oc, .slice sa mo sc, tv] 27)) := kept hg1 B0.out
        obtain ⟨z0, z1, z2, f0, f1, f2⟩ := at3 b4
        have x2' := at_cell B40.out 2
        have y0' := at_cell B41.out 0
        have y1' := at_cell B41.out 1
        have y2' := at_cell B41.out 2
        have y3' := at_cell B41.out 3
        have y4' := at_cell B41.out 4
        simp at x2' y0' y1' y2' y3' y4'
        clear hw0 x0 x1 x2 x3 x4 y0 y1 y2 y3 y4
        go_wp2_with fail
        refine (cN _ hgw1).mono ?_
        rintro e w2 ⟨rfl, hg2⟩
        have hgw2 := hgw1.trans hg2
        have B5 : Hid (w2.heap[p + 1 + 1]? = some (.cells #[.slice none 0 0, .slice none 0 0, .slice none 0 0] 30)) := kept hg2 b4
        have HK : Hid (w2.cell? ⟨p, 3, none⟩ = some (.slice sa mo sc) ∧ w2.cell? ⟨p + 1, 0, none⟩ = some (.int .i64 k') ∧ w2.cell? ⟨p + 1, 1, none⟩ = some (.string nm') ∧ w2.cell? ⟨p + 1, 2, none⟩ = some (.slice na qn nc) ∧ w2.cell? ⟨p + 1, 3, none⟩ = some (.slice ta mn tc) ∧ w2.cell? ⟨p + 1, 4, none⟩ = some (tv')) := ⟨by have := at_cell (kept hg2 B40.out) 3; simpa using this, hg2.cell y0' (by simp), hg2.cell y1' (by simp), hg2.cell y2' (by simp), hg2.cell y3' (by simp), hg2.cell y4' (by simp)⟩
        obtain ⟨k0, k1, k2, k3, k4, k5⟩ := HK.out
        have cA : ∀ W, w.grownBy W none → Calls Try.prog 17 #[.slice sa mo sc] W fun e w' => ∃ b, e = .returned (.map (some b)) ∧ FS w' b so ∧ W.heap.size ≤ b ∧ W.grownBy w' none := fun W hW => by have := find_any _ so W (HSO.out.grown hW) HWO.out (by rw [HMO.out]; exact HL1.out.1); rw [HMO.out] at this; exact this
        have cB : ∀ W, w.grownBy W none → Calls Try.prog 17 #[.slice ta mn tc] W fun e w' => ∃ b, e = .returned (.map (some b)) ∧ FS w' b sn ∧ W.heap.size ≤ b ∧ W.grownBy w' none := fun W hW => by have := find_any _ sn W (HSN.out.grown hW) HWN.out (by rw [HMN.out]; exact HL1.out.2.1); rw [HMN.out] at this; exact this
        clear z0 z1 z2 f0 f1 f2 x2' y0' y1' y2' y3' y4' cM cN
        go_wp2_with fail
        go_region_held3 (fun w' => w'.cell? ⟨p, 3, none⟩ = some (.slice sa mo sc) ∧ w'.cell? ⟨p + 1, 0, none⟩ = some (.int .i64 k') ∧ w'.cell? ⟨p + 1, 1, none⟩ = some (.string nm') ∧ w'.cell? ⟨p + 1, 2, none⟩ = some (.slice na qn nc) ∧ w'.cell? ⟨p + 1, 3, none⟩ = some (.slice ta mn tc) ∧ w'.cell? ⟨p + 1, 4, none⟩ = some (tv')) (first | (go_keep; done) | exact HK4.out | exact HK3.out) (first | (go_at_call 17; (with_reducible refine (cA _ (gr_drew hgw2)).mono ?_); rintro e w3 ⟨m1, rfl, hF3, hm1, hg3⟩; have hgw3 : w2.grownBy w3 none := (gr_drew (World.grownBy.refl w2 none)).trans hg3; have HF3 : Hid (FS w3 m1 so) := hF3; have HK3 : Hid (w3.cell? ⟨p, 3, none⟩ = some (.slice sa mo sc) ∧ w3.cell? ⟨p + 1, 0, none⟩ = some (.int .i64 k') ∧ w3.cell? ⟨p + 1, 1, none⟩ = some (.string nm') ∧ w3.cell? ⟨p + 1, 2, none⟩ = some (.slice na qn nc) ∧ w3.cell? ⟨p + 1, 3, none⟩ = some (.slice ta mn tc) ∧ w3.cell? ⟨p + 1, 4, none⟩ = some (tv')) := ⟨hgw3.cell HK.out.1 (by simp), hgw3.cell HK.out.2.1 (by simp), hgw3.cell HK.out.2.2.1 (by simp), hgw3.cell HK.out.2.2.2.1 (by simp), hgw3.cell HK.out.2.2.2.2.1 (by simp), hgw3.cell HK.out.2.2.2.2.2 (by simp)⟩; clear hF3) | (go_at_call 17; (with_reducible refine (cB _ (hgw2.trans hgw3)).mono ?_); rintro e w4 ⟨m2, rfl, hF4, hm2, hg4⟩; have HF4 : Hid (FS w4 m2 sn) := hF4; have HF4o : Hid (FS w4 m1 so) := HF3.out.kept hg4 (by simp); have HK4 : Hid (w4.cell? ⟨p, 3, none⟩ = some (.slice sa mo sc) ∧ w4.cell? ⟨p + 1, 0, none⟩ = some (.int .i64 k') ∧ w4.cell? ⟨p + 1, 1, none⟩ = some (.string nm') ∧ w4.cell? ⟨p + 1, 2, none⟩ = some (.slice na qn nc) ∧ w4.cell? ⟨p + 1, 3, none⟩ = some (.slice ta mn tc) ∧ w4.cell? ⟨p + 1, 4, none⟩ = some (tv')) := ⟨hg4.cell HK3.out.1 (by simp), hg4.cell HK3.out.2.1 (by simp), hg4.cell HK3.out.2.2.1 (by simp), hg4.cell HK3.out.2.2.2.1 (by simp), hg4.cell HK3.out.2.2.2.2.1 (by simp), hg4.cell HK3.out.2.2.2.2.2 (by simp)⟩; clear hF4))
        have hgw4 := hgw2.trans (hgw3.trans hg4)
        have B6 : Hid (w4.heap[p + 1 + 1]? = some (.cells #[.slice none 0 0, .slice none 0 0, .slice none 0 0] 30)) := kept (hgw3.trans hg4) B5.out
        have cC : ∀ W, w4.grownBy W none → Calls Try.prog 18 #[.slice ra qo rc, .map (some m1), .agg #[.int .i64 k', .string nm', .slice na qn nc, .slice ta mn tc, tv']] W fun e w' => ∃ g, e = .returned (.slice (some ⟨g, 0, none⟩) qn qn) ∧ W.heap.size ≤ g ∧ w'.heap[g]? = some (.cells (intsA (carF fr so fn sn)) 3) ∧ W.grownBy w' none := fun W hW => by
          have := carry_any k' nm' ra rc (.slice na fn.length nc) _ tv' fr fn sn so m1 W (rd_grown HR.out (hgw4.trans hW)) (by rw [HQR.out]; exact hcap) (rd_grown HN.out (hgw4.trans hW)) (HSN.out.grown (hgw4.trans hW)) HWN.out (by rw [HMN.out]; exact HL1.out.2.1) (by rw [HQN.out]; exact HL1.out.2.2.1) (by rw [HQR.out]; exact HL1.out.2.2.2) (HF4o.out.kept hW (by simp)) HAO.out HAN.out
          rw [HQR.out, HQN.out, HMN.out] at this
          exact this
        have cL : ∀ W, w4.grownBy W none → Calls Try.prog 19 #[.slice sa mo sc, .map (some m2)] W fun e w' => ∃ a c, e = .returned (.slice a (unkF so sn).length c) ∧ OwnP W.heap.size w' a c (unkF so sn) ∧ W.grownBy w' none := fun W hW => by
          have := unk_any _ so sn m2 W (HSO.out.grown (hgw4.trans hW)) HWO.out (by rw [HMO.out]; exact HL1.out.1) (HF4.out.kept hW (by simp))
          rw [HMO.out] at this
          exact this
        have cH : ∀ W, w4.grownBy W none → Calls Try.prog 19 #[.slice ta mn tc, .map (some m1)] W fun e w' => ∃ a c, e = .returned (.slice a (unkF sn so).length c) ∧ OwnP W.heap.size w' a c (unkF sn so) ∧ W.grownBy w' none := fun W hW => by
          have := unk_any _ sn so m1 W (HSN.out.grown (hgw4.trans hW)) HWN.out (by rw [HMN.out]; exact HL1.out.2.1) (HF4o.out.kept hW (by simp))
          rw [HMN.out] at this
          exact this
        clear cA cB hg3 k0 k1 k2 k3 k4 k5
        obtain ⟨k0, k1, k2, k3, k4, k5⟩ := HK4.out
        generalize hLL : (unkF so sn).length = nL at cL
        generalize hHL : (unkF sn so).length = nH at cH
        have HLL : Hid ((unkF so sn).length = nL) := hLL
        have HHL : Hid ((unkF sn so).length = nH) := hHL
        clear hLL hHL
        go_wp2_with fail
        go_region_held3 (fun w' => w'.cell? ⟨p, 3, none⟩ = some (.slice sa mo sc) ∧ w'.cell? ⟨p + 1, 0, none⟩ = some (.int .i64 k') ∧ w'.cell? ⟨p + 1, 1, none⟩ = some (.string nm') ∧ w'.cell? ⟨p + 1, 2, none⟩ = some (.slice na qn nc) ∧ w'.cell? ⟨p + 1, 3, none⟩ = some (.slice ta mn tc) ∧ w'.cell? ⟨p + 1, 4, none⟩ = some (tv')) (first | (go_keep; done) | exact HK7.out | exact HK6.out | exact HK5.out | exact ⟨(gr3 (World.grownBy.refl w7 (some (p + 1 + 1)))).cell HK7.out.1 (by simp <;> omega), (gr3 (World.grownBy.refl w7 (some (p + 1 + 1)))).cell HK7.out.2.1 (by simp <;> omega), (gr3 (World.grownBy.refl w7 (some (p + 1 + 1)))).cell HK7.out.2.2.1 (by simp <;> omega), (gr3 (World.grownBy.refl w7 (some (p + 1 + 1)))).cell HK7.out.2.2.2.1 (by simp <;> omega), (gr3 (World.grownBy.refl w7 (some (p + 1 + 1)))).cell HK7.out.2.2.2.2.1 (by simp <;> omega), (gr3 (World.grownBy.refl w7 (some (p + 1 + 1)))).cell HK7.out.2.2.2.2.2 (by simp <;> omega)⟩) (first | (go_at_call 18; (with_reducible refine (cC _ (gr_drew (World.grownBy.refl w4 none))).mono ?_); rintro e w5 ⟨g5, rfl, hl5, hb5, hg5⟩; have hg45 : w4.grownBy w5 none := (gr_drew (World.grownBy.refl w4 none)).trans hg5; have HB5 : Hid (w5.heap[g5]? = some (.cells (intsA (carF fr so fn sn)) 3)) := hb5; have HK5 : Hid (w5.cell? ⟨p, 3, none⟩ = some (.slice sa mo sc) ∧ w5.cell? ⟨p + 1, 0, none⟩ = some (.int .i64 k') ∧ w5.cell? ⟨p + 1, 1, none⟩ = some (.string nm') ∧ w5.cell? ⟨p + 1, 2, none⟩ = some (.slice na qn nc) ∧ w5.cell? ⟨p + 1, 3, none⟩ = some (.slice ta mn tc) ∧ w5.cell? ⟨p + 1, 4, none⟩ = some (tv')) := ⟨hg45.cell HK4.out.1 (by simp), hg45.cell HK4.out.2.1 (by simp), hg45.cell HK4.out.2.2.1 (by simp), hg45.cell HK4.out.2.2.2.1 (by simp), hg45.cell HK4.out.2.2.2.2.1 (by simp), hg45.cell HK4.out.2.2.2.2.2 (by simp)⟩; clear hb5) | (go_at_call 19; (with_reducible refine (cL _ hg45).mono ?_); rintro e w6 ⟨la, lc, rfl, hO6, hg6⟩; have hg46 : w4.grownBy w6 none := hg45.trans hg6; have HO6 : Hid (OwnP w5.heap.size w6 la lc (unkF so sn)) := hO6; have HK6 : Hid (w6.cell? ⟨p, 3, none⟩ = some (.slice sa mo sc) ∧ w6.cell? ⟨p + 1, 0, none⟩ = some (.int .i64 k') ∧ w6.cell? ⟨p + 1, 1, none⟩ = some (.string nm') ∧ w6.cell? ⟨p + 1, 2, none⟩ = some (.slice na qn nc) ∧ w6.cell? ⟨p + 1, 3, none⟩ = some (.slice ta mn tc) ∧ w6.cell? ⟨p + 1, 4, none⟩ = some (tv')) := ⟨hg46.cell HK4.out.1 (by simp), hg46.cell HK4.out.2.1 (by simp), hg46.cell HK4.out.2.2.1 (by simp), hg46.cell HK4.out.2.2.2.1 (by simp), hg46.cell HK4.out.2.2.2.2.1 (by simp), hg46.cell HK4.out.2.2.2.2.2 (by simp)⟩; clear hO6) | (go_at_call 19; (with_reducible refine (cH _ hg46).mono ?_); rintro e w7 ⟨ha, hc, rfl, hO7, hg7⟩; have hg47 : w4.grownBy w7 none := hg46.trans hg7; have HO7 : Hid (OwnP w6.heap.size w7 ha hc (unkF sn so)) := hO7; have HK7 : Hid (w7.cell? ⟨p, 3, none⟩ = some (.slice sa mo sc) ∧ w7.cell? ⟨p + 1, 0, none⟩ = some (.int .i64 k') ∧ w7.cell? ⟨p + 1, 1, none⟩ = some (.string nm') ∧ w7.cell? ⟨p + 1, 2, none⟩ = some (.slice na qn nc) ∧ w7.cell? ⟨p + 1, 3, none⟩ = some (.slice ta mn tc) ∧ w7.cell? ⟨p + 1, 4, none⟩ = some (tv')) := ⟨hg47.cell HK4.out.1 (by simp), hg47.cell HK4.out.2.1 (by simp), hg47.cell HK4.out.2.2.1 (by simp), hg47.cell HK4.out.2.2.2.1 (by simp), hg47.cell HK4.out.2.2.2.2.1 (by simp), hg47.cell HK4.out.2.2.2.2.2 (by simp)⟩; have b7 := kept hg47 B6.out; have HB7 : Hid (w7.heap[p + 1 + 1]? = some (.cells #[.slice none 0 0, .slice none 0 0, .slice none 0 0] 30)) := b7; obtain ⟨z0, z1, z2, f0, f1, f2⟩ := at3 b7; clear hO7 b7))
        go_wp2_with fail
        refine bodyPost_ret (results30 rfl _ _ (p + 1 + 1) _ _ _ rfl (box3 HB7.out)) rfl ?_
        have l4 := at_lt B6.out
        have s5 := hg45.size
        have s6 := hg6.size
        have eF : (carF fr so fn sn).length = qn := (carF_len HAO.out sn fn HAN.out).trans HQN.out
        have g7 : w.grownBy w7 none := hgw4.trans hg47
        have gs := gr3 (x0 := .slice (some ⟨g5, 0, none⟩) qn qn) (x1 := .slice la nL lc) (x2 := .slice ha nH hc) (World.grownBy.refl w7 (some (p + 1 + 1)))
        have hg5lt := at_lt HB5.out
        have hl5' : w4.heap.size ≤ g5 := hl5
        refine ⟨some ⟨g5, 0, none⟩, qn, la, lc, ha, hc, w5.heap.size, w6.heap.size, by rw [eF, HLL.out, HHL.out]; rfl, ?_, ?_, ?_, ?_, s6, ?_, ?_, gr3n g7 (by have := HP.out; omega)⟩
        · unfold OwnV
          refine ⟨by simp, .inr ⟨g5, qn, intsA (carF fr so fn sn), rfl, by have := HP.out; omega, ?_, by omega, by unfold maxLen; have := HL1.out.2.2.1; omega, by simp [intsA, eF], by simp [intsA]; exact List.take_of_length_le (by simp)⟩⟩
          refine (gs.block g5 (by have := hg46.size; have := hg7.size; omega) (by simp; omega)).trans ?_
          exact kept (hg6.trans hg7) HB5.out
        · exact (HO6.out.kept hg7 (by simp)).kept gs (fun y hy => by simp at hy; omega)
        · exact HO7.out.kept gs (fun y hy => by simp at hy; omega)
        · have := HP.out; omega
        · intro y hy
          simp [Value.ownBlock] at hy
          omega
        · intro y hy
          have := (World.ownsRow.lt HO6.out y hy).2
          exact this
    · have hne : ¬ ((qr : Int) = (qo : Int)) := by omega
      have h2' : ¬ fr.length = fo.length := by rw [HQR.out, HQO.out]; exact h2
      have e0 : carE fr fo so fn sn = 4 := by simp [carE, *]
      have e1 : carR fr fo so fn sn = [] := by simp [carR, e0]
      have e2 : carL fr fo so fn sn = [] := by simp [carL, e0]
      have e3 : carH fr fo so fn sn = [] := by simp [carH, e0]
      rw [e0, e1, e2, e3]
      clear e0 e1 e2 e3
      clear h1 h1' hall h2 h2'
      go_enter Try.func6, Try.ntmps6
      go_wp2_with fail
      refine (cM _ hg0).mono ?_
      rintro e w1 ⟨rfl, hg1⟩
      have hgw1 := hg0.trans hg1
      have b4 : w1.heap[p + 1 + 1]? = some (.cells #[.slice none 0 0, .slice none 0 0, .slice none 0 0] 30) := kept hg1 B2.out
      have B41 : Hid (w1.heap[p + 1]? = some (.cells #[.int .i64 k', .string nm', .slice na qn nc, .slice ta mn tc, tv'] 27)) := kept hg1 B1.out
      have B40 : Hid (w1.heap[p]? = some (.cells #[.int .i64 k, .string nm, .slice oa qo oc, .slice sa mo sc, tv] 27)) := kept hg1 B0.out
      obtain ⟨z0, z1, z2, f0, f1, f2⟩ := at3 b4
      have x2' := at_cell B40.out 2
      have y0' := at_cell B41.out 0
      have y1' := at_cell B41.out 1
      have y2' := at_cell B41.out 2
      have y3' := at_cell B41.out 3
      have y4' := at_cell B41.out 4
      simp at x2' y0' y1' y2' y3' y4'
      clear hw0 x0 x1 x2 x3 x4 y0 y1 y2 y3 y4
      go_wp2_with fail
      refine bodyPost_ret (results30 rfl _ _ (p + 1 + 1) _ _ _ rfl (box3 b4)) rfl ?_
      exact CarP.zero (gr3n hgw1 (by have := HP.out; omega))
end Go.Proofs.Ytmkgobmlpmjocaa
