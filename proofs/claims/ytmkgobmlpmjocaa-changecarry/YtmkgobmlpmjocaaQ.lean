/- What the law of ChangeCarry wants beside. -/
import Derived.Test.YtmkgobmlpmjocaaT
import Derived.Test.YtmkgobmlpmjocaaR
import Derived.Test.YtmkgobmlpmjocaaCb
import Derived.Test.YtmkgobmlpmjocaaCc
import Derived.Test.YtmkgobmlpmjocaaCd
namespace Go.Proofs.Ytmkgobmlpmjocaa
open Go.RowKit
set_option linter.unusedVariables false
set_option linter.unusedSimpArgs false

theorem hidI {p : Prop} (h : p) : Hid p := h
theorem own_of_block {w w' : World} {base e size n : Nat} {v : Value} {xs : List Value} (h : w.ownsRow base e size v n xs) (hb : ∀ y, v.ownBlock = some y → w'.heap[y]? = w.heap[y]?) : w'.ownsRow base e size v n xs := by
  refine ⟨h.1, ?_⟩
  rcases h.2 with h | ⟨g, c, cur, h1, h2, h3, h4⟩
  · exact .inl h
  · refine .inr ⟨g, c, cur, h1, h2, ?_, h4⟩
    rw [hb g (by rw [h1]; rfl)]
    exact h3
/-- The first words of a copied unit are one's own. -/
theorem RoomAt.own {w : World} {c B : Nat} {l : List Int} (h : RoomAt w c l) (hB : B ≤ c) (hl : l.length ≤ 17592186043904) : OwnV B w (.slice (some ⟨c, 0, none⟩) l.length (l.length + 5)) l := by
  obtain ⟨ar, h1, h2, h3, _⟩ := h
  refine ⟨by simp, .inr ⟨c, l.length + 5, intsA ar, rfl, hB, h1, by omega, by unfold maxLen; omega, by simp [intsA, h2], ?_⟩⟩
  rw [Nat.mul_one]
  simp only [intsA]
  rw [← List.map_take]
  congr 1
  apply List.ext_getElem
  · simp; omega
  · intro i hi1 hi2
    have := h3 i hi2
    simp [List.getD, show i < ar.length by omega, hi2] at this
    simp [this]
/-- What carrying tells stays what it is. -/
theorem carP_rd {fa la ha : Option Addr} {fc lc hc B0 B1 B2 : Nat} {F : List Int} {L H : List ByteArray} {w' : World} (h1 : OwnV B0 w' (.slice fa F.length fc) F) (h2 : OwnP B1 w' la lc L) (h3 : OwnP B2 w' ha hc H) : rdC w' (.agg #[.slice fa F.length fc, .slice la L.length lc, .slice ha H.length hc]) F L H :=
  ⟨_, _, _, rfl, h1.rd, h2.rd, h3.rd⟩
theorem carR_len (fr fo : List Int) (so : List Slt) (fn : List Int) (sn : List Slt) : (carR fr fo so fn sn).length ≤ 20000 ∧ (carL fr fo so fn sn).length ≤ 20000 ∧ (carH fr fo so fn sn).length ≤ 20000 := by
  by_cases h : carE fr fo so fn sn = 0
  · have hh := h
    unfold carE at hh
    by_cases h1 : okB fo so = false
    · rw [if_pos h1] at hh; simp at hh
    rw [if_neg h1] at hh
    by_cases h2 : fr.length = fo.length
    · rw [if_neg (by simpa using h2)] at hh
      by_cases h3 : okB fn sn = false
      · rw [if_pos h3] at hh; simp at hh
      have e1 : okB fo so = true := by simpa using h1
      have e3 : okB fn sn = true := by simpa using h3
      unfold okB at e1 e3
      rw [Bool.and_eq_true, Bool.and_eq_true] at e1 e3
      have a1 : fo.length ≤ 20000 := by simpa using e1.1.1
      have a2 : so.length ≤ 20000 := by simpa using e1.1.2
      have a3 : fn.length ≤ 20000 := by simpa using e3.1.1
      have a4 : sn.length ≤ 20000 := by simpa using e3.1.2
      refine ⟨?_, ?_, ?_⟩
      · simp only [carR, h, if_true]
        rw [carF_len (by rw [h2]; exact e1.2) sn fn e3.2]
        exact a3
      · simp only [carL, h, if_true]
        have := unkF_len so sn
        omega
      · simp only [carH, h, if_true]
        have := unkF_len sn so
        omega
    · rw [if_pos h2] at hh; simp at hh
  · simp [carR, carL, carH, h]
theorem two_us {us : List Un} {p0 p1 : Pr} (h : us.map Un.p = [p0, p1]) : ∃ f0 s0 t0 f1 s1 t1, us = [⟨p0, f0, s0, t0⟩, ⟨p1, f1, s1, t1⟩] := by
  match us, h with
  | [⟨a, f0, s0, t0⟩, ⟨b, f1, s1, t1⟩], h =>
    simp at h
    obtain ⟨rfl, rfl⟩ := h
    exact ⟨_, _, _, _, _, _, rfl⟩
theorem CopyAt.less {w : World} {B B' : Nat} {v : Value} {us : List Un} (h : CopyAt w B v us) (hb : B' ≤ B) : CopyAt w B' v us := by
  refine ⟨own_less h.1 hb, fun i hi => ?_⟩
  obtain ⟨⟨c, f1, f2, f3, f4, f5⟩, h2, h3, h4, ⟨g, cap, m1, m2, m3, m4, m5⟩⟩ := h.2 i hi
  exact ⟨⟨c, f1, f2, by omega, f4, f5⟩, h2, fun y hy => ⟨by have := (h3 y hy).1; omega, (h3 y hy).2⟩, h4, ⟨g, cap, m1, m2, m3, by omega, m5⟩⟩
/-- Two copied units. -/
theorem two_copy {w : World} {B : Nat} {v : Value} {us : List Un} {p0 p1 : Pr} (h : CopyAt w B v us) (hup : us.map Un.p = [p0, p1]) :
    ∃ hb vc c0 c1 s0a s0c s1a s1c t0a t0c t1a t1c, v = .slice (some ⟨hb, 0, none⟩) 2 vc ∧
      (w.cell? ⟨hb, 0, none⟩ = some (.int .i64 p0.k) ∧ w.cell? ⟨hb, 1, none⟩ = some (.string p0.nm) ∧ w.cell? ⟨hb, 2, none⟩ = some (.slice (some ⟨c0, 0, none⟩) p0.fs.length (p0.fs.length + 5)) ∧ w.cell? ⟨hb, 3, none⟩ = some (.slice s0a p0.sl.length s0c) ∧ w.cell? ⟨hb, 4, none⟩ = some (.slice t0a p0.tx.length t0c)) ∧
      (w.cell? ⟨hb, 5, none⟩ = some (.int .i64 p1.k) ∧ w.cell? ⟨hb, 6, none⟩ = some (.string p1.nm) ∧ w.cell? ⟨hb, 7, none⟩ = some (.slice (some ⟨c1, 0, none⟩) p1.fs.length (p1.fs.length + 5)) ∧ w.cell? ⟨hb, 8, none⟩ = some (.slice s1a p1.sl.length s1c) ∧ w.cell? ⟨hb, 9, none⟩ = some (.slice t1a p1.tx.length t1c)) ∧
      RoomAt w c0 p0.fs ∧ RoomAt w c1 p1.fs ∧ SlAt w (.slice s0a p0.sl.length s0c) p0.sl ∧ SlAt w (.slice s1a p1.sl.length s1c) p1.sl ∧ B ≤ c1 ∧ B ≤ hb ∧ c1 ≠ hb ∧ hb < w.heap.size ∧ c1 < w.heap.size := by
  obtain ⟨f0, s0, t0, f1, s1, t1, rfl⟩ := two_us hup
  have hown := h.1
  obtain ⟨va, vc, rfl, hvc, hcl⟩ := h.cells
  rcases hcl with h0 | ⟨hb, rfl, hcl⟩
  · simp at h0
  have hc0 := hcl 0 (by simp)
  have hc1 := hcl 1 (by simp)
  have u0 := h.2 0 (by simp)
  have u1 := h.2 1 (by simp)
  obtain ⟨c0, hf0, hr0, _⟩ := u0.first
  obtain ⟨c1, hf1, hr1, hc1b, hc1l, hc1n⟩ := u1.first
  have hsl0 := u0.slots
  have hsl1 := u1.slots
  have htx0 := u0.text
  have htx1 := u1.text
  simp at hc0 hc1 hf0 hr0 hsl0 htx0 hf1 hr1 hsl1 htx1
  subst hf0 hf1
  obtain ⟨s0a, s0c, rfl, _⟩ := id hsl0
  obtain ⟨s1a, s1c, rfl, _⟩ := id hsl1
  obtain ⟨t0a, t0c, rfl, _⟩ := id htx0
  obtain ⟨t1a, t1c, rfl, _⟩ := id htx1
  have hl := World.ownsRow.lt hown hb rfl
  exact ⟨hb, vc, c0, c1, s0a, s0c, s1a, s1c, t0a, t0c, t1a, t1c, rfl, hc0, hc1, hr0, hr1, hsl0, hsl1, hc1b, hl.1, fun e => hc1n (by rw [e]; rfl), hl.2, hc1l⟩
/-- Three lists of one's own, no two in one row. -/
structure AnsC (B : Nat) (w' : World) (fa : Option Addr) (fc : Nat) (F : List Int) (la : Option Addr) (lc : Nat) (L : List ByteArray) (ha : Option Addr) (hc : Nat) (H : List ByteArray) : Prop where
  frame : OwnV B w' (.slice fa F.length fc) F
  lost : OwnP B w' la lc L
  fresh : OwnP B w' ha hc H
  fl : ∀ y, (Value.slice fa F.length fc).ownBlock = some y → (Value.slice la L.length lc).ownBlock ≠ some y ∧ (Value.slice ha H.length hc).ownBlock ≠ some y
  lf : ∀ y, (Value.slice la L.length lc).ownBlock = some y → (Value.slice ha H.length hc).ownBlock ≠ some y
section
variable {B : Nat} {w w' : World} {fa : Option Addr} {fc : Nat} {F : List Int} {la : Option Addr} {lc : Nat} {L : List ByteArray} {ha : Option Addr} {hc : Nat} {H : List ByteArray}
theorem CarP.ans {e : Ending} {er : Int} (h : CarP w w' e er F L H) : ∃ fa fc la lc ha hc, e = .returned (.tuple #[.agg #[.slice fa F.length fc, .slice la L.length lc, .slice ha H.length hc], .int .i64 er]) ∧ AnsC w.heap.size w' fa fc F la lc L ha hc H ∧ w.grownBy w' none := by
  obtain ⟨fa, fc, la, lc, ha, hc, E1, E2, rfl, oF, oL, oH, e1, e2, e3, e4, hg⟩ := h
  refine ⟨fa, fc, la, lc, ha, hc, rfl, ⟨oF, own_less oL (by omega), own_less oH (by omega), fun y hy => ⟨fun e => ?_, fun e => ?_⟩, fun y hy e => ?_⟩, hg⟩
  · have h1 := e3 y hy
    have h2 := (World.ownsRow.lt oL y e).1
    omega
  · have h1 := e3 y hy
    have h2 := (World.ownsRow.lt oH y e).1
    omega
  · have h1 := e4 y hy
    have h2 := (World.ownsRow.lt oH y e).1
    omega
theorem AnsC.kept {r : Option Nat} (h : AnsC B w fa fc F la lc L ha hc H) (hg : w.grownBy w' r) (hr : ∀ y, r = some y → y < B) : AnsC B w' fa fc F la lc L ha hc H :=
  ⟨h.frame.keptB hg (fun y hy e => by have h1 := (World.ownsRow.lt h.frame y hy).1; have h2 := hr y e; omega), h.lost.kept hg hr, h.fresh.kept hg hr, h.fl, h.lf⟩
theorem AnsC.less {B' : Nat} (h : AnsC B w fa fc F la lc L ha hc H) (hb : B' ≤ B) : AnsC B' w fa fc F la lc L ha hc H :=
  ⟨own_less h.frame hb, own_less h.lost hb, own_less h.fresh hb, h.fl, h.lf⟩
theorem AnsC.rd (h : AnsC B w fa fc F la lc L ha hc H) : rdC w (.agg #[.slice fa F.length fc, .slice la L.length lc, .slice ha H.length hc]) F L H := carP_rd h.frame h.lost h.fresh
/-- .. whichever other blocks are written. -/
theorem AnsC.block (h : AnsC B w fa fc F la lc L ha hc H) (hb : ∀ y, B ≤ y → y < w.heap.size → w'.heap[y]? = w.heap[y]?) : AnsC B w' fa fc F la lc L ha hc H :=
  ⟨own_of_block h.frame (fun y hy => hb y (World.ownsRow.lt h.frame y hy).1 (World.ownsRow.lt h.frame y hy).2), own_of_block h.lost (fun y hy => hb y (World.ownsRow.lt h.lost y hy).1 (World.ownsRow.lt h.lost y hy).2), own_of_block h.fresh (fun y hy => hb y (World.ownsRow.lt h.fresh y hy).1 (World.ownsRow.lt h.fresh y hy).2), h.fl, h.lf⟩
end
/-- .. in a box. -/
def Ans (B : Nat) (w' : World) (q : Nat) (nF nL nH : Nat) (fa : Option Addr) (fc : Nat) (F : List Int) (la : Option Addr) (lc : Nat) (L : List ByteArray) (ha : Option Addr) (hc : Nat) (H : List ByteArray) : Prop :=
  w'.heap[q]? = some (.cells #[.slice fa nF fc, .slice la nL lc, .slice ha nH hc] 30) ∧ AnsC B w' fa fc F la lc L ha hc H ∧ B ≤ q ∧ (Value.slice fa F.length fc).ownBlock ≠ some q ∧ (Value.slice la L.length lc).ownBlock ≠ some q ∧ (Value.slice ha H.length hc).ownBlock ≠ some q
theorem Ans.after {B q nF nL nH : Nat} {w' : World} {fa : Option Addr} {fc : Nat} {F : List Int} {la : Option Addr} {lc : Nat} {L : List ByteArray} {ha : Option Addr} {hc : Nat} {H : List ByteArray} (h : AnsC B w' fa fc F la lc L ha hc H) (hB : B ≤ w'.heap.size) (hq : q = w'.heap.size) :
    Ans B (w'.alloc (.cells #[.slice fa nF fc, .slice la nL lc, .slice ha nH hc] 30)) q nF nL nH fa fc F la lc L ha hc H := by
  subst hq
  refine ⟨heap_alloc_new _ _, h.kept (gr1 _ _) (by simp), hB, fun e => ?_, fun e => ?_, fun e => ?_⟩
  · have := (World.ownsRow.lt h.frame _ e).2; omega
  · have := (World.ownsRow.lt h.lost _ e).2; omega
  · have := (World.ownsRow.lt h.fresh _ e).2; omega
theorem Ans.before {B q nF nL nH : Nat} {w' : World} {x y z : Value} {fa : Option Addr} {fc : Nat} {F : List Int} {la : Option Addr} {lc : Nat} {L : List ByteArray} {ha : Option Addr} {hc : Nat} {H : List ByteArray} (h : AnsC (q + 1) w' fa fc F la lc L ha hc H) (hB : B ≤ q) (hb : w'.heap[q]? = some (.cells #[x, y, z] 30)) :
    Ans B (((w'.setCell ⟨q, 0, none⟩ (.slice fa nF fc)).setCell ⟨q, 1, none⟩ (.slice la nL lc)).setCell ⟨q, 2, none⟩ (.slice ha nH hc)) q nF nL nH fa fc F la lc L ha hc H := by
  refine ⟨box3 hb, (h.kept (gr3 (World.grownBy.refl _ (some q))) (fun y hy => by simp at hy; omega)).less (by omega), hB, fun e => ?_, fun e => ?_, fun e => ?_⟩
  · have := (World.ownsRow.lt h.frame _ e).1; omega
  · have := (World.ownsRow.lt h.lost _ e).1; omega
  · have := (World.ownsRow.lt h.fresh _ e).1; omega
theorem Ans.grow {B q nF nL nH : Nat} {w w' : World} {fa : Option Addr} {fc : Nat} {F : List Int} {la : Option Addr} {lc : Nat} {L : List ByteArray} {ha : Option Addr} {hc : Nat} {H : List ByteArray} (h : Ans B w q nF nL nH fa fc F la lc L ha hc H) (hg : w.grownBy w' none) : Ans B w' q nF nL nH fa fc F la lc L ha hc H :=
  ⟨kept hg h.1, h.2.1.kept hg (by simp), h.2.2⟩
theorem CopyAt.cd {w : World} {B : Nat} {v : Value} {us : List Un} (h : CopyAt w B v us) : CdP w v (us.map Un.p) := by
  obtain ⟨a, cap, rfl, hn, hc⟩ := h.cells
  refine ⟨a, cap, by simp, by simpa using hn, ?_⟩
  rcases hc with rfl | ⟨b, rfl, hc⟩
  · exact .inl rfl
  · refine .inr ⟨b, 0, rfl, fun i hi => ?_⟩
    have hi' : i < us.length := by simpa using hi
    obtain ⟨c0, c1, c2, c3, c4⟩ := hc i hi'
    have hu := h.2 i hi'
    have e : (us.map Un.p).getD i pr0 = (us.getD i un0).p := by simp [List.getD, hi']
    rw [e, Nat.zero_add]
    refine ⟨_, _, _, c0, c1, c2, c3, c4, ?_, hu.slots, hu.text⟩
    obtain ⟨c, f1, f2, _⟩ := hu.first
    rw [f1]
    exact f2.rd
/-- Only blocks from lo up to hi have been written. -/
def Mid (lo hi : Nat) (w w' : World) : Prop := w.heap.size ≤ w'.heap.size ∧ ∀ y, y < w.heap.size → (y < lo ∨ hi ≤ y) → w'.heap[y]? = w.heap[y]?
theorem Mid.of {lo hi : Nat} {w w' : World} {r : Option Nat} (hg : w.grownBy w' r) (hr : ∀ y, r = some y → lo ≤ y ∧ y < hi) : Mid lo hi w w' :=
  ⟨hg.size, fun y hy h => hg.block y hy (fun e => by have := hr y e.symm; omega)⟩
theorem Mid.trans {lo hi : Nat} {a b c : World} (h : Mid lo hi a b) (h' : Mid lo hi b c) : Mid lo hi a c :=
  ⟨Nat.le_trans h.1 h'.1, fun y hy hh => (h'.2 y (Nat.lt_of_lt_of_le hy h.1) hh).trans (h.2 y hy hh)⟩
end Go.Proofs.Ytmkgobmlpmjocaa
