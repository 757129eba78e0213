/- How the document's Carried stands while it runs. -/
import Derived.Test.YtmkgobmlpmjocaaX
import Derived.Test.YtmkgobmlpmjocaaCo
namespace Go.Proofs.Ytmkgobmlpmjocaa
open Go.RowKit
set_option linter.unusedVariables false
set_option linter.unusedSimpArgs false

theorem lay_more {acc xs : List Int} {o t : Nat} (ht : t < xs.length) (hf : o + xs.length ≤ acc.length) : (lay acc o (xs.take t)).set (o + t) (xs.getD t 0) = lay acc o (xs.take (t + 1)) := by
  have l1 : (xs.take t).length = t := by simp; omega
  have l2 : (xs.take (t + 1)).length = t + 1 := by simp; omega
  have l3 : (acc.take o).length = o := by simp; omega
  unfold lay
  rw [l1, l2]
  apply List.ext_getElem?
  intro i
  rw [List.getElem?_set]
  by_cases hi : o + t = i
  · subst hi
    rw [if_pos rfl, if_pos (by simp; omega)]
    rw [List.getElem?_append_left (by simp; omega), List.getElem?_append_right (by omega), l3, show o + t - o = t by omega]
    rw [List.getElem?_take, if_pos (by omega)]
    simp [ht]
  · rw [if_neg hi]
    by_cases h1 : i < o
    · rw [List.getElem?_append_left (by simp; omega), List.getElem?_append_left (by omega), List.getElem?_append_left (by simp; omega), List.getElem?_append_left (by omega)]
    · by_cases h2 : i < o + t
      · rw [List.getElem?_append_left (by simp; omega), List.getElem?_append_right (by omega), List.getElem?_append_left (by simp; omega), List.getElem?_append_right (by omega), List.getElem?_take, List.getElem?_take, if_pos (by omega), if_pos (by omega)]
      · rw [List.getElem?_append_right (by simp; omega), List.getElem?_append_right (by simp; omega), List.getElem?_drop, List.getElem?_drop]
        congr 1
        simp
        omega
theorem cell_lt {w : World} {b i : Nat} {v : Value} (h : w.cell? ⟨b, i, none⟩ = some v) : b < w.heap.size := by
  cases hb : w.heap[b]? with
  | none => simp [World.cell?, hb] at h
  | some o => exact at_lt hb
theorem lay_none (acc : List Int) (o : Nat) (h : o ≤ acc.length) : lay acc o [] = acc := by
  simp [lay]

/-- How it stands: the frame, what is lost, what is fresh, in the variable's box. -/
structure Rf (W wx : World) (cb B1 B2 : Nat) (fa : Option Addr) (fc : Nat) (F : List Int) (la : Option Addr) (lc : Nat) (L : List ByteArray) (ha : Option Addr) (hc : Nat) (H : List ByteArray) : Prop where
  box : wx.heap[cb]? = some (.cells #[.slice fa F.length fc, .slice la L.length lc, .slice ha H.length hc] 30)
  frame : OwnV W.heap.size wx (.slice fa F.length fc) F
  flt : ∀ y, (Value.slice fa F.length fc).ownBlock = some y → y < cb
  lost : OwnP B1 wx la lc L
  llt : ∀ y, (Value.slice la L.length lc).ownBlock = some y → y < B2
  fresh : OwnP B2 wx ha hc H
  c1 : cb < B1
  c2 : B1 ≤ B2
  c3 : B2 ≤ wx.heap.size
  c4 : W.heap.size ≤ cb
  grown : W.grownBy wx none
section
variable {W wx w' : World} {cb B1 B2 : Nat} {fa : Option Addr} {fc : Nat} {F : List Int} {la : Option Addr} {lc : Nat} {L : List ByteArray} {ha : Option Addr} {hc : Nat} {H : List ByteArray}
theorem OwnV.keptB {B : Nat} {w w' : World} {v : Value} {l : List Int} {r : Option Nat} (h : OwnV B w v l) (hg : w.grownBy w' r) (hr : ∀ y, v.ownBlock = some y → r ≠ some y) : OwnV B w' v l := by
  refine World.ownsRow.kept h hg ?_
  cases hv : v.ownBlock with
  | none => exact .inl rfl
  | some y => exact .inr (fun e => hr y hv e.symm)
theorem OwnP.keptB {B : Nat} {w w' : World} {a : Option Addr} {c : Nat} {l : List ByteArray} {r : Option Nat} (h : OwnP B w a c l) (hg : w.grownBy w' r) (hr : ∀ y, (Value.slice a l.length c).ownBlock = some y → r ≠ some y) : OwnP B w' a c l := by
  refine World.ownsRow.kept h hg ?_
  cases hv : (Value.slice a l.length c).ownBlock with
  | none => exact .inl rfl
  | some y => exact .inr (fun e => hr y hv e.symm)
theorem Rf.grow (h : Rf W wx cb B1 B2 fa fc F la lc L ha hc H) (hg : wx.grownBy w' none) : Rf W w' cb B1 B2 fa fc F la lc L ha hc H :=
  ⟨kept hg h.box, h.frame.keptB hg (by simp), h.flt, h.lost.keptB hg (by simp), h.llt, h.fresh.keptB hg (by simp), h.c1, h.c2, Nat.le_trans h.c3 hg.size, h.c4, h.grown.trans hg⟩
theorem Rf.up (h : Rf W wx cb B1 B2 fa fc F la lc L none 0 []) {B : Nat} (h1 : B2 ≤ B) (h2 : B ≤ wx.heap.size) : Rf W wx cb B1 B fa fc F la lc L none 0 [] :=
  ⟨h.box, h.frame, h.flt, h.lost, fun y hy => Nat.lt_of_lt_of_le (h.llt y hy) h1, OwnP.nil _ _, h.c1, Nat.le_trans h.c2 h1, h2, h.c4, h.grown⟩
/-- One more is lost. -/
theorem Rf.more (h : Rf W wx cb B1 B2 fa fc F la lc L none 0 []) (x : ByteArray) {la' : Option Addr} {lc' : Nat} (hg : wx.grownBy w' (Value.slice la L.length lc).ownBlock) (hO : OwnP B1 w' la' lc' (L ++ [x])) :
    Rf W (w'.setCell ⟨cb, 1, none⟩ (.slice la' (L.length + 1) lc')) cb B1 (w'.setCell ⟨cb, 1, none⟩ (.slice la' (L.length + 1) lc')).heap.size fa fc F la' lc' (L ++ [x]) none 0 [] := by
  have hlb : ∀ y, (Value.slice la L.length lc).ownBlock = some y → B1 ≤ y := fun y hy => (World.ownsRow.lt h.lost y hy).1
  have hc1 := h.c1
  have hc2 := h.c2
  have hc3 := h.c3
  have hc4 := h.c4
  have hs := hg.size
  have gs := gr_set (World.grownBy.refl w' (some cb)) 1 (.slice la' (L.length + 1) lc')
  have hbox : w'.heap[cb]? = _ := (hg.block cb (at_lt h.box) (fun e => by have := hlb cb e.symm; omega)).trans h.box
  refine ⟨?_, ?_, h.flt, hO.keptB gs ?_, ?_, OwnP.nil _ _, h.c1, ?_, Nat.le_refl _, h.c4, ?_⟩
  · rw [at_set hbox]
    simp
  · refine (h.frame.keptB hg ?_).keptB gs ?_
    · intro y hy e
      have h1 := h.flt y hy
      have h2 := hlb y e
      omega
    · intro y hy e
      have h1 := h.flt y hy
      simp at e
      omega
  · intro y hy e
    have h1 := (World.ownsRow.lt hO y hy).1
    simp at e
    omega
  · intro y hy
    have h1 := (World.ownsRow.lt hO y hy).2
    simpa using h1
  · simp; omega
  · exact gr_own (grown_join h.grown hg (.inr fun y hy => by have := hlb y hy; omega)) hc4 _ _
/-- One more is fresh. -/
theorem Rf.news (h : Rf W wx cb B1 B2 fa fc F la lc L ha hc H) (x : ByteArray) {la' : Option Addr} {lc' : Nat} (hg : wx.grownBy w' (Value.slice ha H.length hc).ownBlock) (hO : OwnP B2 w' la' lc' (H ++ [x])) :
    Rf W (w'.setCell ⟨cb, 2, none⟩ (.slice la' (H.length + 1) lc')) cb B1 B2 fa fc F la lc L la' lc' (H ++ [x]) := by
  have hlb : ∀ y, (Value.slice ha H.length hc).ownBlock = some y → B2 ≤ y := fun y hy => (World.ownsRow.lt h.fresh y hy).1
  have hc1 := h.c1
  have hc2 := h.c2
  have hc3 := h.c3
  have hc4 := h.c4
  have hs := hg.size
  have gs := gr_set (World.grownBy.refl w' (some cb)) 2 (.slice la' (H.length + 1) lc')
  have hbox : w'.heap[cb]? = _ := (hg.block cb (at_lt h.box) (fun e => by have := hlb cb e.symm; omega)).trans h.box
  refine ⟨?_, ?_, h.flt, ?_, h.llt, hO.keptB gs ?_, h.c1, h.c2, ?_, h.c4, ?_⟩
  · rw [at_set hbox]
    simp
  · refine (h.frame.keptB hg ?_).keptB gs ?_
    · intro y hy e
      have h1 := h.flt y hy
      have h2 := hlb y e
      omega
    · intro y hy e
      have h1 := h.flt y hy
      simp at e
      omega
  · refine (h.lost.keptB hg ?_).keptB gs ?_
    · intro y hy e
      have h1 := h.llt y hy
      have h2 := hlb y e
      omega
    · intro y hy e
      have h1 := (World.ownsRow.lt h.lost y hy).1
      simp at e
      omega
  · intro y hy e
    have h1 := (World.ownsRow.lt hO y hy).1
    simp at e
    omega
  · simp; omega
  · exact gr_own (grown_join h.grown hg (.inr fun y hy => by have := hlb y hy; omega)) hc4 _ _
/-- A word of the frame is written. -/
theorem Rf.word {g : Nat} (h : Rf W wx cb B1 B2 (some ⟨g, 0, none⟩) fc F la lc L ha hc H) (i : Nat) (x : Int) : Rf W (wx.setCell ⟨g, i, none⟩ (.int .i64 x)) cb B1 B2 (some ⟨g, 0, none⟩) fc (F.set i x) la lc L ha hc H := by
  have hg : g < cb := h.flt g rfl
  have hgl : W.heap.size ≤ g := (World.ownsRow.lt h.frame g rfl).1
  have hc1 := h.c1
  have hc2 := h.c2
  have gs := gr_set (World.grownBy.refl wx (some g)) i (.int .i64 x)
  refine ⟨?_, ?_, ?_, h.lost.keptB gs ?_, h.llt, h.fresh.keptB gs ?_, h.c1, h.c2, by simpa using h.c3, h.c4, gr_own h.grown hgl _ _⟩
  · rw [List.length_set]
    exact (gs.block cb (at_lt h.box) (by simp; omega)).trans h.box
  · have := h.frame.store i x
    rw [List.length_set]
    exact this
  · intro y hy
    rw [List.length_set] at hy
    exact h.flt y hy
  · intro y hy e
    have h1 := (World.ownsRow.lt h.lost y hy).1
    simp at e
    omega
  · intro y hy e
    have h1 := (World.ownsRow.lt h.fresh y hy).1
    simp at e
    omega
end
end Go.Proofs.Ytmkgobmlpmjocaa
