/- What lies there while frames come: the link, the frames that were sent. -/
import Derived.Test.YtaiicehifailhaaV1
namespace Go.Proofs.Ytaiicehifailhaa
open Go.RowKit
set_option linter.unusedVariables false
set_option linter.unusedSimpArgs false

theorem Off.none (v : Value) : Off v none := fun _ _ _ _ _ _ h => by cases h
theorem rdB_off {w w' : World} {v : Value} {l : List Nat} {r : Option Nat} (h : rdB w v l) (hg : w.grownBy w' r) (ho : Off v r) : rdB w' v l := by
  obtain ⟨a, cap, rfl, hcap, h | ⟨b, off, rfl, hc⟩⟩ := h
  · exact ⟨a, cap, rfl, hcap, .inl h⟩
  · exact ⟨_, cap, rfl, hcap, .inr ⟨b, off, rfl, fun i hi => hg.cell (hc i hi) (fun e => ho b off _ _ rfl (by omega) e.symm)⟩⟩
theorem off_lt {w : World} {v : Value} {l : List Int} (h : rd w v l) {r : Nat} (hr : w.heap.size ≤ r) : Off v (some r) := off_new h (fun y hy => by simp at hy; omega)
theorem offB_lt {w : World} {v : Value} {l : List Nat} (h : rdB w v l) {r : Nat} (hr : w.heap.size ≤ r) : Off v (some r) := by
  intro b off len c e hpos e2
  obtain ⟨a, cap, e', _, h0 | ⟨b', off', e3, hc⟩⟩ := h
  · subst h0
    rw [e'] at e
    injection e with _ e5 _
    simp at e5
    omega
  · rw [e'] at e
    injection e with e4 e5 _
    rw [e3] at e4
    injection e4 with e4
    injection e4 with e6 e7
    have := World.block_lt_of_cell? w _ (hc 0 (by omega))
    simp at this e2
    omega
/-- What is one's own from B on does not lie in a block ahead of B. -/
theorem OwnL.off {B : Nat} {w : World} {a : Option Addr} {cap : Nat} {l : List Int} (h : OwnL B w a cap l) {r : Option Nat} (hr : ∀ y, r = some y → y < B) : Off (.slice a l.length cap) r := by
  intro b off len c e _ e2
  have h1 := hr _ e2
  have h2 : (Value.slice a l.length cap).ownBlock = some b := by rw [e]; rfl
  have := World.ownsRow.lt h b h2
  omega
theorem OwnB.off {B : Nat} {w : World} {a : Option Addr} {cap : Nat} {l : List Nat} (h : OwnB B w a cap l) {r : Option Nat} (hr : ∀ y, r = some y → y < B) : Off (.slice a l.length cap) r := by
  intro b off len c e _ e2
  have h1 := hr _ e2
  have h2 : (Value.slice a l.length cap).ownBlock = some b := by rw [e]; rfl
  have := World.ownsRow.lt h b h2
  omega
/-- The frames that were sent: a row of their own, each a list of bytes. -/
def Snt (q : Nat) (B : Nat) (w : World) (sv : Value) (n : Nat) : Prop :=
  ∃ xs : List Value, w.ownsRow B 23 1 sv n xs ∧ (∀ i, i < n → ∃ a c, xs[i]? = some (.slice a (frN i).length c) ∧ rdB w (.slice a (frN i).length c) (frN i) ∧ Off (.slice a (frN i).length c) (some q) ∧ Off (.slice a (frN i).length c) sv.ownBlock)
structure Inv (w wx : World) (q : Nat) (v6 : Value) (wt : Nat) (nw : Int) (qt n : Nat) (sv : Value) (L : Lk) (s t : Value) : Prop where
  grown : w.grownBy wx none
  box : wx.heap[q]? = some (.cells (lkA L s t) 40)
  stt : Stt wt nw qt L
  rs : rd wx s L.sa
  rt : rd wx t L.wo
  r6 : rd wx v6 [0, 65535]
  os : Off s (some q)
  ot : Off t (some q)
  o6 : Off v6 (some q)
  gs : Off s sv.ownBlock
  gt : Off t sv.ownBlock
  g6 : Off v6 sv.ownBlock
  snt : Snt q w.heap.size wx sv n
  low : w.heap.size ≤ q
  apart : sv.ownBlock ≠ some q
theorem Snt.grow {q B n : Nat} {w w' : World} {sv : Value} (h : Snt q B w sv n) (hg : w.grownBy w' none) : Snt q B w' sv n := by
  obtain ⟨xs, h1, h2⟩ := h
  exact ⟨xs, own_keep h1 hg, fun i hi => by
    obtain ⟨a, c, e1, e2, e3, e4⟩ := h2 i hi
    exact ⟨a, c, e1, rdB_grown e2 hg, e3, e4⟩⟩
theorem Inv.grow {w wx wy : World} {q wt qt n : Nat} {v6 sv s t : Value} {nw : Int} {L : Lk} (h : Inv w wx q v6 wt nw qt n sv L s t) (hg : wx.grownBy wy none) : Inv w wy q v6 wt nw qt n sv L s t :=
  ⟨grown_join h.grown hg (.inl rfl), kept hg h.box, h.stt, rd_grown h.rs hg, rd_grown h.rt hg, rd_grown h.r6 hg, h.os, h.ot, h.o6, h.gs, h.gt, h.g6, h.snt.grow hg, h.low, h.apart⟩
/-- The link's box is written: a link of the caller's own comes in. -/
theorem Inv.put {w wx wy : World} {q wt qt n : Nat} {v6 sv s t : Value} {nw : Int} {L : Lk} (h : Inv w wx q v6 wt nw qt n sv L s t) (hg : wx.grownBy wy none) {R : Lk} {nw' : Int} {qt' : Nat} (hS : Stt wt nw' qt' R) {a1 a2 : Option Addr} {c1 c2 : Nat}
    (o1 : OwnL wx.heap.size wy a1 c1 R.sa) (o2 : OwnL wx.heap.size wy a2 c2 R.wo) :
    Inv w (((((((wy.setCell ⟨q, 0, none⟩ (.int .i64 R.st)).setCell ⟨q, 1, none⟩ (.int .i64 R.wa)).setCell ⟨q, 2, none⟩ (.slice a1 R.sa.length c1)).setCell ⟨q, 3, none⟩ (.slice a2 R.wo.length c2)).setCell ⟨q, 4, none⟩ (.int .i64 R.sq)).setCell ⟨q, 5, none⟩ (.int .i64 R.ag)).setCell ⟨q, 6, none⟩ (.bool R.fr)) q v6 wt nw' qt' n sv R (.slice a1 R.sa.length c1) (.slice a2 R.wo.length c2) := by
  have hy := h.grow hg
  have hq := at_lt h.box
  have g7 : wy.grownBy (((((((wy.setCell ⟨q, 0, none⟩ (.int .i64 R.st)).setCell ⟨q, 1, none⟩ (.int .i64 R.wa)).setCell ⟨q, 2, none⟩ (.slice a1 R.sa.length c1)).setCell ⟨q, 3, none⟩ (.slice a2 R.wo.length c2)).setCell ⟨q, 4, none⟩ (.int .i64 R.sq)).setCell ⟨q, 5, none⟩ (.int .i64 R.ag)).setCell ⟨q, 6, none⟩ (.bool R.fr)) (some q) := gr7 (World.grownBy.refl _ _)
  obtain ⟨xs, hx, hf⟩ := hy.snt
  have hsl : ∀ y, sv.ownBlock = some y → y < wx.heap.size := fun y hy' => by
    obtain ⟨xs, hx, _⟩ := h.snt
    exact (World.ownsRow.lt hx y hy').2
  exact ⟨gr7n hy.grown h.low, box7 hy.box, hS, OwnL.rd (own_but o1 g7 hq), OwnL.rd (own_but o2 g7 hq), rd_off hy.r6 g7 h.o6,
    OwnL.off o1 (fun y hy => by simp at hy; omega), OwnL.off o2 (fun y hy => by simp at hy; omega), h.o6, OwnL.off o1 hsl, OwnL.off o2 hsl, h.g6,
    ⟨xs, own_ne hx g7 (fun x hx e => h.apart (by rw [hx]; exact e.symm)), fun i hi => by
      obtain ⟨a, c, e1, e2, e3, e4⟩ := hf i hi
      exact ⟨a, c, e1, rdB_off e2 g7 e3, e3, e4⟩⟩, h.low, h.apart⟩
theorem info23 : (Try.prog.info? 23).map (fun i => (i.zero, i.size, i.bytes)) = some (some (.slice none 0 0), 1, 24) := by kernel_rfl
/-- One frame more is sent. -/
theorem Inv.send {w wx wy : World} {q wt qt n : Nat} {v6 s t : Value} {sa : Option Addr} {sc : Nat} {nw : Int} {L : Lk} (h : Inv w wx q v6 wt nw qt n (.slice sa n sc) L s t) (hg : wx.grownBy wy none) {a : Option Addr} {c : Nat} (o : OwnB wx.heap.size wy a c (frN n)) (hn : n ≤ 400) :
    ∃ sa' sc' wz, (Builtin.append_ #[51, 51] 51 #[.slice sa n sc, .slice (some ⟨wy.heap.size, 0, none⟩) 1 1]).run Try.prog (wy.alloc (.cells #[.slice a (frN n).length c] 23)) = .ok (.slice sa' (n + 1) sc') wz ∧ Inv w wz q v6 wt nw qt (n + 1) (.slice sa' (n + 1) sc') L s t := by
  have hy := h.grow hg
  have hgA : wy.grownBy (wy.alloc (.cells #[.slice a (frN n).length c] 23)) none := gr_alloc (World.grownBy.refl _ _) _
  have hA := hy.grow hgA
  obtain ⟨xs, hx, hf⟩ := hA.snt
  obtain ⟨i0, hi, hz0, hz1, hz2⟩ := info_parts info23
  have hs1 := hy.grown.size
  obtain ⟨v', wz, r1, r2, r3, r4, r5⟩ := run_append_own_at (P := Try.prog) (wy.alloc (.cells #[.slice a (frN n).length c] 23)) w.heap.size 51 51 23 i0 _ 1 24 Try.underlying51 hi hz0 hz1 hz2 rfl (by omega) _ n xs hx ⟨wy.heap.size, 0, none⟩ 1 1 [.slice a (frN n).length c] rfl
    (fun j u hj => by
      rw [addn, at_cell (heap_alloc_new wy _) _]
      simpa using hj)
    (by simp [Value.oneCell']) (by unfold maxLen; omega) (by omega) (by simp; omega)
  have r2' := r2
  obtain ⟨_, ⟨_, hn0⟩ | ⟨g', cap', cur, rfl, hB, hcc, _⟩⟩ := r2'
  · omega
  have hlow : ∀ y, (Value.slice sa n sc).ownBlock = some y → w.heap.size ≤ y := fun y hy => (World.ownsRow.lt hx y hy).1
  have hqA := at_lt hA.box
  have hq' : (Value.slice (some ⟨g', 0, none⟩) (n + 1) cap').ownBlock ≠ some q := by
    rcases r5 with h5 | h5
    · rw [h5]; exact h.apart
    · rw [h5]; intro e; simp at e; simp at hqA; omega
  have hoffnew : ∀ (v : Value) (l : List Int), rd (wy.alloc (.cells #[.slice a (frN n).length c] 23)) v l → Off v (Value.slice sa n sc).ownBlock → Off v (Value.slice (some ⟨g', 0, none⟩) (n + 1) cap').ownBlock := fun v l hr ho => by
    rcases r5 with h5 | h5
    · rw [h5]; exact ho
    · rw [h5]; exact off_lt hr (Nat.le_refl _)
  have hoffnewB : ∀ (v : Value) (l : List Nat), rdB (wy.alloc (.cells #[.slice a (frN n).length c] 23)) v l → Off v (Value.slice sa n sc).ownBlock → Off v (Value.slice (some ⟨g', 0, none⟩) (n + 1) cap').ownBlock := fun v l hr ho => by
    rcases r5 with h5 | h5
    · rw [h5]; exact ho
    · rw [h5]; exact offB_lt hr (Nat.le_refl _)
  have hne : some q ≠ (Value.slice sa n sc).ownBlock := fun e => h.apart e.symm
  have oA := OwnB.kept o hgA
  have hslt : ∀ y, (Value.slice sa n sc).ownBlock = some y → y < wx.heap.size := fun y hy' => by
    obtain ⟨xs, hx, _⟩ := h.snt
    exact (World.ownsRow.lt hx y hy').2
  refine ⟨some ⟨g', 0, none⟩, cap', wz, r1, ⟨grown_join hA.grown r3 (.inr hlow), (r3.block q hqA hne).trans hA.box, h.stt, rd_off hA.rs r3 h.gs, rd_off hA.rt r3 h.gt, rd_off hA.r6 r3 h.g6, h.os, h.ot, h.o6, hoffnew _ _ hA.rs h.gs, hoffnew _ _ hA.rt h.gt, hoffnew _ _ hA.r6 h.g6, ⟨xs ++ [.slice a (frN n).length c], r2, fun i hi => ?_⟩, h.low, hq'⟩⟩
  have hxl : xs.length = n := by have := hx.1; simpa using this
  by_cases hin : i < n
  · obtain ⟨a', c', e1, e2, e3, e4⟩ := hf i hin
    exact ⟨a', c', by rw [List.getElem?_append_left (by omega)]; exact e1, rdB_off e2 r3 e4, e3, hoffnewB _ _ e2 e4⟩
  · have : i = n := by omega
    subst this
    have hq1 := at_lt h.box
    have hof : Off (.slice a (frN i).length c) (Value.slice sa i sc).ownBlock := OwnB.off o hslt
    exact ⟨a, c, by rw [List.getElem?_append_right (by omega)]; simp [hxl], rdB_off oA.rd r3 hof, OwnB.off o (fun y hy => by simp at hy; omega), hoffnewB _ _ oA.rd hof⟩
/-- A frame that was sent is there to be read. -/
theorem Inv.at_ {w wx : World} {q wt qt n : Nat} {v6 s t : Value} {sa : Option Addr} {sc : Nat} {nw : Int} {L : Lk} (h : Inv w wx q v6 wt nw qt n (.slice sa n sc) L s t) {k : Nat} (hk : k < n) :
    ∃ g a c, sa = some ⟨g, 0, none⟩ ∧ wx.cell? ⟨g, k, none⟩ = some (.slice a (frN k).length c) ∧ rdB wx (.slice a (frN k).length c) (frN k) := by
  obtain ⟨xs, hx, hf⟩ := h.snt
  obtain ⟨a, c, e1, e2, e3, e4⟩ := hf k hk
  have hx' := hx
  obtain ⟨hxl, ⟨_, h0⟩ | ⟨g, cap, cur, e, _⟩⟩ := hx'
  · omega
  injection e with e5 e6 e7
  subst e5 e7
  refine ⟨g, a, c, rfl, ?_, e2⟩
  rw [World.ownsRow.cellAt hx k (by omega)]
  exact e1
/-- What happens, in memory. -/
def PsAt (w : World) (v : Value) (ps : List (Int × Int)) : Prop :=
  ∃ a cap, v = .slice a ps.length cap ∧ (ps = [] ∨ ∃ b off, a = some ⟨b, off, none⟩ ∧ ∀ i, i < ps.length → w.cell? ⟨b, off + i * 3, none⟩ = some (.int .i64 (ps.getD i (0, 0)).1) ∧ w.cell? ⟨b, off + i * 3 + 1, none⟩ = some (.int .i64 (ps.getD i (0, 0)).2))
end Go.Proofs.Ytaiicehifailhaa
