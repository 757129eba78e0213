/- What lies there while a link is spoilt and falls silent; plain facts of the law. -/
import Derived.Test.YtaiicehifailhabPf
namespace Go.Proofs.Ytaiicehifailhab
open Go.RowKit
set_option linter.unusedVariables false
set_option linter.unusedSimpArgs false

/-- Numbers of one's own in w', behind those in w at the block r. -/
def NewL (B : Nat) (w w' : World) (r : Option Nat) (a' : Option Addr) (cap' : Nat) (l : List Int) : Prop :=
  OwnL B w' a' cap' l ∧ w.grownBy w' r ∧ ((Value.slice a' l.length cap').ownBlock = r ∨ ∀ y, (Value.slice a' l.length cap').ownBlock = some y → w.heap.size ≤ y)
theorem ownL_one {B : Nat} {w : World} {a : Option Addr} {cap : Nat} {l : List Int} (h : OwnL B w a cap l) (g : Nat) (x : Int) (hg : w.heap[g]? = some (.cells #[.int .i64 x] 3)) (hl : l.length ≤ 1000000) (hB : B ≤ w.heap.size) :
    ∃ a' cap' w', (Builtin.append_ #[22, 22] 22 #[.slice a l.length cap, .slice (some ⟨g, 0, none⟩) 1 1]).run Try.prog w = .ok (.slice a' (l.length + 1) cap') w' ∧
      NewL B w w' (Value.slice a l.length cap).ownBlock a' cap' (l ++ [x]) := by
  obtain ⟨i0, hi, hz0, hz1, hz2⟩ := info_parts info3
  obtain ⟨v', w', r1, r2, r3, r4, r5⟩ := run_append_own_at (P := Try.prog) w B 22 22 3 i0 _ 1 8 Try.underlying22 hi hz0 hz1 hz2 rfl (by omega) _ _ _ h ⟨g, 0, none⟩ 1 1 [.int .i64 x] rfl
    (fun j u hj => by
      rw [addn, at_cell hg _]
      simpa using hj)
    (by simp [Value.oneCell']) (by unfold maxLen; omega) (by omega) hB
  have r2' := r2
  obtain ⟨_, ⟨hx, hn⟩ | ⟨g', cap', cur, rfl, _⟩⟩ := r2'
  · omega
  · refine ⟨_, cap', w', r1, ?_, r3, ?_⟩
    · unfold OwnL
      rw [List.map_append, List.length_append]
      exact r2
    · rcases r5 with h5 | h5
      · exact .inl h5
      · right
        intro y hy
        have : some y = some w.heap.size := hy.symm.trans h5
        simp at this
        omega
theorem rdB_off {w w' : World} {v : Value} {l : List Nat} {r : Option Nat} (h : rdB w v l) (hg : w.grownBy w' r) (ho : Off v r) : rdB w' v l := by
  obtain ⟨a, cap, rfl, hcap, h | ⟨b, off, rfl, hc⟩⟩ := h
  · exact ⟨a, cap, rfl, hcap, .inl h⟩
  · exact ⟨_, cap, rfl, hcap, .inr ⟨b, off, rfl, fun i hi => hg.cell (hc i hi) (fun e => ho b off _ _ rfl (by omega) e.symm)⟩⟩
theorem off_lt {w : World} {v : Value} {l : List Int} (h : rd w v l) {r : Nat} (hr : w.heap.size ≤ r) : Off v (some r) := off_new h (fun y hy => by simp at hy; omega)
theorem offB_lt {w : World} {v : Value} {l : List Nat} (h : rdB w v l) {r : Nat} (hr : w.heap.size ≤ r) : Off v (some r) := by
  intro b off len c e hpos e2
  obtain ⟨a, cap, e', _, h0 | ⟨b', off', e3, hc⟩⟩ := h
  · subst h0
    rw [e'] at e
    injection e with _ e5 _
    simp at e5
    omega
  · rw [e'] at e
    injection e with e4 e5 _
    rw [e3] at e4
    injection e4 with e4
    injection e4 with e6 e7
    have := World.block_lt_of_cell? w _ (hc 0 (by omega))
    simp at this e2
    omega
/-- What is one's own from B on does not lie in a block ahead of B. -/
theorem OwnL.off {B : Nat} {w : World} {a : Option Addr} {cap : Nat} {l : List Int} (h : OwnL B w a cap l) {r : Option Nat} (hr : ∀ y, r = some y → y < B) : Off (.slice a l.length cap) r := by
  intro b off len c e _ e2
  have h1 := hr _ e2
  have h2 : (Value.slice a l.length cap).ownBlock = some b := by rw [e]; rfl
  have := World.ownsRow.lt h b h2
  omega
theorem OwnB.off {B : Nat} {w : World} {a : Option Addr} {cap : Nat} {l : List Nat} (h : OwnB B w a cap l) {r : Option Nat} (hr : ∀ y, r = some y → y < B) : Off (.slice a l.length cap) r := by
  intro b off len c e _ e2
  have h1 := hr _ e2
  have h2 : (Value.slice a l.length cap).ownBlock = some b := by rw [e]; rfl
  have := World.ownsRow.lt h b h2
  omega
/-- All bytes of a list, behind none. -/
theorem copyB {w : World} {a : Option Addr} {cap : Nat} {l : List Nat} (h : rdB w (.slice a l.length cap) l) (hl : l.length ≤ 140737488351232) :
    ∃ oa oc w', (Builtin.append_ #[30, 30] 30 #[.slice none 0 0, .slice a l.length cap]).run Try.prog w = .ok (.slice oa l.length oc) w' ∧ OwnB w.heap.size w' oa oc l ∧ w.grownBy w' none := by
  obtain ⟨i0, hi, hz0, hz1, hz2⟩ := info_parts info5
  obtain ⟨oa, oc, w', h1, h2, h3⟩ := run_append_all (P := Try.prog) w 30 30 5 i0 _ 1 1 Try.underlying30 hi hz0 hz1 hz2 rfl (by omega) a l.length cap (bV l) (by rw [bV_len]; omega) h.cells (bV_one l) (by unfold maxLen; omega) (by omega)
  exact ⟨oa, oc, w', h1, h2, h3⟩

theorem OwnB.put {B : Nat} {w : World} {g c : Nat} {T : List Nat} (h : OwnB B w (some ⟨g, 0, none⟩) c T) (p y : Nat) : OwnB B (w.setCell ⟨g, p, none⟩ (.int .u8 (y : Int))) (some ⟨g, 0, none⟩) c (T.set p y) := by
  obtain ⟨h1, h2 | ⟨g', cap', cur, e', hb, hc, hn, hm, hs, ht⟩⟩ := h
  · simp at h2
  · simp at e'
    obtain ⟨rfl, rfl⟩ := e'
    refine ⟨by simp [bV], .inr ⟨g, c, cur.setIfInBounds p (.int .u8 (y : Int)), by simp, hb, at_set hc p _, by simpa using hn, hm, by simpa using hs, ?_⟩⟩
    rw [List.length_set, Array.toList_setIfInBounds, List.take_set, ht]
    simp [bV, List.map_set]
theorem xor8 (x t : Nat) (hx : x < 256) (ht : t < 8) : bits BinOp.xor IntKind.u8 (x : Int) (2 ^ t % 256) = ((x ^^^ 2 ^ t : Nat) : Int) := by
  have h2 : 2 ^ t < 256 := by
    have : 2 ^ t ≤ 2 ^ 7 := Nat.pow_le_pow_right (by omega) (by omega)
    omega
  have e : ((2 : Int) ^ t % 256) = ((2 ^ t : Nat) : Int) := by
    have h3 : ((2 ^ t : Nat) : Int) < 256 := Int.ofNat_lt.2 h2
    have h4 : ((2 ^ t : Nat) : Int) = (2 : Int) ^ t := Int.natCast_pow 2 t
    rw [← h4]
    exact Int.emod_eq_of_lt (Int.natCast_nonneg _) h3
  rw [e]
  have hxx : x ^^^ 2 ^ t < 2 ^ 8 := Nat.xor_lt_two_pow (by omega) (by omega)
  have h1 : (BitVec.ofInt 8 (x : Int)).toNat = x := by rw [BitVec.ofInt_natCast, BitVec.toNat_ofNat]; exact Nat.mod_eq_of_lt (by omega)
  have h3 : (BitVec.ofInt 8 ((2 ^ t : Nat) : Int)).toNat = 2 ^ t := by rw [BitVec.ofInt_natCast, BitVec.toNat_ofNat]; exact Nat.mod_eq_of_lt (by omega)
  show IntKind.u8.wrap ((BitVec.ofInt 8 (x : Int) ^^^ BitVec.ofInt 8 ((2 ^ t : Nat) : Int)).toNat : Int) = _
  rw [BitVec.toNat_xor, h1, h3, IntKind.wrap_u8]
  omega

structure Bs (w wx : World) (q : Nat) (v1 v2 : Value) (lw sw : List Int) (L : Lk) (s t : Value) : Prop where
  grown : w.grownBy wx none
  box : wx.heap[q]? = some (.cells (lkA L s t) 26)
  rs : rd wx s L.sa
  rt : rd wx t L.wo
  r1 : rd wx v1 lw
  r2 : rd wx v2 sw
  os : Off s (some q)
  ot : Off t (some q)
  o1 : Off v1 (some q)
  o2 : Off v2 (some q)
  low : w.heap.size ≤ q
theorem Bs.grow {w wx wy : World} {q : Nat} {v1 v2 s t : Value} {lw sw : List Int} {L : Lk} (h : Bs w wx q v1 v2 lw sw L s t) (hg : wx.grownBy wy none) : Bs w wy q v1 v2 lw sw L s t :=
  ⟨grown_join h.grown hg (.inl rfl), kept hg h.box, rd_grown h.rs hg, rd_grown h.rt hg, rd_grown h.r1 hg, rd_grown h.r2 hg, h.os, h.ot, h.o1, h.o2, h.low⟩
theorem Bs.other {w wx wy : World} {q g : Nat} {v1 v2 s t : Value} {lw sw : List Int} {L : Lk} (h : Bs w wx q v1 v2 lw sw L s t) (hg : wx.grownBy wy (some g)) (hgl : wx.heap.size ≤ g) : Bs w wy q v1 v2 lw sw L s t :=
  ⟨grown_join h.grown hg (.inr fun x hx => by simp at hx; have := h.grown.size; omega), keptBut hg h.box (by have := at_lt h.box; omega), rd_off h.rs hg (off_lt h.rs hgl), rd_off h.rt hg (off_lt h.rt hgl), rd_off h.r1 hg (off_lt h.r1 hgl), rd_off h.r2 hg (off_lt h.r2 hgl), h.os, h.ot, h.o1, h.o2, h.low⟩
theorem Bs.put {w wx wy : World} {q : Nat} {v1 v2 s t : Value} {lw sw : List Int} {L : Lk} (h : Bs w wx q v1 v2 lw sw L s t) (hg : wx.grownBy wy none) {R : Lk} {a1 a2 : Option Addr} {c1 c2 : Nat}
    (o1 : OwnL wx.heap.size wy a1 c1 R.sa) (o2 : OwnL wx.heap.size wy a2 c2 R.wo) : Bs w (((((((wy.setCell ⟨q, 0, none⟩ (.int .i64 R.st)).setCell ⟨q, 1, none⟩ (.int .i64 R.wa)).setCell ⟨q, 2, none⟩ (.slice a1 R.sa.length c1)).setCell ⟨q, 3, none⟩ (.slice a2 R.wo.length c2)).setCell ⟨q, 4, none⟩ (.int .i64 R.sq)).setCell ⟨q, 5, none⟩ (.int .i64 R.ag)).setCell ⟨q, 6, none⟩ (.bool R.fr)) q v1 v2 lw sw R (.slice a1 R.sa.length c1) (.slice a2 R.wo.length c2) := by
  have hy := h.grow hg
  have hq := at_lt h.box
  have g7 : wy.grownBy (((((((wy.setCell ⟨q, 0, none⟩ (.int .i64 R.st)).setCell ⟨q, 1, none⟩ (.int .i64 R.wa)).setCell ⟨q, 2, none⟩ (.slice a1 R.sa.length c1)).setCell ⟨q, 3, none⟩ (.slice a2 R.wo.length c2)).setCell ⟨q, 4, none⟩ (.int .i64 R.sq)).setCell ⟨q, 5, none⟩ (.int .i64 R.ag)).setCell ⟨q, 6, none⟩ (.bool R.fr)) (some q) := gr7 (World.grownBy.refl _ _)
  exact ⟨gr7n hy.grown h.low, box7 hy.box, OwnL.rd (own_but o1 g7 hq), OwnL.rd (own_but o2 g7 hq), rd_off hy.r1 g7 h.o1, rd_off hy.r2 g7 h.o2, OwnL.off o1 (fun y hy => by simp at hy; omega), OwnL.off o2 (fun y hy => by simp at hy; omega), h.o1, h.o2, h.low⟩
/-- The words that are told, and the safe ones. -/
def lwS (raw : List Int) (k : Nat) : List Int := (raw.take k).map fun x => ((pk x 65536 : Nat) : Int)
def swS (k : Nat) : List Int := (List.range k).map fun i : Nat => (i : Int)
theorem swS_len (k : Nat) : (swS k).length = k := by simp [swS]
theorem swS_succ (k : Nat) : swS (k + 1) = swS k ++ [(k : Int)] := by simp [swS, List.range_succ]
theorem lwS_len {raw : List Int} {k : Nat} (h : k ≤ raw.length) : (lwS raw k).length = k := by simp [lwS]; omega
theorem lwS_succ {raw : List Int} {k : Nat} (h : k < raw.length) : lwS raw (k + 1) = lwS raw k ++ [((pk (raw.getD k 0) 65536 : Nat) : Int)] := by
  unfold lwS
  rw [List.take_add_one, List.map_append]
  simp only [List.getD_eq_getElem?_getD, List.getElem?_eq_getElem h, Option.toList, List.map_cons, List.map_nil, Option.getD_some]
theorem swS_ok {k : Nat} (h : k ≤ 60) : (swS k).all okW = true := by
  rw [List.all_eq_true]
  intro x hx
  simp [swS] at hx
  obtain ⟨i, hi, rfl⟩ := hx
  exact wi_yes (by omega) (by omega)
theorem lwS_ok (raw : List Int) (k : Nat) : (lwS raw k).all okW = true := by
  rw [List.all_eq_true]
  intro x hx
  unfold lwS at hx
  rw [List.mem_map] at hx
  obtain ⟨y, _, rfl⟩ := hx
  have := pk_lt y (show 0 < 65536 by omega)
  exact wi_yes (by omega) (by omega)
theorem look_ok {l : List Int} (h : l.length ≤ 60) (h2 : l.all okW = true) : lookE l = 0 := by
  unfold lookE
  rw [if_neg (by omega), h2]
  rfl
theorem start_9 {wt : Nat} (h : 1 ≤ wt ∧ wt ≤ 30) {sw : List Int} (h1 : sw.length ≤ 60) (h2 : sw.all okW = true) : startE 9 (wt : Int) sw = 0 ∧ startL 9 (wt : Int) sw = ⟨9, (wt : Int), sw, sw, 0, 0, false⟩ := by
  have hS : startE 9 (wt : Int) sw = 0 := by
    unfold startE
    rw [wi_yes (by omega) (by omega), wi_yes (by omega) (by omega)]
    exact look_ok h1 h2
  exact ⟨hS, by unfold startL; rw [if_pos hS]⟩
theorem frame_9 {sq : Int} (h : 0 ≤ sq ∧ sq ≤ 255) {l : List Int} (h1 : l.length ≤ 60) (h2 : l.all okW = true) : frameE 9 sq l = 0 := by
  unfold frameE
  rw [wi_yes (by omega) (by omega), wi_yes h.1 h.2]
  exact look_ok h1 h2
/-- The link that has heard words, so many ticks ago. -/
def lkF (wt : Nat) (sw lw : List Int) (sq : Nat) (ag : Nat) : Lk := ⟨9, (wt : Int), sw, lw, (sq : Int), (ag : Int), true⟩
theorem lkF_could {wt sq ag : Nat} {sw lw : List Int} (h : 1 ≤ wt ∧ wt ≤ 30) (h1 : sw.length ≤ 60) (h2 : sw.all okW = true) (h3 : lw.length = sw.length) (h4 : lw.all okW = true) (h5 : sq < 256) (h6 : ag < wt) : couldB (lkF wt sw lw sq ag) = true := by
  unfold couldB lkF
  dsimp only
  rw [(start_9 h h1 h2).1, h3, h4, wi_yes (by omega) (by omega), wi_yes (by omega) (by omega)]
  simp
theorem lk0_could {wt : Nat} {sw : List Int} (h : 1 ≤ wt ∧ wt ≤ 30) (h1 : sw.length ≤ 60) (h2 : sw.all okW = true) : couldB ⟨9, (wt : Int), sw, sw, 0, 0, false⟩ = true := by
  unfold couldB
  dsimp only
  rw [(start_9 h h1 h2).1, h2, wi_yes (by omega) (by omega), wi_yes (by omega) (by omega)]
  simp
theorem take_one {wt sq : Nat} {sw lw : List Int} (h : 1 ≤ wt ∧ wt ≤ 30) (h1 : sw.length ≤ 60) (h2 : sw.all okW = true) (h3 : lw.length = sw.length) (h4 : lw.all okW = true) (h5 : sq < 256) :
    takeE ⟨9, (wt : Int), sw, sw, 0, 0, false⟩ (frameS 9 (sq : Int) lw) = 0 ∧ takeL ⟨9, (wt : Int), sw, sw, 0, 0, false⟩ (frameS 9 (sq : Int) lw) = lkF wt sw lw sq 0 := by
  have hc := lk0_could h h1 h2
  obtain ⟨o1, o2, o3, o4⟩ := open_frame (frame_9 (sq := (sq : Int)) ⟨by omega, by omega⟩ (l := lw) (by omega) h4)
  rw [Int.toNat_natCast] at o3
  have hE : takeE ⟨9, (wt : Int), sw, sw, 0, 0, false⟩ (frameS 9 (sq : Int) lw) = 0 := by
    unfold takeE
    rw [if_pos hc, if_pos o1, o2, o3, o4]
    unfold newsE
    simp [h3]
  refine ⟨hE, ?_⟩
  unfold takeL
  rw [if_pos hc, if_pos hE, o3, o4]
  rfl
theorem take_bad {L : Lk} (hc : couldB L = true) {T : List Nat} (h : openE T ≠ 0) : takeE L T ≠ 0 ∧ takeL L T = L := by
  have hE : takeE L T = openE T := by unfold takeE; rw [if_pos hc, if_neg h]
  refine ⟨by rw [hE]; exact h, ?_⟩
  unfold takeL
  rw [if_pos hc, if_neg (by rw [hE]; exact h)]
theorem tick_F {wt sq ag : Nat} {sw lw : List Int} (hc : couldB (lkF wt sw lw sq ag) = true) : tickE (lkF wt sw lw sq ag) = 0 ∧ tickL (lkF wt sw lw sq ag) = if ag + 1 = wt then ⟨9, (wt : Int), sw, sw, (sq : Int), 0, false⟩ else lkF wt sw lw sq (ag + 1) := by
  refine ⟨by unfold tickE; rw [if_pos hc], ?_⟩
  unfold tickL
  rw [if_pos hc]
  unfold lkF
  dsimp only
  rw [if_pos rfl]
  by_cases hw : ag + 1 = wt
  · rw [if_pos hw, if_pos (by omega)]
  · rw [if_neg hw, if_neg (by omega)]
    simp
end Go.Proofs.Ytaiicehifailhab
