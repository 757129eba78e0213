/- The walk of CellBytes. -/
import Derived.Test.YtnjlomdkenondaaBytesD
namespace Go.Proofs.Ytnjlomdkenondaa
open Go.RowKit

/-- What is known once the bytes that were handed in are copied, with two more behind them. -/
theorem handed (a2 : Option Addr) (len cap : Nat) (l : List Int) (w : World) (hl : l.length = len) (hr : rd w (.slice a2 len cap) l) (hnil : a2 = none → cap = 0) (hreach : len ≤ 140737488351232) :
    ∃ v1 w1 w2 g gcap, (Builtin.append_ #[31, 31] 31 #[.slice none 0 0, .slice a2 len cap]).run Try.prog w = .ok v1 w1 ∧
      (Builtin.append_ #[31, 31] 31 #[v1, .slice (some ⟨w1.heap.size, 0, none⟩) 2 2]).run Try.prog (w1.alloc (.cells #[.int .u8 77, .int .u8 78] 5)) = .ok (.slice (some ⟨g, 0, none⟩) (len + 2) gcap) w2 ∧
      len + 2 ≤ gcap ∧ Below w.heap.size w w2 ∧ w2.ownsRow w.heap.size 5 1 (.slice (some ⟨g, 0, none⟩) (len + 2) gcap) (l ++ [77, 78]).length ((l ++ [77, 78]).map (Value.int .u8)) := by
  obtain ⟨v1, w1, run1, own1, gr1, _⟩ := append_rd w.heap.size (.slice none 0 0) 0 [] (World.ownsRow_nil w w.heap.size 5 1) (.slice a2 len cap) l hr (by omega) (Nat.le_refl _) (fun a c h => by simp at h; intro ha; exact h.2.2 ▸ hnil (h.1.trans ha))
  simp only [Nat.zero_add, List.nil_append] at own1
  have bel1 : Below w.heap.size w w1 := below_of_grown gr1 (Nat.le_refl _) (fun x hx => by simp [Value.ownBlock] at hx)
  obtain ⟨v2, w2, run2, own2, gr2, _⟩ := append_rd w.heap.size v1 l.length (l.map (Value.int .u8)) (own1.alloc (.cells #[.int .u8 77, .int .u8 78] 5)) (.slice (some ⟨w1.heap.size, 0, none⟩) 2 2) [77, 78] (rd_new2 w1 77 78) (by simp; omega) (by simp; have := bel1.size; omega) (fun a c h => by simp at h)
  have bel2 : Below w.heap.size w w2 := by
    refine (bel1.alloc bel1.size _).grown gr2 (by simp; have := bel1.size; omega) ?_
    intro x hx
    exact ((own1.alloc (.cells #[.int .u8 77, .int .u8 78] 5)).lt x hx).1
  have hown2 : w2.ownsRow w.heap.size 5 1 v2 (l ++ [77, 78]).length ((l ++ [77, 78]).map (Value.int .u8)) := by
    simpa using own2
  obtain ⟨g, gcap, hv2, hgc⟩ : ∃ g gcap, v2 = .slice (some ⟨g, 0, none⟩) (len + 2) gcap ∧ len + 2 ≤ gcap := by
    rcases hown2.2 with ⟨_, h0⟩ | ⟨g, cap, cur, h, _, _, h2, _⟩
    · simp at h0
    · refine ⟨g, cap, ?_, ?_⟩
      · rw [h]; simp; omega
      · simp at h2; omega
  subst hv2
  exact ⟨v1, w1, w2, g, gcap, run1, run2, hgc, bel2, hown2⟩

/-- One byte more behind what is owned, in a round. -/
theorem one_more {wq wr : World} {row : Option Nat} {base : Nat} {v : Value} {n : Nat} {xs : List Value} (hown : wr.ownsRow base 5 1 v n xs) (hbase : base ≤ wq.heap.size) (hg : wq.grownBy wr row)
    (hv : v.ownBlock = row ∨ ∀ x, v.ownBlock = some x → wq.heap.size ≤ x) (hn : n ≤ 16) :
    ∃ v' w', (Builtin.append_ #[31, 31] 31 #[v, .slice (some ⟨wr.heap.size, 0, none⟩) 1 1]).run Try.prog (wr.alloc (.cells #[.int .u8 99] 5)) = .ok v' w' ∧
      w'.ownsRow base 5 1 v' (n + 1) (xs ++ [.int .u8 99]) ∧ wq.grownBy w' row ∧ (v'.ownBlock = row ∨ ∀ x, v'.ownBlock = some x → wq.heap.size ≤ x) := by
  have hsz := hg.size
  obtain ⟨v', w', h1, h2, h3, h4⟩ := append_rd base v n xs (hown.alloc (.cells #[.int .u8 99] 5)) (.slice (some ⟨wr.heap.size, 0, none⟩) 1 1) [99] (rd_new1 wr 99) (by simp; omega) (by simp; omega) (fun a c h => by simp at h)
  refine ⟨v', w', h1, h2, ?_, ?_⟩
  · refine grown_join (grown_join hg (World.grownBy_alloc wr _ row) (.inl rfl)) h3 ?_
    exact hv
  · rcases h4 with h4 | h4
    · rw [h4]; exact hv
    · right
      intro x hx
      rw [h4] at hx
      simp at hx
      omega

theorem own_form {w : World} {base n : Nat} {v : Value} {xs : List Value} (h : w.ownsRow base 5 1 v n xs) : ∃ a c, v = .slice a n c := by
  rcases h.2 with ⟨rfl, rfl⟩ | ⟨g, cap, cur, rfl, _⟩
  · exact ⟨_, _, rfl⟩
  · exact ⟨_, _, rfl⟩
theorem rd_cut {w : World} {g gcap len : Nat} {l m : List Int} (h : rd w (.slice (some ⟨g, 0, none⟩) (len + 2) gcap) (l ++ m)) (hl : l.length = len) (hm : m.length = 2) : rd w (.slice (some ⟨g, 0, none⟩) len gcap) l := by
  rcases h with ⟨h, _⟩ | ⟨b, off, cap, h, hp, hc, hcell⟩
  · simp at h
    rw [h.2] at hm
    simp at hm
  · simp at h
    obtain ⟨⟨rfl, rfl⟩, _, rfl⟩ := h
    by_cases h0 : l = []
    · subst h0
      simp at hl
      subst hl
      exact .inl ⟨rfl, _, _, rfl⟩
    · subst hl
      refine .inr ⟨_, _, _, rfl, List.length_pos_iff.2 h0, by simp at hc; omega, fun i hi => ?_⟩
      rw [hcell i (by simp; omega), List.getD_eq_getElem?_getD, List.getElem?_append_left hi]
      simp
theorem same_keep (a b : Value) (l : List Int) (w : World) (ha : rd w a l) (hb : rd w b l) :
    Calls Try.prog 21 #[a, b] w fun e w' => e = .returned (.bool true) ∧ w = w' := (same_any a b l w ha hb).mono fun _ _ h => ⟨h.1, h.2.symm⟩
theorem get_keep (k : Int) (v : Value) (l : List Int) (w : World) (hr : rd w v l) (hb : byteL l) :
    Calls Try.prog 22 #[.int .i64 k, v] w fun e w' => e = .returned (.tuple #[.int .i64 (getN k l), .int .i64 (getE k l)]) ∧ w = w' := (get_any k v l w hr hb).mono fun _ _ h => ⟨h.1, h.2.symm⟩
theorem rget_keep (k : Int) (v : Value) (l : List Int) (w : World) (hr : rd w v l) (hb : byteL l) :
    Calls Try.prog 23 #[.int .i64 k, v] w fun e w' => e = .returned (.tuple #[.int .i64 (getN k l), .int .i64 (getE k l)]) ∧ w = w' := (rget_any k v l w hr hb).mono fun _ _ h => ⟨h.1, h.2.symm⟩
theorem str_more (l : List Int) : strOfNums (l ++ [77, 78]) = strOfNums l ++ { data := #[77, 78] } := by
  apply ByteArray.ext
  simp [strOfNums]
set_option maxHeartbeats 4000000 in
theorem bytes_yes (k n : Int) (a2 : Option Addr) (len cap : Nat) (l L : List Int) (w : World) (hl : l.length = len) (hr : rd w (.slice a2 len cap) l) (hnil : a2 = none → cap = 0) (hb : byteL l) (hreach : len ≤ 140737488351232)
    (hf : fitsK k n = true) (hL : putL k n = L) (hL4 : L.length ≤ 4) :
    Calls Try.prog 4 #[.int .i64 k, .int .i64 n, .slice a2 len cap] w fun e w' => e = .returned (.bool true) ∧ Below w.heap.size w w' := by
  obtain ⟨v1, w1, w2, g, gcap, run1, run2, hgc, bel2, hown2⟩ := handed a2 len cap l w hl hr hnil hreach
  have HR : Hid (rd w (.slice a2 len cap) l) := hr
  have HO : Hid (w2.ownsRow w.heap.size 5 1 (.slice (some ⟨g, 0, none⟩) (len + 2) gcap) (l ++ [77, 78]).length ((l ++ [77, 78]).map (Value.int .u8))) := hown2
  have HB2 : Hid (Below w.heap.size w w2) := bel2
  have HBY : Hid (byteL l) := hb
  have HF : Hid (fitsK k n = true) := hf
  have HL : Hid (putL k n = L) := hL
  have i1 : (0 : Int) ≤ (len : Int) := by omega
  have i2 : (len : Int) ≤ (gcap : Int) := by omega
  have HR1 : Hid ((Builtin.append_ #[31, 31] 31 #[.slice none 0 0, .slice a2 len cap]).run Try.prog w = .ok v1 w1) := run1
  have HR2 : Hid ((Builtin.append_ #[31, 31] 31 #[v1, .slice (some ⟨w1.heap.size, 0, none⟩) 2 2]).run Try.prog (w1.alloc (.cells #[.int .u8 77, .int .u8 78] 5)) = .ok (.slice (some ⟨g, 0, none⟩) (len + 2) gcap) w2) := run2
  clear hr hown2 bel2 hb run1 run2 hf hL hnil
  go_enter Try.func4, Try.ntmps4
  go_wp2_with (first | (at_builtin; refine wpList_append_run rfl _ _ 31 rfl _ _ v1 w1 rfl rfl HR1.out ?_) | (at_builtin; refine wpList_append_run rfl _ _ 31 rfl _ _ _ w2 rfl rfl HR2.out ?_) | (go_at_call 19; refine (put_yes _ _ L w2 HL.out HF.out).mono ?_; rintro e wp ⟨rfl, hp, bp⟩) | (go_at_call 19; refine (put_yes _ _ L wp HL.out HF.out).mono ?_; rintro e wq ⟨rfl, hq, bq⟩))
  have HP : Hid (wp.ownsRow w2.heap.size 5 1 (.slice (some ⟨w2.heap.size, 0, none⟩) L.length L.length) L.length (L.map (Value.int .u8))) := hp
  have HQ : Hid (wq.ownsRow wp.heap.size 5 1 (.slice (some ⟨wp.heap.size, 0, none⟩) L.length L.length) L.length (L.map (Value.int .u8))) := hq
  have BP : Hid (Below w2.heap.size w2 wp) := bp
  have BQ : Hid (Below wp.heap.size wp wq) := bq
  clear hp hq bp bq
  go_loopw [11] (fun i wr => ∃ (j : Nat) (xs : List Int), j ≤ L.length ∧ i = .int .i64 j ∧ xs.length = L.length ∧ wr.ownsRow w2.heap.size 5 1 (.slice (some ⟨w2.heap.size, 0, none⟩) L.length L.length) L.length (xs.map (Value.int .u8)) ∧ wq.grownBy wr (some w2.heap.size)) (fun i _ => L.length - (intOf i).toNat)
  case atStart => exact ⟨0, L, Nat.zero_le _, rfl, rfl, own_below HP.out BQ.out, World.grownBy.refl _ _⟩
  case round =>
    obtain ⟨j, xs, hj, rfl, hx, hown, hgr⟩ := hrel
    by_cases hlt : j < L.length
    · obtain ⟨x, hc⟩ : ∃ x : Int, wr.cell? ⟨w2.heap.size, j, none⟩ = some (.int .u8 x) := by
        refine ⟨xs.getD j 0, ?_⟩
        rw [hown.cellAt j (by omega)]
        simp [show j < xs.length by omega]
      have hfz := hown.frozenAt j
      have HST : Hid (∀ u, (wr.setCell ⟨w2.heap.size, j, none⟩ u).ownsRow w2.heap.size 5 1 (.slice (some ⟨w2.heap.size, 0, none⟩) L.length L.length) L.length ((xs.map (Value.int .u8)).set j u) ∧ wr.grownBy (wr.setCell ⟨w2.heap.size, j, none⟩ u) (some w2.heap.size)) := fun u => hown.stored j u
      have HG : Hid (wq.grownBy wr (some w2.heap.size)) := hgr
      clear hown hgr
      go_wp2
      go_roundw
      case rel =>
        refine ⟨j + 1, xs.set j ((x + 9) % 256), by omega, by go_num, by simp [hx], ?_, ?_⟩
        · rw [List.map_set]; exact (HST.out _).1
        · exact grown_join HG.out (HST.out _).2 (.inl rfl)
      case measure => simp [intOf]; omega
    · have HOW : Hid (wr.ownsRow w2.heap.size 5 1 (.slice (some ⟨w2.heap.size, 0, none⟩) L.length L.length) L.length (xs.map (Value.int .u8))) := hown
      have HG : Hid (wq.grownBy wr (some w2.heap.size)) := hgr
      clear hown hgr
      go_wp2_with fail
      go_loopw [9, 12] (fun p i w3 => ∃ (t : Nat) (ys : List Value), t ≤ 9 ∧ i = .int .i64 t ∧ w3.ownsRow w2.heap.size 5 1 p (L.length + t) ys ∧ wq.grownBy w3 (some w2.heap.size) ∧ (p.ownBlock = some w2.heap.size ∨ ∀ x, p.ownBlock = some x → wq.heap.size ≤ x)) (fun _ i _ => 9 - (intOf i).toNat)
      case atStart => exact ⟨0, _, Nat.zero_le _, rfl, HOW.out, HG.out, .inl rfl⟩
      case round =>
        obtain ⟨t, ys, ht, rfl, hown, hgr, hblk⟩ := hrel
        obtain ⟨ap, cp, rfl⟩ := own_form hown
        have hbq : w2.heap.size ≤ wq.heap.size := Nat.le_trans BP.out.size BQ.out.size
        by_cases ht9 : t < 9
        · obtain ⟨v', w', hrun, hown', hgr', hblk'⟩ := one_more hown hbq hgr hblk (by omega)
          have HRUN : Hid ((Builtin.append_ #[31, 31] 31 #[.slice ap (L.length + t) cp, .slice (some ⟨wr.heap.size, 0, none⟩) 1 1]).run Try.prog (wr.alloc (.cells #[.int .u8 99] 5)) = .ok v' w') := hrun
          have HX : Hid (w'.ownsRow w2.heap.size 5 1 v' (L.length + t + 1) (ys ++ [.int .u8 99]) ∧ wq.grownBy w' (some w2.heap.size) ∧ (v'.ownBlock = some w2.heap.size ∨ ∀ x, v'.ownBlock = some x → wq.heap.size ≤ x)) := ⟨hown', hgr', hblk'⟩
          clear hrun hown' hgr' hblk' hown hgr hblk
          go_wp2_with (at_builtin; refine wpList_append_run rfl _ _ 31 rfl _ _ v' w' rfl rfl HRUN.out ?_)
          go_roundw
          case rel => exact ⟨t + 1, _, by omega, by go_num, HX.out.1, HX.out.2.1, HX.out.2.2⟩
          case measure => simp [intOf]; omega
        · have e9 : t = 9 := by omega
          subst e9
          have hlt2 : w2.heap.size < wp.heap.size := (HP.out.lt w2.heap.size rfl).2
          have B2 : Hid (Below w2.heap.size w2 wr) := ((BP.out.trans (BQ.out.mono BP.out.size)).grown hgr hbq (fun x hx => by simp at hx; omega))
          have QR : Hid (wr.ownsRow wp.heap.size 5 1 (.slice (some ⟨wp.heap.size, 0, none⟩) L.length L.length) L.length (L.map (Value.int .u8))) := HQ.out.kept hgr (.inr (by simp [Value.ownBlock]; omega))
          have HS : Hid (strOfNums (l ++ [77, 78]) = strOfNums l ++ { data := #[77, 78] }) := str_more l
          have hsz : (strOfNums l).size = len := by rw [strOfNums_size, hl]
          clear hown hgr hblk HOW HG HQ HR1 HR2 ht9 ht hx hlt hbq hlt2
          go_wp2_with (first
            | (go_at_call 20; refine (rput_yes _ _ L wr HL.out HF.out).mono ?_; rintro e wz ⟨rfl, hz, bz⟩)
            | (go_at_call 21; refine (same_keep _ _ L wz (own_rd (own_below QR.out bz)) (own_rd hz)).mono ?_; rintro e w' ⟨rfl, rfl⟩)
            | (go_at_call 19; refine (put_yes _ _ L wz HL.out HF.out).mono ?_; rintro e wt ⟨rfl, hput, bt⟩; have RH := own_rd (own_below HO.out (B2.out.trans ((bz.mono B2.out.size).trans (bt.mono (Nat.le_trans B2.out.size bz.size))))); have RB := rd_below HR.out (HB2.out.trans ((B2.out.trans ((bz.mono B2.out.size).trans (bt.mono (Nat.le_trans B2.out.size bz.size)))).mono HB2.out.size)); have CH := conv_rd RH; have CB := conv_rd RB)
            | (go_at_call 21; refine (same_keep _ _ L wt (own_rd hput) (own_rd (own_below hz bt))).mono ?_; rintro e w' ⟨rfl, rfl⟩)
            | (go_at_call 22; refine (get_keep _ _ l wt (rd_cut RH hl rfl) HBY.out).mono ?_; rintro e w' ⟨rfl, rfl⟩)
            | (go_at_call 23; refine (rget_keep _ _ l wt RB HBY.out).mono ?_; rintro e w' ⟨rfl, rfl⟩))
          go_ret
          exact ⟨by simp [HS.out], HB2.out.trans ((B2.out.trans ((bz.mono B2.out.size).trans (bt.mono (Nat.le_trans B2.out.size bz.size)))).mono HB2.out.size)⟩

theorem rd_nil (w : World) : rd w (.slice none 0 0) [] := .inl ⟨rfl, none, 0, rfl⟩
theorem put_no_keep (k n : Int) (w : World) (hf : fitsK k n = false) :
    Calls Try.prog 19 #[.int .i64 k, .int .i64 n] w fun e w' => e = .returned (.slice none 0 0) ∧ w = w' := (put_no k n w hf).mono fun _ _ h => ⟨h.1, h.2.symm⟩
theorem rput_no_keep (k n : Int) (w : World) (hf : fitsK k n = false) :
    Calls Try.prog 20 #[.int .i64 k, .int .i64 n] w fun e w' => e = .returned (.slice none 0 0) ∧ w = w' := (rput_no k n w hf).mono fun _ _ h => ⟨h.1, h.2.symm⟩

set_option maxHeartbeats 4000000 in
theorem bytes_no (k n : Int) (a2 : Option Addr) (len cap : Nat) (l : List Int) (w : World) (hl : l.length = len) (hr : rd w (.slice a2 len cap) l) (hnil : a2 = none → cap = 0) (hb : byteL l) (hreach : len ≤ 140737488351232)
    (hf : fitsK k n = false) :
    Calls Try.prog 4 #[.int .i64 k, .int .i64 n, .slice a2 len cap] w fun e w' => e = .returned (.bool true) ∧ Below w.heap.size w w' := by
  obtain ⟨v1, w1, w2, g, gcap, run1, run2, hgc, bel2, hown2⟩ := handed a2 len cap l w hl hr hnil hreach
  have HR : Hid (rd w (.slice a2 len cap) l) := hr
  have HO : Hid (w2.ownsRow w.heap.size 5 1 (.slice (some ⟨g, 0, none⟩) (len + 2) gcap) (l ++ [77, 78]).length ((l ++ [77, 78]).map (Value.int .u8))) := hown2
  have HB2 : Hid (Below w.heap.size w w2) := bel2
  have HBY : Hid (byteL l) := hb
  have HF : Hid (fitsK k n = false) := hf
  have i1 : (0 : Int) ≤ (len : Int) := by omega
  have i2 : (len : Int) ≤ (gcap : Int) := by omega
  have HR1 : Hid ((Builtin.append_ #[31, 31] 31 #[.slice none 0 0, .slice a2 len cap]).run Try.prog w = .ok v1 w1) := run1
  have HR2 : Hid ((Builtin.append_ #[31, 31] 31 #[v1, .slice (some ⟨w1.heap.size, 0, none⟩) 2 2]).run Try.prog (w1.alloc (.cells #[.int .u8 77, .int .u8 78] 5)) = .ok (.slice (some ⟨g, 0, none⟩) (len + 2) gcap) w2) := run2
  clear hr hown2 bel2 hb run1 run2 hf hnil
  go_enter Try.func4, Try.ntmps4
  go_wp2_with (first | (at_builtin; refine wpList_append_run rfl _ _ 31 rfl _ _ v1 w1 rfl rfl HR1.out ?_) | (at_builtin; refine wpList_append_run rfl _ _ 31 rfl _ _ _ w2 rfl rfl HR2.out ?_) | (go_at_call 19; refine (put_no_keep _ _ w2 HF.out).mono ?_; rintro e wp ⟨rfl, rfl⟩))
  refine wp_loop_rounds 1 ?_
  rw [rounds_succ]
  go_wp2_with fail
  go_loopw [9, 12] (fun p i w3 => ∃ (t : Nat) (ys : List Value), t ≤ 9 ∧ i = .int .i64 t ∧ w3.ownsRow w2.heap.size 5 1 p (0 + t) ys ∧ w2.grownBy w3 none ∧ (p.ownBlock = none ∨ ∀ x, p.ownBlock = some x → w2.heap.size ≤ x)) (fun _ i _ => 9 - (intOf i).toNat)
  case atStart => exact ⟨0, _, Nat.zero_le _, rfl, World.ownsRow_nil _ _ _ _, World.grownBy.refl _ _, .inl rfl⟩
  case round =>
    obtain ⟨t, ys, ht, rfl, hown, hgr, hblk⟩ := hrel
    obtain ⟨ap, cp, rfl⟩ := own_form hown
    by_cases ht9 : t < 9
    · obtain ⟨v', w', hrun, hown', hgr', hblk'⟩ := one_more hown (Nat.le_refl _) hgr hblk (by omega)
      have HRUN : Hid ((Builtin.append_ #[31, 31] 31 #[.slice ap (0 + t) cp, .slice (some ⟨wr.heap.size, 0, none⟩) 1 1]).run Try.prog (wr.alloc (.cells #[.int .u8 99] 5)) = .ok v' w') := hrun
      have HX : Hid (w'.ownsRow w2.heap.size 5 1 v' (0 + t + 1) (ys ++ [.int .u8 99]) ∧ w2.grownBy w' none ∧ (v'.ownBlock = none ∨ ∀ x, v'.ownBlock = some x → w2.heap.size ≤ x)) := ⟨hown', hgr', hblk'⟩
      clear hrun hown' hgr' hblk' hown hgr hblk
      go_wp2_with (at_builtin; refine wpList_append_run rfl _ _ 31 rfl _ _ v' w' rfl rfl HRUN.out ?_)
      go_roundw
      case rel => exact ⟨t + 1, _, by omega, by go_num, HX.out.1, HX.out.2.1, HX.out.2.2⟩
      case measure => simp [intOf]; omega
    · have e9 : t = 9 := by omega
      subst e9
      have B2 : Hid (Below w2.heap.size w2 wr) := below_of_grown hgr (Nat.le_refl _) (fun x hx => by simp at hx)
      have HS : Hid (strOfNums (l ++ [77, 78]) = strOfNums l ++ { data := #[77, 78] }) := str_more l
      have hsz : (strOfNums l).size = len := by rw [strOfNums_size, hl]
      have RH := own_rd (own_below HO.out B2.out)
      have RB := rd_below HR.out (HB2.out.trans (B2.out.mono HB2.out.size))
      have CH := conv_rd RH
      have CB := conv_rd RB
      clear hown hgr hblk HR1 HR2 ht9 ht
      go_wp2_with (first
        | (go_at_call 20; refine (rput_no_keep _ _ wr HF.out).mono ?_; rintro e w' ⟨rfl, rfl⟩)
        | (go_at_call 19; refine (put_no_keep _ _ wr HF.out).mono ?_; rintro e w' ⟨rfl, rfl⟩)
        | (go_at_call 21; refine (same_keep _ _ [] wr (rd_nil _) (rd_nil _)).mono ?_; rintro e w' ⟨rfl, rfl⟩)
        | (go_at_call 22; refine (get_keep _ _ l wr (rd_cut RH hl rfl) HBY.out).mono ?_; rintro e w' ⟨rfl, rfl⟩)
        | (go_at_call 23; refine (rget_keep _ _ l wr RB HBY.out).mono ?_; rintro e w' ⟨rfl, rfl⟩))
      go_ret
      exact ⟨by simp [HS.out], HB2.out.trans (B2.out.mono HB2.out.size)⟩
end Go.Proofs.Ytnjlomdkenondaa
