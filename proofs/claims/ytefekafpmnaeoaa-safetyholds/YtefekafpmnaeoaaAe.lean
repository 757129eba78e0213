/- The law: what is down stays down. -/
import Derived.Test.YtefekafpmnaeoaaAd
import Derived.Test.YtefekafpmnaeoaaU
namespace Go.Proofs.Ytefekafpmnaeoaa
open Go.RowKit
attribute [local go_sem ↓] Go.wp_at_zero Go.wp_at_succ
set_option linter.unusedVariables false
set_option linter.unusedSimpArgs false

theorem ot_kept {B : Nat} {w w' : World} {a : Option Addr} {c : Nat} {l : List Int} (h : OwnL B w a c l) (hg : w.grownBy w' none) : OwnL B w' a c l := h.kept hg
set_option maxRecDepth 10000 in
set_option maxHeartbeats 8000000 in
theorem holdsLaw_any (bl : List (Int × List Int)) (delay : Int) (st : List (List Int × Bool)) (v s : Value) (w : World) (hv : rdVs w v bl) (hs : rdTs w s st) (hdl : in64 delay) (hz : ∀ b ∈ bl, in64 b.1 ∧ ∀ x ∈ b.2, in64 x) (hl : OkL bl) (hzs : ∀ b ∈ st, (∀ x ∈ b.1, in64 x) ∧ b.1.length ≤ 17592186043904) (hsl : st.length ≤ 17592186043904) :
    Calls Try.prog 5 #[v, .int .i64 delay, s] w fun e w' => e = .returned (.bool true) ∧ w.grownBy w' none := by
  obtain ⟨sa, sc, rfl, _⟩ := id hs
  obtain ⟨va, vc, rfl, _⟩ := id hv
  by_cases h500 : 500 < st.length
  · have h5 : (500 : Int) < (st.length : Int) := by omega
    go_enter Try.func5, Try.ntmps5
    go_wp2
    go_ret
    exact ⟨rfl, World.grownBy.refl _ _⟩
  have h5 : ¬ (500 : Int) < (st.length : Int) := by omega
  have cG := guard_any bl delay _ w hv hdl hz hl
  have hD4 := pk_lt delay (m := 4) (by omega)
  obtain ⟨D, hD⟩ : ∃ d, pk delay 4 = d := ⟨_, rfl⟩
  obtain ⟨L, hL⟩ : ∃ L, gvs bl = L := ⟨_, rfl⟩
  have hck : (checkF 6 (D : Int) L).1 = 0 := by rw [← hL]; exact gvs_ok bl (by omega) (by omega)
  rw [hD] at cG hD4
  rw [hL] at cG
  obtain ⟨_, _, hn1, hn16, _, _, hvok⟩ := checkF_ok hck
  have hOk : OkL L := ⟨by omega, fun x hx => by
    have hv0 := hvok x hx
    have h1 := ok_named (se := 6) hv0 (by omega)
    have h2 : x.2.Nodup := by
      unfold voteE at hv0
      split at hv0
      · omega
      split at hv0
      · omega
      split at hv0
      · omega
      · next _ _ h => exact twB_no.1 (by simpa using h)
    have := nodup_len 6 h2 h1
    omega⟩
  obtain ⟨n, hn⟩ : ∃ n, L.length = n := ⟨_, rfl⟩
  have HN := hidI hn
  obtain ⟨ms, hms⟩ : ∃ n, st.length = n := ⟨_, rfl⟩
  have HMS := hidI hms
  have HIN := hidI (And.intro hs (And.intro hzs (And.intro hck hOk)))
  rw [hn] at hn1 hn16
  rw [hms] at h500 h5 hsl ⊢
  clear hD hL hvok hs hv hz hl hzs hck hOk hn hms
  go_enter Try.func5, Try.ntmps5
  go_wp2_with fail
  refine cG.mono ?_
  rintro e w1 ⟨ga, gc, ns, rfl, hrow, g1⟩
  rw [HN.out]
  have hrd1 : rdVs w1 (.slice ga n gc) L := by have := hrow.row.rd; rw [HN.out] at this; exact this
  have gA1 : w1.grownBy (w1.alloc (.cells #[.int .i64 6, .int .i64 (D : Int), .slice ga n gc] 24)) none := gr_alloc (World.grownBy.refl _ _) _
  have k7 : (w1.alloc (.cells #[.int .i64 6, .int .i64 (D : Int), .slice ga n gc] 24)).heap[w1.heap.size]? = _ := heap_alloc_new _ _
  have z7 : (w1.alloc (.cells #[.int .i64 6, .int .i64 (D : Int), .slice ga n gc] 24)).heap.size = w1.heap.size + 1 := by simp
  go_upto_region 4 with fail
  obtain ⟨q7, hq7⟩ : ∃ x, w1.heap.size = x := ⟨_, rfl⟩
  rw [hq7] at k7 z7 ⊢
  generalize w1.alloc (.cells #[.int .i64 6, .int .i64 (D : Int), .slice ga n gc] 24) = A1 at *
  have H1 := hidI (And.intro hq7 (And.intro g1 (And.intro hrd1 (And.intro gA1 (And.intro k7 z7)))))
  obtain ⟨i0, i1, i2⟩ := at3 k7
  have cS := start_any 6 (D : Int) L _ A1 (rdVs_grown hrd1 gA1) HIN.out.2.2.2
  have hT0 : startT 6 (D : Int) L = ⟨false, -1, List.replicate n 0, false⟩ := by unfold startT; rw [HIN.out.2.2.1, if_pos rfl, HN.out]
  rw [hT0, HIN.out.2.2.1] at cS
  clear hq7 g1 hrd1 gA1 k7 z7 hrow cG hT0
  go_wp2_with fail
  refine cS.mono ?_
  rintro e w2 ⟨V2, rfl, a2, s2, rfl, o2, g2⟩
  dsimp only [trV, trA] at *
  clear cS i0 i1 i2
  rw [List.length_replicate]
  have gA2 : A1.grownBy (w2.alloc (.cells #[.bool false, .int .i64 (-1), .slice a2 n s2, .bool false] 28)) none := gr_alloc g2 _
  have k8 : (w2.alloc (.cells #[.bool false, .int .i64 (-1), .slice a2 n s2, .bool false] 28)).heap[w2.heap.size]? = _ := heap_alloc_new _ _
  have o2' := OwnL.kept o2 (gr_alloc (World.grownBy.refl w2 none) (.cells #[.bool false, .int .i64 (-1), .slice a2 n s2, .bool false] 28))
  have z8 : (w2.alloc (.cells #[.bool false, .int .i64 (-1), .slice a2 n s2, .bool false] 28)).heap.size = w2.heap.size + 1 := by simp
  have b2 := own_lt o2
  go_upto_region 5 with fail
  obtain ⟨q8, hq8⟩ : ∃ x, w2.heap.size = x := ⟨_, rfl⟩
  rw [hq8] at k8 z8 b2 ⊢
  generalize w2.alloc (.cells #[.bool false, .int .i64 (-1), .slice a2 n s2, .bool false] 28) = A2 at *
  have sA1 := g2.size
  have k7' := kept gA2 H1.out.2.2.2.2.1
  obtain ⟨i0, i1, i2⟩ := at3 k7'
  obtain ⟨j0, j1, j2, j3⟩ := at4 k8
  have hmk := make_ints n (by omega) A2
  rw [z8] at hmk
  have gM : A2.grownBy (A2.alloc (.cells (intsA (List.replicate n 0)) 3)) none := gr_alloc (World.grownBy.refl _ _) _
  have hOw : OwnV (q8 + 1) (A2.alloc (.cells (intsA (List.replicate n 0)) 3)) (.slice (some ⟨q8 + 1, 0, none⟩) n n) (List.replicate n 0) := by
    have := own_made (w := A2) (B := q8 + 1) (n := n) (by omega) (by omega)
    unfold OwnL at this
    rw [z8, List.length_replicate] at this
    unfold OwnV
    rw [List.length_replicate]
    exact this
  have HST : Hid (w1.grownBy (A2.alloc (.cells (intsA (List.replicate n 0)) 3)) none ∧ (A2.alloc (.cells (intsA (List.replicate n 0)) 3)).heap[q7]? = some (.cells #[.int .i64 6, .int .i64 (D : Int), .slice ga n gc] 24) ∧ (A2.alloc (.cells (intsA (List.replicate n 0)) 3)).heap[q8]? = some (.cells #[.bool false, .int .i64 (-1), .slice a2 n s2, .bool false] 28) ∧ OwnL (q7 + 1) (A2.alloc (.cells (intsA (List.replicate n 0)) 3)) a2 s2 (List.replicate n 0) ∧ (∀ x, (Value.slice a2 (List.replicate n (0 : Int)).length s2).ownBlock = some x → x ≠ q8 ∧ x ≠ q8 + 1) ∧ OwnV (q8 + 1) (A2.alloc (.cells (intsA (List.replicate n 0)) 3)) (.slice (some ⟨q8 + 1, 0, none⟩) (List.replicate n (0 : Int)).length n) (List.replicate n 0)) := hidI ⟨grown_join (grown_join H1.out.2.2.2.1 gA2 (.inl rfl)) gM (.inl rfl), kept gM k7', kept gM k8, by have h9 := H1.out.2.2.2.2.2; rw [h9] at o2'; exact o2'.kept gM, fun x hx => by have := b2 x hx; omega, by rw [List.length_replicate]; exact hOw⟩
  have H78 : Hid (q7 < q8) := hidI (by have := H1.out.2.2.2.2.2; omega)
  clear hq8 gA2 k8 o2' z8 b2 o2 g2 sA1 k7' gM hOw
  go_wp2_with fail
  clear hmk i0 i1 i2 j0 j1 j2 j3
  go_loopg [11, 12] ms (fun gk s11 s12 wx => ∃ (k : Nat) (T : Tr) (a : Option Addr) (c : Nat) (lg : List Int), s12 = .int .i64 k ∧ s11 = .bool T.k ∧ k ≤ ms ∧ gk = ms - k ∧ Hid (w1.grownBy wx none ∧ wx.heap[q7]? = some (.cells #[.int .i64 6, .int .i64 (D : Int), .slice ga n gc] 24) ∧ wx.heap[q8]? = some (.cells (trA T (.slice a n c)) 28) ∧ OwnL (q7 + 1) wx a c T.h ∧ (∀ x, (Value.slice a T.h.length c).ownBlock = some x → x ≠ q8 ∧ x ≠ q8 + 1) ∧ OwnV (q8 + 1) wx (.slice (some ⟨q8 + 1, 0, none⟩) lg.length n) lg ∧ lg.length = n ∧ mayB (D : Int) n T = true ∧ Cut (D : Int) n T.h lg ∧ ∀ x ∈ lg, 0 ≤ x ∧ x ≤ (k : Int)))
  case atStart => exact ⟨0, ⟨false, -1, List.replicate n 0, false⟩, a2, s2, List.replicate n 0, rfl, rfl, Nat.zero_le _, by omega, hidI ⟨HST.out.1, HST.out.2.1, HST.out.2.2.1, HST.out.2.2.2.1, HST.out.2.2.2.2.1, HST.out.2.2.2.2.2, by simp, mayB_iff.2 ⟨by simp, fun x hx => by rw [List.mem_replicate] at hx; omega, by simp⟩, fun i hi => by
      have e1 : (List.replicate n (0 : Int)).getD i 0 = 0 := by simp [List.getD, hi]
      dsimp only
      rw [e1, if_pos (by omega)]
      simp, fun x hx => by rw [List.mem_replicate] at hx; omega⟩⟩
  case round =>
  clear HST
  obtain ⟨k, T, a, c, lg, rfl, rfl, hk, hgk, HK⟩ := hrel
  have HG := hidI hgk
  clear hgk
  by_cases hlt : k < ms
  case neg =>
    have hk' : ¬ ((k : Int) < (ms : Int)) := by omega
    go_wp2
    go_ret
    exact ⟨rfl, grown_join H1.out.2.1 HK.out.1 (.inl rfl)⟩
  obtain ⟨hgw, hq7, hq8, ho, hxo, hlong, hlgl, hmay, hcut, hlgr⟩ := HK.out
  have hkl : k < st.length := by rw [HMS.out]; exact hlt
  obtain ⟨sa1, sc1, ev, h | ⟨b, off, rfl, hc⟩⟩ := rdTs_grown HIN.out.1 H1.out.2.1
  · subst h; simp at hkl
  simp at ev
  obtain ⟨rfl, rfl⟩ := ev
  obtain ⟨u, q0, q1, hu⟩ := hc k hkl
  have HBW := hidI (cell_lt q1)
  have q0 := hgw.cell q0 (by simp)
  have q1 := hgw.cell q1 (by simp)
  have hu := rd_grown hu hgw
  have hVl : st.getD k ([], false) = st[k] := by simp [List.getD, hkl]
  have hraw : (∀ x ∈ (st.getD k ([], false)).1, in64 x) ∧ (st.getD k ([], false)).1.length ≤ 17592186043904 := by rw [hVl]; exact HIN.out.2.1 _ (List.getElem_mem hkl)
  clear hc hkl hVl
  generalize st.getD k ([], false) = V at *
  obtain ⟨raw, key⟩ := V
  dsimp only at *
  obtain ⟨ua, uc, rfl, _⟩ := id hu
  have cT := tellS_any raw key _ wr hu hraw.1 hraw.2
  have htl := tellL_len raw
  have htk := tellL_ok raw
  obtain ⟨told, htold⟩ : ∃ t, tellL raw = t := ⟨_, rfl⟩
  rw [htold] at cT htl htk
  clear htold hu hraw
  have y3 : (0 : Int) ≤ (k : Int) := by omega
  have y4 : (k : Int) < (ms : Int) := by omega
  have HQ := hidI (And.intro q0 q1)
  have HQW : Hid (q8 + 1 < wr.heap.size) := hidI (World.ownsRow.lt hlong (q8 + 1) rfl).2
  clear hgw hq7 hq8 ho hxo hlong hlgl hmay hcut hlgr
  go_wp2_with fail
  refine cT.mono ?_
  rintro e w3 ⟨ta, tc, rfl, ot, g3⟩
  clear cT
  obtain ⟨hgw, hq7, hq8, ho, hxo, hlong, hlgl, hmay, hcut, hlgr⟩ := HK.out
  have hq7' := kept g3 hq7
  have hq8' := kept g3 hq8
  obtain ⟨i0, i1, i2⟩ := at3 hq7'
  have q1' := g3.cell HQ.out.2 (by simp)
  have ho' := ho.kept g3
  have hrd3 := rdVs_grown H1.out.2.2.1 (grown_join hgw g3 (.inl rfl))
  have hmay' : mayB (D : Int) L.length T = true := by rw [HN.out]; exact hmay
  have hE0 : stepE 6 (D : Int) L T told = 0 := step_zero HIN.out.2.2.1 hmay' (by rw [htl]; rfl) htk
  have hhn : T.h.length = n := (mayB_iff.1 hmay).1
  have cS := fun (X : World) (hX : w3.grownBy X none) => step_any 6 (D : Int) L T told key _ _ _ X (rdVs_grown hrd3 hX) (ho'.kept hX).rd (ot.kept hX).rd HIN.out.2.2.2 (by omega) (by omega)
  have hUU : stepT 6 (D : Int) L T told key = nextT (D : Int) L T told key := by unfold stepT; rw [hE0, if_pos rfl]
  rw [hE0, hUU, hhn] at cS
  obtain ⟨UU, hUe⟩ : ∃ U, nextT (D : Int) L T told key = U := ⟨_, rfl⟩
  have HUE := hidI hUe
  have hmayU : mayB (D : Int) n UU = true := by rw [← hUe, ← HN.out]; exact next_may (by omega) hmay'
  have hUn : UU.h.length = n := (mayB_iff.1 hmayU).1
  have hUh : UU.h = heldL (D : Int) told L T.h := by
    rw [← hUe]; unfold nextT
    split
    · split <;> rfl
    · rfl
  have hUk : UU.k = key := by
    rw [← hUe]; unfold nextT
    split
    · split <;> rfl
    · rfl
  rw [hUe] at cS
  have HU := hidI (And.intro hmayU (And.intro hUn (And.intro hUh hUk)))
  have hg13 := grown_join hgw g3 (.inl rfl)
  have HK3 := hidI (And.intro hg13 (And.intro hq7' (And.intro hq8' (And.intro ho' (And.intro hxo (And.intro (own_keep hlong g3) (And.intro hlgl (And.intro hmay (And.intro hcut (And.intro hlgr (And.intro hhn (And.intro (ot.kept (World.grownBy.refl _ _)) hE0))))))))))))
  have HTL := hidI (And.intro htl htk)
  have HLO3 := hidI HK3.out.2.2.2.2.2.1
  clear hgw hq7 hq8 ho hxo hlong hlgl hmay hcut hlgr hq7' ho' hrd3 hmay' hUe hmayU hUn hUh hUk hg13 ot g3 hE0 hUU HK q0 q1 htk
  obtain ⟨d, f, hh, kk⟩ := T
  dsimp only [trV, trA] at *
  obtain ⟨j0, j1, j2, j3⟩ := at4 hq8'
  clear hq8' hhn htl
  obtain ⟨ud, uf, uh, uk⟩ := UU
  dsimp only at HU
  go_wp2_with fail
  go_cut [14, 15] from 45 to 173 (fun s14 s15 wx => ∃ qu au cu, s14 = .pointer (some ⟨qu, 0, none⟩) ∧ s15 = .int .i64 0 ∧ Hid (wx.heap[qu]? = some (.cells #[.bool ud, .int .i64 uf, .slice au n cu, .bool uk] 28) ∧ OwnL w3.heap.size wx au cu uh ∧ w3.grownBy wx none ∧ w3.heap.size ≤ qu ∧ ∀ x, (Value.slice au uh.length cu).ownBlock = some x → x ≠ qu))
  case first =>
    have HKEEP : Hid (∀ X : World, w3.grownBy X none → X.cell? ⟨q7, 0, none⟩ = some (.int .i64 6) ∧ X.cell? ⟨q7, 1, none⟩ = some (.int .i64 (D : Int)) ∧ X.cell? ⟨q7, 2, none⟩ = some (.slice ga n gc) ∧ X.cell? ⟨q8, 0, none⟩ = some (.bool d) ∧ X.cell? ⟨q8, 1, none⟩ = some (.int .i64 f) ∧ X.cell? ⟨q8, 2, none⟩ = some (.slice a n c) ∧ X.cell? ⟨q8, 3, none⟩ = some (.bool kk) ∧ X.cell? ⟨b, off + k * 2 + 1, none⟩ = some (.bool key)) := hidI (fun X hX => ⟨hX.cell i0 (by simp), hX.cell i1 (by simp), hX.cell i2 (by simp), hX.cell j0 (by simp), hX.cell j1 (by simp), hX.cell j2 (by simp), hX.cell j3 (by simp), hX.cell q1' (by simp)⟩)
    go_region_held3 (fun X => X.cell? ⟨q7, 0, none⟩ = some (.int .i64 6) ∧ X.cell? ⟨q7, 1, none⟩ = some (.int .i64 (D : Int)) ∧ X.cell? ⟨q7, 2, none⟩ = some (.slice ga n gc) ∧ X.cell? ⟨q8, 0, none⟩ = some (.bool d) ∧ X.cell? ⟨q8, 1, none⟩ = some (.int .i64 f) ∧ X.cell? ⟨q8, 2, none⟩ = some (.slice a n c) ∧ X.cell? ⟨q8, 3, none⟩ = some (.bool kk) ∧ X.cell? ⟨b, off + k * 2 + 1, none⟩ = some (.bool key)) (first | (go_keep; done) | exact HKEEP.out _ (by assumption) | exact HKEEP.out _ (gr_drew (by assumption)) | exact HKEEP.out _ (gr_alloc (by assumption) _) | exact HKEEP.out _ (gr4n (by assumption) (Nat.le_refl _)))
      ((go_at_call 16; refine (cS _ (by first | assumption | exact World.grownBy.refl _ _ | exact gr_drew (World.grownBy.refl _ _) | exact gr_drew (by assumption) | exact gr_alloc (World.grownBy.refl _ _) _ | exact gr_alloc (gr_drew (World.grownBy.refl _ _)) _ | exact gr_drew (gr_alloc (World.grownBy.refl _ _) _) | exact gr_drew (gr_alloc (gr_drew (World.grownBy.refl _ _)) _))).mono ?_; rintro e w5 ⟨V5, rfl, a5, c5, rfl, ho5, g5'⟩; have g5 : w3.grownBy w5 none := (grown_join (by first | assumption | exact World.grownBy.refl _ _ | exact gr_drew (World.grownBy.refl _ _) | exact gr_drew (by assumption) | exact gr_alloc (World.grownBy.refl _ _) _ | exact gr_alloc (gr_drew (World.grownBy.refl _ _)) _ | exact gr_drew (gr_alloc (World.grownBy.refl _ _) _) | exact gr_drew (gr_alloc (gr_drew (World.grownBy.refl _ _)) _)) g5' (.inl rfl)); have hun := HU.out.2.1; have HO5 := hidI ho5; (try dsimp only [trV, trA]); (try dsimp only at hun); rw [hun]; clear hun ho5; try (have B5 : w5.heap[w3.heap.size]? = some (.cells #[.bool false, .int .i64 0, .slice none 0 0, .bool false] 28) := (by first | exact kept g5' (heap_alloc_new w3 _) | exact kept g5' (heap_alloc_new w3.drew _)); obtain ⟨u0, u1, u2, u3⟩ := at4 B5; obtain ⟨v0, v1, v2, v3⟩ := fz4 B5; have HB5 := hidI B5; clear B5)))
    · have h5 := g5'.size
      have o5 := own_lt HO5.out
      go_wp2_with fail
      go_meet
      exact ⟨w5.heap.size, a5, c5, rfl, rfl, hidI ⟨heap_alloc_new _ _, OwnL.kept HO5.out (gr_alloc (World.grownBy.refl _ _) _), gr_alloc g5 _, g5.size, fun x hx => by have := o5 x hx; omega⟩⟩
    · have o5 := own_lt HO5.out
      go_wp2_with fail
      go_meet
      refine ⟨w3.heap.size, a5, c5, rfl, rfl, hidI ⟨box4 HB5.out, own_low (own_but HO5.out (gr4 (World.grownBy.refl _ _)) (by simp)) (by simp), gr4n g5 (Nat.le_refl _), Nat.le_refl _, fun x hx => by have := o5 x hx; simp at this; omega⟩⟩
  case rest =>
  obtain ⟨qu, au, cu, rfl, rfl, HC⟩ := hcut
  obtain ⟨hbu, hou, hgu, hsu, hxu⟩ := HC.out
  have HKEY := hidI (hgu.cell q1' (by simp))
  clear i0 i1 i2 j0 j1 j2 j3 q1' cS
  obtain ⟨hg13, hq7', hq8', ho', hxo, hlong, hlgl, hmay, hcut', hlgr, hhn, hot, hE0⟩ := HK3.out
  have hq73 : q8 + 1 < w3.heap.size := by
    have := World.ownsRow.lt hlong (q8 + 1) rfl
    omega
  have HB := hidI (And.intro (grown_join hg13 hgu (.inl rfl)) (And.intro (kept hgu hq7') (And.intro (kept hgu hq8') (And.intro hbu (And.intro (hou.kept (World.grownBy.refl _ _)) (And.intro (fun x hx => (⟨hxu x hx, by have := own_lt hou x hx; omega⟩ : x ≠ qu ∧ q8 + 1 < x)) (And.intro (own_keep hlong hgu) (And.intro (ot_kept hot hgu) (by omega : q8 + 1 < qu)))))))))
  have HP := hidI (And.intro hlgl (And.intro hmay (And.intro hcut' (And.intro hlgr hhn))))
  clear hbu hou hgu hsu hxu hg13 hq7' hq8' ho' hxo hlong hlgl hmay hcut' hlgr hhn hot hE0 HC HK3 hq73
  obtain ⟨HL, hHL⟩ : ∃ l', heldL (D : Int) told L hh = l' := ⟨_, rfl⟩
  have HHL := hidI hHL
  have hHLn : HL.length = n := by rw [← hHL]; simp [heldL]; exact HN.out
  have HHN := hidI hHLn
  clear hHL hHLn
  go_wp2_with fail
  go_loopg [16, 17, 18] n (fun gk s16 s17 s18 wx => ∃ (i : Nat) (sm : Bool) (rp : Int), s18 = .int .i64 i ∧ s16 = .bool sm ∧ s17 = .int .i64 rp ∧ i ≤ n ∧ -1 ≤ rp ∧ gk = n - i ∧ Hid (sm = (HL.take i).any (ou 0 0) ∧ rp = ixOf (HL.take i) ((D : Int) + 1) ∧ wc.grownBy wx (some (q8 + 1)) ∧ OwnV (q8 + 1) wx (.slice (some ⟨q8 + 1, 0, none⟩) (lgK told L lg n i).length n) (lgK told L lg n i)))
  case atStart => exact ⟨0, false, -1, rfl, rfl, rfl, Nat.zero_le _, by omega, by omega, hidI ⟨by simp, by simp [ixOf], World.grownBy.refl _ _, by rw [show lgK told L lg n 0 = lg from by have h := lgK_zero told L lg; rw [HP.out.1] at h; exact h]; exact HB.out.2.2.2.2.2.2.1⟩⟩
  case round =>
  obtain ⟨i, sm, rp, rfl, rfl, rfl, hin, hrp, hgi, HI⟩ := hrel
  have HGI := hidI hgi
  clear hgi
  by_cases hlti : i < n
  case neg =>
    have hni : ¬ (i : Int) < (n : Int) := by omega
    have hie : i = n := by omega
    subst hie
    obtain ⟨hsm, hrpe, hgi, hlo⟩ := HI.out
    have htake : HL.take i = HL := List.take_of_length_le (by rw [HHN.out]; exact Nat.le_refl _)
    rw [htake] at hsm hrpe
    obtain ⟨b1, b2, b3, b4, b5, b6, b7, b8, b9⟩ := HB.out
    have h78 := H78.out
    have hq1 := H1.out.1
    have k7 := keptBut hgi b2 (by omega)
    have k8 := keptBut hgi b3 (by omega)
    have ku := keptBut hgi b4 (by omega)
    have hkey := hgi.cell HKEY.out (by have := HBW.out; simp; omega)
    have hou : OwnL _ wr au cu uh := own_ne b5 hgi (fun x hx e => by have := (b6 x hx).2; injection e with e; omega)
    have hsu : q7 + 1 ≤ w3.heap.size := by have := (World.ownsRow.lt HLO3.out (q8 + 1) rfl).2; omega
    have hc7 : Cut (D : Int) i uh (lgK told L lg i i) := by
      have := cut_next (l := L) (by rw [HN.out]; exact HP.out.2.2.1) (by omega) told
      rw [HN.out] at this
      rw [HU.out.2.2.1]
      exact this
    have hrng : ∀ x ∈ lgK told L lg i i, 0 ≤ x ∧ x ≤ ((k + 1 : Nat) : Int) := fun x hx => by
      unfold lgK at hx
      rw [List.mem_map] at hx
      obtain ⟨r, hr, rfl⟩ := hx
      rw [List.mem_range] at hr
      rw [if_pos hr]
      have hlm := HP.out.2.2.2.1 (lg.getD r 0) (by
        have : lg.getD r 0 = lg[r]'(by rw [HP.out.1]; exact hr) := by simp [List.getD, HP.out.1, hr]
        rw [this]; exact List.getElem_mem _)
      unfold lgN
      split <;> omega
    have g8 : wr.grownBy ((((wr.setCell ⟨q8, 0, none⟩ (.bool ud)).setCell ⟨q8, 1, none⟩ (.int .i64 uf)).setCell ⟨q8, 2, none⟩ (.slice au i cu)).setCell ⟨q8, 3, none⟩ (.bool uk)) (some q8) := gr4 (World.grownBy.refl _ _)
    have HNW : Hid (w1.grownBy ((((wr.setCell ⟨q8, 0, none⟩ (.bool ud)).setCell ⟨q8, 1, none⟩ (.int .i64 uf)).setCell ⟨q8, 2, none⟩ (.slice au i cu)).setCell ⟨q8, 3, none⟩ (.bool uk)) none ∧ ((((wr.setCell ⟨q8, 0, none⟩ (.bool ud)).setCell ⟨q8, 1, none⟩ (.int .i64 uf)).setCell ⟨q8, 2, none⟩ (.slice au i cu)).setCell ⟨q8, 3, none⟩ (.bool uk)).heap[q7]? = some (.cells #[.int .i64 6, .int .i64 (D : Int), .slice ga i gc] 24) ∧ ((((wr.setCell ⟨q8, 0, none⟩ (.bool ud)).setCell ⟨q8, 1, none⟩ (.int .i64 uf)).setCell ⟨q8, 2, none⟩ (.slice au i cu)).setCell ⟨q8, 3, none⟩ (.bool uk)).heap[q8]? = some (.cells #[.bool ud, .int .i64 uf, .slice au i cu, .bool uk] 28) ∧ OwnL (q7 + 1) ((((wr.setCell ⟨q8, 0, none⟩ (.bool ud)).setCell ⟨q8, 1, none⟩ (.int .i64 uf)).setCell ⟨q8, 2, none⟩ (.slice au i cu)).setCell ⟨q8, 3, none⟩ (.bool uk)) au cu uh ∧ (∀ x, (Value.slice au uh.length cu).ownBlock = some x → x ≠ q8 ∧ x ≠ q8 + 1) ∧ OwnV (q8 + 1) ((((wr.setCell ⟨q8, 0, none⟩ (.bool ud)).setCell ⟨q8, 1, none⟩ (.int .i64 uf)).setCell ⟨q8, 2, none⟩ (.slice au i cu)).setCell ⟨q8, 3, none⟩ (.bool uk)) (.slice (some ⟨q8 + 1, 0, none⟩) (lgK told L lg i i).length i) (lgK told L lg i i) ∧ mayB (D : Int) i ⟨ud, uf, uh, uk⟩ = true ∧ Cut (D : Int) i uh (lgK told L lg i i) ∧ ∀ x ∈ lgK told L lg i i, 0 ≤ x ∧ x ≤ ((k + 1 : Nat) : Int)) := hidI ⟨gr4n (grown_join b1 hgi (.inr (fun x hx => by injection hx with hx; omega))) (by omega), keptBut g8 k7 (by omega), box4 k8, own_low (own_ne hou g8 (fun x hx e => by have := (b6 x hx).2; injection e with e; omega)) hsu, fun x hx => by have := (b6 x hx).2; omega, own_ne hlo g8 (fun x hx e => by simp [Value.ownBlock] at hx; injection e with e; omega), HU.out.1, hc7, hrng⟩
    obtain ⟨r0, r1, r2⟩ := at3 k7
    obtain ⟨j0, j1, j2, j3⟩ := at4 k8
    obtain ⟨v0, v1, v2, v3⟩ := at4 ku
    obtain ⟨f0, f1, f2, f3⟩ := fz4 k8
    have HSX := hidI (And.intro hsm hrpe)
    have hmT := (mayB_iff.1 HP.out.2.1).2.2
    have hU := HUE.out
    unfold nextT at hU
    dsimp only at hU hmT
    rw [HHL.out, ← hrpe, ← hsm] at hU
    clear hsm hrpe hgi hlo htake b1 b2 b3 b4 b5 b6 b7 b8 b9 h78 hq1 k7 k8 ku hou hsu hc7 hrng g8 HI
    cases d with
    | false =>
      simp only [Bool.false_eq_true, if_false] at hmT hU
      subst hmT
      by_cases hrp0 : 0 ≤ rp
      · have hrn : ¬ rp = -1 := by omega
        simp only [ne_eq, hrn, not_false_eq_true, decide_true, Tr.mk.injEq] at hU
        obtain ⟨h1, h2, h3, h4⟩ := hU
        subst h1 h2 h3 h4
        go_wp2
        have hgl := HG.out
        obtain ⟨n1, n2, n3, n4, n5, n6, n7, n8, n9⟩ := HNW.out
        go_roundg (ms - (k + 1))
        all_goals first | omega | exact ⟨k + 1, ⟨true, rp, HL, key⟩, au, cu, lgK told L lg i i, by go_num, rfl, by omega, by omega, hidI ⟨n1, n2, n3, n4, n5, n6, lgK_len _ _ _ _ _, n7, n8, n9⟩⟩
      · have hre : rp = -1 := by omega
        subst hre
        simp only [ne_eq, not_true_eq_false, decide_false, Tr.mk.injEq] at hU
        obtain ⟨h1, h2, h3, h4⟩ := hU
        subst h1 h2 h3 h4
        go_wp2
        have hgl := HG.out
        obtain ⟨n1, n2, n3, n4, n5, n6, n7, n8, n9⟩ := HNW.out
        go_roundg (ms - (k + 1))
        all_goals first | omega | exact ⟨k + 1, ⟨false, -1, HL, key⟩, au, cu, lgK told L lg i i, by go_num, rfl, by omega, by omega, hidI ⟨n1, n2, n3, n4, n5, n6, lgK_len _ _ _ _ _, n7, n8, n9⟩⟩
    | true =>
      simp only [if_true] at hmT hU
      cases key with
      | false =>
        simp only [Bool.false_and, Bool.false_eq_true, if_false, Tr.mk.injEq] at hU
        obtain ⟨h1, h2, h3, h4⟩ := hU
        subst h1 h2 h3 h4
        go_wp2
        have hgl := HG.out
        obtain ⟨n1, n2, n3, n4, n5, n6, n7, n8, n9⟩ := HNW.out
        go_roundg (ms - (k + 1))
        all_goals first | omega | exact ⟨k + 1, ⟨true, f, HL, false⟩, au, cu, lgK told L lg i i, by go_num, rfl, by omega, by omega, hidI ⟨n1, n2, n3, n4, n5, n6, lgK_len _ _ _ _ _, n7, n8, n9⟩⟩
      | true =>
      cases kk with
      | true =>
        simp only [Bool.not_true, Bool.and_false, Bool.false_and, Bool.false_eq_true, if_false, Tr.mk.injEq] at hU
        obtain ⟨h1, h2, h3, h4⟩ := hU
        subst h1 h2 h3 h4
        go_wp2
        have hgl := HG.out
        obtain ⟨n1, n2, n3, n4, n5, n6, n7, n8, n9⟩ := HNW.out
        go_roundg (ms - (k + 1))
        all_goals first | omega | exact ⟨k + 1, ⟨true, f, HL, true⟩, au, cu, lgK told L lg i i, by go_num, rfl, by omega, by omega, hidI ⟨n1, n2, n3, n4, n5, n6, lgK_len _ _ _ _ _, n7, n8, n9⟩⟩
      | false =>
      cases sm with
      | true =>
        simp only [Bool.not_true, Bool.and_false, Bool.false_eq_true, if_false, Tr.mk.injEq] at hU
        obtain ⟨h1, h2, h3, h4⟩ := hU
        subst h1 h2 h3 h4
        go_wp2
        have hgl := HG.out
        obtain ⟨n1, n2, n3, n4, n5, n6, n7, n8, n9⟩ := HNW.out
        go_roundg (ms - (k + 1))
        all_goals first | omega | exact ⟨k + 1, ⟨true, f, HL, true⟩, au, cu, lgK told L lg i i, by go_num, rfl, by omega, by omega, hidI ⟨n1, n2, n3, n4, n5, n6, lgK_len _ _ _ _ _, n7, n8, n9⟩⟩
      | false =>
        simp only [Bool.not_false, Bool.and_self, if_true, Tr.mk.injEq] at hU
        obtain ⟨h1, h2, h3, h4⟩ := hU
        subst h1 h2 h3 h4
        go_wp2
        have hgl := HG.out
        obtain ⟨n1, n2, n3, n4, n5, n6, n7, n8, n9⟩ := HNW.out
        go_roundg (ms - (k + 1))
        all_goals first | omega | exact ⟨k + 1, ⟨false, -1, HL, true⟩, au, cu, lgK told L lg i i, by go_num, rfl, by omega, by omega, hidI ⟨n1, n2, n3, n4, n5, n6, lgK_len _ _ _ _ _, n7, n8, n9⟩⟩
  obtain ⟨hsm, hrpe, hgi, hlo⟩ := HI.out
  obtain ⟨b1, b2, b3, b4, b5, b6, b7, b8, b9⟩ := HB.out
  have h78 := H78.out
  have hq1 := H1.out.1
  have hgw1 : w1.grownBy wr none := grown_join b1 hgi (.inr (fun x hx => by injection hx with hx; omega))
  have hkl : i < L.length := by rw [HN.out]; exact hlti
  obtain ⟨va1, vc1, ev, h | ⟨vb, voff, rfl, hc⟩⟩ := rdVs_grown H1.out.2.2.1 hgw1
  · subst h; simp at hkl
  simp at ev
  obtain ⟨rfl, -, rfl⟩ := ev
  obtain ⟨u, p0, p1, hu⟩ := hc i hkl
  have hVl : L.getD i (0, []) = L[i] := by simp [List.getD, hkl]
  have hof : (L.getD i (0, [])).2.length ≤ 17592186044416 := by
    rw [hVl]; have := HIN.out.2.2.2.2 _ (List.getElem_mem hkl); omega
  have hnm : Named told.length (L.getD i (0, [])).2 := by
    rw [hVl, HTL.out.1]
    exact ok_named (se := 6) ((checkF_ok HIN.out.2.2.1).2.2.2.2.2.2 _ (List.getElem_mem hkl)) (by omega)
  have hlgn := lgK_at told L lg n i hlti
  have hlgm : 0 ≤ lg.getD i 0 ∧ lg.getD i 0 ≤ (k : Int) := HP.out.2.2.2.1 _ (by
    have : lg.getD i 0 = lg[i]'(by rw [HP.out.1]; exact hlti) := by simp [List.getD, HP.out.1, hlti]
    rw [this]; exact List.getElem_mem _)
  have hca := cut_at HP.out.2.2.1 (by omega) told L i hlti
  have hta : HL.take (i + 1) = HL.take i ++ [heldAt (D : Int) told L hh i] := by rw [← HHL.out]; exact heldL_take (D : Int) told L hh i hkl
  have hlN : lgN told L lg i = if holdB told (L.getD i (0, [])).1 (L.getD i (0, [])).2 then lg.getD i 0 + 1 else 0 := rfl
  obtain ⟨y, hy⟩ : ∃ y, lgN told L lg i = y := ⟨_, rfl⟩
  have HY := hidI hy
  rw [hy] at hca hlN
  have c5 := hlo.get i (by rw [lgK_len]; exact hlti)
  have f5 := hlo.frozen i
  rw [hlgn] at c5
  obtain ⟨x, hx⟩ : ∃ x, lg.getD i 0 = x := ⟨_, rfl⟩
  rw [hx] at c5 hlgm hlN
  obtain ⟨hv, hhv⟩ : ∃ v, heldAt (D : Int) told L hh i = v := ⟨_, rfl⟩
  rw [hhv] at hca hta
  have htle : (HL.take i).length = i := by have := HHN.out; simp; omega
  have HSMX : Hid ((HL.take (i + 1)).any (ou 0 0) = (sm || decide (0 < y))) := hidI (by
    rw [hta, List.any_append, ← hsm]
    congr 1
    have h1 := hca.1
    have h2 := hca.2
    simp only [List.any_cons, List.any_nil, Bool.or_false]
    rw [Bool.eq_iff_iff, ou_iff, decide_eq_true_eq]
    split at h1 <;> omega)
  have HRPX : Hid (ixOf (HL.take (i + 1)) ((D : Int) + 1) = if rp = -1 then (if (D : Int) < y then (i : Int) else -1) else rp) := hidI (by
    rw [hta, ixOf_snoc, ← hrpe, htle]
    have h1 := hca.1
    have h2 : hv = (D : Int) + 1 ↔ (D : Int) < y := by split at h1 <;> omega
    simp only [h2])
  -- the worlds
  have hgA : wc.grownBy (wr.setCell ⟨q8 + 1, i, none⟩ (.int .i64 (x + 1))) (some (q8 + 1)) := gr_set hgi _ _
  have hgA1 : w1.grownBy (wr.setCell ⟨q8 + 1, i, none⟩ (.int .i64 (x + 1))) none := grown_join b1 hgA (.inr (fun z hz => by injection hz with hz; omega))
  have hoA : OwnV (q8 + 1) (wr.setCell ⟨q8 + 1, i, none⟩ (.int .i64 (x + 1))) (.slice (some ⟨q8 + 1, 0, none⟩) n n) ((lgK told L lg n i).set i (x + 1)) := by
    have := hlo.store i (x + 1)
    rw [lgK_len] at this
    exact this
  have hk7 : (wr.setCell ⟨q8 + 1, i, none⟩ (.int .i64 (x + 1))).heap[q7]? = _ := keptBut hgA b2 (by omega)
  have hk7r := keptBut hgi b2 (by omega)
  have hotA : OwnL _ (wr.setCell ⟨q8 + 1, i, none⟩ (.int .i64 (x + 1))) ta tc told := own_but b8 hgA HQW.out
  obtain ⟨i0, i1, i2⟩ := at3 hk7
  obtain ⟨r0, r1, r2⟩ := at3 hk7r
  have huA : rd (wr.setCell ⟨q8 + 1, i, none⟩ (.int .i64 (x + 1))) u (L.getD i (0, [])).2 := by
    obtain ⟨_, _, ev, h | ⟨vb', voff', e', hc'⟩⟩ := rdVs_grown H1.out.2.2.1 hgA1
    · subst h; simp at hkl
    · simp at ev
      rw [← ev.1] at e'
      simp at e'
      obtain ⟨rfl, rfl⟩ := e'
      obtain ⟨u', t0, t1, t2⟩ := hc' i hkl
      have hne : vb ≠ q8 + 1 := by
        obtain ⟨_, _, ev2, h | ⟨vb2, voff2, e2, hc2⟩⟩ := H1.out.2.2.1
        · subst h; simp at hkl
        · simp at ev2
          rw [← ev2.1] at e2
          simp at e2
          obtain ⟨_, t3, _⟩ := hc2 i hkl
          have := cell_lt t3
          omega
      rw [ck_set hne p1] at t1
      injection t1 with t1
      rw [t1]
      exact t2
  have p0A : (wr.setCell ⟨q8 + 1, i, none⟩ (.int .i64 (x + 1))).cell? ⟨vb, voff + i * 2, none⟩ = some (.int .i64 (L.getD i (0, [])).1) ∧ (wr.setCell ⟨q8 + 1, i, none⟩ (.int .i64 (x + 1))).cell? ⟨vb, voff + i * 2 + 1, none⟩ = some u := by
    have hne : vb ≠ q8 + 1 := by
      obtain ⟨_, _, ev2, h | ⟨vb2, voff2, e2, hc2⟩⟩ := H1.out.2.2.1
      · subst h; simp at hkl
      · simp at ev2
        rw [← ev2.1] at e2
        simp at e2
        obtain ⟨_, t3, _⟩ := hc2 i hkl
        have := cell_lt t3
        omega
    exact ⟨ck_set hne p0, ck_set hne p1⟩
  obtain ⟨p2, p3⟩ := p0A
  have cH := kholds_any told (L.getD i (0, [])).1 (L.getD i (0, [])).2 u _ _ huA hotA.rd hof hnm
  have HGA := hidI (And.intro hgA (And.intro hoA (And.intro hk7 hlgm)))
  have HCA := hidI hca
  generalize L.getD i (0, []) = V at *
  obtain ⟨need, of⟩ := V
  dsimp only at *
  obtain ⟨ua2, uc2, rfl, _⟩ := id hu
  have y6 : (0 : Int) ≤ (i : Int) := by omega
  have y7 : (i : Int) < (n : Int) := by omega
  have mX : IntKind.i64.wrap (x + 1) = x + 1 := i64_id (by omega) (by omega)
  obtain ⟨Bh, hBh⟩ : ∃ b, holdB told need of = b := ⟨_, rfl⟩
  rw [hBh] at cH hlN
  have HLN2 := hidI hlN
  clear hsm hrpe hgi hlo b1 b2 b3 b4 b5 b6 b7 b8 b9 h78 hq1 hgw1 hkl hc hu hVl hof hnm hlgn hca hta hlN hy hx hhv htle hgA hgA1 hoA hk7 hk7r hotA huA HI hBh
  go_wp2_with fail
  refine cH.mono ?_
  rintro e w6 ⟨rfl, g6⟩
  clear cH
  obtain ⟨hgA, hoA, hk7, hlgm⟩ := HGA.out
  have ho6 : OwnV (q8 + 1) w6 (.slice (some ⟨q8 + 1, 0, none⟩) n n) ((lgK told L lg n i).set i (x + 1)) := own_keep hoA g6
  have hg6 : wc.grownBy w6 (some (q8 + 1)) := grown_join hgA g6 (.inr (fun z hz => by cases hz))
  obtain ⟨_, d1, _⟩ := at3 (kept g6 hk7)
  have hll : ((lgK told L lg n i).set i (x + 1)).length = n := by rw [List.length_set, lgK_len]
  have ho6' : OwnV (q8 + 1) w6 (.slice (some ⟨q8 + 1, 0, none⟩) ((lgK told L lg n i).set i (x + 1)).length n) ((lgK told L lg n i).set i (x + 1)) := by rw [hll]; exact ho6
  cases Bh with
  | true =>
    have hye : y = x + 1 := by rw [HLN2.out]; simp
    have s6 : w6.cell? ⟨q8 + 1, i, none⟩ = some (.int .i64 (x + 1)) := by
      have := ho6'.get i (by rw [hll]; exact hlti)
      rw [this]
      simp [List.getD, lgK_len, hlti]
    have HNEW : Hid (wc.grownBy w6 (some (q8 + 1)) ∧ OwnV (q8 + 1) w6 (.slice (some ⟨q8 + 1, 0, none⟩) (lgK told L lg n (i + 1)).length n) (lgK told L lg n (i + 1))) := hidI ⟨hg6, by
      have e := lgK_set1 told L lg n i (x + 1) (by rw [HY.out]; exact hye.symm)
      rw [← e]; exact ho6'⟩
    have hpos : 0 < x + 1 := by omega
    have HSM : Hid (true = (HL.take (i + 1)).any (ou 0 0)) := hidI (by rw [HSMX.out, hye]; simp [hpos])
    rw [hye] at HRPX
    clear hgA hoA hk7 hlgm ho6 hg6 ho6' hll hye HY HSMX HLN2 HGA p2 p3 p0 p1 c5 f5 i0 i1 i2 r0 r1 r2
    cases sm
    all_goals (
      by_cases hDy : (D : Int) < x + 1
      · have hdd : decide ((D : Int) < x + 1) = true := by simpa using hDy
        by_cases hrp0 : rp < 0
        · have HRP : Hid ((i : Int) = ixOf (HL.take (i + 1)) ((D : Int) + 1)) := hidI (by rw [HRPX.out, if_pos (by omega), if_pos hDy])
          go_wp2_with fail
          go_quiet (fail)
          go_wp2
          have hgl := HGI.out
          go_roundg (n - (i + 1))
          all_goals first | omega | exact ⟨i + 1, true, (i : Int), by go_num, by first | rfl | simp [*], by first | rfl | go_num, by omega, by omega, by omega, hidI ⟨HSM.out, HRP.out, gr_drewN HNEW.out.1 _, own_keep HNEW.out.2 (gr_drewN (World.grownBy.refl _ _) _)⟩⟩
        · have HRP : Hid (rp = ixOf (HL.take (i + 1)) ((D : Int) + 1)) := hidI (by rw [HRPX.out, if_neg (by omega)])
          go_wp2_with fail
          go_quiet (fail)
          go_wp2
          have hgl := HGI.out
          go_roundg (n - (i + 1))
          all_goals first | omega | exact ⟨i + 1, true, rp, by go_num, by first | rfl | simp [*], by first | rfl | go_num, by omega, by omega, by omega, hidI ⟨HSM.out, HRP.out, gr_drewN HNEW.out.1 _, own_keep HNEW.out.2 (gr_drewN (World.grownBy.refl _ _) _)⟩⟩
      · have hdd : decide ((D : Int) < x + 1) = false := by simpa using hDy
        have HRP : Hid (rp = ixOf (HL.take (i + 1)) ((D : Int) + 1)) := hidI (by
          rw [HRPX.out]
          by_cases h : rp = -1
          · rw [if_pos h, if_neg hDy, h]
          · rw [if_neg h])
        go_wp2_with fail
        go_quiet (fail)
        go_wp2
        have hgl := HGI.out
        go_roundg (n - (i + 1))
        all_goals first | omega | exact ⟨i + 1, true, rp, by go_num, by first | rfl | simp [*], by first | rfl | go_num, by omega, by omega, by omega, hidI ⟨HSM.out, HRP.out, gr_drewN HNEW.out.1 _, own_keep HNEW.out.2 (gr_drewN (World.grownBy.refl _ _) _)⟩⟩)
  | false =>
    have hye : y = 0 := by rw [HLN2.out]; simp
    have s6 : w6.cell? ⟨q8 + 1, i, none⟩ = some (.int .i64 (x + 1)) := by
      have := ho6'.get i (by rw [hll]; exact hlti)
      rw [this]
      simp [List.getD, lgK_len, hlti]
    have sf := ho6'.frozen i
    have ho7 := ho6'.store i 0
    have hg7 : wc.grownBy (w6.setCell ⟨q8 + 1, i, none⟩ (.int .i64 0)) (some (q8 + 1)) := gr_set hg6 _ _
    have s7 : (w6.setCell ⟨q8 + 1, i, none⟩ (.int .i64 0)).cell? ⟨q8 + 1, i, none⟩ = some (.int .i64 0) := by
      have h1 : OwnV (q8 + 1) (w6.setCell ⟨q8 + 1, i, none⟩ (.int .i64 0)) (.slice (some ⟨q8 + 1, 0, none⟩) (((lgK told L lg n i).set i (x + 1)).set i 0).length n) (((lgK told L lg n i).set i (x + 1)).set i 0) := by rw [List.length_set]; exact ho7
      rw [h1.get i (by rw [List.length_set, hll]; exact hlti)]
      simp [List.getD, lgK_len, hlti]
    have d2 : (w6.setCell ⟨q8 + 1, i, none⟩ (.int .i64 0)).cell? ⟨q7, 1, none⟩ = some (.int .i64 (D : Int)) := ck_set (by have := H78.out; omega) d1
    have HNEW : Hid (wc.grownBy (w6.setCell ⟨q8 + 1, i, none⟩ (.int .i64 0)) (some (q8 + 1)) ∧ OwnV (q8 + 1) (w6.setCell ⟨q8 + 1, i, none⟩ (.int .i64 0)) (.slice (some ⟨q8 + 1, 0, none⟩) (lgK told L lg n (i + 1)).length n) (lgK told L lg n (i + 1))) := hidI ⟨hg7, by
      have e := lgK_set told L lg n i (x + 1) 0 (by rw [HY.out]; exact hye.symm)
      rw [← e, List.length_set]; exact ho7⟩
    have HSM : Hid (sm = (HL.take (i + 1)).any (ou 0 0)) := hidI (by rw [HSMX.out, hye]; simp)
    have HRP : Hid (rp = ixOf (HL.take (i + 1)) ((D : Int) + 1)) := hidI (by
      rw [HRPX.out, hye]
      by_cases h : rp = -1
      · rw [if_pos h, if_neg (by omega), h]
      · rw [if_neg h])
    have hdd : decide ((D : Int) < 0) = false := by simp
    have hD0 : ¬ (D : Int) < 0 := by omega
    clear hgA hoA hk7 hlgm ho6 hg6 ho6' hll hye HY HSMX HRPX HLN2 HGA p2 p3 p0 p1 c5 f5 i0 i1 i2 r0 r1 r2 ho7 hg7
    cases sm
    all_goals (
      go_wp2_with fail
      go_quiet (fail)
      go_wp2
      have hgl := HGI.out
      go_roundg (n - (i + 1))
      all_goals first | omega | exact ⟨i + 1, _, rp, by go_num, by first | rfl | simp [*], by first | rfl | go_num, by omega, by omega, by omega, hidI ⟨HSM.out, HRP.out, gr_drewN HNEW.out.1 _, own_keep HNEW.out.2 (gr_drewN (World.grownBy.refl _ _) _)⟩⟩)
end Go.Proofs.Ytefekafpmnaeoaa
