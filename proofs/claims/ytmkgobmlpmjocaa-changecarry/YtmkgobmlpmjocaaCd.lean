/- spareCode. -/
import Derived.Test.YtmkgobmlpmjocaaCa
namespace Go.Proofs.Ytmkgobmlpmjocaa
open Go.RowKit
attribute [local go_sem ↓] Go.wp_at_zero Go.wp_at_succ
set_option linter.unusedVariables false
set_option linter.unusedSimpArgs false

set_option maxRecDepth 10000 in
set_option maxHeartbeats 4000000 in
theorem spare_any (B : Nat) (v : Value) (us : List Un) (w : World) (h : CopyAt w B v us) (hB : BdP (us.map Un.p)) :
    Calls Try.prog 9 #[.agg #[v]] w fun e w' => e = .returned (.bool true) ∧ w.grownBy w' none := by
  have HCP : Hid (∀ i, i < us.length → CpAt w B v.ownBlock (us.getD i un0)) := h.2
  obtain ⟨a, cap, rfl, hcap, hc⟩ := h.cells
  have HC : Hid (us = [] ∨ ∃ b, a = some ⟨b, 0, none⟩ ∧ ∀ i, i < us.length → w.cell? ⟨b, i * 5, none⟩ = some (.int .i64 (us.getD i un0).p.k) ∧ w.cell? ⟨b, i * 5 + 1, none⟩ = some (.string (us.getD i un0).p.nm) ∧ w.cell? ⟨b, i * 5 + 2, none⟩ = some (us.getD i un0).fv ∧ w.cell? ⟨b, i * 5 + 3, none⟩ = some (us.getD i un0).sv ∧ w.cell? ⟨b, i * 5 + 4, none⟩ = some (us.getD i un0).tv) := hc
  have HBD : Hid (BdP (us.map Un.p)) := hB
  have hl := hB.n
  rw [List.length_map] at hl
  clear h hc hB
  obtain ⟨n, hn⟩ : ∃ n, us.length = n := ⟨_, rfl⟩
  have HN : Hid (us.length = n) := hn
  rw [hn] at hl hcap ⊢
  clear hn
  obtain ⟨H, hH⟩ : ∃ H, w.heap.size = H := ⟨_, rfl⟩
  obtain ⟨i3, hi3, z3, s3, b3⟩ := info_parts info3
  go_enter Try.func9, Try.ntmps9
  go_wp2
  go_loopg [3] n (fun gk s3 wx => ∃ (k : Nat), s3 = .int .i64 k ∧ k ≤ n ∧ gk = n - k ∧ wx.heap[H]? = some (.cells #[.slice a n cap] 36) ∧ w.grownBy wx none ∧ H + 1 ≤ wx.heap.size)
  case atStart =>
    refine ⟨0, rfl, Nat.zero_le _, by omega, ?_, gr1 _ _, by simp [hH]⟩
    rw [hp_new hH.symm]
  case round =>
    obtain ⟨k, rfl, hk, hgk, hb0, hgr, hsz⟩ := hrel
    have HG : Hid (gk = n - k) := hgk
    have HB0 : Hid (wr.heap[H]? = some (.cells #[.slice a n cap] 36)) := hb0
    have z0 := at_cell hb0 0
    simp at z0
    clear hgk hb0
    by_cases hlt : k < n
    · have hkl : k < us.length := by rw [HN.out]; exact hlt
      rcases HC.out with h | ⟨b', rfl, hc⟩
      · subst h; simp at hkl
      obtain ⟨q0, q1, q2, q3, q4⟩ := hc k hkl
      have hu := HCP.out k hkl
      have e1 := HBD.out.fs k (by simpa using hkl)
      have e3 := HBD.out.tx k (by simpa using hkl)
      have eg : (us.map Un.p).getD k pr0 = (us.getD k un0).p := by simp [List.getD, hkl]
      rw [eg] at e1 e3
      generalize us.getD k un0 = u at q0 q1 q2 q3 q4 hu e1 e3
      obtain ⟨⟨pk, pn, fs, sl, tx⟩, fv, sv, tv⟩ := u
      obtain ⟨c, hfv, hroom, _, _, _⟩ := hu.first
      obtain ⟨g, tcap, htv, htc, hmk, _⟩ := hu.mark
      obtain ⟨sa, sc, hsv, _⟩ := hu.slots
      dsimp only at e1 e3 q0 q1 q2 q3 q4 htc hmk hroom hfv htv hsv
      subst hfv htv hsv
      have q0' := hgr.cell q0 (by simp)
      have q1' := hgr.cell q1 (by simp)
      have q2' := hgr.cell q2 (by simp)
      have q3' := hgr.cell q3 (by simp)
      have q4' := hgr.cell q4 (by simp)
      have mk' := hgr.cell hmk (by simp)
      have HR : Hid (∀ W, wr.grownBy W none → RoomAt W c fs) := fun W hW => (hroom.kept hgr).kept hW
      clear q0 q1 q2 q3 q4 hmk hc hu eg hroom
      obtain ⟨nf, hnf⟩ : ∃ m, fs.length = m := ⟨_, rfl⟩
      obtain ⟨nt, hnt⟩ : ∃ m, tx.length = m := ⟨_, rfl⟩
      have HNF : Hid (fs.length = nf) := hnf
      rw [hnf] at e1 q2'
      rw [hnt] at e3 q4' htc mk'
      clear hnf hnt
      have HAP : Hid (∀ W, wr.grownBy W none → (fs.map (Value.int .i64)).length = nf * 1 ∧ (nf = 0 ∨ ∃ b off, (some ⟨c, 0, none⟩ : Option Addr) = some ⟨b, off, none⟩ ∧ ∀ j u, (fs.map (Value.int .i64))[j]? = some u → W.cell? ((⟨b, off, none⟩ : Addr).add j) = some u)) := fun W hW => by
        refine ⟨by simp [HNF.out], .inr ⟨c, 0, rfl, fun j u hj => ?_⟩⟩
        obtain ⟨fa, fc, e, h | ⟨b, off, h, hc⟩⟩ := (HR.out W hW).rd
        · subst h; simp at hj
        · simp at e
          obtain ⟨rfl, rfl⟩ := e
          simp at h
          obtain ⟨rfl, rfl⟩ := h
          have hjl : j < fs.length := by
            rcases Nat.lt_or_ge j fs.length with h | h
            · exact h
            · rw [List.getElem?_eq_none (by simpa using h)] at hj; simp at hj
          rw [addn, hc j hjl, ← hj]
          simp [hjl]
      have cL : ∀ W v', wr.grownBy W none → W.ownsRow 0 3 1 v' nf (fs.map (Value.int .i64)) → Calls Try.prog 21 #[.slice (some ⟨c, 0, none⟩) nf (nf + 5), v'] W fun e w' => e = .returned (.bool true) ∧ W.grownBy w' none := fun W v' hW ho => by
        have h := left_yes c v' fs W (HR.out W hW) (OwnV.rd (B := 0) (by unfold OwnV; rw [HNF.out]; exact ho)) (by rw [HNF.out]; omega)
        rw [HNF.out] at h
        exact h
      have i1 : (0 : Int) ≤ (k : Int) := by omega
      have i2 : (k : Int) < (n : Int) := by omega
      have j1 : (0 : Int) ≤ (nt : Int) := by omega
      have j2 : (nt : Int) < (nt : Int) + 1 := by omega
      have j3 : (nt : Int) + 1 ≤ (tcap : Int) := by omega
      have j4 : (0 : Int) ≤ (nt : Int) + 1 := by omega
      go_wp2_with fail
      generalize hw1 : wr.alloc (.cells #[.int .i64 pk, .string pn, .slice (some ⟨c, 0, none⟩) nf (nf + 5), .slice sa sl.length sc, .slice (some ⟨g, 0, none⟩) nt tcap] 27) = w1
      have hX1 : w1.heap[wr.heap.size]? = some (.cells #[.int .i64 pk, .string pn, .slice (some ⟨c, 0, none⟩) nf (nf + 5), .slice sa sl.length sc, .slice (some ⟨g, 0, none⟩) nt tcap] 27) := hw1 ▸ heap_alloc_new _ _
      have hgw1 : wr.grownBy w1 none := hw1 ▸ gr1 _ _
      have d2 := at_cell hX1 2
      have d4 := at_cell hX1 4
      simp at d2 d4
      have mk1 := hgw1.cell mk' (by simp)
      clear hw1 hX1 q0' q1' q2' q3' q4' mk'
      have jw : IntKind.i64.wrap ((nt : Int) + 1) = (nt : Int) + 1 := IntWalk.i64_in _ (by omega)
      go_region_held3 (fun w' => w'.cell? ⟨wr.heap.size, 2, none⟩ = some (.slice (some ⟨c, 0, none⟩) nf (nf + 5)) ∧ w'.cell? ⟨wr.heap.size, 4, none⟩ = some (.slice (some ⟨g, 0, none⟩) nt tcap) ∧ w'.cell? ⟨g, nt * 4 + 1, none⟩ = some (.int .i64 (-9))) (first | (go_keep; done) | exact HK3.out | exact HK2.out) (first
        | (go_at_call 21
           refine (cL _ _ hgw2 (own_less hown2 (Nat.zero_le _))).mono ?_
           rintro e w3 ⟨rfl, hg3⟩
           have HK3 : Hid (w3.cell? ⟨wr.heap.size, 2, none⟩ = some (.slice (some ⟨c, 0, none⟩) nf (nf + 5)) ∧ w3.cell? ⟨wr.heap.size, 4, none⟩ = some (.slice (some ⟨g, 0, none⟩) nt tcap) ∧ w3.cell? ⟨g, nt * 4 + 1, none⟩ = some (.int .i64 (-9))) := ⟨hg3.cell HK2.out.1 (by simp), hg3.cell HK2.out.2.1 (by simp), hg3.cell HK2.out.2.2 (by simp)⟩)
        | (refine step_append_all (by rfl) _ _ 23 (by rfl) 3 i3 _ 1 8 Try.underlying23 hi3 z3 s3 b3 rfl (by omega) (some ⟨c, 0, none⟩) nf (nf + 5) (fs.map (Value.int .i64)) (by rfl) (by rfl) (HAP.out _ (gr_drew hgw1)).1 (HAP.out _ (gr_drew hgw1)).2 (by simp [Value.oneCell']) (by unfold maxLen; omega) (by omega) ?_
           intro oa oc w2 hown2 hg2
           have hgw2 : wr.grownBy w2 none := (gr_drew hgw1).trans hg2
           have HK2 : Hid (w2.cell? ⟨wr.heap.size, 2, none⟩ = some (.slice (some ⟨c, 0, none⟩) nf (nf + 5)) ∧ w2.cell? ⟨wr.heap.size, 4, none⟩ = some (.slice (some ⟨g, 0, none⟩) nt tcap) ∧ w2.cell? ⟨g, nt * 4 + 1, none⟩ = some (.int .i64 (-9))) := ⟨hg2.cell d2 (by simp), hg2.cell d4 (by simp), hg2.cell mk1 (by simp)⟩))
      go_wp2_with fail
      have hgw3 := hgw2.trans hg3
      have hss := hgw3.size
      have hgl := HG.out
      go_roundg (n - (k + 1))
      all_goals first | omega | exact ⟨k + 1, by go_num, by omega, by omega, kept hgw3 HB0.out, hgr.trans hgw3, by omega⟩
    · have hk' : ¬ ((k : Int) < (n : Int)) := by omega
      go_wp2
      go_ret
      exact ⟨rfl, hgr⟩

end Go.Proofs.Ytmkgobmlpmjocaa
