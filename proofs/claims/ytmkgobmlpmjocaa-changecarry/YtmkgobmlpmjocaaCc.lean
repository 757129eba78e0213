/- sameCode. -/
import Derived.Test.YtmkgobmlpmjocaaCa
namespace Go.Proofs.Ytmkgobmlpmjocaa
open Go.RowKit
attribute [local go_sem ↓] Go.wp_at_zero Go.wp_at_succ
set_option linter.unusedVariables false
set_option linter.unusedSimpArgs false

theorem slots_one {w : World} {a : Option Addr} {c : Nat} {l : List Slt} (h : SlAt w (.slice a l.length c) l) (j : Nat) (hj : j < l.length) : ∃ b o, a = some ⟨b, o, none⟩ ∧ ∀ s, l.getD j slt0 = s → w.cell? ⟨b, o + j * 6, none⟩ = some (.string s.path) ∧ w.cell? ⟨b, o + j * 6 + 1, none⟩ = some (.int .i64 s.kind) ∧ w.cell? ⟨b, o + j * 6 + 2, none⟩ = some (.int .i64 s.at') ∧ w.cell? ⟨b, o + j * 6 + 3, none⟩ = some (.int .i64 s.len) ∧ w.cell? ⟨b, o + j * 6 + 4, none⟩ = some (.bool s.keep) ∧ w.cell? ⟨b, o + j * 6 + 5, none⟩ = some (.int .i64 s.role) := by
  obtain ⟨a', c', e, h | ⟨b, o, rfl, hc⟩⟩ := h
  · subst h; simp at hj
  · simp at e
    refine ⟨b, o, e.1, fun s hs => ?_⟩
    have := hc j hj
    rw [hs] at this
    exact this
theorem text_one {w : World} {a : Option Addr} {c : Nat} {l : List Ins} (h : TxtAt w (.slice a l.length c) l) (j : Nat) (hj : j < l.length) : ∃ b o, a = some ⟨b, o, none⟩ ∧ ∀ s, nth l j = s → w.cell? ⟨b, o + j * 4, none⟩ = some (.int .i64 s.d) ∧ w.cell? ⟨b, o + j * 4 + 1, none⟩ = some (.int .i64 s.a) ∧ w.cell? ⟨b, o + j * 4 + 2, none⟩ = some (.int .i64 s.b) ∧ w.cell? ⟨b, o + j * 4 + 3, none⟩ = some (.int .i64 s.c) := by
  obtain ⟨a', c', e, h | ⟨b, o, rfl, hc⟩⟩ := h
  · subst h; simp at hj
  · simp at e
    refine ⟨b, o, e.1, fun s hs => ?_⟩
    have := hc j hj
    rw [hs] at this
    exact this
set_option maxRecDepth 10000 in
set_option maxHeartbeats 4000000 in
theorem same_any (hv cv : Value) (ps : List Pr) (w : World) (h1 : CdP w hv ps) (h2 : CdP w cv ps) (hB : BdP ps) :
    Calls Try.prog 8 #[.agg #[hv], .agg #[cv]] w fun e w' => e = .returned (.bool true) ∧ w.grownBy w' none := by
  obtain ⟨a1, c1, rfl, hc1, h1⟩ := h1
  obtain ⟨a2, c2, rfl, hc2, h2⟩ := h2
  have HC1 : Hid (ps = [] ∨ ∃ b off, a1 = some ⟨b, off, none⟩ ∧ ∀ i, i < ps.length → ∃ fv sv tv, PrAt w b (off + i * 5) (ps.getD i pr0) fv sv tv) := h1
  have HC2 : Hid (ps = [] ∨ ∃ b off, a2 = some ⟨b, off, none⟩ ∧ ∀ i, i < ps.length → ∃ fv sv tv, PrAt w b (off + i * 5) (ps.getD i pr0) fv sv tv) := h2
  have HBD : Hid (BdP ps) := hB
  have hl := hB.n
  clear h1 h2 hB
  obtain ⟨n, hn⟩ : ∃ n, ps.length = n := ⟨_, rfl⟩
  have HN : Hid (ps.length = n) := hn
  rw [hn] at hl hc1 hc2 ⊢
  clear hn
  obtain ⟨H, hH⟩ : ∃ H, w.heap.size = H := ⟨_, rfl⟩
  go_enter Try.func8, Try.ntmps8
  go_wp2
  go_loopg [5] n (fun gk s5 wx => ∃ (k : Nat), s5 = .int .i64 k ∧ k ≤ n ∧ gk = n - k ∧ wx.heap[H]? = some (.cells #[.slice a1 n c1] 36) ∧ wx.heap[H + 1]? = some (.cells #[.slice a2 n c2] 36) ∧ w.grownBy wx none ∧ H + 2 ≤ wx.heap.size)
  case atStart =>
    refine ⟨0, rfl, Nat.zero_le _, by omega, ?_, ?_, gr_alloc (gr1 _ _) _, by simp [hH]⟩
    · rw [hp_old (by simp [hH]), hp_new hH.symm]
    · rw [hp_new (by simp [hH])]
  case round =>
    obtain ⟨k, rfl, hk, hgk, hb0, hb1, hgr, hsz⟩ := hrel
    have HG : Hid (gk = n - k) := hgk
    have HB0 : Hid (wr.heap[H]? = some (.cells #[.slice a1 n c1] 36)) := hb0
    have HB1 : Hid (wr.heap[H + 1]? = some (.cells #[.slice a2 n c2] 36)) := hb1
    have z0 := at_cell hb0 0
    have z1 := at_cell hb1 0
    simp at z0 z1
    clear hgk hb0 hb1
    by_cases hlt : k < n
    · have hkl : k < ps.length := by rw [HN.out]; exact hlt
      rcases HC1.out with h | ⟨b', off, rfl, hc⟩
      · subst h; simp at hkl
      rcases HC2.out with h | ⟨b2, off2, rfl, hc2'⟩
      · subst h; simp at hkl
      obtain ⟨fv, sv, tv, hp0⟩ := hc k hkl
      obtain ⟨fv2, sv2, tv2, hp2⟩ := hc2' k hkl
      have hp := hp0.grown hgr
      have hq := hp2.grown hgr
      have e1 := HBD.out.fs k hkl
      have e2 := HBD.out.sl k hkl
      have e3 := HBD.out.tx k hkl
      generalize ps.getD k pr0 = p at hp hq e1 e2 e3
      obtain ⟨pk, pn, fs, sl, tx⟩ := p
      dsimp only at e1 e2 e3
      obtain ⟨fa, fc, rfl, _⟩ := hp.first
      obtain ⟨fa2, fc2, rfl, _⟩ := hq.first
      obtain ⟨sa, sc, rfl, _⟩ := hp.slots
      obtain ⟨ta, tc, rfl, _⟩ := hp.text
      obtain ⟨sa2, sc2, rfl, _⟩ := hq.slots
      obtain ⟨ta2, tc2, rfl, _⟩ := hq.text
      have cI : ∀ W, wr.grownBy W none → Calls Try.prog 10 #[.slice fa fs.length fc, .slice fa2 fs.length fc2] W fun e w' => e = .returned (.bool true) ∧ W.grownBy w' none := fun W hW => sameInts_yes _ _ fs W (rd_grown hp.first hW) (rd_grown hq.first hW) (by omega)
      have q0 := hp.kind
      have q1 := hp.name
      have q2 := hp.fcell
      have q3 := hp.scell
      have q4 := hp.tcell
      have r0 := hq.kind
      have r1 := hq.name
      have r2 := hq.fcell
      have r3 := hq.scell
      have r4 := hq.tcell
      dsimp only at q0 q1 q2 q3 q4 r0 r1 r2 r3 r4
      have HP : Hid (PrAt wr b' (off + k * 5) ⟨pk, pn, fs, sl, tx⟩ (.slice fa fs.length fc) (.slice sa sl.length sc) (.slice ta tx.length tc)) := hp
      have HQ : Hid (PrAt wr b2 (off2 + k * 5) ⟨pk, pn, fs, sl, tx⟩ (.slice fa2 fs.length fc2) (.slice sa2 sl.length sc2) (.slice ta2 tx.length tc2)) := hq
      clear hp hq hp0 hp2 hc hc2'
      have i1 : (0 : Int) ≤ (k : Int) := by omega
      have i2 : (k : Int) < (n : Int) := by omega
      obtain ⟨nf, hnf⟩ : ∃ m, fs.length = m := ⟨_, rfl⟩
      rw [hnf] at cI e1 q2 r2
      clear hnf
      obtain ⟨ns, hns⟩ : ∃ m, sl.length = m := ⟨_, rfl⟩
      obtain ⟨nt, hnt⟩ : ∃ m, tx.length = m := ⟨_, rfl⟩
      have HNS : Hid (sl.length = ns) := hns
      have HNT : Hid (tx.length = nt) := hnt
      rw [hns] at e2 q3 r3
      rw [hnt] at e3 q4 r4
      clear hns hnt
      go_upto_region 6 with fail
      go_cut [6, 7] (fun s6 s7 wx => ∃ x6 x7, s6 = .pointer (some ⟨x6, 0, none⟩) ∧ s7 = .pointer (some ⟨x7, 0, none⟩) ∧ Hid (wx.heap[x6]? = some (.cells #[.int .i64 pk, .string pn, .slice fa nf fc, .slice sa ns sc, .slice ta nt tc] 27)) ∧ Hid (wx.heap[x7]? = some (.cells #[.int .i64 pk, .string pn, .slice fa2 nf fc2, .slice sa2 ns sc2, .slice ta2 nt tc2] 27)) ∧ wr.grownBy wx none)
      case first =>
        go_region_held3 (fun w' => w'.cell? ⟨H, 0, none⟩ = some (.slice (some ⟨b', off, none⟩) n c1) ∧ w'.cell? ⟨H + 1, 0, none⟩ = some (.slice (some ⟨b2, off2, none⟩) n c2) ∧ w'.cell? ⟨b', off + k * 5, none⟩ = some (.int .i64 pk) ∧ w'.cell? ⟨b', off + k * 5 + 1, none⟩ = some (.string pn) ∧ w'.cell? ⟨b', off + k * 5 + 2, none⟩ = some (.slice fa nf fc) ∧ w'.cell? ⟨b', off + k * 5 + 3, none⟩ = some (.slice sa ns sc) ∧ w'.cell? ⟨b', off + k * 5 + 4, none⟩ = some (.slice ta nt tc) ∧ w'.cell? ⟨b2, off2 + k * 5, none⟩ = some (.int .i64 pk) ∧ w'.cell? ⟨b2, off2 + k * 5 + 1, none⟩ = some (.string pn) ∧ w'.cell? ⟨b2, off2 + k * 5 + 2, none⟩ = some (.slice fa2 nf fc2) ∧ w'.cell? ⟨b2, off2 + k * 5 + 3, none⟩ = some (.slice sa2 ns sc2) ∧ w'.cell? ⟨b2, off2 + k * 5 + 4, none⟩ = some (.slice ta2 nt tc2)) (go_keep) (fail)
        all_goals go_wp2_with fail
        all_goals go_meet
        all_goals
          refine ⟨_, _, rfl, rfl, ?_, ?_, gr_drew (gr_alloc (gr1 _ _) _)⟩
          · first | (refine (hp_drew _ _).trans (hp_new ?_ _); simp; done) | (refine (hp_drew _ _).trans ((hp_old (by simp) _).trans (hp_new ?_ _)); simp; done)
          · first | (refine (hp_drew _ _).trans (hp_new ?_ _); simp; done) | (refine (hp_drew _ _).trans ((hp_old (by simp) _).trans (hp_new ?_ _)); simp; done)
      case rest =>
        obtain ⟨x6, x7, rfl, rfl, HX6, HX7, hgc⟩ := hcut
        have a0 := at_cell HX6.out 0
        have a1 := at_cell HX6.out 1
        have a2 := at_cell HX6.out 2
        have a3 := at_cell HX6.out 3
        have a4 := at_cell HX6.out 4
        have b0 := at_cell HX7.out 0
        have b1 := at_cell HX7.out 1
        have b2 := at_cell HX7.out 2
        have b3 := at_cell HX7.out 3
        have b4 := at_cell HX7.out 4
        simp at a0 a1 a2 a3 a4 b0 b1 b2 b3 b4
        clear z0 z1 q0 q1 q2 q3 q4 r0 r1 r2 r3 r4
        go_wp2_with fail
        refine (cI _ hgc).mono ?_
        rintro e w1 ⟨rfl, hg1⟩
        have HX6x : Hid (w1.heap[x6]? = some (.cells #[.int .i64 pk, .string pn, .slice fa nf fc, .slice sa ns sc, .slice ta nt tc] 27)) := kept hg1 HX6.out
        have HX7x : Hid (w1.heap[x7]? = some (.cells #[.int .i64 pk, .string pn, .slice fa2 nf fc2, .slice sa2 ns sc2, .slice ta2 nt tc2] 27)) := kept hg1 HX7.out
        have hgw1 : wr.grownBy w1 none := hgc.trans hg1
        clear a0 a1 a2 a3 a4 b0 b1 b2 b3 b4
        have a3 := at_cell HX6x.out 3
        have a4 := at_cell HX6x.out 4
        have b3 := at_cell HX7x.out 3
        have b4 := at_cell HX7x.out 4
        simp at a3 a4 b3 b4
        clear hg1 hgc cI
        go_wp2_with fail
        go_loopg [8] ns (fun gk s8 wx => ∃ (j : Nat), s8 = .int .i64 j ∧ j ≤ ns ∧ gk = ns - j ∧ w1.grownBy wx none)
        case atStart => exact ⟨0, rfl, Nat.zero_le _, by omega, World.grownBy.refl _ _⟩
        case round =>
          obtain ⟨j, rfl, hj, hgj, hgr1⟩ := hrel
          have HGJ : Hid (gk = ns - j) := hgj
          have a3' := hgr1.cell a3 (by simp)
          have b3' := hgr1.cell b3 (by simp)
          clear hgj
          by_cases hjl : j < ns
          · obtain ⟨p1, o1, rfl, hs1⟩ := slots_one (HP.out.slots.grown (hgw1.trans hgr1)) j (by show j < sl.length; rw [HNS.out]; exact hjl)
            obtain ⟨p2, o2, rfl, hs2⟩ := slots_one (HQ.out.slots.grown (hgw1.trans hgr1)) j (by show j < sl.length; rw [HNS.out]; exact hjl)
            obtain ⟨s, hse⟩ : ∃ s, sl.getD j slt0 = s := ⟨_, rfl⟩
            obtain ⟨c0, c1', c2', c3, c4, c5⟩ := hs1 s hse
            obtain ⟨g0, g1, g2, g3, g4, g5⟩ := hs2 s hse
            obtain ⟨s0, s1, s2, s3, s4, s5⟩ := s
            dsimp only at c0 c1' c2' c3 c4 c5 g0 g1 g2 g3 g4 g5
            clear hs1 hs2 hse
            have j1 : (0 : Int) ≤ (j : Int) := by omega
            have j2 : (j : Int) < (ns : Int) := by omega
            go_wp2_with fail
            go_quiet (fail)
            go_wp2_with fail
            have hgl := HGJ.out
            go_roundg (ns - (j + 1))
            all_goals first | omega | exact ⟨j + 1, by go_num, by omega, by omega, gr_drewN hgr1 _⟩ | exact ⟨j + 1, by go_num, by omega, by omega, gr_drew hgr1⟩
          · have hj' : ¬ ((j : Int) < (ns : Int)) := by omega
            have a4' := hgr1.cell a4 (by simp)
            have b4' := hgr1.cell b4 (by simp)
            have hgw2 := hgw1.trans hgr1
            clear HGJ a3 a4 b3 b4
            go_wp2_with fail
            go_loopg [9] nt (fun gk s9 wx => ∃ (i : Nat), s9 = .int .i64 i ∧ i ≤ nt ∧ gk = nt - i ∧ wr.grownBy wx none)
            case atStart => exact ⟨0, rfl, Nat.zero_le _, by omega, World.grownBy.refl _ _⟩
            case round =>
              obtain ⟨i, rfl, hi, hgi, hgr2⟩ := hrel
              have HGI : Hid (gk = nt - i) := hgi
              have a4x := hgr2.cell a4' (by simp)
              have b4x := hgr2.cell b4' (by simp)
              clear hgi
              by_cases hil : i < nt
              · obtain ⟨p1, o1, rfl, hs1⟩ := text_one (HP.out.text.grown (hgw2.trans hgr2)) i (by show i < tx.length; rw [HNT.out]; exact hil)
                obtain ⟨p2, o2, rfl, hs2⟩ := text_one (HQ.out.text.grown (hgw2.trans hgr2)) i (by show i < tx.length; rw [HNT.out]; exact hil)
                obtain ⟨s, hse⟩ : ∃ s, nth tx i = s := ⟨_, rfl⟩
                obtain ⟨c0, c1', c2', c3⟩ := hs1 s hse
                obtain ⟨g0, g1, g2, g3⟩ := hs2 s hse
                obtain ⟨s0, s1, s2, s3⟩ := s
                dsimp only at c0 c1' c2' c3 g0 g1 g2 g3
                clear hs1 hs2 hse
                have j1 : (0 : Int) ≤ (i : Int) := by omega
                have j2 : (i : Int) < (nt : Int) := by omega
                go_wp2_with fail
                go_quiet (fail)
                go_wp2_with fail
                have hgl := HGI.out
                go_roundg (nt - (i + 1))
                all_goals first | omega | exact ⟨i + 1, by go_num, by omega, by omega, gr_drewN hgr2 _⟩ | exact ⟨i + 1, by go_num, by omega, by omega, gr_drew hgr2⟩
              · have hi' : ¬ ((i : Int) < (nt : Int)) := by omega
                have hgw3 := hgw2.trans hgr2
                have hk0 := kept hgw3 HB0.out
                have hk1 := kept hgw3 HB1.out
                have hss := hgw3.size
                have HK0 : Hid (_ = _) := hk0
                have HK1 : Hid (_ = _) := hk1
                clear HGI hk0 hk1
                go_wp2_with fail
                have hgl := HG.out
                go_roundg (n - (k + 1))
                all_goals first | omega | exact ⟨k + 1, by go_num, by omega, by omega, HK0.out, HK1.out, hgr.trans hgw3, by omega⟩
    · have hk' : ¬ ((k : Int) < (n : Int)) := by omega
      go_wp2
      go_ret
      exact ⟨rfl, hgr⟩
end Go.Proofs.Ytmkgobmlpmjocaa
