/- The law of TasksMeet, walked. -/
import Derived.Test.YtholmeebkgpjjaaBe
import Derived.Deep.RegionLaw
import Derived.Deep.DeepCutAuto
namespace Go.Proofs.Ytholmeebkgpjjaa
open Go.RowKit
attribute [local go_sem ↓] Go.wp_at_zero Go.wp_at_succ
set_option linter.unusedVariables false
set_option linter.unusedSimpArgs false

set_option maxRecDepth 100000 in
set_option maxHeartbeats 4000000 in
theorem meetLaw_any (l : List Dy) (v : Value) (idle : Bool) (w : World) (hv : DsAt w v l) (hi : ∀ d ∈ l, d.In) : Calls Try.prog 6 #[v, .bool idle] w fun e w' => e = .returned (.bool true) ∧ w.grownBy w' none := by
  have cK := known_any w
  have cD := fun W (hW : w.grownBy W none) => duties_any l v 5 idle W (hv.grown hW) hi (by omega)
  have hln := duty_len l 5 idle
  have hok := duty_oks l 5 idle
  have hoff : idle = true → ∀ i, i < (dutyL l 5 idle).length → (tk (dutyL l 5 idle) i).off = 0 := fun e => by subst e; exact duty_off l 5
  obtain ⟨va, vc, rfl, _⟩ := id hv
  clear hv hi
  generalize dutyL l 5 idle = m at *
  generalize l.length = N at *
  obtain ⟨h1, h6⟩ := hln
  have hz := look_zero (by omega) h1 hok
  have cR : ∀ W x, TsAt W x m → Calls Try.prog 10 #[x] W fun e w' => RespP W w' e (respS m) := fun W x h => respond_any m x W (by unfold maxLen; omega) h
  by_cases hc : (respS m).2.1 = 0
  · have hrep := resp_rep h1 (by omega) hok hc
    have cP : ∀ W x, TsAt W x m → Calls Try.prog 14 #[x, .int .i64 1200] W fun e w' => PlayP W w' e (playS m 1200) := fun W x h => play_any m x 1200 W (by unfold maxLen; omega) h
    rw [resp_all (by rw [hz]) hrep] at cR
    rw [play_is h1 (by omega) hok] at cP
    have HEACH : Hid (∀ k x, (doc m 1200).2[k]? = some x → ∃ i, MeetAt m idle 1200 ((doc m 1200).2.take k) x i) := (fun k x hx => by
      obtain ⟨i, h⟩ := (doc_gd m 1200).each k x hx
      exact ⟨i, h.meets hok hrep hoff⟩ : ∀ k x, (doc m 1200).2[k]? = some x → ∃ i, MeetAt m idle 1200 ((doc m 1200).2.take k) x i)
    have HDONE : Hid (∀ i, i < m.length → ∀ k : Nat, (tk m i).off + k * (tk m i).per + repV m i ≤ 1200 → (k : Int) < Wk (doc m 1200).2 i / (tk m i).cost) := (fun i hi k hk => done_all hok hrep hi (u := 1200) hk : ∀ i, i < m.length → ∀ k : Nat, (tk m i).off + k * (tk m i).per + repV m i ≤ 1200 → (k : Int) < Wk (doc m 1200).2 i / (tk m i).cost)
    have HLEN : Hid ((doc m 1200).2.length ≤ 1200) := doc_len m 1200
    have HREP : Hid (∀ i, i < m.length → 1 ≤ repV m i ∧ repV m i ≤ 1000000) := (fun i hi => rep_bd hok hi (hrep i hi) : ∀ i, i < m.length → 1 ≤ repV m i ∧ repV m i ≤ 1000000)
    have HOK : Hid (Oks m) := hok
    have HTOLD : Hid (∀ i, i < m.length → ((List.range m.length).map (repV m)).getD i 0 = repV m i) := (fun i hi => by simp [List.getD, hi] : ∀ i, i < m.length → ((List.range m.length).map (repV m)).getD i 0 = repV m i)
    clear hz hc hrep hoff hok
    generalize (doc m 1200).2 = out at *
    go_enter Try.func6, Try.ntmps6
    go_wp2_with fail
    refine cK.mono ?_
    rintro e w1 ⟨rfl, hg1⟩
    go_wp2_with fail
    refine (cD _ hg1).mono ?_
    rintro e w2 ⟨ma, mc, rfl, hO2, hg2⟩
    have hgw2 := grown_join hg1 hg2 (.inl rfl)
    obtain ⟨gm, rfl, hgm, hcm⟩ := ownT_at hO2 (by omega)
    have HT : Hid (TsAt w2 (.slice (some ⟨gm, 0, none⟩) m.length mc) m) := hO2.ts
    clear hO2 hg1 hg2 cD cK
    obtain ⟨n, hn⟩ : ∃ n, m.length = n := ⟨_, rfl⟩
    rw [hn] at HT HREP HDONE HTOLD h1 h6 hcm ⊢
    go_wp2_with fail
    refine (cR _ _ HT.out).mono ?_
    rintro e w3 ⟨ta, tc, rfl, ho3, hg3⟩
    dsimp only at ho3 ⊢
    have hnT : ((List.range m.length).map (repV m)).length = n := by simp [hn]
    obtain ⟨gt, rfl, hgt, hct⟩ := ownL_at ho3 (by omega)
    rw [hnT] at hct ⊢
    have HCT : Hid (∀ j, j < n → w3.cell? ⟨gt, j, none⟩ = some (.int .i64 (repV m j))) := (fun j hj => by have h := hct j hj; have h2 := HTOLD.out j hj; rw [hn] at h; rw [h, h2] : ∀ j, j < n → w3.cell? ⟨gt, j, none⟩ = some (.int .i64 (repV m j)))
    have HCM := hid hcm
    have HN : Hid (m.length = n) := hn
    clear ho3 cR hct hcm hn hnT HTOLD
    go_wp2_with fail
    refine (cP _ _ (HT.out.grown (gr_alloc hg3 _))).mono ?_
    rintro e w4 ⟨sa, sc, rfl, ho4, hg4⟩
    dsimp only at ho4 ⊢
    have hmk := make_ints n (by omega)
    have hg34 : w3.grownBy w4 none := grown_join (gr_alloc (World.grownBy.refl _ _) _) hg4 (.inl rfl)
    have hf4 := kept hg4 (heap_alloc_new w3 (.cells #[.int .i64 0, .int .i64 0, .int .i64 0] 26))
    have f0 := at_cell hf4 0
    simp at f0
    have hfl := at_lt hf4
    clear cP hf4 hg4
    obtain ⟨L, hL⟩ : ∃ L, out.length = L := ⟨_, rfl⟩
    rw [hL] at ho4 ⊢
    have HL : Hid (out.length = L) := hL
    have HO4 := hid ho4
    clear hL ho4
    go_wp2_with fail
    obtain ⟨w5, hw5⟩ : ∃ w5, ((w4.alloc (.cells #[.int .i64 0, .int .i64 0, .int .i64 0] 26)).alloc (.cells (dcells n fun _ => 0).toArray 3)).alloc (.cells (dcells n fun _ => 0).toArray 3) = w5 := ⟨_, rfl⟩
    have hM5 : MeM w4 (w4.heap.size + 1) (w4.heap.size + 1 + 1) n (wkF m (out.take 0)) (jbF m (out.take 0)) w5 := by
      rw [List.take_zero, (wk_nil m).1, (wk_nil m).2, ← hw5]
      exact ⟨(hp_old (by simp) _).trans (hp_new (by simp) _), hp_new (by simp) _, gr_alloc (gr_alloc (gr_alloc (World.grownBy.refl _ _) _) _) _⟩
    rw [hw5]
    obtain ⟨uw, huw⟩ : ∃ u, w4.heap.size + 1 = u := ⟨_, rfl⟩
    rw [huw] at hM5 ⊢
    obtain ⟨uj, huj⟩ : ∃ u, uw + 1 = u := ⟨_, rfl⟩
    rw [huj] at hM5 ⊢
    have hne : uw ≠ uj := by omega
    have hbw : w4.heap.size ≤ uw := by omega
    have hbj : w4.heap.size ≤ uj := by omega
    have HMT : Hid (∀ W, w4.grownBy W none → ∀ i, i < n → W.cell? ⟨gm, i * 5, none⟩ = some (.string (tk m i).name) ∧ W.cell? ⟨gm, i * 5 + 1, none⟩ = some (.int .i64 (tk m i).per) ∧ W.cell? ⟨gm, i * 5 + 2, none⟩ = some (.int .i64 (tk m i).off) ∧ W.cell? ⟨gm, i * 5 + 3, none⟩ = some (.int .i64 (tk m i).cost) ∧ W.cell? ⟨gm, i * 5 + 4, none⟩ = some (.int .i64 (tk m i).dead) ∧ W.cell? ⟨gt, i, none⟩ = some (.int .i64 (repV m i))) := (fun W hW i hi => by
      have g2 := grown_join (grown_join hg3 hg34 (.inl rfl)) hW (.inl rfl)
      have g3 := grown_join hg34 hW (.inl rfl)
      obtain ⟨a0, a1, a2, a3, a4⟩ := HCM.out i hi
      exact ⟨g2.cell a0 (by simp), g2.cell a1 (by simp), g2.cell a2 (by simp), g2.cell a3 (by simp), g2.cell a4 (by simp), g3.cell (HCT.out i hi) (by simp)⟩ : ∀ W, w4.grownBy W none → ∀ i, i < n → W.cell? ⟨gm, i * 5, none⟩ = some (.string (tk m i).name) ∧ W.cell? ⟨gm, i * 5 + 1, none⟩ = some (.int .i64 (tk m i).per) ∧ W.cell? ⟨gm, i * 5 + 2, none⟩ = some (.int .i64 (tk m i).off) ∧ W.cell? ⟨gm, i * 5 + 3, none⟩ = some (.int .i64 (tk m i).cost) ∧ W.cell? ⟨gm, i * 5 + 4, none⟩ = some (.int .i64 (tk m i).dead) ∧ W.cell? ⟨gt, i, none⟩ = some (.int .i64 (repV m i)))
    have HM5 := hid hM5
    have hgw4 : w.grownBy w4 none := grown_join (grown_join hgw2 hg3 (.inl rfl)) hg34 (.inl rfl)
    clear hw5 hM5 huw huj hg3 hg34 hgw2 hmk HT HCT HCM f0 hfl hgm hgt
    have hL12 : L ≤ 1200 := by have h := HLEN.out; rw [HL.out] at h; exact h
    go_loopg [12, 13] L (fun gk s12 s13 wx => ∃ (k : Nat), s13 = .int .i64 k ∧ k ≤ L ∧ gk = L - k ∧ s12 = .int .i64 (nowOf (out.take k)) ∧ Hid (MeM w4 uw uj n (wkF m (out.take k)) (jbF m (out.take k)) wx))
    case atStart => exact ⟨0, rfl, Nat.zero_le _, by omega, by rw [List.take_zero]; rfl, HM5.out⟩
    case round =>
      obtain ⟨k, rfl, hk, hgk, rfl, HM⟩ := hrel
      have HG : Hid (gk = L - k) := hgk
      clear hgk
      by_cases hlt : k < L
      · have hkl : k < out.length := by rw [HL.out]; exact hlt
        have HGS := HO4.out
        obtain ⟨gs, rfl, hgs, hcs⟩ := ownP_at HGS (by omega)
        have c0 : wr.cell? ⟨gs, k * 4, none⟩ = some (.int .i64 out[k].task) := (HM.out.grown.cell ((hcs (k * 4) (by omega)).trans (flat_at rowL 4 (by omega) rowL_len out k 0 hkl (by omega))) (by simp))
        have c1 : wr.cell? ⟨gs, k * 4 + 1, none⟩ = some (.int .i64 out[k].job) := (HM.out.grown.cell ((hcs (k * 4 + 1) (by omega)).trans (flat_at rowL 4 (by omega) rowL_len out k 1 hkl (by omega))) (by simp))
        have c2 : wr.cell? ⟨gs, k * 4 + 2, none⟩ = some (.int .i64 out[k].fr) := (HM.out.grown.cell ((hcs (k * 4 + 2) (by omega)).trans (flat_at rowL 4 (by omega) rowL_len out k 2 hkl (by omega))) (by simp))
        have c3 : wr.cell? ⟨gs, k * 4 + 3, none⟩ = some (.int .i64 out[k].to) := (HM.out.grown.cell ((hcs (k * 4 + 3) (by omega)).trans (flat_at rowL 4 (by omega) rowL_len out k 3 hkl (by omega))) (by simp))
        obtain ⟨i, hM⟩ := HEACH.out k out[k] (List.getElem?_eq_getElem hkl)
        obtain ⟨x, hx⟩ : ∃ x, out[k] = x := ⟨_, rfl⟩
        rw [hx] at c0 c1 c2 c3 hM
        have HTK : Hid (out.take (k + 1) = out.take k ++ [x]) := (by rw [List.take_succ_eq_append_getElem hkl, hx] : out.take (k + 1) = out.take k ++ [x])
        have hin : i < n := by have := hM.hi; rw [HN.out] at this; exact this
        obtain ⟨W', hW'⟩ : ∃ W', wkF m (out.take k) i + (x.to - x.fr) = W' := ⟨_, rfl⟩
        have HP : Hid (W' ≠ (tk m i).cost → upd (wkF m (out.take k)) i W' = wkF m (out.take (k + 1)) ∧ jbF m (out.take k) = jbF m (out.take (k + 1))) := (fun h => by rw [HTK.out, ← hW']; exact wk_part HOK.out hM (by rw [hW']; exact h) : W' ≠ (tk m i).cost → upd (wkF m (out.take k)) i W' = wkF m (out.take (k + 1)) ∧ jbF m (out.take k) = jbF m (out.take (k + 1)))
        have hjb : jbF m (out.take k) i = x.job := hM.job.symm
        have HF : Hid (W' = (tk m i).cost → upd (upd (wkF m (out.take k)) i W') i 0 = wkF m (out.take (k + 1)) ∧ upd (jbF m (out.take k)) i (x.job + 1) = jbF m (out.take (k + 1))) := (fun h => by rw [HTK.out, ← hW', ← hjb]; exact wk_full HOK.out hM (by rw [hW']; exact h) : W' = (tk m i).cost → upd (upd (wkF m (out.take k)) i W') i 0 = wkF m (out.take (k + 1)) ∧ upd (jbF m (out.take k)) i (x.job + 1) = jbF m (out.take (k + 1)))
        have HNW : Hid (nowOf (out.take (k + 1)) = x.to) := (by rw [HTK.out, nowOf_snoc] : nowOf (out.take (k + 1)) = x.to)
        have ht := tk_ok HOK.out hM.hi
        have hnow := hM.now
        have hfr0 := hM.fr0
        have hxl := hM.lt
        have hxe := hM.le
        have hj0 := hM.job0
        have hrel := hM.rel
        have hwork : W' ≤ (tk m i).cost := by rw [← hW']; exact hM.work
        have htook : W' = (tk m i).cost → x.to - ((tk m i).off + x.job * (tk m i).per) ≤ repV m i := fun h => hM.took (hW'.trans h)
        have hfirst : W' = (tk m i).cost → idle = true → x.job = 0 → x.to - ((tk m i).off + x.job * (tk m i).per) = repV m i := fun h => hM.first (hW'.trans h)
        have hwk0 : 0 ≤ wkF m (out.take k) i := Int.emod_nonneg _ (by omega)
        have hV := HREP.out i hin
        rw [hM.task] at c0
        have hcm := HMT.out wr HM.out.grown i hin
        have hZ0 : 0 ≤ x.job * (tk m i).per := Int.mul_nonneg hj0 (by omega)
        have HWC : Hid (∀ W f, MeM w4 uw uj n f (jbF m (out.take k)) W → W.cell? ⟨uj, i, none⟩ = some (.int .i64 x.job)) := (fun W f h => by rw [h.jc hin, hjb] : ∀ W f, MeM w4 uw uj n f (jbF m (out.take k)) W → W.cell? ⟨uj, i, none⟩ = some (.int .i64 x.job))
        have HMI : Hid (∀ W, w4.grownBy W none → W.cell? ⟨gm, i * 5, none⟩ = some (.string (tk m i).name) ∧ W.cell? ⟨gm, i * 5 + 1, none⟩ = some (.int .i64 (tk m i).per) ∧ W.cell? ⟨gm, i * 5 + 2, none⟩ = some (.int .i64 (tk m i).off) ∧ W.cell? ⟨gm, i * 5 + 3, none⟩ = some (.int .i64 (tk m i).cost) ∧ W.cell? ⟨gm, i * 5 + 4, none⟩ = some (.int .i64 (tk m i).dead) ∧ W.cell? ⟨gt, i, none⟩ = some (.int .i64 (repV m i))) := (fun W hW => HMT.out W hW i hin : ∀ W, w4.grownBy W none → W.cell? ⟨gm, i * 5, none⟩ = some (.string (tk m i).name) ∧ W.cell? ⟨gm, i * 5 + 1, none⟩ = some (.int .i64 (tk m i).per) ∧ W.cell? ⟨gm, i * 5 + 2, none⟩ = some (.int .i64 (tk m i).off) ∧ W.cell? ⟨gm, i * 5 + 3, none⟩ = some (.int .i64 (tk m i).cost) ∧ W.cell? ⟨gm, i * 5 + 4, none⟩ = some (.int .i64 (tk m i).dead) ∧ W.cell? ⟨gt, i, none⟩ = some (.int .i64 (repV m i)))
        obtain ⟨wk, hwk⟩ : ∃ wk, wkF m (out.take k) i = wk := ⟨_, rfl⟩
        have HWK : Hid (wkF m (out.take k) i = wk) := hwk
        rw [hwk] at hW' hwk0
        generalize repV m i = V at *
        generalize tk m i = t at *
        obtain ⟨t0, t1, t2, t3, t4⟩ := t
        obtain ⟨x0, jb, fr, tt⟩ := x
        dsimp only at *
        obtain ⟨Z, hZ⟩ : ∃ Z, jb * t1 = Z := ⟨_, rfl⟩
        rw [hZ] at hrel htook hfirst hZ0
        obtain ⟨Rl, hRl⟩ : ∃ Rl, t2 + Z = Rl := ⟨_, rfl⟩
        rw [hRl] at hrel htook hfirst
        obtain ⟨d, hd⟩ : ∃ d, tt - fr = d := ⟨_, rfl⟩
        rw [hd] at hW'
        obtain ⟨T, hT⟩ : ∃ T, tt - Rl = T := ⟨_, rfl⟩
        rw [hT] at htook hfirst
        obtain ⟨now, hnw⟩ : ∃ now, nowOf (out.take k) = now := ⟨_, rfl⟩
        rw [hnw] at hnow ⊢
        have hjbb : jb ≤ 1200 := by
          have h := Int.mul_le_mul_of_nonneg_left ht.1 hj0
          rw [hZ] at h
          omega
        have v1 : IntKind.i64.wrap Z = Z := IntWalk.i64_in _ (by omega)
        have v2 : IntKind.i64.wrap Rl = Rl := IntWalk.i64_in _ (by omega)
        have v3 : IntKind.i64.wrap d = d := IntWalk.i64_in _ (by omega)
        have v4 : IntKind.i64.wrap W' = W' := IntWalk.i64_in _ (by omega)
        have v5 : IntKind.i64.wrap T = T := IntWalk.i64_in _ (by omega)
        have v6 : IntKind.i64.wrap (jb + 1) = jb + 1 := IntWalk.i64_in _ (by omega)
        have i1 : (0 : Int) ≤ (k : Int) := by omega
        have i2 : (k : Int) < (L : Int) := by omega
        have j1 : (0 : Int) ≤ (i : Int) := by omega
        have j2 : (i : Int) < (n : Int) := by omega
        have j3 : ¬ (i : Int) < 0 := by omega
        have j4 : ¬ (n : Int) ≤ (i : Int) := by omega
        have j5 : ¬ fr < now := by omega
        have j6 : ¬ tt ≤ fr := by omega
        have j7 : ¬ (1200 : Int) < tt := by omega
        have j8 : ¬ fr < Rl := by omega
        have j9 : ¬ t3 < W' := by omega
        have HTOOK := hid htook
        have HFIRST := hid hfirst
        clear hM hjb hwk hnw hcs HGS htook hfirst hcm hx hkl
        clear hwk0 hrel hwork ht hnow hfr0 hxl hxe hj0 hV hZ0 hjbb
        go_upto_region 19 with fail
        obtain ⟨wA, hwA⟩ : ∃ wA, wr.alloc (.cells #[.int .i64 (i : Int), .int .i64 jb, .int .i64 fr, .int .i64 tt] 36) = wA := ⟨_, rfl⟩
        obtain ⟨X, hX⟩ : ∃ X, wr.heap.size = X := ⟨_, rfl⟩
        have hbA : wA.heap[X]? = some (.cells #[.int .i64 (i : Int), .int .i64 jb, .int .i64 fr, .int .i64 tt] 36) := by rw [← hwA, ← hX]; exact heap_alloc_new _ _
        have hMA : MeM w4 uw uj n (wkF m (out.take k)) (jbF m (out.take k)) wA := HM.out.grow (by rw [← hwA]; exact gr_alloc (World.grownBy.refl _ _) _)
        have hXw : uw ≠ X ∧ uj ≠ X := by have := HM.out.lt; omega
        rw [hwA, hX]
        have x0 := at_cell hbA 0
        have x1 := at_cell hbA 1
        have x2 := at_cell hbA 2
        have x3 := at_cell hbA 3
        simp at x0 x1 x2 x3
        have jc := HWC.out wA _ hMA
        obtain ⟨m0, m1, m2, m3, m4, m5⟩ := HMI.out wA hMA.grown
        have HMA := hid hMA
        have HBA := hid hbA
        clear hwA hX hMA hbA c0 c1 c2 c3
        go_quiet (fail)
        obtain ⟨wB0, hB0⟩ : ∃ wB0, wA.drewN nq = wB0 := ⟨_, rfl⟩
        have hgB0 : wA.grownBy wB0 none := by rw [← hB0]; exact gr_drewN (World.grownBy.refl _ _) _
        rw [hB0]
        have HMB0 := hid (HMA.out.grow hgB0)
        have HBB0 := hid (kept hgB0 HBA.out)
        clear x0 x1 x2 x3 jc m0 m1 m2 m3 m4 m5 hB0 hgB0 HMA HBA
        have x0 := at_cell HBB0.out 0
        have x1 := at_cell HBB0.out 1
        have x2 := at_cell HBB0.out 2
        have x3 := at_cell HBB0.out 3
        simp at x0 x1 x2 x3
        obtain ⟨m0, m1, m2, m3, m4, m5⟩ := HMI.out wB0 HMB0.out.grown
        go_upto_region 23 with fail
        obtain ⟨wB, hwB⟩ : ∃ wB, wB0.alloc (.cells #[.string t0, .int .i64 t1, .int .i64 t2, .int .i64 t3, .int .i64 t4] 42) = wB := ⟨_, rfl⟩
        obtain ⟨Y, hY⟩ : ∃ Y, wB0.heap.size = Y := ⟨_, rfl⟩
        have hgB : wB0.grownBy wB none := by rw [← hwB]; exact gr_alloc (World.grownBy.refl _ _) _
        have hbY : wB.heap[Y]? = some (.cells #[.string t0, .int .i64 t1, .int .i64 t2, .int .i64 t3, .int .i64 t4] 42) := by rw [← hwB, ← hY]; exact heap_alloc_new _ _
        have hbX := kept hgB HBB0.out
        have hMB := HMB0.out.grow hgB
        have hYw : uw ≠ Y ∧ uj ≠ Y := by have := HMB0.out.lt; omega
        rw [hwB, hY]
        have HMB := hid hMB
        have HBX := hid hbX
        have HBY := hid hbY
        clear x0 x1 x2 x3 m0 m1 m2 m3 m4 m5 hwB hY hgB HMB0 HBB0
        have x0 := at_cell hbX 0
        have x1 := at_cell hbX 1
        have x2 := at_cell hbX 2
        have x3 := at_cell hbX 3
        simp at x0 x1 x2 x3
        have y1 := at_cell hbY 1
        have y2 := at_cell hbY 2
        have y3 := at_cell hbY 3
        simp at y1 y2 y3
        have wc := hMB.wc hin
        rw [HWK.out] at wc
        have wf := hMB.wf i
        clear hMB hbX hbY
        go_upto_region 26 with fail
        go_cut [137] (fun s137 wx => s137 = .int .i64 W' ∧ (wB.setCell ⟨uw, i, none⟩ (.int .i64 W')).drew = wx)
        case first =>
          go_region_law (fail)
          all_goals go_wp2_with fail
          all_goals go_meet
          all_goals exact ⟨rfl, rfl⟩
        case rest =>
         obtain ⟨rfl, hcut2⟩ := hcut
         subst hcut2
         obtain ⟨wC, hwC⟩ : ∃ wC, (wB.setCell ⟨uw, i, none⟩ (.int .i64 W')).drew = wC := ⟨_, rfl⟩
         have hgC : wB.grownBy wC (some uw) := by rw [← hwC]; exact gr_drew (gr_set (World.grownBy.refl _ _) _ _)
         have hbX := keptBut hgC HBX.out (fun e => hXw.1 e.symm)
         have hbY := keptBut hgC HBY.out (fun e => hYw.1 e.symm)
         have hMC : MeM w4 uw uj n (upd (wkF m (out.take k)) i W') (jbF m (out.take k)) wC := by rw [← hwC]; exact (HMB.out.putW hne hbw i W').grow (gr_drew (World.grownBy.refl _ _))
         rw [hwC]
         have HMC := hid hMC
         have HCX := hid hbX
         have HCY := hid hbY
         clear x0 x1 x2 x3 y1 y2 y3 wc wf hwC hgC HMB HBX HBY
         have x0 := at_cell hbX 0
         simp at x0
         have y3 := at_cell hbY 3
         simp at y3
         have wc := hMC.wc hin
         rw [upd_same] at wc
         clear hMC hbX hbY
         go_upto_region 27 with fail
         go_quiet (fail)
         obtain ⟨wD, hD⟩ : ∃ wD, wC.drewN nq = wD := ⟨_, rfl⟩
         have hgD : wC.grownBy wD none := by rw [← hD]; exact gr_drewN (World.grownBy.refl _ _) _
         rw [hD]
         have HMD := hid (HMC.out.grow hgD)
         have HDX := hid (kept hgD HCX.out)
         have HDY := hid (kept hgD HCY.out)
         clear x0 y3 wc hD hgD HMC HCX HCY
         have x0 := at_cell HDX.out 0
         simp at x0
         have y3 := at_cell HDY.out 3
         simp at y3
         have wc := HMD.out.wc hin
         rw [upd_same] at wc
         by_cases heq : W' = t3
         · obtain ⟨hF1, hF2⟩ := HF.out heq
           have HF1 := hid hF1
           have HF2 := hid hF2
           have hVT : ¬ V < T := by have := HTOOK.out heq; omega
           have hFI := HFIRST.out heq
           have HFI := hid hFI
           clear hF1 hF2 hFI
           go_upto_region 29 with fail
           go_quiet (fail)
           obtain ⟨wE, hE⟩ : ∃ wE, wD.drewN nq = wE := ⟨_, rfl⟩
           have hgE : wD.grownBy wE none := by rw [← hE]; exact gr_drewN (World.grownBy.refl _ _) _
           rw [hE]
           have HME := hid (HMD.out.grow hgE)
           have HEX := hid (kept hgE HDX.out)
           clear x0 y3 wc hE hgE HMD HDX HDY
           have x0 := at_cell HEX.out 0
           have x1 := at_cell HEX.out 1
           have x3 := at_cell HEX.out 3
           simp at x0 x1 x3
           have wf := HME.out.wf i
           have wc := HME.out.wc hin
           rw [upd_same] at wc
           have tc := (HMI.out wE HME.out.grown).2.2.2.2.2
           have hcase : idle = false ∨ (idle = true ∧ ¬ jb = 0) ∨ (idle = true ∧ jb = 0 ∧ T = V) := by
             cases idle with
             | false => exact .inl rfl
             | true =>
               by_cases hj : jb = 0
               · exact .inr (.inr ⟨rfl, hj, HFI.out rfl hj⟩)
               · exact .inr (.inl ⟨rfl, hj⟩)
           clear HFI HFIRST HTOOK
           have jf := HME.out.jf i
           have jc := HWC.out wE _ HME.out
           have HFIN : Hid (∀ f, f = upd (wkF m (out.take k)) i W' → MeM w4 uw uj n f (jbF m (out.take k)) wE) := (fun f e => by rw [e]; exact HME.out : ∀ f, f = upd (wkF m (out.take k)) i W' → MeM w4 uw uj n f (jbF m (out.take k)) wE)
           have hgl := HG.out
           have HMZ : Hid (MeM w4 uw uj n (wkF m (out.take (k + 1))) (jbF m (out.take (k + 1))) ((wE.setCell ⟨uw, i, none⟩ (.int .i64 0)).setCell ⟨uj, i, none⟩ (.int .i64 (jb + 1)))) := (by
             have h := (HME.out.putW hne hbw i 0).putJ hne hbj i (jb + 1)
             rw [HF1.out, HF2.out] at h
             exact h : MeM w4 uw uj n (wkF m (out.take (k + 1))) (jbF m (out.take (k + 1))) ((wE.setCell ⟨uw, i, none⟩ (.int .i64 0)).setCell ⟨uj, i, none⟩ (.int .i64 (jb + 1))))
           have z0 : (wE.setCell ⟨uw, i, none⟩ (.int .i64 0)).cell? ⟨X, 0, none⟩ = some (.int .i64 (i : Int)) := (gr_set (World.grownBy.refl wE (some uw)) _ _).cell x0 (by simpa using fun e => hXw.1 e.symm)
           have zj : (wE.setCell ⟨uw, i, none⟩ (.int .i64 0)).cell? ⟨uj, i, none⟩ = some (.int .i64 jb) := HWC.out _ _ (HME.out.putW hne hbw i 0)
           have zf : (wE.setCell ⟨uw, i, none⟩ (.int .i64 0)).frozen? ⟨uj, i, none⟩ = false := (HME.out.putW hne hbw i 0).jf i
           have Z0 := hid z0
           have ZJ := hid zj
           have ZF := hid zf
           clear z0 zj zf HFIN jf jc HME HEX HF1 HF2
           rcases hcase with hid0 | ⟨hid1, hj⟩ | ⟨hid1, hj, hTV⟩
           · subst hid0
             go_upto_region 34 with fail
             obtain ⟨wG, hwG⟩ : ∃ wG, wE.setCell ⟨uw, i, none⟩ (.int .i64 0) = wG := ⟨_, rfl⟩
             rw [hwG] at Z0 ZJ ZF HMZ ⊢
             have z0 := Z0.out
             have zj := ZJ.out
             have zf := ZF.out
             clear x0 x1 x3 wf wc tc
             go_wp2_with fail
             go_roundg (L - (k + 1))
             all_goals first | omega | exact ⟨k + 1, by go_num, by omega, by omega, by rw [HNW.out], HMZ.out⟩
           · subst hid1
             go_upto_region 34 with fail
             obtain ⟨wG, hwG⟩ : ∃ wG, wE.setCell ⟨uw, i, none⟩ (.int .i64 0) = wG := ⟨_, rfl⟩
             rw [hwG] at Z0 ZJ ZF HMZ ⊢
             have z0 := Z0.out
             have zj := ZJ.out
             have zf := ZF.out
             clear x0 x1 x3 wf wc tc
             go_wp2_with fail
             go_roundg (L - (k + 1))
             all_goals first | omega | exact ⟨k + 1, by go_num, by omega, by omega, by rw [HNW.out], HMZ.out⟩
           · subst hid1
             subst hj
             subst hTV
             go_upto_region 34 with fail
             obtain ⟨wG, hwG⟩ : ∃ wG, wE.setCell ⟨uw, i, none⟩ (.int .i64 0) = wG := ⟨_, rfl⟩
             rw [hwG] at Z0 ZJ ZF HMZ ⊢
             have z0 := Z0.out
             have zj := ZJ.out
             have zf := ZF.out
             clear x0 x1 x3 wf wc tc
             go_wp2_with fail
             go_roundg (L - (k + 1))
             all_goals first | omega | exact ⟨k + 1, by go_num, by omega, by omega, by rw [HNW.out], HMZ.out⟩
         · obtain ⟨hP1, hP2⟩ := HP.out heq
           have HMD2 : Hid (MeM w4 uw uj n (wkF m (out.take (k + 1))) (jbF m (out.take (k + 1))) wD) := (by have h := HMD.out; rw [hP1, hP2] at h; exact h : MeM w4 uw uj n (wkF m (out.take (k + 1))) (jbF m (out.take (k + 1))) wD)
           clear hP1 hP2 HMD
           go_upto_region 29 with fail
           go_quiet (fail)
           have hgl := HG.out
           go_wp2_with fail
           go_roundg (L - (k + 1))
           all_goals first | omega | exact ⟨k + 1, by go_num, by omega, by omega, by rw [HNW.out], HMD2.out.grow (gr_drewN (World.grownBy.refl _ _) _)⟩
      · obtain rfl : k = L := by omega
        have i2 : ¬ (k : Int) < (k : Int) := by omega
        have HTA : Hid (out.take k = out) := (List.take_of_length_le (by rw [HL.out]; exact Nat.le_refl _) : out.take k = out)
        have HM9 : Hid (MeM w4 uw uj n (wkF m out) (jbF m out) wr) := (by have h := HM.out; rw [HTA.out] at h; exact h : MeM w4 uw uj n (wkF m out) (jbF m out) wr)
        clear HM
        go_wp2_with fail
        go_loopg [18] n (fun gk s18 wx => ∃ (i : Nat), s18 = .int .i64 i ∧ i ≤ n ∧ gk = n - i ∧ Hid (MeM w4 uw uj n (wkF m out) (jbF m out) wx))
        case atStart => exact ⟨0, rfl, Nat.zero_le _, by omega, HM9.out⟩
        case round =>
          obtain ⟨i, rfl, hin, hgi, HMi⟩ := hrel
          have HGI : Hid (gk = n - i) := hgi
          clear hgi
          by_cases hlti : i < n
          · have HDN := hid (HDONE.out i hlti)
            have ht := tk_ok HOK.out (i := i) (by rw [HN.out]; exact hlti)
            have hV := HREP.out i hlti
            have HMI : Hid (∀ W, w4.grownBy W none → W.cell? ⟨gm, i * 5 + 1, none⟩ = some (.int .i64 (tk m i).per) ∧ W.cell? ⟨gm, i * 5 + 2, none⟩ = some (.int .i64 (tk m i).off) ∧ W.cell? ⟨gt, i, none⟩ = some (.int .i64 (repV m i))) := (fun W hW => by
              obtain ⟨_, a1, a2, _, _, a5⟩ := HMT.out W hW i hlti
              exact ⟨a1, a2, a5⟩ : ∀ W, w4.grownBy W none → W.cell? ⟨gm, i * 5 + 1, none⟩ = some (.int .i64 (tk m i).per) ∧ W.cell? ⟨gm, i * 5 + 2, none⟩ = some (.int .i64 (tk m i).off) ∧ W.cell? ⟨gt, i, none⟩ = some (.int .i64 (repV m i)))
            have HJ : Hid (∀ W, MeM w4 uw uj n (wkF m out) (jbF m out) W → W.cell? ⟨uj, i, none⟩ = some (.int .i64 (Wk out i / (tk m i).cost))) := (fun W h => h.jc hlti : ∀ W, MeM w4 uw uj n (wkF m out) (jbF m out) W → W.cell? ⟨uj, i, none⟩ = some (.int .i64 (Wk out i / (tk m i).cost)))
            generalize Wk out i / (tk m i).cost = J at *
            generalize repV m i = V at *
            generalize tk m i = t at *
            obtain ⟨t0, t1, t2, t3, t4⟩ := t
            dsimp only at *
            have i1 : (0 : Int) ≤ (i : Int) := by omega
            have i3 : (i : Int) < (n : Int) := by omega
            go_wp2_with fail
            go_loopg [19] 1202 (fun gk s19 wx => ∃ (q : Nat), s19 = .int .i64 q ∧ q ≤ 1201 ∧ gk = 1202 - q ∧ Hid (MeM w4 uw uj n (wkF m out) (jbF m out) wx))
            case atStart => exact ⟨0, rfl, by omega, rfl, HMi.out⟩
            case round =>
              obtain ⟨q, rfl, hq, hgq, HMq⟩ := hrel
              have HGQ : Hid (gk = 1202 - q) := hgq
              clear hgq
              obtain ⟨a1, a2, a5⟩ := HMI.out wr HMq.out.grown
              have aj := HJ.out wr HMq.out
              obtain ⟨Z, hZ⟩ : ∃ Z, (q : Int) * t1 = Z := ⟨_, rfl⟩
              have hZ0 : 0 ≤ Z := by rw [← hZ]; exact Int.mul_nonneg (by omega) (by omega)
              have hZ1 : Z ≤ 1201 * 1000000 := by rw [← hZ]; exact Int.mul_le_mul (by omega) (by omega) (by omega) (by omega)
              have hZq : (q : Int) ≤ Z := by
                have h := Int.mul_le_mul_of_nonneg_left ht.1 (show (0 : Int) ≤ (q : Int) by omega)
                rw [hZ] at h
                omega
              obtain ⟨A, hA⟩ : ∃ A, t2 + Z = A := ⟨_, rfl⟩
              obtain ⟨B, hB⟩ : ∃ B, A + V = B := ⟨_, rfl⟩
              have v1 : IntKind.i64.wrap Z = Z := IntWalk.i64_in _ (by omega)
              have v2 : IntKind.i64.wrap A = A := IntWalk.i64_in _ (by omega)
              have v3 : IntKind.i64.wrap B = B := IntWalk.i64_in _ (by omega)
              by_cases hle : B ≤ 1200
              · have hqJ : ¬ J ≤ (q : Int) := by
                  have h := HDN.out q (by rw [hZ, hA, hB]; exact hle)
                  omega
                have hq2 : q ≤ 1200 := by omega
                have hgl := HGQ.out
                clear hZ0 hZ1 hZq
                go_wp2_with fail
                go_quiet (fail)
                go_wp2_with fail
                go_roundg (1202 - (q + 1))
                all_goals first | omega | exact ⟨q + 1, by go_num, by omega, by omega, HMq.out.grow (gr_drewN (World.grownBy.refl _ _) _)⟩
              · have hgl := HGI.out
                clear hZ0 hZ1 hZq
                go_wp2_with fail
                go_quiet (fail)
                go_wp2_with fail
                go_roundg (n - (i + 1))
                all_goals first | omega | exact ⟨i + 1, by go_num, by omega, by omega, HMq.out.grow (gr_drewN (World.grownBy.refl _ _) _)⟩
          · have i3 : ¬ (i : Int) < (n : Int) := by omega
            go_wp2_with fail
            go_ret
            exact ⟨rfl, grown_join hgw4 HMi.out.grown (.inl rfl)⟩
  · obtain ⟨z, ho⟩ := resp_slow_all h1 (by omega) hok hc
    rw [ho] at cR
    clear hz hc hoff hok ho
    go_enter Try.func6, Try.ntmps6
    go_wp2_with fail
    refine cK.mono ?_
    rintro e w1 ⟨rfl, hg1⟩
    go_wp2_with fail
    refine (cD _ hg1).mono ?_
    rintro e w2 ⟨ma, mc, rfl, hO2, hg2⟩
    have HT : Hid (TsAt w2 (.slice ma m.length mc) m) := hO2.ts
    have hgw2 := grown_join hg1 hg2 (.inl rfl)
    clear hO2 hg1 hg2 cD cK
    obtain ⟨n, hn⟩ : ∃ n, m.length = n := ⟨_, rfl⟩
    rw [hn] at HT ⊢
    go_wp2_with fail
    refine (cR _ _ HT.out).mono ?_
    rintro e w3 ⟨oa, oc, rfl, ho3, hg3⟩
    dsimp only
    clear ho3 cR
    go_wp2_with fail
    go_ret
    exact ⟨rfl, gr_alloc (grown_join hgw2 hg3 (.inl rfl)) _⟩
end Go.Proofs.Ytholmeebkgpjjaa
