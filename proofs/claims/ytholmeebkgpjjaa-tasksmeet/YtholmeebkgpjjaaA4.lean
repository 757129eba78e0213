/- Respond, the program's. -/
import Derived.Test.YtholmeebkgpjjaaA3
namespace Go.Proofs.Ytholmeebkgpjjaa
open Go.RowKit
attribute [local go_sem ↓] Go.wp_at_zero Go.wp_at_succ
set_option linter.unusedVariables false
set_option linter.unusedSimpArgs false

/-- The block of a fault that the call made first. -/
theorem flt {w w1 : World} {x y z : Int} (hg : (w.alloc (.cells #[.int .i64 x, .int .i64 y, .int .i64 z] 26)).grownBy w1 none) : w.heap.size < w1.heap.size ∧ w1.cell? ⟨w.heap.size, 0, none⟩ = some (.int .i64 x) ∧ w1.cell? ⟨w.heap.size, 1, none⟩ = some (.int .i64 y) ∧ w1.cell? ⟨w.heap.size, 2, none⟩ = some (.int .i64 z) ∧ w1.frozen? ⟨w.heap.size, 0, none⟩ = false ∧ w1.frozen? ⟨w.heap.size, 1, none⟩ = false ∧ w1.frozen? ⟨w.heap.size, 2, none⟩ = false ∧ w.grownBy w1 none := by
  have h := kept hg (heap_alloc_new w _)
  exact ⟨at_lt h, at_cell h 0, at_cell h 1, at_cell h 2, at_frozen h 0, at_frozen h 1, at_frozen h 2, grown_join (gr_alloc (World.grownBy.refl _ _) _) hg (.inl rfl)⟩
set_option maxHeartbeats 2000000 in
theorem respond_any (l : List Tk) (v : Value) (w : World) (hm : l.length ≤ maxLen) (hv : TsAt w v l) :
    Calls Try.prog 10 #[v] w fun e w' => RespP w w' e (respS l) := by
  obtain ⟨a, cap, rfl, hcap, _⟩ := id hv
  have cL : ∀ W, w.grownBy W none → Calls Try.prog 24 #[.slice a l.length cap] W fun e w' => e = .returned (flV (lookS l)) ∧ W.grownBy w' none := fun W hW => lookAt_any l _ W hm (hv.grown hW)
  unfold maxLen at hm
  have hfine := @look_fine l
  have hrl := @resp_look l
  have hrs := @resp_slow l
  have hra := @resp_all l
  unfold flV at cL
  generalize lookS l = p at *
  obtain ⟨c, u⟩ := p
  dsimp only at *
  by_cases hf : c = 0
  · subst hf
    obtain ⟨h16, h1, hok⟩ := hfine rfl
    have HS : Hid (∀ {i : Nat}, i < l.length → rep l i = none → (∀ j, j < i → (rep l j).isSome = true) → respS l = ([], 13, (i : Int))) := hrs rfl
    have HA : Hid ((∀ j, j < l.length → (rep l j).isSome = true) → respS l = ((List.range l.length).map (repV l), 0, 0)) := hra rfl
    clear hrs hra hrl hfine
    go_enter Try.func10, Try.ntmps10
    go_wp2_with (first | (go_at_call 24; refine (cL _ (gr_alloc (World.grownBy.refl _ _) _)).mono ?_; rintro e w1 ⟨rfl, hg1⟩))
    go_loopw [5, 18] (fun s i wx => ∃ (k : Nat) (R : List Int) (a' : Option Addr) (cap' : Nat), k ≤ l.length ∧ R.length = k ∧ i = .int .i64 k ∧ s = .slice a' R.length cap' ∧ OwnL (w.heap.size + 1) wx a' cap' R ∧ Hid (R = (List.range k).map (repV l)) ∧ Hid (∀ j, j < k → (rep l j).isSome = true) ∧ (w.alloc (.cells #[.int .i64 0, .int .i64 0, .int .i64 0] 26)).grownBy wx none) (fun _ i _ => l.length - (intOf i).toNat)
    case atStart => exact ⟨0, [], none, 0, Nat.zero_le _, rfl, rfl, rfl, OwnL.nil _ _, rfl, fun j hj => by omega, gr_alloc hg1 _⟩
    case round =>
      obtain ⟨k, R, a', cap', hk, hRk, rfl, rfl, hown, HR, HJ, hg⟩ := hrel
      obtain ⟨hlt', f0, f1, f2, z0, z1, z2, hgw⟩ := flt hg
      by_cases hlt : k < l.length
      · obtain ⟨b, off, capx, he, hc⟩ := (hv.grown hgw).at (by omega)
        injection he with e1 e2 e3
        subst e1 e3
        obtain ⟨c0, c1, c2, c3, c4⟩ := hc k hlt
        have hkt : okB (l.getD k tk0) = true := hok.at k hlt
        have cR : ∀ W, wr.grownBy W none → Calls Try.prog 25 #[.agg #[.string (l.getD k tk0).name, .int .i64 (l.getD k tk0).per, .int .i64 (l.getD k tk0).off, .int .i64 (l.getD k tk0).cost, .int .i64 (l.getD k tk0).dead], .slice (some ⟨b, off, none⟩) k cap] W fun e w1 => RepIs e (rep l k) ∧ W.grownBy w1 none := fun W hW =>
          reply_any _ (l.take k) _ W hkt (hok.take k) (by simp; omega) (((hv.grown hgw).grown hW).take k (by omega))
        clear hc
        generalize l.getD k tk0 = t at *
        cases hr : rep l k with
        | none =>
          have HF : Hid (respS l = ([], 13, (k : Int))) := HS.out hlt hr HJ.out
          rw [hr] at cR
          have cR' : ∀ W, (wr.alloc (.cells #[.string t.name, .int .i64 t.per, .int .i64 t.off, .int .i64 t.cost, .int .i64 t.dead] 42)).grownBy W none → Calls Try.prog 25 #[.agg #[.string t.name, .int .i64 t.per, .int .i64 t.off, .int .i64 t.cost, .int .i64 t.dead], .slice (some ⟨b, off, none⟩) k cap] W fun e w1 => e = .returned (.tuple #[.int .i64 0, .bool false]) ∧ (wr.alloc (.cells #[.string t.name, .int .i64 t.per, .int .i64 t.off, .int .i64 t.cost, .int .i64 t.dead] 42)).grownBy w1 none := fun W hW => (cR W (grown_join (gr_alloc (World.grownBy.refl _ _) _) hW (.inl rfl))).mono fun e w1 h => by
            obtain ⟨⟨s', hs, he⟩ | ⟨hs, he⟩, h2⟩ := h
            · simp at hs
            · exact ⟨he, grown_join hW h2 (.inl rfl)⟩
          have HB : Hid (∀ w', (wr.alloc (.cells #[.string t.name, .int .i64 t.per, .int .i64 t.off, .int .i64 t.cost, .int .i64 t.dead] 42)).grownBy w' none → w'.cell? ⟨wr.heap.size, 0, none⟩ = some (.string t.name) ∧ w'.cell? ⟨wr.heap.size, 1, none⟩ = some (.int .i64 t.per) ∧ w'.cell? ⟨wr.heap.size, 2, none⟩ = some (.int .i64 t.off) ∧ w'.cell? ⟨wr.heap.size, 3, none⟩ = some (.int .i64 t.cost) ∧ w'.cell? ⟨wr.heap.size, 4, none⟩ = some (.int .i64 t.dead) ∧ (wr.alloc (.cells #[.string t.name, .int .i64 t.per, .int .i64 t.off, .int .i64 t.cost, .int .i64 t.dead] 42)).grownBy w' none) := fun w' hw =>
            have h := kept hw (heap_alloc_new wr _)
            ⟨at_cell h 0, at_cell h 1, at_cell h 2, at_cell h 3, at_cell h 4, hw⟩
          clear cR hr
          have hki : (0 : Int) ≤ (k : Int) := by omega
          have hkc : (k : Int) ≤ (cap : Int) := by omega
          go_wp2_with fail
          go_region_held3 (fun w' => w'.cell? ⟨wr.heap.size, 0, none⟩ = some (.string t.name) ∧ w'.cell? ⟨wr.heap.size, 1, none⟩ = some (.int .i64 t.per) ∧ w'.cell? ⟨wr.heap.size, 2, none⟩ = some (.int .i64 t.off) ∧ w'.cell? ⟨wr.heap.size, 3, none⟩ = some (.int .i64 t.cost) ∧ w'.cell? ⟨wr.heap.size, 4, none⟩ = some (.int .i64 t.dead) ∧ (wr.alloc (.cells #[.string t.name, .int .i64 t.per, .int .i64 t.off, .int .i64 t.cost, .int .i64 t.dead] 42)).grownBy w' none) ((refine HB.out _ ?_; first | assumption | exact World.grownBy.refl _ _ | exact gr_drew (World.grownBy.refl _ _))) (first | (go_at_call 25; refine (cR' _ (by first | assumption | exact gr_drew (World.grownBy.refl _ _) | exact World.grownBy.refl _ _)).mono ?_; rintro e w2 ⟨rfl, hg2⟩))
          have hg3 := grown_join hg (grown_join (gr_alloc (World.grownBy.refl wr none) _) hg2 (.inl rfl)) (.inl rfl)
          obtain ⟨hlt2, g0, g1, g2, y0, y1, y2, hgw2⟩ := flt hg3
          clear HB cR' hg2 hg c0 c1 c2 c3 c4
          go_wp2
          refine bodyPost_ret (v := .tuple #[.slice none 0 0, .agg #[.int .i64 13, .int .i64 k, .int .i64 0]]) (by simp [results, Try.results10, go_sem, g0, g1, g2, hlt2]) rfl ?_
          rw [HF.out]
          exact ⟨none, 0, rfl, OwnL.nil _ _, gr_own (gr_own (gr_own hgw2 (Nat.le_refl _) _ _) (Nat.le_refl _) _ _) (Nat.le_refl _) _ _⟩
        | some s =>
          have HR2 : Hid (R ++ [(s : Int) + 1] = (List.range (k + 1)).map (repV l)) := by
            have e : R ++ [(s : Int) + 1] = (List.range (k + 1)).map (repV l) := by
              rw [List.range_succ, List.map_append, ← HR.out]
              simp [repV, hr]
            exact e
          have HJ2 : Hid (∀ j, j < k + 1 → (rep l j).isSome = true) := by
            have e : ∀ j, j < k + 1 → (rep l j).isSome = true := fun j hj => by
              rcases Nat.lt_or_ge j k with h | h
              · exact HJ.out j h
              · rw [show j = k by omega, hr]; rfl
            exact e
          rw [hr] at cR
          have cR' : ∀ W, (wr.alloc (.cells #[.string t.name, .int .i64 t.per, .int .i64 t.off, .int .i64 t.cost, .int .i64 t.dead] 42)).grownBy W none → Calls Try.prog 25 #[.agg #[.string t.name, .int .i64 t.per, .int .i64 t.off, .int .i64 t.cost, .int .i64 t.dead], .slice (some ⟨b, off, none⟩) k cap] W fun e w1 => e = .returned (.tuple #[.int .i64 (s + 1), .bool true]) ∧ (wr.alloc (.cells #[.string t.name, .int .i64 t.per, .int .i64 t.off, .int .i64 t.cost, .int .i64 t.dead] 42)).grownBy w1 none := fun W hW => (cR W (grown_join (gr_alloc (World.grownBy.refl _ _) _) hW (.inl rfl))).mono fun e w1 h => by
            obtain ⟨⟨s', hs, he⟩ | ⟨hs, he⟩, h2⟩ := h
            · injection hs with hs; subst hs; exact ⟨he, grown_join hW h2 (.inl rfl)⟩
            · simp at hs
          have HB : Hid (∀ w', (wr.alloc (.cells #[.string t.name, .int .i64 t.per, .int .i64 t.off, .int .i64 t.cost, .int .i64 t.dead] 42)).grownBy w' none → w'.cell? ⟨wr.heap.size, 0, none⟩ = some (.string t.name) ∧ w'.cell? ⟨wr.heap.size, 1, none⟩ = some (.int .i64 t.per) ∧ w'.cell? ⟨wr.heap.size, 2, none⟩ = some (.int .i64 t.off) ∧ w'.cell? ⟨wr.heap.size, 3, none⟩ = some (.int .i64 t.cost) ∧ w'.cell? ⟨wr.heap.size, 4, none⟩ = some (.int .i64 t.dead) ∧ (wr.alloc (.cells #[.string t.name, .int .i64 t.per, .int .i64 t.off, .int .i64 t.cost, .int .i64 t.dead] 42)).grownBy w' none) := fun w' hw =>
            have h := kept hw (heap_alloc_new wr _)
            ⟨at_cell h 0, at_cell h 1, at_cell h 2, at_cell h 3, at_cell h 4, hw⟩
          clear cR hr
          have hki : (0 : Int) ≤ (k : Int) := by omega
          have hkc : (k : Int) ≤ (cap : Int) := by omega
          go_wp2_with fail
          go_region_held3 (fun w' => w'.cell? ⟨wr.heap.size, 0, none⟩ = some (.string t.name) ∧ w'.cell? ⟨wr.heap.size, 1, none⟩ = some (.int .i64 t.per) ∧ w'.cell? ⟨wr.heap.size, 2, none⟩ = some (.int .i64 t.off) ∧ w'.cell? ⟨wr.heap.size, 3, none⟩ = some (.int .i64 t.cost) ∧ w'.cell? ⟨wr.heap.size, 4, none⟩ = some (.int .i64 t.dead) ∧ (wr.alloc (.cells #[.string t.name, .int .i64 t.per, .int .i64 t.off, .int .i64 t.cost, .int .i64 t.dead] 42)).grownBy w' none) ((refine HB.out _ ?_; first | assumption | exact World.grownBy.refl _ _ | exact gr_drew (World.grownBy.refl _ _))) (first | (go_at_call 25; refine (cR' _ (by first | assumption | exact gr_drew (World.grownBy.refl _ _) | exact World.grownBy.refl _ _)).mono ?_; rintro e w2 ⟨rfl, hg2⟩))
          have hgx := grown_join (gr_alloc (World.grownBy.refl wr none) _) hg2 (.inl rfl)
          have hg3 := grown_join hg hgx (.inl rfl)
          have hsz := hg3.size
          simp at hsz
          obtain ⟨a2, cap2, w3, hrun, hown3, hgr3⟩ := (hown.kept hgx).more ((s : Int) + 1) (by omega) (by omega)
          have hg4 := hgr3 _ (by simp) hg3
          rw [hRk] at hrun
          have HW3 : Hid (OwnL (w.heap.size + 1) w3 a2 cap2 (R ++ [(s : Int) + 1])) := hown3
          clear HB cR' hg2 hg c0 c1 c2 c3 c4 hgr3 hg3 hgx hown3 hown
          have HRUN : Hid ((Builtin.append_ #[23, 23] 23 #[.slice a' k cap', .slice (some ⟨w2.heap.size, 0, none⟩) 1 1]).run Try.prog (w2.alloc (.cells #[.int .i64 ((s : Int) + 1)] 3)) = .ok (.slice a2 (k + 1) cap2) w3) := hrun
          clear hrun
          go_wp2_with (first | (at_builtin; refine wpList_append_run rfl _ _ 23 rfl _ _ _ w3 rfl rfl HRUN.out ?_))
          go_roundw
          case rel =>
            refine ⟨k + 1, R ++ [(s : Int) + 1], a2, cap2, by omega, by simp [hRk], by go_num, by simp [hRk], HW3.out, ?_, ?_, hg4⟩
            · exact HR2.out
            · exact HJ2.out
          case measure => simp [intOf]; omega
      · have hF := HA.out (fun j hj => HJ.out j (by omega))
        have e : respS l = (R, 0, 0) := by rw [hF, HR.out, show k = l.length by omega]

        have HF : Hid (respS l = (R, 0, 0)) := e
        clear hF e
        go_wp2
        refine bodyPost_ret (v := .tuple #[.slice a' R.length cap', .agg #[.int .i64 0, .int .i64 0, .int .i64 0]]) (by simp [results, Try.results10, go_sem, f0, f1, f2, hlt']) rfl ?_
        rw [HF.out]
        refine ⟨a', cap', rfl, own_low (own_but hown (gr_set (gr_set (gr_set (World.grownBy.refl _ _) _ _) _ _) _ _) (Nat.lt_succ_self _)) (Nat.le_succ _), gr_own (gr_own (gr_own hgw (Nat.le_refl _) _ _) (Nat.le_refl _) _ _) (Nat.le_refl _) _ _⟩
  · have HR : Hid (respS l = ([], c, u)) := hrl hf
    have hne : (c != 0) = true := by simp [hf]
    clear hf hrs hra hrl hfine
    go_enter Try.func10, Try.ntmps10
    go_wp2_with (first | (go_at_call 24; refine (cL _ (gr_alloc (World.grownBy.refl _ _) _)).mono ?_; rintro e w1 ⟨rfl, hg1⟩; obtain ⟨hlt, f0, f1, f2, z0, z1, z2, hgw⟩ := flt hg1))
    go_region
    go_wp2
    refine bodyPost_ret (v := .tuple #[.slice none 0 0, .agg #[.int .i64 c, .int .i64 u, .int .i64 0]]) (by simp [results, Try.results10, go_sem, f0, f1, f2, hlt]) rfl ?_
    rw [HR.out]
    exact ⟨none, 0, rfl, OwnL.nil _ _, gr_drew (gr_alloc (gr_own (gr_own (gr_own hgw (Nat.le_refl _) _ _) (Nat.le_refl _) _ _) (Nat.le_refl _) _ _) _)⟩
end Go.Proofs.Ytholmeebkgpjjaa
