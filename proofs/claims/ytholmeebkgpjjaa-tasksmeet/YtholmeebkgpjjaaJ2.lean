/- Order, the document's. -/
import Derived.Test.YtholmeebkgpjjaaJ
namespace Go.Proofs.Ytholmeebkgpjjaa
open Go.RowKit
attribute [local go_sem ↓] Go.wp_at_zero Go.wp_at_succ
set_option linter.unusedVariables false
set_option linter.unusedSimpArgs false

theorem TsAt.atb {w : World} {tb toff cap : Nat} {l : List Tk} (h : TsAt w (.slice (some ⟨tb, toff, none⟩) l.length cap) l) (i : Nat) (hi : i < l.length) : w.cell? ⟨tb, toff + i * 5, none⟩ = some (.string (l.getD i tk0).name) ∧ w.cell? ⟨tb, toff + i * 5 + 1, none⟩ = some (.int .i64 (l.getD i tk0).per) ∧ w.cell? ⟨tb, toff + i * 5 + 2, none⟩ = some (.int .i64 (l.getD i tk0).off) ∧ w.cell? ⟨tb, toff + i * 5 + 3, none⟩ = some (.int .i64 (l.getD i tk0).cost) ∧ w.cell? ⟨tb, toff + i * 5 + 4, none⟩ = some (.int .i64 (l.getD i tk0).dead) := by
  obtain ⟨b', off', c', he', hc'⟩ := h.at (by omega)
  injection he' with e1 e2 e3
  injection e1 with e1
  injection e1 with e4 e5
  subst e4 e5
  exact hc' i hi
theorem resp_zero {l : List Tk} (h : (lookS l).1 = 0) (hc : (respS l).2.1 = 0) : (respS l).2.2 = 0 := by
  unfold respS at *
  rw [if_neg (by simp [h])] at *
  cases hf : firstB (fun i => (rep l i).isSome) l.length with
  | none => simp
  | some i => rw [hf] at hc; simp at hc
def lenOf : Value → Nat
  | .slice _ n _ => n
  | _ => 0
/-- The best so far. -/
def Bst (l : List Tk) (o : List Nat) (k : Nat) (z : Int) : Prop := (z = -1 ∧ ∀ x, x < k → x ∈ o) ∨ ∃ b : Nat, z = b ∧ b < k ∧ b ∉ o ∧ ∀ x, x < k → x ∉ o → x ≠ b → lt' l b x
theorem Bst.used {l : List Tk} {o : List Nat} {k : Nat} {z : Int} (h : Bst l o k z) (hk : k ∈ o) : Bst l o (k + 1) z := by
  rcases h with ⟨rfl, h⟩ | ⟨b, rfl, hb, hno, h⟩
  · exact .inl ⟨rfl, fun x hx => by
      rcases Nat.lt_or_ge x k with h1 | h1
      · exact h x h1
      · rw [show x = k by omega]; exact hk⟩
  · exact .inr ⟨b, rfl, by omega, hno, fun x hx hxo hxb => by
      rcases Nat.lt_or_ge x k with h1 | h1
      · exact h x h1 hxo hxb
      · rw [show x = k by omega] at hxo; exact (hxo hk).elim⟩
theorem Bst.first {l : List Tk} {o : List Nat} {k : Nat} (h : Bst l o k (-1)) (hk : k ∉ o) : Bst l o (k + 1) k := by
  rcases h with ⟨_, h⟩ | ⟨b, hb, _⟩
  · exact .inr ⟨k, rfl, by omega, hk, fun x hx hxo hxb => (hxo (h x (by omega))).elim⟩
  · omega
theorem Bst.turn {l : List Tk} {o : List Nat} {k b : Nat} (h : Bst l o k b) (hk : k ∉ o) (hd : dl l k < dl l b) : Bst l o (k + 1) k := by
  rcases h with ⟨hb, _⟩ | ⟨b', hb, hlt, hno, h⟩
  · omega
  · obtain rfl : b = b' := by omega
    exact .inr ⟨k, rfl, by omega, hk, fun x hx hxo hxk => by
      have h1 : lt' l k b := .inl hd
      by_cases e : x = b
      · rw [e]; exact h1
      · exact lt'_trans h1 (h x (by omega) hxo e)⟩
theorem Bst.stay {l : List Tk} {o : List Nat} {k b : Nat} (h : Bst l o k b) (hd : ¬ dl l k < dl l b) : Bst l o (k + 1) b := by
  rcases h with ⟨hb, _⟩ | ⟨b', hb, hlt, hno, h⟩
  · omega
  · obtain rfl : b = b' := by omega
    exact .inr ⟨b, rfl, by omega, hno, fun x hx hxo hxb => by
      rcases Nat.lt_or_ge x k with h1 | h1
      · exact h x h1 hxo hxb
      · rw [show x = k by omega]; unfold lt'; omega⟩

set_option maxHeartbeats 4000000 in
theorem refOrder_any (l : List Tk) (v : Value) (w : World) (hm : l.length ≤ maxLen) (hv : TsAt w v l) :
    Calls Try.prog 11 #[v] w fun e w' => RespP w w' e (ordS l) := by
  obtain ⟨a, cap, rfl, hcap, _⟩ := id hv
  have cL : ∀ W, w.grownBy W none → Calls Try.prog 20 #[.slice a l.length cap] W fun e w' => e = .returned (flV (lookS l)) ∧ W.grownBy w' none := fun W hW => tasked_any l _ W hm (hv.grown hW)
  unfold maxLen at hm
  have hfine := @look_fine l
  have hrl := @ord_look l
  have hrs := @ord_slow l
  have hra := @ord_all l
  unfold flV at cL
  generalize lookS l = p at *
  obtain ⟨c, u⟩ := p
  dsimp only at *
  by_cases hf : c = 0
  · subst hf
    obtain ⟨h16, h1, hok⟩ := hfine rfl
    have HS := hrs rfl
    have HA := hra rfl
    clear hrs hra hrl hfine
    have hPl := srt_len l l.length
    have hPm : ∀ x, x ∈ srt l l.length → x < l.length := fun x hx => (srt_mem l).1 hx
    have hoO := inOrd_oks hok (srt l l.length) hPm
    have hlO : (inOrd l (srt l l.length)).length = l.length := by rw [inOrd_len, hPl]
    have hun := resp_unit (l := inOrd l (srt l l.length)) (by rw [look_zero (by omega) (by omega) hoO])
    have hzz := resp_zero (l := inOrd l (srt l l.length)) (by rw [look_zero (by omega) (by omega) hoO])
    have cR : ∀ W x, TsAt W x (inOrd l (srt l l.length)) → Calls Try.prog 8 #[x] W fun e w' => RespP W w' e (respS (inOrd l (srt l l.length))) := fun W x hx => refRespond_any _ x W (by unfold maxLen; omega) hx
    rw [hlO] at hun
    have HALL : Hid (∀ o, Picked l l.length o → o.length = l.length → o = srt l l.length) := fun o h h' => h.all h'
    generalize srt l l.length = P at *
    generalize respS (inOrd l P) = R at *
    obtain ⟨r, c, x⟩ := R
    dsimp only at *
    have HHS : Hid (c ≠ 0 → ordS l = ([], c, ((P.getD x.toNat 0 : Nat) : Int))) := HS
    have HHA : Hid (c = 0 → ordS l = (nums P, 0, 0)) := HA
    have HUN : Hid (c ≠ 0 → ∃ i, i < l.length ∧ x = (i : Int)) := hun
    have HPL : Hid (P.length = l.length) := hPl
    have HZZ : Hid (c = 0 → x = 0) := hzz
    clear HS HA hun hPl hPm hoO hlO hzz
    obtain ⟨n, hn⟩ : ∃ n, n = l.length := ⟨_, rfl⟩
    have HN : Hid (n = l.length) := hn
    have HV : Hid (TsAt w (.slice a l.length cap) l) := hv
    obtain ⟨tb, toff, capx, he, _⟩ := hv.at (by omega)
    injection he with e1 e2 e3
    subst e1 e3
    have HC : Hid (∀ W, w.grownBy W none → ∀ i, i < l.length → W.cell? ⟨tb, toff + i * 5, none⟩ = some (.string (l.getD i tk0).name) ∧ W.cell? ⟨tb, toff + i * 5 + 1, none⟩ = some (.int .i64 (l.getD i tk0).per) ∧ W.cell? ⟨tb, toff + i * 5 + 2, none⟩ = some (.int .i64 (l.getD i tk0).off) ∧ W.cell? ⟨tb, toff + i * 5 + 3, none⟩ = some (.int .i64 (l.getD i tk0).cost) ∧ W.cell? ⟨tb, toff + i * 5 + 4, none⟩ = some (.int .i64 (l.getD i tk0).dead)) := fun W hW i hi => (hv.grown hW).atb i hi
    rw [← hn] at cL hm h1 h16 hcap HPL HUN HALL HV HC ⊢
    clear hn hv
    have hmk := make_bools n (by omega)
    go_enter Try.func11, Try.ntmps11
    go_wp2_with (first | (go_at_call 20; refine (cL _ (gr_alloc (World.grownBy.refl _ _) _)).mono ?_; rintro e w1 ⟨rfl, hg1⟩))
    have hs1 := hg1.size
    simp at hs1
    have h0 : PickAt (w.alloc (.cells #[.int .i64 0, .int .i64 0, .int .i64 0] 26)) (w1.heap.size + 1) w1.heap.size u l n [] ((w1.alloc (.cells #[.int .i64 0, .int .i64 u, .int .i64 0] 26)).alloc (.cells (boolsA (List.replicate n false)) 4)) none 0 none 0 :=
      ⟨World.ownsRow_nil _ _ _ _, World.ownsRow_nil _ _ _ _, fun y hy => by simp [Value.ownBlock] at hy, by rw [usedL_nil]; exact hp_new (by simp) _, (hp_old (by simp) _).trans (heap_alloc_new w1 _), gr_alloc (gr_alloc hg1 _) _⟩
    clear hmk cL
    go_loopw [5, 7] (fun s5 s7 wx => ∃ (o : List Nat) (m : Nat) (a5 : Option Addr) (c5 : Nat) (a7 : Option Addr) (c7 : Nat), o.length = m ∧ m ≤ n ∧ s5 = .slice a5 m c5 ∧ s7 = .slice a7 m c7 ∧ Hid (Picked l n o) ∧ Hid (PickAt (w.alloc (.cells #[.int .i64 0, .int .i64 0, .int .i64 0] 26)) (w1.heap.size + 1) w1.heap.size u l n o wx a5 c5 a7 c7)) (fun s5 _ _ => n - lenOf s5)
    case atStart => exact ⟨[], 0, none, 0, none, 0, rfl, Nat.zero_le _, rfl, rfl, Picked.nil _ _, h0⟩
    case round =>
      obtain ⟨o, m, a5, c5, a7, c7, hom, hmn, rfl, rfl, HP, HM⟩ := hrel
      have HOM : Hid (o.length = m) := hom
      clear hom
      by_cases hlt : m < n
      · go_wp2_with fail
        go_loopw [8, 9] (fun s8 s9 wx => ∃ (k : Nat) (z : Int), k ≤ n ∧ s9 = .int .i64 k ∧ s8 = .int .i64 z ∧ Hid (Bst l o k z) ∧ Hid (PickAt (w.alloc (.cells #[.int .i64 0, .int .i64 0, .int .i64 0] 26)) (w1.heap.size + 1) w1.heap.size u l n o wx a5 c5 a7 c7)) (fun _ s9 _ => n - (intOf s9).toNat)
        case atStart => exact ⟨0, -1, Nat.zero_le _, rfl, rfl, .inl ⟨rfl, fun x hx => by omega⟩, HM.out⟩
        case round =>
          obtain ⟨k, z, hk, rfl, rfl, HB, HM2⟩ := hrel
          have hgw := grown_join (gr_alloc (World.grownBy.refl _ _) _) HM2.out.grown (.inl rfl)
          by_cases hkn : k < n
          · have hu := bools_get HM2.out.used k (by rw [usedL_len]; exact hkn)
            rw [usedL_get hkn] at hu
            obtain ⟨_, _, _, _, d4⟩ := HC.out wr hgw k hkn
            have i1 : (0 : Int) ≤ (k : Int) := by omega
            have i2 : (k : Int) < (n : Int) := by omega
            have HGW : Hid (w.grownBy wr none) := hgw
            clear hgw
            by_cases hko : k ∈ o
            · have HB2 : Hid (Bst l o (k + 1) z) := HB.out.used hko
              rw [decide_eq_true hko] at hu
              clear hko
              go_wp2_with fail
              go_quiet (fail)
              go_wp2
              go_roundw
              case rel => exact ⟨k + 1, z, by omega, by go_num, rfl, HB2.out, HM2.out.drewN _⟩
              case measure => simp [intOf]; omega
            · rw [decide_eq_false hko] at hu
              rcases id HB.out with ⟨rfl, _⟩ | ⟨b, rfl, hbk, hbo, _⟩
              · have HB2 : Hid (Bst l o (k + 1) k) := HB.out.first hko
                clear hko
                go_wp2_with fail
                go_quiet (fail)
                go_wp2
                go_roundw
                case rel => exact ⟨k + 1, k, by omega, by go_num, rfl, HB2.out, HM2.out.drewN _⟩
                case measure => simp [intOf]; omega
              · obtain ⟨_, _, _, _, b4⟩ := HC.out wr HGW.out b (by omega)
                have hst := @Bst.stay l o k b HB.out
                have htu := @Bst.turn l o k b HB.out hko
                unfold dl at hst htu
                generalize (l.getD k tk0).dead = x1 at *
                generalize (l.getD b tk0).dead = x2 at *
                have i3 : (0 : Int) ≤ (b : Int) := by omega
                have i4 : (b : Int) < (n : Int) := by omega
                have i5 : decide ((b : Int) < 0) = false := decide_eq_false (by omega)
                have HST : Hid (¬ x1 < x2 → Bst l o (k + 1) b) := hst
                have HTU : Hid (x1 < x2 → Bst l o (k + 1) k) := htu
                clear hst htu hko hbo
                by_cases hd : x1 < x2
                · have i6 : decide (x1 < x2) = true := decide_eq_true hd
                  have HB2 := HTU.out hd
                  have HB3 : Hid (Bst l o (k + 1) k) := HB2
                  clear HB2 hd
                  go_wp2_with fail
                  go_quiet (fail)
                  go_wp2
                  go_roundw
                  case rel => exact ⟨k + 1, k, by omega, by go_num, rfl, HB3.out, HM2.out.drewN _⟩
                  case measure => simp [intOf]; omega
                · have i6 : decide (x1 < x2) = false := decide_eq_false hd
                  have HB2 := HST.out hd
                  have HB3 : Hid (Bst l o (k + 1) b) := HB2
                  clear HB2 hd
                  go_wp2_with fail
                  go_quiet (fail)
                  go_wp2
                  go_roundw
                  case rel => exact ⟨k + 1, b, by omega, by go_num, rfl, HB3.out, HM2.out.drewN _⟩
                  case measure => simp [intOf]; omega
          · obtain rfl : k = n := by omega
            obtain ⟨b, rfl, hbk, hbo, hmin⟩ : ∃ b : Nat, z = b ∧ b < k ∧ b ∉ o ∧ ∀ x, x < k → x ∉ o → x ≠ b → lt' l b x := by
              rcases HB.out with ⟨_, hall⟩ | h
              · obtain ⟨y, hy, hyo⟩ := HP.out.left (by rw [HOM.out]; exact hlt)
                exact (hyo (hall y hy)).elim
              · exact h
            have HP2 : Hid (Picked l k (o ++ [b])) := HP.out.more hbk hbo hmin
            obtain ⟨a5', c5', w2, a7', c7', w3, r1, g2, r2, hM3⟩ := HM2.out.more (by simp; omega) (by omega) (by rw [HOM.out]; omega) b
            rw [HOM.out] at r1 r2
            have HM3 : Hid (PickAt (w.alloc (.cells #[.int .i64 0, .int .i64 0, .int .i64 0] 26)) (w1.heap.size + 1) w1.heap.size u l k (o ++ [b]) w3 a5' c5' a7' c7') := hM3
            have hgw2 := grown_join (gr_alloc (World.grownBy.refl _ _) _) g2 (.inl rfl)
            obtain ⟨d0, d1, d2, d3, d4⟩ := HC.out w2 hgw2 b hbk
            have hu := at_cell HM2.out.used b
            have hu' : ∃ y, wr.cell? ⟨w1.heap.size + 1, b, none⟩ = some y := by
              rw [hu]
              exact ⟨_, Array.getElem?_eq_getElem (by simp [boolsA, usedL]; exact hbk)⟩
            obtain ⟨y, hy⟩ := hu'
            have hz := at_frozen HM2.out.used b
            generalize l.getD b tk0 = t at *
            have HR1 : Hid ((Builtin.append_ #[23, 23] 23 #[.slice a5 m c5, .slice (some ⟨wr.heap.size, 0, none⟩) 1 1]).run Try.prog ((wr.setCell ⟨w1.heap.size + 1, b, none⟩ (.bool true)).alloc (.cells #[.int .i64 (b : Int)] 3)) = .ok (.slice a5' (m + 1) c5') w2) := r1
            have HR2 : Hid ((Builtin.append_ #[22, 22] 22 #[.slice a7 m c7, .slice (some ⟨w2.heap.size, 0, none⟩) 1 1]).run Try.prog (w2.alloc (.cells #[.string t.name, .int .i64 t.per, .int .i64 t.off, .int .i64 t.cost, .int .i64 t.dead] 42)) = .ok (.slice a7' (m + 1) c7') w3) := r2
            have i1 : (0 : Int) ≤ (b : Int) := by omega
            have i2 : (b : Int) < (k : Int) := by omega
            clear r1 r2 hM3 hmin hbo hu
            go_wp2_with (first | (at_builtin; refine wpList_append_run rfl _ _ 23 rfl _ _ _ w2 rfl rfl HR1.out ?_) | (at_builtin; refine wpList_append_run rfl _ _ 22 rfl _ _ _ w3 rfl rfl HR2.out ?_))
            go_roundw
            case rel => exact ⟨o ++ [b], m + 1, a5', c5', a7', c7', by simp [HOM.out], by omega, rfl, rfl, HP2.out, HM3.out⟩
            case measure => simp [lenOf]; omega
      · obtain rfl : m = n := by omega
        obtain rfl : o = P := HALL.out o HP.out HOM.out
        have hlo : (inOrd l o).length = m := by rw [inOrd_len]; exact HOM.out
        have hT : TsAt wr (.slice a7 m c7) (inOrd l o) := by
          have e : OwnT (w1.heap.size + 1 + 1) wr a7 c7 (inOrd l o) := by
            have e1 := HM.out.ord
            unfold OwnT
            rw [inOrd_len]
            exact e1
          have e2 := e.ts
          rw [hlo] at e2
          exact e2
        have hON : ∃ g1, a5 = some ⟨g1, 0, none⟩ ∧ OwnN (w1.heap.size + 1 + 1) wr g1 c5 m o := by
          have hown := HM.out.out
          have hmap : (nums o).map (Value.int .i64) = o.map fun x : Nat => Value.int .i64 (x : Int) := by simp [nums]
          rw [HOM.out, hmap] at hown
          have hown' := hown
          obtain ⟨_, ⟨_, h0⟩ | ⟨g, c2, cur, hvv, _⟩⟩ := hown
          · omega
          · injection hvv with e1 e2 e3
            subst e1
            exact ⟨g, rfl, HOM.out, hown'⟩
        obtain ⟨g1, rfl, hON⟩ := hON
        have cR' := cR wr _ hT
        clear cR hT hlo
        go_wp2_with fail
        refine cR'.mono ?_
        rintro e w4 ⟨a4, cp4, rfl, ho4, hg4⟩
        dsimp only at ho4 ⊢
        have hgf4 := grown_join HM.out.grown hg4 (.inl rfl)
        obtain ⟨hlt4, f0, f1, f2, z0, z1, z2, hgw4⟩ := flt hgf4
        have hon4 := hON.kept hg4
        have hg1B := (World.ownsRow.lt hon4.2 g1 rfl).1
        have hg1l := hon4.lt
        have hfb := kept hg4 HM.out.flt
        have hfl := at_lt hfb
        have k0 : w4.cell? ⟨w1.heap.size, 0, none⟩ = some (.int .i64 0) := at_cell hfb 0
        have k1 : w4.cell? ⟨w1.heap.size, 1, none⟩ = some (.int .i64 u) := at_cell hfb 1
        have k2 : w4.cell? ⟨w1.heap.size, 2, none⟩ = some (.int .i64 0) := at_cell hfb 2
        have y0 := at_frozen hfb 0
        have y1 := at_frozen hfb 1
        have y2 := at_frozen hfb 2
        have hne1 : g1 ≠ w.heap.size := by omega
        have hne2 : w.heap.size ≠ g1 := by omega
        have hne3 : g1 ≠ w1.heap.size := by omega
        have hne4 : w1.heap.size ≠ g1 := by omega
        have hne5 : w.heap.size ≠ w1.heap.size := by omega
        have hne6 : w1.heap.size ≠ w.heap.size := by omega
        have HON4 : Hid (OwnN (w1.heap.size + 1 + 1) w4 g1 c5 m o) := hon4
        by_cases hc : c = 0
        · subst hc
          have HF : Hid (ordS l = (nums o, 0, 0)) := HHA.out rfl
          have hx0 := HZZ.out rfl
          subst hx0
          clear hon4 hON cR' ho4 hfb
          go_wp2_with fail
          go_region
          go_wp2
          refine bodyPost_ret (v := .tuple #[.slice (some ⟨g1, 0, none⟩) m c5, .agg #[.int .i64 0, .int .i64 0, .int .i64 0]]) (by simp [results, Try.results11, go_sem, f0, f1, f2, hlt4]) rfl ?_
          rw [HF.out]
          have hl2 : (nums o).length = m := by simp [nums, HOM.out]
          have hmap : (nums o).map (Value.int .i64) = o.map fun x : Nat => Value.int .i64 (x : Int) := by simp [nums]
          refine ⟨some ⟨g1, 0, none⟩, c5, by rw [hl2], ?_, ?_⟩
          · unfold OwnL
            rw [hl2, hmap]
            exact own_low (own_but (own_but HON4.out.2 (gr_set (gr_set (gr_set (World.grownBy.refl _ _) _ _) _ _) _ _) (by omega)) (gr_drew (gr_set (gr_set (gr_set (World.grownBy.refl _ _) _ _) _ _) _ _)) (by omega)) (by omega)
          · exact gr_drew (gr_own (gr_own (gr_own (gr_own (gr_own (gr_own hgw4 (by omega) _ _) (by omega) _ _) (by omega) _ _) (Nat.le_refl _) _ _) (Nat.le_refl _) _ _) (Nat.le_refl _) _ _)
        · obtain ⟨i, hi, hxi⟩ := HUN.out hc
          subst hxi
          have HF : Hid (ordS l = ([], c, ((o.getD i 0 : Nat) : Int))) := HHS.out hc
          have hcP := hon4.get i hi
          have hcb : (c != 0) = true := by simp [hc]
          generalize o.getD i 0 = q at *
          have i1 : (0 : Int) ≤ (i : Int) := by omega
          have i2 : (i : Int) < (m : Int) := by omega
          clear hon4 hON cR' ho4 hc hfb
          go_wp2_with fail
          go_region
          go_wp2
          refine bodyPost_ret (v := .tuple #[.slice none 0 0, .agg #[.int .i64 c, .int .i64 q, .int .i64 0]]) (by simp [results, Try.results11, go_sem, f0, f1, f2, hlt4]) rfl ?_
          rw [HF.out]
          exact ⟨none, 0, rfl, OwnL.nil _ _, gr_drew (gr_own (gr_own (gr_own (gr_own (gr_own (gr_own hgw4 (by omega) _ _) (by omega) _ _) (by omega) _ _) (Nat.le_refl _) _ _) (Nat.le_refl _) _ _) (Nat.le_refl _) _ _)⟩
  · have HR : Hid (ordS l = ([], c, u)) := hrl hf
    have hne : (c != 0) = true := by simp [hf]
    clear hf hrs hra hrl hfine
    go_enter Try.func11, Try.ntmps11
    go_wp2_with (first | (go_at_call 20; refine (cL _ (gr_alloc (World.grownBy.refl _ _) _)).mono ?_; rintro e w1 ⟨rfl, hg1⟩; obtain ⟨hlt, f0, f1, f2, z0, z1, z2, hgw⟩ := flt hg1))
    go_region
    go_wp2
    refine bodyPost_ret (v := .tuple #[.slice none 0 0, .agg #[.int .i64 c, .int .i64 u, .int .i64 0]]) (by simp [results, Try.results11, go_sem, f0, f1, f2, hlt]) rfl ?_
    rw [HR.out]
    exact ⟨none, 0, rfl, OwnL.nil _ _, gr_drew (gr_alloc (gr_own (gr_own (gr_own hgw (Nat.le_refl _) _ _) (Nat.le_refl _) _ _) (Nat.le_refl _) _ _) _)⟩
end Go.Proofs.Ytholmeebkgpjjaa
