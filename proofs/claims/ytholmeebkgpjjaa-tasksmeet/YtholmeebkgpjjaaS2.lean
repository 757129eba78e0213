/- The iterator of jobs, walked. -/
import Derived.Test.YtholmeebkgpjjaaS
namespace Go.Proofs.Ytholmeebkgpjjaa
open Go.RowKit
attribute [local go_sem ↓] Go.wp_at_zero Go.wp_at_succ
attribute [local go_sem] Oper.semAt_some
set_option linter.unusedVariables false
set_option linter.unusedSimpArgs false

theorem next_more {l : List Tk} {nx : Nat → Int} {cur : Array Value} (h : NextAt l nx cur) (hm : jobAt l nx < l.length) : NextAt l (nxt l nx) ((cur.setIfInBounds (jobAt l nx * 4 + 1) (.int .i64 (nx (jobAt l nx) + 1))).setIfInBounds (jobAt l nx * 4 + 2) (.int .i64 (relOf l nx (jobAt l nx) + (tk l (jobAt l nx)).per))) := by
  intro i hi
  obtain ⟨f0, f1, f2, f3⟩ := h i hi
  have get : ∀ (r : Nat) (x : Value), cur[i * 4 + r]? = some x → r < 4 → (i ≠ jobAt l nx ∨ (r ≠ 1 ∧ r ≠ 2)) → ((cur.setIfInBounds (jobAt l nx * 4 + 1) (.int .i64 (nx (jobAt l nx) + 1))).setIfInBounds (jobAt l nx * 4 + 2) (.int .i64 (relOf l nx (jobAt l nx) + (tk l (jobAt l nx)).per)))[i * 4 + r]? = some x := fun r x hx hr hne => by
    rw [Array.getElem?_setIfInBounds_ne (by omega), Array.getElem?_setIfInBounds_ne (by omega)]
    exact hx
  by_cases e : i = jobAt l nx
  · have hs1 : i * 4 + 1 < cur.size := (Array.getElem?_eq_some_iff.1 f1).1
    have hs2 : i * 4 + 2 < cur.size := (Array.getElem?_eq_some_iff.1 f2).1
    have hr : relOf l (nxt l nx) i = relOf l nx (jobAt l nx) + (tk l (jobAt l nx)).per := by
      rw [e]
      unfold relOf nxt
      rw [upd_same, Int.add_mul]
      omega
    have hnn : nxt l nx i = nx (jobAt l nx) + 1 := by rw [e]; unfold nxt; rw [upd_same]
    rw [hr, hnn]
    refine ⟨get 0 _ f0 (by omega) (.inr ⟨by omega, by omega⟩), ?_, ?_, get 3 _ f3 (by omega) (.inr ⟨by omega, by omega⟩)⟩
    · rw [Array.getElem?_setIfInBounds_ne (by omega), ← e, Array.getElem?_setIfInBounds_self_of_lt hs1]
    · rw [← e, Array.getElem?_setIfInBounds_self_of_lt (by simpa using hs2)]
  · have hr : relOf l (nxt l nx) i = relOf l nx i := by unfold relOf nxt; rw [upd_other _ _ e]
    have hnn : nxt l nx i = nx i := by unfold nxt; rw [upd_other _ _ e]
    rw [hr, hnn]
    exact ⟨get 0 _ f0 (by omega) (.inl e), get 1 _ f1 (by omega) (.inl e), get 2 _ f2 (by omega) (.inl e), get 3 _ f3 (by omega) (.inl e)⟩
set_option maxHeartbeats 4000000 in
theorem jobs_in (w0 : World) (Fr0 : Nat → Obj → Prop) (B pb qb : Nat) (l : List Tk) (u : Int) (a : Option Addr) (cap lr bl m : Nat) (JX : World → Prop) (s0 : Ps) (W : World) (h16 : l.length ≤ 16) (h1 : 1 ≤ l.length) (hok : Oks l) (hu1 : u ≤ 20000)
    (hv : TsAt w0 (.slice a l.length cap) l) (hbl : Fr0 bl (.cells #[.slice a l.length cap] 22)) (h0 : JI w0 Fr0 B pb qb l u (fun _ => 0) s0 W)
    (hY : ∀ Fr nx s W1, (∀ k o, Fr0 k o → Fr k o) → JI w0 Fr B pb qb l u nx s W1 → YieldAt Fence.wide m Try.prog lr #[.agg #[.int .i64 (jobAt l nx), .int .i64 (nx (jobAt l nx)), .int .i64 (relOf l nx (jobAt l nx)), .int .i64 (tk l (jobAt l nx)).cost]] W1 fun e W' =>
      (e = .returned (.bool true) ∧ relOf l nx (jobAt l nx) < u ∧ JI w0 Fr B pb qb l u (nxt l nx) (oneJob l nx s) W') ∨ (e = .returned (.bool false) ∧ JX W')) :
    CallsIn Fence.wide (m + 1) Try.prog 37 #[.func (.yield lr) #[] #[], .pointer (some ⟨bl, 0, none⟩)] W fun e W' => (∃ v, e = .returned v) ∧ JX W' := by
  have hblW := h0.keep hbl
  have hTW := hv.grown h0.grown
  obtain ⟨tb, toff, capx, he, hct⟩ := hTW.at (by omega)
  injection he with e1 e2 e3
  subst e1 e3
  obtain ⟨n, hn⟩ : ∃ n, n = l.length := ⟨_, rfl⟩
  have HN : Hid (n = l.length) := hn
  have HC : Hid (∀ W', w0.grownBy W' none → ∀ i, i < n → W'.cell? ⟨tb, toff + i * 5, none⟩ = some (.string (l.getD i tk0).name) ∧ W'.cell? ⟨tb, toff + i * 5 + 1, none⟩ = some (.int .i64 (l.getD i tk0).per) ∧ W'.cell? ⟨tb, toff + i * 5 + 2, none⟩ = some (.int .i64 (l.getD i tk0).off) ∧ W'.cell? ⟨tb, toff + i * 5 + 3, none⟩ = some (.int .i64 (l.getD i tk0).cost) ∧ W'.cell? ⟨tb, toff + i * 5 + 4, none⟩ = some (.int .i64 (l.getD i tk0).dead)) := fun W' hW i hi => by
    obtain ⟨b', off', c', he', hc'⟩ := (hv.grown hW).at (by omega)
    injection he' with e1 e2 e3
    injection e1 with e1
    injection e1 with e4 e5
    subst e4 e5
    exact hc' i (by omega)
  have bc : W.cell? ⟨bl, 0, none⟩ = some (.slice (some ⟨tb, toff, none⟩) l.length cap) := at_cell hblW 0
  have HBL : Hid (Fr0 bl (.cells #[.slice (some ⟨tb, toff, none⟩) l.length cap] 22)) := hbl
  have H0 : Hid (JI w0 Fr0 B pb qb l u (fun _ => 0) s0 W) := h0
  have HOK : Hid (Oks l) := hok
  rw [← hn] at h16 h1 bc HBL
  obtain ⟨i63, hi63, hz0, hz1, hz2⟩ := info_parts info63
  clear hv hct hn hok hbl hblW hTW h0
  refine callsIn_of_wp Try.func37 rfl trivial ?_ rfl
  simp only [Try.ntmps37, List.size_toArray, List.length_cons, List.length_nil, Nat.reduceAdd, Nat.reduceSub, Array.replicate_succ, Array.replicate_zero, List.push_toArray, List.append_toArray, List.nil_append, List.cons_append]
  refine wpIn_wide.2 ?_
  go_wp2_with fail
  go_loopw [3, 9] (fun s i wx => ∃ (k : Nat) (a' : Option Addr) (cap' : Nat), k ≤ n ∧ i = .int .i64 k ∧ s = .slice a' k cap' ∧ Hid (wx.ownsRow W.heap.size 63 4 (.slice a' k cap') k (jrow l k)) ∧ W.grownBy wx none) (fun _ i _ => n - (intOf i).toNat)
  case atStart => exact ⟨0, none, 0, Nat.zero_le _, rfl, rfl, World.ownsRow_nil _ _ _ _, World.grownBy.refl _ _⟩
  case round =>
    obtain ⟨k, a', cap', hk, rfl, rfl, HO, hg⟩ := hrel
    have hsz := hg.size
    by_cases hlt : k < n
    · obtain ⟨c0, c1, c2, c3, c4⟩ := HC.out wr (grown_join H0.out.grown hg (.inl rfl)) k hlt
      obtain ⟨a2, cap2, w3, r1, r2, r3, r4⟩ := own_more2 Try.underlying65 hi63 hz0 hz1 hz2 rfl (by omega) (own_keep HO.out (gr_alloc (World.grownBy.refl wr none) (.cells #[.string (l.getD k tk0).name, .int .i64 (l.getD k tk0).per, .int .i64 (l.getD k tk0).off, .int .i64 (l.getD k tk0).cost, .int .i64 (l.getD k tk0).dead] 42))) [.int .i64 k, .int .i64 0, .int .i64 (l.getD k tk0).off, .int .i64 (l.getD k tk0).cost] rfl (by simp [Value.oneCell']) (by omega) (by omega) (by simp; omega)
      have hob := World.ownsRow.lt HO.out
      have hg3 : W.grownBy w3 none := grown_join (gr_alloc hg _) r3 (.inr fun y hy => (hob y hy).1)
      have HO3 : Hid (w3.ownsRow W.heap.size 63 4 (.slice a2 (k + 1) cap2) (k + 1) (jrow l (k + 1))) := by
        rw [jrow_more]
        have e : rowJ (jobOf l (fun _ => 0) k) = [.int .i64 k, .int .i64 0, .int .i64 (l.getD k tk0).off, .int .i64 (l.getD k tk0).cost] := by simp [rowJ, jobOf, relOf, tk]
        rw [e]
        exact hide r2
      have HRUN : Hid ((Builtin.append_ #[65, 65] 65 #[.slice a' k cap', .slice (some ⟨(wr.alloc (.cells #[.string (l.getD k tk0).name, .int .i64 (l.getD k tk0).per, .int .i64 (l.getD k tk0).off, .int .i64 (l.getD k tk0).cost, .int .i64 (l.getD k tk0).dead] 42)).heap.size, 0, none⟩) 1 1]).run Try.prog ((wr.alloc (.cells #[.string (l.getD k tk0).name, .int .i64 (l.getD k tk0).per, .int .i64 (l.getD k tk0).off, .int .i64 (l.getD k tk0).cost, .int .i64 (l.getD k tk0).dead] 42)).alloc (.cells #[.int .i64 k, .int .i64 0, .int .i64 (l.getD k tk0).off, .int .i64 (l.getD k tk0).cost] 63)) = .ok (.slice a2 (k + 1) cap2) w3) := r1
      clear r1 r2 r3 r4 hob
      generalize l.getD k tk0 = t at *
      have i1 : (0 : Int) ≤ (k : Int) := by omega
      have i2 : (k : Int) < (n : Int) := by omega
      rw [World.size_alloc] at HRUN
      go_wp2_with (first | (at_builtin; refine wpList_append_run rfl _ _ 65 rfl _ _ _ w3 rfl rfl HRUN.out ?_))
      go_roundw
      case rel => exact ⟨k + 1, a2, cap2, by omega, by go_num, rfl, HO3.out, hg3⟩
      case measure => simp [intOf]; omega
    · obtain rfl : k = n := by omega
      have hnext : ∃ nb cur, a' = some ⟨nb, 0, none⟩ ∧ W.heap.size ≤ nb ∧ wr.heap[nb]? = some (.cells cur 63) ∧ NextAt l (fun _ => 0) cur := by
        have hown := HO.out
        obtain ⟨hl, ⟨_, h0⟩ | ⟨nb, c2, cur, hvv, hb, hc, h3, h4, h5, h6⟩⟩ := HO.out
        · omega
        · injection hvv with e1 e2 e3
          subst e1 e3
          refine ⟨nb, cur, rfl, hb, hc, fun i hi => ?_⟩
          have key : ∀ r x, r < 4 → (rowJ (jobOf l (fun _ => 0) i))[r]? = some x → cur[i * 4 + r]? = some x := fun r x hr hx => by
            have e1 := World.ownsRow.cellAt hown (i * 4 + r) (by have := HN.out; omega)
            rw [at_cell hc] at e1
            rw [e1]
            unfold jrow
            have e2 := flat_at (fun i => rowJ (jobOf l (fun _ => 0) i)) 4 (by omega) (fun _ => rfl) (List.range k) i r (by simp; have := HN.out; omega) hr
            rw [e2]
            simpa using hx
          exact ⟨key 0 _ (by omega) rfl, key 1 _ (by omega) rfl, key 2 _ (by omega) rfl, key 3 _ (by omega) rfl⟩
      obtain ⟨nb, cur0, rfl, hnb, hcur0, hN0⟩ := hnext
      have hJ0 := H0.out.add hg hnb hcur0
      have HJ0 : Hid (JI w0 (fun k' o' => Fr0 k' o' ∨ (k' = nb ∧ o' = .cells cur0 63)) B pb qb l u (fun _ => 0) s0 wr) := hJ0
      have HN0 : Hid (NextAt l (fun _ => 0) cur0) := hN0
      clear hJ0 hN0 hcur0 HO
      go_wp2_with fail
      refine (wpIn_wide (n := m + 1)).1 ?_
      gi_loopw [6] (fun _ wx => ∃ (nx : Nat → Int) (s : Ps) (cur : Array Value), Hid (JI w0 (fun k' o' => Fr0 k' o' ∨ (k' = nb ∧ o' = .cells cur 63)) B pb qb l u nx s wx) ∧ Hid (NextAt l nx cur)) (fun _ wx => todo k u (numAt wx nb))
      case atStart => exact ⟨_, s0, cur0, HJ0.out, HN0.out⟩
      case round =>
        obtain ⟨nx, s, cur, HJ, HNX⟩ := hrel
        have hcur := HJ.out.keep (k := nb) (o := .cells cur 63) (.inr ⟨rfl, rfl⟩)
        have hm := jobAt_lt (l := l) nx (by have := HN.out; omega)
        have hJs : JsAt wr nb ((List.range k).map (jobOf l nx)) := fun i hi => by
          have hi' : i < k := by simpa using hi
          have e : ((List.range k).map (jobOf l nx)).getD i jb0 = jobOf l nx i := by simp [List.getD, hi']
          rw [e]
          obtain ⟨f0, f1, f2, f3⟩ := HNX.out i (by have := HN.out; omega)
          exact ⟨by rw [at_cell hcur]; exact f0, by rw [at_cell hcur]; exact f1, by rw [at_cell hcur]; exact f2, by rw [at_cell hcur]; exact f3⟩
        have cM := min_any nb k cap' _ wr hJs (by simp) h1 h16
        have hmin : minI (fun i => (((List.range k).map (jobOf l nx)).getD i jb0).rel) (k - 1) = jobAt l nx := by
          unfold jobAt
          rw [← HN.out]
          refine minI_congr _ fun i hi => ?_
          have hi' : i < k := by omega
          have e : ((List.range k).map (jobOf l nx)).getD i jb0 = jobOf l nx i := by simp [List.getD, hi']
          rw [e]; rfl
        have hget : ((List.range k).map (jobOf l nx)).getD (jobAt l nx) jb0 = jobOf l nx (jobAt l nx) := by
          have hi' : jobAt l nx < k := by have := HN.out; omega
          simp [List.getD, hi']
        rw [hmin, hget] at cM
        have cM' : Calls Try.prog 38 #[.slice (some ⟨nb, 0, none⟩) k cap', .func (.func 39) #[] #[]] wr fun e w' => e = .returned (.agg #[.int .i64 (jobAt l nx), .int .i64 (nx (jobAt l nx)), .int .i64 (relOf l nx (jobAt l nx)), .int .i64 (tk l (jobAt l nx)).cost]) ∧ wr.grownBy w' none := cM
        clear cM hmin hget hJs
        have HYY : Hid (∀ W2, wr.grownBy W2 none → YieldAt Fence.wide m Try.prog lr #[.agg #[.int .i64 (jobAt l nx), .int .i64 (nx (jobAt l nx)), .int .i64 (relOf l nx (jobAt l nx)), .int .i64 (tk l (jobAt l nx)).cost]] (W2.alloc (.cells #[.int .i64 (jobAt l nx), .int .i64 (nx (jobAt l nx)), .int .i64 (relOf l nx (jobAt l nx)), .int .i64 (tk l (jobAt l nx)).cost] 63)) fun e W' =>
            (e = .returned (.bool true) ∧ relOf l nx (jobAt l nx) < u ∧ JI w0 (fun k' o' => (Fr0 k' o' ∨ (k' = nb ∧ o' = .cells cur 63)) ∨ (k' = W2.heap.size ∧ o' = .cells #[.int .i64 (jobAt l nx), .int .i64 (nx (jobAt l nx)), .int .i64 (relOf l nx (jobAt l nx)), .int .i64 (tk l (jobAt l nx)).cost] 63)) B pb qb l u (nxt l nx) (oneJob l nx s) W') ∨ (e = .returned (.bool false) ∧ JX W')) := fun W2 hg2 =>
          hY _ nx s _ (fun k' o' hf => .inl (.inl hf)) ((HJ.out.grow hg2).add (gr_alloc (World.grownBy.refl _ _) _) (Nat.le_refl _) (heap_alloc_new W2 _))
        have HNUM : Hid (∀ i, i < k → numAt wr nb i = nx i) := fun i hi => by
          unfold numAt
          rw [at_cell hcur, (HNX.out i (by have := HN.out; omega)).2.1]
        have hmk : jobAt l nx < k := by have := HN.out; omega
        have hfew := HJ.out.inv.few HOK.out hm
        have hnow := HJ.out.now
        have hnx0 := HJ.out.inv.nx0 _ hm
        have hpb : 1 ≤ (tk l (jobAt l nx)).per ∧ (tk l (jobAt l nx)).per ≤ 1000000 ∧ 0 ≤ (tk l (jobAt l nx)).off ∧ (tk l (jobAt l nx)).off ≤ 1000000 := by
          have := (ok_iff _).1 (HOK.out.at _ hm)
          exact ⟨this.1, this.2.1, this.2.2.1, this.2.2.2.1⟩
        have hrnow := HJ.out.inv.next _ hm
        have hr0 := HJ.out.inv.rel.now0
        clear hY hm hcur
        gi_wp2_with (first | (refine ⟨trivial, ?_⟩; gi_at_call 38; refine (callsIn_wide.2 cM').mono ?_; rintro e W2 ⟨rfl, hg2⟩; obtain ⟨fn, tm, asg, bo, hy, hR⟩ := HYY.out W2 hg2))
        refine hR.mono ?_
        rintro e W3 (⟨rfl, hlt3, hJ3⟩ | ⟨rfl, hX3⟩)
        · have hn3 := hJ3.keep (k := nb) (o := .cells cur 63) (.inl (.inr ⟨rfl, rfl⟩))
          have hf3 := hJ3.keep (k := W2.heap.size) (.inr ⟨rfl, rfl⟩)
          have hb3 := hJ3.keep (k := bl) (.inl (.inl HBL.out))
          obtain ⟨_, d1, _, _, _⟩ := HC.out W3 hJ3.grown (jobAt l nx) hmk
          have d1' : W3.cell? ⟨tb, toff + jobAt l nx * 5 + 1, none⟩ = some (.int .i64 (tk l (jobAt l nx)).per) := d1
          obtain ⟨f0, f1, f2, f3⟩ := HNX.out (jobAt l nx) (by have := HN.out; omega)
          have n1 : W3.cell? ⟨nb, jobAt l nx * 4 + 1, none⟩ = some (.int .i64 (nx (jobAt l nx))) := by rw [at_cell hn3]; exact f1
          have n2 : W3.cell? ⟨nb, jobAt l nx * 4 + 2, none⟩ = some (.int .i64 (relOf l nx (jobAt l nx))) := by rw [at_cell hn3]; exact f2
          have z1 := at_frozen hn3 (jobAt l nx * 4 + 1)
          have z2 := at_frozen hn3 (jobAt l nx * 4 + 2)
          have g0 : W3.cell? ⟨W2.heap.size, 0, none⟩ = some (.int .i64 (jobAt l nx)) := at_cell hf3 0
          have b0 : W3.cell? ⟨bl, 0, none⟩ = some (.slice (some ⟨tb, toff, none⟩) k cap) := at_cell hb3 0
          have HJ3 : Hid (JI w0 (fun k' o' => (Fr0 k' o' ∨ (k' = nb ∧ o' = .cells cur 63)) ∨ (k' = W2.heap.size ∧ o' = .cells #[.int .i64 (jobAt l nx), .int .i64 (nx (jobAt l nx)), .int .i64 (relOf l nx (jobAt l nx)), .int .i64 (tk l (jobAt l nx)).cost] 63)) B pb qb l u (nxt l nx) (oneJob l nx s) W3) := hJ3
          have HN3 : Hid (W3.heap[nb]? = some (.cells cur 63)) := hn3
          have hW2nb : nb < W2.heap.size := by
            have q1 := at_lt (HJ.out.keep (k := nb) (o := .cells cur 63) (.inr ⟨rfl, rfl⟩))
            have q2 := hg2.size
            omega
          have hne1 : W2.heap.size ≠ nb := by omega
          have hne2 : nb ≠ W2.heap.size := by omega
          have hbnb : bl ≠ nb ∧ tb ≠ nb := by
            constructor
            · intro e
              have q := HJ0.out.keep (k := bl) (.inl HBL.out)
              have q2 := H0.out.keep HBL.out
              have := at_lt q2
              omega
            · intro e
              have q := HC.out W H0.out.grown (jobAt l nx) hmk
              have := cell_lt q.1
              omega
          have hne3 := hbnb.1
          have hne4 : nb ≠ bl := fun e => hne3 e.symm
          have hne5 := hbnb.2
          have hne6 : nb ≠ tb := fun e => hne5 e.symm
          have i1 : (0 : Int) ≤ (jobAt l nx : Int) := by omega
          have i2 : ((jobAt l nx : Nat) : Int) < (k : Int) := by omega
          have i3 : IntKind.i64.wrap (relOf l nx (jobAt l nx) + (tk l (jobAt l nx)).per) = relOf l nx (jobAt l nx) + (tk l (jobAt l nx)).per := i64_id (by omega) (by omega)
          clear hy hR cM' d1 f0 f1 f2 f3 hn3 hf3 hb3 hJ3 hbnb HYY
          have hg4 : W3.grownBy ((W3.setCell ⟨nb, jobAt l nx * 4 + 1, none⟩ (.int .i64 (nx (jobAt l nx) + 1))).setCell ⟨nb, jobAt l nx * 4 + 2, none⟩ (.int .i64 (relOf l nx (jobAt l nx) + (tk l (jobAt l nx)).per))).drew (some nb) := gr_drew (gr_set (gr_set (World.grownBy.refl _ _) _ _) _ _)
          have hcur4 : ((W3.setCell ⟨nb, jobAt l nx * 4 + 1, none⟩ (.int .i64 (nx (jobAt l nx) + 1))).setCell ⟨nb, jobAt l nx * 4 + 2, none⟩ (.int .i64 (relOf l nx (jobAt l nx) + (tk l (jobAt l nx)).per))).drew.heap[nb]? = some (.cells ((cur.setIfInBounds (jobAt l nx * 4 + 1) (.int .i64 (nx (jobAt l nx) + 1))).setIfInBounds (jobAt l nx * 4 + 2) (.int .i64 (relOf l nx (jobAt l nx) + (tk l (jobAt l nx)).per))) 63) := at_set (at_set HN3.out _ _) _ _
          have HNEW : Hid (NextAt l (nxt l nx) ((cur.setIfInBounds (jobAt l nx * 4 + 1) (.int .i64 (nx (jobAt l nx) + 1))).setIfInBounds (jobAt l nx * 4 + 2) (.int .i64 (relOf l nx (jobAt l nx) + (tk l (jobAt l nx)).per)))) := next_more HNX.out (by have := HN.out; omega)
          have HNUM4 : Hid (∀ i, i < k → numAt ((W3.setCell ⟨nb, jobAt l nx * 4 + 1, none⟩ (.int .i64 (nx (jobAt l nx) + 1))).setCell ⟨nb, jobAt l nx * 4 + 2, none⟩ (.int .i64 (relOf l nx (jobAt l nx) + (tk l (jobAt l nx)).per))).drew nb i = nxt l nx i) := fun i hi => by
            unfold numAt
            rw [at_cell hcur4, (HNEW.out i (by have := HN.out; omega)).2.1]
          have HJ4 : Hid (JI w0 (fun k' o' => Fr0 k' o' ∨ (k' = nb ∧ o' = .cells ((cur.setIfInBounds (jobAt l nx * 4 + 1) (.int .i64 (nx (jobAt l nx) + 1))).setIfInBounds (jobAt l nx * 4 + 2) (.int .i64 (relOf l nx (jobAt l nx) + (tk l (jobAt l nx)).per))) 63)) B pb qb l u (nxt l nx) (oneJob l nx s) ((W3.setCell ⟨nb, jobAt l nx * 4 + 1, none⟩ (.int .i64 (nx (jobAt l nx) + 1))).setCell ⟨nb, jobAt l nx * 4 + 2, none⟩ (.int .i64 (relOf l nx (jobAt l nx) + (tk l (jobAt l nx)).per))).drew) := by
            obtain ⟨qm, pa, pc, hp⟩ := HJ3.out.proc
            have hw0 := H0.out.grown.size
            refine ⟨⟨qm, pa, pc, hp.foreign (k := nb) (o := .cells cur 63) (.inl (.inr ⟨rfl, rfl⟩)) (by omega) hg4 (fun k' o' hf => ?_)⟩, HJ3.out.inv, HJ3.out.jbs, HJ3.out.now⟩
            rcases hf with hf | ⟨rfl, rfl⟩
            · left
              refine ⟨fun e => ?_, .inl (.inl hf)⟩
              subst e
              have := at_lt (H0.out.keep hf)
              omega
            · exact .inr ⟨rfl, hcur4⟩
          have HTODO : Hid (todo k u (nxt l nx) < todo k u nx) := todo_less hmk (by omega)
          clear hg4 hcur4
          gi_wp2_with fail
          refine wpIn_wide.2 ?_
          go_region
          go_wp2
          refine ⟨⟨_, _, _, HJ4.out, HNEW.out⟩, ?_⟩
          rw [todo_congr HNUM4.out, todo_congr HNUM.out]
          exact HTODO.out
        · clear hy hR cM' HYY
          gi_wp2
          refine bodyPost_ret (results_none rfl _ _ _) rfl ?_
          exact ⟨⟨_, rfl⟩, hX3⟩
end Go.Proofs.Ytholmeebkgpjjaa
