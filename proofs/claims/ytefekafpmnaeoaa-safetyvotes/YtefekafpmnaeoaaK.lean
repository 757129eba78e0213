/- Trips and guards compared. -/
import Derived.Test.YtefekafpmnaeoaaT
namespace Go.Proofs.Ytefekafpmnaeoaa
open Go.RowKit
attribute [local go_sem ↓] Go.wp_at_zero Go.wp_at_succ
set_option linter.unusedVariables false
set_option linter.unusedSimpArgs false

theorem step_append_run {P : Program} {w : World} {ops : Array Oper} {o : Oper} {a : Act} {K : Act → World → Prop} {Q : Exit → Act → World → Prop} {E : Prop} (hgd : o.guard = none) (s x : Operand) (t : TypeId)
    (ho : o.op = .call { callee := .builtin .append, args := #[s, x], argTypes := #[t, t] })
    (v u v' : Value) (w' : World) (hs : a.eval s = v) (hx : a.eval x = u) (hrun : (Builtin.append_ #[t, t] o.type #[v, u]).run P w = .ok v' w')
    (h : K (a.put o.dst v') w') : if Region.wanted o (yielded ops a.tmps) = true then Oper.wp P o a w K Q else E := by
  have hw : Region.wanted o (yielded ops a.tmps) = true := by simp [Region.wanted, hgd]
  rw [if_pos hw]
  unfold Oper.wp
  simp [execOp, ho, resolve, invoke, builtin, hs, hx, hrun, Result.andThen]
  exact h

set_option maxRecDepth 10000 in
set_option maxHeartbeats 1000000 in
theorem sameTrip_yes (T : Tr) (s s' : Value) (w : World) (h : rd w s T.h) (h' : rd w s' T.h) (hl : T.h.length ≤ 17592186044416) : Calls Try.prog 12 #[trV T s, trV T s'] w fun e w' => e = .returned (.bool true) ∧ w.grownBy w' none := by
  obtain ⟨d, f, hh, k⟩ := T
  dsimp only [trV, trA] at *
  obtain ⟨p, hp⟩ : ∃ p, w.heap.size = p := ⟨_, rfl⟩
  have hW1 : ((w.alloc (.cells #[.bool d, .int .i64 f, s, .bool k] 28)).alloc (.cells #[.bool d, .int .i64 f, s', .bool k] 28)).heap[p]? = some (.cells #[.bool d, .int .i64 f, s, .bool k] 28) := by
    rw [hp_old (by simp; omega)]; exact hp_new hp.symm _
  have hW2 : ((w.alloc (.cells #[.bool d, .int .i64 f, s, .bool k] 28)).alloc (.cells #[.bool d, .int .i64 f, s', .bool k] 28)).heap[p + 1]? = some (.cells #[.bool d, .int .i64 f, s', .bool k] 28) := hp_new (by simp; omega) _
  have hgW : w.grownBy ((w.alloc (.cells #[.bool d, .int .i64 f, s, .bool k] 28)).alloc (.cells #[.bool d, .int .i64 f, s', .bool k] 28)) none := gr_alloc (gr_alloc (World.grownBy.refl _ _) _) _
  go_enter Try.func12, Try.ntmps12
  go_upto_region 1 with fail
  clear hp
  generalize (w.alloc (.cells #[.bool d, .int .i64 f, s, .bool k] 28)).alloc (.cells #[.bool d, .int .i64 f, s', .bool k] 28) = W at *
  have c := sameInts_yes s s' hh W (rd_grown h hgW) (rd_grown h' hgW) hl
  obtain ⟨i0, i1, i2, i3⟩ := at4 hW1
  obtain ⟨j0, j1, j2, j3⟩ := at4 hW2
  have HG := hidI hgW
  clear hW1 hW2 hgW h h' hl
  cases d <;> cases k
  all_goals (
    go_wp2_with fail
    refine c.mono ?_
    rintro e w1 ⟨rfl, g1⟩
    go_wp2
    go_ret
    exact ⟨rfl, grown_join HG.out g1 (.inl rfl)⟩)
set_option maxRecDepth 10000 in
set_option maxHeartbeats 2000000 in
theorem sameGuard_yes (se de : Int) (l : List (Int × List Int)) (v v' : Value) (w : World) (h : rdVs w v l) (h' : rdVs w v' l) (hl : OkL l) : Calls Try.prog 13 #[.agg #[.int .i64 se, .int .i64 de, v], .agg #[.int .i64 se, .int .i64 de, v']] w fun e w' => e = .returned (.bool true) ∧ w.grownBy w' none := by
  obtain ⟨p, hp⟩ : ∃ p, w.heap.size = p := ⟨_, rfl⟩
  obtain ⟨va, vc, rfl, _⟩ := id h
  obtain ⟨va', vc', rfl, _⟩ := id h'
  have hW1 : ((w.alloc (.cells #[.int .i64 se, .int .i64 de, .slice va l.length vc] 24)).alloc (.cells #[.int .i64 se, .int .i64 de, .slice va' l.length vc'] 24)).heap[p]? = some (.cells #[.int .i64 se, .int .i64 de, .slice va l.length vc] 24) := by
    rw [hp_old (by simp; omega)]; exact hp_new hp.symm _
  have hW2 : ((w.alloc (.cells #[.int .i64 se, .int .i64 de, .slice va l.length vc] 24)).alloc (.cells #[.int .i64 se, .int .i64 de, .slice va' l.length vc'] 24)).heap[p + 1]? = some (.cells #[.int .i64 se, .int .i64 de, .slice va' l.length vc'] 24) := hp_new (by simp; omega) _
  have hgW : w.grownBy ((w.alloc (.cells #[.int .i64 se, .int .i64 de, .slice va l.length vc] 24)).alloc (.cells #[.int .i64 se, .int .i64 de, .slice va' l.length vc'] 24)) none := gr_alloc (gr_alloc (World.grownBy.refl _ _) _) _
  go_enter Try.func13, Try.ntmps13
  go_upto_region 1 with fail
  clear hp
  generalize (w.alloc (.cells #[.int .i64 se, .int .i64 de, .slice va l.length vc] 24)).alloc (.cells #[.int .i64 se, .int .i64 de, .slice va' l.length vc'] 24) = W at *
  have hv := rdVs_grown h hgW
  have hv' := rdVs_grown h' hgW
  obtain ⟨i0, i1, i2⟩ := at3 hW1
  obtain ⟨j0, j1, j2⟩ := at3 hW2
  obtain ⟨n, hn⟩ : ∃ n, l.length = n := ⟨_, rfl⟩
  have HN := hidI hn
  rw [hn] at i2 j2 ⊢
  have hn0 : n ≤ 17592186043904 := by have := hl.1; omega
  have HX := hidI (And.intro hv (And.intro hv' (And.intro hgW (And.intro hl.2 (And.intro hW1 hW2)))))
  clear hv hv' hgW h h' hn hl hW1 hW2
  go_wp2_with fail
  clear i0 i1 j0 j1
  go_loopg [5] n (fun gk s5 wx => ∃ k : Nat, s5 = .int .i64 k ∧ k ≤ n ∧ gk = n - k ∧ Hid (W.grownBy wx none))
  case atStart => exact ⟨0, rfl, Nat.zero_le _, by omega, hidI (World.grownBy.refl _ _)⟩
  case round =>
    obtain ⟨k, rfl, hk, hgk, HK⟩ := hrel
    have HG : Hid (gk = n - k) := hgk
    clear hgk
    have i2 := HK.out.cell i2 (by simp)
    have j2 := HK.out.cell j2 (by simp)
    by_cases hlt : k < n
    · have hkl : k < l.length := by rw [HN.out]; exact hlt
      obtain ⟨x1, x2, x3, x4, _⟩ := HX.out
      obtain ⟨va1, vc1, ev, h | ⟨b, off, rfl, hc⟩⟩ := rdVs_grown x1 HK.out
      · subst h; simp at hkl
      simp at ev
      obtain ⟨rfl, rfl⟩ := ev
      obtain ⟨va1, vc1, ev, h | ⟨b', off', rfl, hc'⟩⟩ := rdVs_grown x2 HK.out
      · subst h; simp at hkl
      simp at ev
      obtain ⟨rfl, rfl⟩ := ev
      obtain ⟨u, q0, q1, hu⟩ := hc k hkl
      obtain ⟨u', q0', q1', hu'⟩ := hc' k hkl
      have hof : (l.getD k (0, [])).2.length ≤ 17592186044416 := by
        have h2 : l.getD k (0, []) = l[k] := by simp [List.getD, hkl]
        rw [h2]
        have := x4 _ (List.getElem_mem hkl)
        omega
      clear x1 x2 x3 x4 hc hc' hkl
      generalize l.getD k (0, []) = V at *
      obtain ⟨need, of⟩ := V
      dsimp only at *
      have cS := fun X (hX : wr.grownBy X none) => sameInts_yes u u' of X (rd_grown hu hX) (rd_grown hu' hX) hof
      obtain ⟨ua, uc, rfl, _⟩ := id hu
      obtain ⟨ua', uc', rfl, _⟩ := id hu'
      have i3 : (0 : Int) ≤ (k : Int) := by omega
      have i4 : (k : Int) < (n : Int) := by omega
      clear hu hu' hof
      go_wp2_with fail
      go_region_held3 (fun w' => w'.cell? ⟨p, 2, none⟩ = some (.slice (some ⟨b, off, none⟩) n vc) ∧ w'.cell? ⟨p + 1, 2, none⟩ = some (.slice (some ⟨b', off', none⟩) n vc') ∧ w'.cell? ⟨b, off + k * 2, none⟩ = some (.int .i64 need) ∧ w'.cell? ⟨b, off + k * 2 + 1, none⟩ = some (.slice ua of.length uc) ∧ w'.cell? ⟨b', off' + k * 2, none⟩ = some (.int .i64 need) ∧ w'.cell? ⟨b', off' + k * 2 + 1, none⟩ = some (.slice ua' of.length uc')) (first | (go_keep; done) | (exact ⟨g5.cell i2 (by simp), g5.cell j2 (by simp), g5.cell q0 (by simp), g5.cell q1 (by simp), g5.cell q0' (by simp), g5.cell q1' (by simp)⟩))
        ((go_at_call 17; refine (cS _ (by first | exact World.grownBy.refl _ _ | exact gr_drew (World.grownBy.refl _ _))).mono ?_; rintro e w5 ⟨rfl, g5'⟩; have g5 : wr.grownBy w5 none := grown_join (gr_drew (World.grownBy.refl _ _)) g5' (.inl rfl)))
      go_wp2
      have hgl := HG.out
      go_roundg (n - (k + 1))
      all_goals first | omega | exact ⟨k + 1, by go_num, by omega, by omega, hidI (grown_join HK.out g5 (.inl rfl))⟩
    · have hk' : ¬ ((k : Int) < (n : Int)) := by omega
      go_wp2
      go_ret
      exact ⟨rfl, grown_join HX.out.2.2.1 HK.out (.inl rfl)⟩
end Go.Proofs.Ytefekafpmnaeoaa
