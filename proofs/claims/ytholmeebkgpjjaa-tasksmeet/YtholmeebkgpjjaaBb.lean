/- Every order, one behind the other. -/
import Derived.Test.YtholmeebkgpjjaaBa
import Derived.Test.YtholmeebkgpjjaaPc
import Derived.Deep.RegionLaw
namespace Go.Proofs.Ytholmeebkgpjjaa
open Go.RowKit
attribute [local go_sem ↓] Go.wp_at_zero Go.wp_at_succ
set_option linter.unusedVariables false
set_option linter.unusedSimpArgs false

/-- Is Respond content? -/
def wl (l : List Tk) : Bool := decide ((respS l).2.1 = 0)
theorem will_any (l : List Tk) (v : Value) (w : World) (hm : l.length ≤ maxLen) (hv : TsAt w v l) : Calls Try.prog 18 #[v] w fun e w' => e = .returned (.bool (wl l)) ∧ w.grownBy w' none := by
  have cR := fun W (hW : w.grownBy W none) => respond_any l v W hm (hv.grown hW)
  obtain ⟨a, cap, rfl, _⟩ := id hv
  unfold wl
  generalize respS l = r at cR
  obtain ⟨r1, r2, r3⟩ := r
  dsimp only
  generalize l.length = n at *
  go_enter Try.func18, Try.ntmps18
  go_wp2_with fail
  refine (cR _ (World.grownBy.refl _ _)).mono ?_
  rintro e w1 ⟨oa, oc, rfl, _, hg1⟩
  dsimp only
  go_wp2_with fail
  go_ret
  refine ⟨ret_bool ?_, gr_alloc hg1 _⟩
  rw [Bool.eq_iff_iff]
  simp

theorem step_append_run2 {P : Program} {w : World} {ops : Array Oper} {o : Oper} {a : Act} {K : Act → World → Prop} {Q : Exit → Act → World → Prop} {E : Prop} (hgd : o.guard = none) (s x : Operand) (t : TypeId)
    (ho : o.op = .call { callee := .builtin .append, args := #[s, x], argTypes := #[t, t] })
    (v u v' : Value) (w' : World) (hs : a.eval s = v) (hx : a.eval x = u) (hrun : (Builtin.append_ #[t, t] o.type #[v, u]).run P w = .ok v' w')
    (h : K (a.put o.dst v') w') : if Region.wanted o (yielded ops a.tmps) = true then Oper.wp P o a w K Q else E := by
  have hw : Region.wanted o (yielded ops a.tmps) = true := by simp [Region.wanted, hgd]
  rw [if_pos hw]
  unfold Oper.wp
  simp [execOp, ho, resolve, invoke, builtin, hs, hx, hrun, Result.andThen]
  exact h
theorem own_shape {B e size n : Nat} {w : World} {v : Value} {xs : List Value} (h : w.ownsRow B e size v n xs) : ∃ a c, v = .slice a n c := by
  obtain ⟨_, ⟨rfl, rfl⟩ | ⟨g, cap, cur, rfl, _⟩⟩ := h
  · exact ⟨none, 0, rfl⟩
  · exact ⟨_, _, rfl⟩
theorem erase_is (l : List Tk) (j : Nat) : l.take j ++ l.drop (j + 1) = l.eraseIdx j := (List.eraseIdx_eq_take_drop_succ l j).symm
theorem TsAt.row {w : World} {a : Option Addr} {n cap : Nat} {l : List Tk} (h : TsAt w (.slice a n cap) l) (hl : 0 < l.length) : ∃ b off, a = some ⟨b, off, none⟩ ∧ n = l.length ∧ ∀ j u, (l.flatMap rowT)[j]? = some u → w.cell? ⟨b, off + j, none⟩ = some u := by
  obtain ⟨a', cap', e, h0 | ⟨b, off, h1, h2⟩⟩ := h.cells
  · omega
  · simp at e
    obtain ⟨rfl, rfl, rfl⟩ := e
    exact ⟨b, off, h1, rfl, fun j u hj => by have := h2 j u hj; rw [addn] at this; exact this⟩
/-- All but one, put together. -/
theorem splice {W : World} {a : Option Addr} {cap n j : Nat} {l : List Tk} (hl : TsAt W (.slice a (n + 1) cap) l) (hn : l.length = n + 1) (hj : j < n + 1) (h15 : n ≤ 15) (hcap : n + 1 ≤ cap) :
    ∃ oa oc w1 ob od w2, (Builtin.append_ #[22, 22] 22 #[.slice none 0 0, .slice a j cap]).run Try.prog W = .ok (.slice oa j oc) w1 ∧
      (Builtin.append_ #[22, 22] 22 #[.slice oa j oc, .slice (if cap = j + 1 then a else Option.map (fun x : Addr => x.add ((j + 1) * 5)) a) (n - j) (cap - (j + 1))]).run Try.prog w1 = .ok (.slice ob n od) w2 ∧ OwnT W.heap.size w2 ob od (l.eraseIdx j) ∧ W.grownBy w2 none := by
  obtain ⟨i0, hi, hz0, hz1, hz2⟩ := info_parts info42
  obtain ⟨b, off, rfl, _, hc⟩ := hl.row (by omega)
  have tl : (l.take j).length = j := by simp; omega
  have hfl : ∀ (x : List Tk), (x.flatMap rowT).length = x.length * 5 := fun x => flat_len rowT 5 rowT_len x
  obtain ⟨oa, oc, w1, r1, o1, g1⟩ := run_append_all (P := Try.prog) W 22 22 42 i0 _ 5 48 Try.underlying22 hi hz0 hz1 hz2 rfl (by omega) (some ⟨b, off, none⟩) j cap ((l.take j).flatMap rowT) (by rw [hfl, tl]) (.inr ⟨b, off, rfl, fun k u hk => by
      rw [addn]
      refine hc k u ?_
      have hkl : k < ((l.take j).flatMap rowT).length := (List.getElem?_eq_some_iff.1 hk).1
      have e : l.flatMap rowT = (l.take j).flatMap rowT ++ (l.drop j).flatMap rowT := by rw [← List.flatMap_append, List.take_append_drop]
      rw [e, List.getElem?_append_left hkl]
      exact hk⟩) (rowT_one _) (by unfold maxLen; omega) (by omega)
  obtain ⟨o2, ho2⟩ : ∃ o2, (if cap = j + 1 then some (⟨b, off, none⟩ : Addr) else Option.map (fun x : Addr => x.add ((j + 1) * 5)) (some ⟨b, off, none⟩)) = some ⟨b, o2, none⟩ ∧ ∀ k u, ((l.drop (j + 1)).flatMap rowT)[k]? = some u → w1.cell? ⟨b, o2 + k, none⟩ = some u := by
    have key : ∀ k u, ((l.drop (j + 1)).flatMap rowT)[k]? = some u → w1.cell? ⟨b, off + (j + 1) * 5 + k, none⟩ = some u := fun k u hk => by
      refine g1.cell ?_ (by simp)
      rw [Nat.add_assoc]
      refine hc _ u ?_
      have e : l.flatMap rowT = (l.take (j + 1)).flatMap rowT ++ (l.drop (j + 1)).flatMap rowT := by rw [← List.flatMap_append, List.take_append_drop]
      have e2 : ((l.take (j + 1)).flatMap rowT).length = (j + 1) * 5 := by rw [hfl]; simp; omega
      rw [e, List.getElem?_append_right (by omega), e2, show (j + 1) * 5 + k - (j + 1) * 5 = k by omega]
      exact hk
    by_cases hcj : cap = j + 1
    · refine ⟨off, by rw [if_pos hcj], fun k u hk => ?_⟩
      have : l.drop (j + 1) = [] := List.drop_of_length_le (by omega)
      rw [this] at hk
      simp at hk
    · refine ⟨off + (j + 1) * 5, by rw [if_neg hcj, Option.map_some, addn], key⟩
  rw [ho2.1]
  obtain ⟨v', w2, r2, o3, g2, _, _⟩ := run_append_own_at (P := Try.prog) w1 W.heap.size 22 22 42 i0 _ 5 48 Try.underlying22 hi hz0 hz1 hz2 rfl (by omega) _ j ((l.take j).flatMap rowT) o1 ⟨b, o2, none⟩ (n - j) (cap - (j + 1)) ((l.drop (j + 1)).flatMap rowT) (by rw [hfl]; simp; omega) (fun k u hk => by rw [addn]; exact ho2.2 k u hk) (rowT_one _) (by unfold maxLen; omega) (by omega) g1.size
  obtain ⟨ob, od, hv⟩ := own_shape o3
  have hjn : j + (n - j) = n := by omega
  rw [hjn] at hv o3
  subst hv
  refine ⟨oa, oc, w1, ob, od, w2, r1, r2, ?_, ?_⟩
  · unfold OwnT
    have e3 : (l.eraseIdx j).length = n := by rw [← erase_is]; simp; omega
    rw [e3, ← erase_is, List.flatMap_append]
    exact o3
  · exact grown_join g1 g2 (.inr fun y hy => (World.ownsRow.lt o1 y hy).1)
/-- One more behind a copy, in either order of making. -/
theorem snoc {W : World} {a : Option Addr} {cap m : Nat} {l : List Tk} (hl : TsAt W (.slice a m cap) l) (hm : l.length = m) (h15 : m ≤ 15) (x : Tk) :
    (∃ oa oc w1 ob od w2, (Builtin.append_ #[22, 22] 22 #[.slice none 0 0, .slice a m cap]).run Try.prog W = .ok (.slice oa m oc) w1 ∧
      (Builtin.append_ #[22, 22] 22 #[.slice oa m oc, .slice (some ⟨w1.heap.size, 0, none⟩) 1 1]).run Try.prog (w1.alloc (.cells #[.string x.name, .int .i64 x.per, .int .i64 x.off, .int .i64 x.cost, .int .i64 x.dead] 42)) = .ok (.slice ob (m + 1) od) w2 ∧ OwnT W.heap.size w2 ob od (l ++ [x]) ∧ W.grownBy w1 none ∧ W.grownBy w2 none) ∧
    (∃ oa oc w1 ob od w2, (Builtin.append_ #[22, 22] 22 #[.slice none 0 0, .slice a m cap]).run Try.prog (W.alloc (.cells #[.string x.name, .int .i64 x.per, .int .i64 x.off, .int .i64 x.cost, .int .i64 x.dead] 42)) = .ok (.slice oa m oc) w1 ∧
      (Builtin.append_ #[22, 22] 22 #[.slice oa m oc, .slice (some ⟨W.heap.size, 0, none⟩) 1 1]).run Try.prog w1 = .ok (.slice ob (m + 1) od) w2 ∧ OwnT W.heap.size w2 ob od (l ++ [x]) ∧ W.grownBy w1 none ∧ W.grownBy w2 none) := by
  obtain ⟨i0, hi, hz0, hz1, hz2⟩ := info_parts info42
  have hfl : ∀ (x : List Tk), (x.flatMap rowT).length = x.length * 5 := fun x => flat_len rowT 5 rowT_len x
  have src : ∀ V, W.grownBy V none → m = 0 ∨ ∃ b off, a = some ⟨b, off, none⟩ ∧ ∀ k u, (l.flatMap rowT)[k]? = some u → V.cell? ((⟨b, off, none⟩ : Addr).add k) = some u := fun V hV => by
    rcases Nat.eq_zero_or_pos m with h | h
    · exact .inl h
    · obtain ⟨b, off, h1, _, h2⟩ := hl.row (by omega)
      exact .inr ⟨b, off, h1, fun k u hk => by rw [addn]; exact hV.cell (h2 k u hk) (by simp)⟩
  constructor
  · obtain ⟨oa, oc, w1, r1, o1, g1⟩ := run_append_all (P := Try.prog) W 22 22 42 i0 _ 5 48 Try.underlying22 hi hz0 hz1 hz2 rfl (by omega) a m cap (l.flatMap rowT) (by rw [hfl, hm]) (src W (World.grownBy.refl _ _)) (rowT_one _) (by unfold maxLen; omega) (by omega)
    have o1' : OwnT W.heap.size w1 oa oc l := by unfold OwnT; rw [hm]; exact o1
    obtain ⟨ob, od, w2, r2, o2, g2⟩ := o1'.more x (by omega) g1.size
    rw [hm] at r2
    exact ⟨oa, oc, w1, ob, od, w2, r1, r2, o2, g1, g2 W (Nat.le_refl _) g1⟩
  · have hga : W.grownBy (W.alloc (.cells #[.string x.name, .int .i64 x.per, .int .i64 x.off, .int .i64 x.cost, .int .i64 x.dead] 42)) none := gr_alloc (World.grownBy.refl _ _) _
    obtain ⟨oa, oc, w1, r1, o1, g1⟩ := run_append_all (P := Try.prog) (W.alloc (.cells #[.string x.name, .int .i64 x.per, .int .i64 x.off, .int .i64 x.cost, .int .i64 x.dead] 42)) 22 22 42 i0 _ 5 48 Try.underlying22 hi hz0 hz1 hz2 rfl (by omega) a m cap (l.flatMap rowT) (by rw [hfl, hm]) (src _ hga) (rowT_one _) (by unfold maxLen; omega) (by omega)
    have hb : w1.heap[W.heap.size]? = some (.cells #[.string x.name, .int .i64 x.per, .int .i64 x.off, .int .i64 x.cost, .int .i64 x.dead] 42) := kept g1 (heap_alloc_new _ _)
    obtain ⟨v', w2, r2, o3, g2, _, _⟩ := run_append_own_at (P := Try.prog) w1 (W.alloc (.cells #[.string x.name, .int .i64 x.per, .int .i64 x.off, .int .i64 x.cost, .int .i64 x.dead] 42)).heap.size 22 22 42 i0 _ 5 48 Try.underlying22 hi hz0 hz1 hz2 rfl (by omega) _ m (l.flatMap rowT) o1 ⟨W.heap.size, 0, none⟩ 1 1 (rowT x) rfl (fun k u hk => by
      rw [addn, at_cell hb, Nat.zero_add]
      simpa [rowT] using hk) (by simp [rowT, Value.oneCell']) (by unfold maxLen; omega) (by omega) g1.size
    obtain ⟨ob, od, hv⟩ := own_shape o3
    subst hv
    have gw1 : W.grownBy w1 none := grown_join hga g1 (.inl rfl)
    refine ⟨oa, oc, w1, ob, od, w2, r1, r2, ?_, gw1, ?_⟩
    · unfold OwnT
      rw [List.length_append, hm, List.flatMap_append]
      have := own_low o3 (B' := W.heap.size) (by simp)
      simpa using this
    · exact grown_join gw1 g2 (.inr fun y hy => by have := (World.ownsRow.lt o1 y hy).1; simp at this; omega)
/-- What a try of all orders tells. -/
def ShP (w w' : World) (e : Ending) (l ahead : List Tk) : Prop := ∃ b, e = .returned (.bool b) ∧ w.grownBy w' none ∧ (b = true → ∃ p, p.Perm l ∧ (respS (ahead ++ p)).2.1 = 0)
set_option maxHeartbeats 2000000 in
theorem shuf_any (n : Nat) : ∀ (l ahead : List Tk) (vl va : Value) (w : World), l.length = n → l.length + ahead.length ≤ 16 → TsAt w vl l → TsAt w va ahead →
    Calls Try.prog 19 #[vl, va, .func (.func 18) #[] #[]] w fun e w' => ShP w w' e l ahead := by
  induction n with
  | zero =>
    intro l ahead vl va w hn h16 hl ha
    have cW := fun W (hW : w.grownBy W none) => will_any ahead va W (by unfold maxLen; omega) (ha.grown hW)
    have hl0 : l = [] := List.length_eq_zero_iff.1 hn
    subst hl0
    obtain ⟨a, cap, rfl, _⟩ := id hl
    obtain ⟨a', cap', rfl, _⟩ := id ha
    go_enter Try.func19, Try.ntmps19
    go_wp2_with fail
    refine (cW _ (World.grownBy.refl _ _)).mono ?_
    rintro e w1 ⟨rfl, hg1⟩
    go_wp2_with fail
    go_ret
    refine ⟨wl ahead, rfl, hg1, fun h => ⟨[], List.Perm.refl _, ?_⟩⟩
    simpa [wl] using h
  | succ n ih =>
    intro l ahead vl va w hn h16 hl ha
    have HL : Hid (TsAt w vl l) := hl
    have HA : Hid (TsAt w va ahead) := ha
    obtain ⟨a, cap, rfl, hcap, _⟩ := id hl
    obtain ⟨a', cap', rfl, hcap', _⟩ := id ha
    have HN : Hid (l.length = n + 1) := hn
    have HM : Hid (l.length + ahead.length ≤ 16) := h16
    have hn15 : n ≤ 15 := by omega
    obtain ⟨m, hm⟩ : ∃ m, ahead.length = m := ⟨_, rfl⟩
    have HMM : Hid (ahead.length = m) := hm
    rw [hn] at hcap
    rw [hm] at hcap'
    have hm15 : m ≤ 15 := by omega
    have HL2 : Hid (TsAt w (.slice a (n + 1) cap) l) := by have := HL.out; rw [hn] at this; exact this
    have HA2 : Hid (TsAt w (.slice a' m cap') ahead) := by have := HA.out; rw [hm] at this; exact this
    rw [hn, hm]
    clear hl ha HL HA hn h16 hm
    have hn0 : ¬ ((n : Int) + 1 = 0) := by omega
    have hn0b : (((n : Int) + 1) == 0) = false := by simp; omega
    go_enter Try.func19, Try.ntmps19
    go_wp2_with fail
    go_loopg [7] (n + 1) (fun gk s7 wx => ∃ (j : Nat), s7 = .int .i64 j ∧ j ≤ n + 1 ∧ gk = n + 1 - j ∧ w.grownBy wx none)
    case atStart => exact ⟨0, rfl, Nat.zero_le _, by omega, World.grownBy.refl _ _⟩
    case round =>
      obtain ⟨j, rfl, hj, hgj, hgr⟩ := hrel
      have HG : Hid (gk = n + 1 - j) := hgj
      clear hgj
      by_cases hlt : j < n + 1
      · have i1 : (0 : Int) ≤ (j : Int) := by omega
        have i2 : (j : Int) < (n : Int) + 1 := by omega
        have i3 : (j : Int) < ((n + 1 : Nat) : Int) := by omega
        have i4 : (j : Int) ≤ (cap : Int) := by omega
        have i5 : (j : Int) + 1 ≤ (n : Int) + 1 := by omega
        have i6 : IntKind.i64.wrap ((j : Int) + 1) = (j : Int) + 1 := IntWalk.i64_in _ (by omega)
        have i7 : (0 : Int) ≤ (j : Int) + 1 := by omega
        have i8 : (j : Int) + 1 ≤ (cap : Int) := by omega
        have i9 : (n : Int) + 1 ≤ (cap : Int) := by omega
        obtain ⟨oa, oc, w1, ob, od, w2, hr1, hr2, hO2, hg2⟩ := splice (W := wr.drew) (HL2.out.grown (gr_drew hgr)) HN.out hlt hn15 hcap
        obtain ⟨A2, hA2⟩ : ∃ A2, (if cap = j + 1 then a else Option.map (fun x : Addr => x.add ((j + 1) * 5)) a) = A2 := ⟨_, rfl⟩
        rw [hA2] at hr2
        have HR1 : Hid (_ = _) := hr1
        have HR2 : Hid (_ = _) := hr2
        have HO2 : Hid (OwnT wr.heap.size w2 ob od (l.eraseIdx j)) := hO2
        have hgw2 : w.grownBy w2 none := grown_join (gr_drew hgr) hg2 (.inl rfl)
        have hel : (l.eraseIdx j).length = n := by rw [← erase_is]; simp; have := HN.out; omega
        have HEL : Hid ((l.eraseIdx j).length = n) := hel
        obtain ⟨x, hx⟩ : ∃ x, l[j]? = some x := ⟨l[j]'(by rw [HN.out]; exact hlt), by simp [HN.out, hlt]⟩
        have HX : Hid (l[j]? = some x) := hx
        clear hr1 hr2 hO2 hg2 hel hx
        go_wp2_with fail
        go_cut [8] (fun s8 wx => s8 = .slice ob n od ∧ w2 = wx)
        case first =>
          go_region_law (first | (have hdone := hsecond; refine step_append_run2 (by rfl) _ _ 22 (by rfl) _ _ _ w2 (by rfl) (by rfl) HR2.out ?_) | (refine step_append_run2 (by rfl) _ _ 22 (by rfl) _ _ _ w1 (by rfl) (by rfl) HR1.out ?_; have hsecond := i1))
          all_goals go_wp2_with fail
          all_goals go_meet
          all_goals exact ⟨rfl, rfl⟩
        case rest =>
          obtain ⟨rfl, rfl⟩ := hcut
          clear hA2
          obtain ⟨b, off, cap2, hae, hcl⟩ := (HL2.out.grown hgw2).at (by rw [HN.out]; omega)
          obtain ⟨c0, c1, c2, c3, c4⟩ := hcl j (by rw [HN.out]; exact hlt)
          have hgx : l.getD j tk0 = x := by simp [List.getD, HX.out]
          rw [hgx] at c0 c1 c2 c3 c4
          simp at hae
          obtain ⟨rfl, -, rfl⟩ := hae
          have hxm : x ∈ l := List.mem_of_getElem? HX.out
          have HPM : Hid (∀ q : List Tk, q.Perm (l.eraseIdx j) → (x :: q).Perm l) := (fun q hq => by
            have e : l = l.take j ++ x :: l.drop (j + 1) := by
              have hjl : j < l.length := by rw [HN.out]; exact hlt
              have e1 : l[j] = x := by have := HX.out; rw [List.getElem?_eq_getElem hjl] at this; simpa using this
              rw [← e1, ← List.drop_eq_getElem_cons hjl, List.take_append_drop]
            have h1 : (x :: q).Perm (x :: (l.take j ++ l.drop (j + 1))) := (hq.trans (by rw [← erase_is])).cons x
            exact h1.trans ((List.perm_middle.symm).trans (by rw [← e])) : ∀ q : List Tk, q.Perm (l.eraseIdx j) → (x :: q).Perm l)
          obtain ⟨⟨oa3, oc3, w3, ob3, od3, w4, hr3, hr4, hO4, hg3, hg4⟩, ⟨oa5, oc5, w5, ob5, od5, w6, hr5, hr6, hO6, hg5, hg6⟩⟩ := snoc (W := w2.drew) ((HA2.out.grown hgw2).grown (gr_drew (World.grownBy.refl w2 none))) HMM.out hm15 x
          have IHA : Hid (Calls Try.prog 19 #[.slice ob n od, .slice ob3 (m + 1) od3, .func (.func 18) #[] #[]] w4 fun e w' => ShP w4 w' e (l.eraseIdx j) (ahead ++ [x])) := (by
            have h := ih (l.eraseIdx j) (ahead ++ [x]) (.slice ob n od) (.slice ob3 (m + 1) od3) w4 HEL.out (by rw [HEL.out]; simp; have := HM.out; have := HN.out; have := HMM.out; omega) (by have := (OwnT.ts (HO2.out)).grown (grown_join (gr_drew (World.grownBy.refl w2 none)) hg4 (.inl rfl)); rw [HEL.out] at this; exact this) (by have := OwnT.ts hO4; rw [List.length_append, HMM.out] at this; exact this)
            exact h : Calls Try.prog 19 #[.slice ob n od, .slice ob3 (m + 1) od3, .func (.func 18) #[] #[]] w4 fun e w' => ShP w4 w' e (l.eraseIdx j) (ahead ++ [x]))
          have IHB : Hid (Calls Try.prog 19 #[.slice ob n od, .slice ob5 (m + 1) od5, .func (.func 18) #[] #[]] w6 fun e w' => ShP w6 w' e (l.eraseIdx j) (ahead ++ [x])) := (by
            have h := ih (l.eraseIdx j) (ahead ++ [x]) (.slice ob n od) (.slice ob5 (m + 1) od5) w6 HEL.out (by rw [HEL.out]; simp; have := HM.out; have := HN.out; have := HMM.out; omega) (by have := (OwnT.ts (HO2.out)).grown (grown_join (gr_drew (World.grownBy.refl w2 none)) hg6 (.inl rfl)); rw [HEL.out] at this; exact this) (by have := OwnT.ts hO6; rw [List.length_append, HMM.out] at this; exact this)
            exact h : Calls Try.prog 19 #[.slice ob n od, .slice ob5 (m + 1) od5, .func (.func 18) #[] #[]] w6 fun e w' => ShP w6 w' e (l.eraseIdx j) (ahead ++ [x]))
          have d0 := hg3.cell c0 (by simp)
          have d1 := hg3.cell c1 (by simp)
          have d2 := hg3.cell c2 (by simp)
          have d3 := hg3.cell c3 (by simp)
          have d4 := hg3.cell c4 (by simp)
          obtain ⟨x0, x1, x2, x3, x4⟩ := x
          dsimp only at c0 c1 c2 c3 c4 d0 d1 d2 d3 d4 hr3 hr4 hr5 hr6
          have HR3 : Hid (_ = _) := hr3
          have HR4 : Hid (_ = _) := hr4
          have HR5 : Hid (_ = _) := hr5
          have HR6 : Hid (_ = _) := hr6
          have hgA : w.grownBy w4 none := grown_join (gr_drew hgw2) hg4 (.inl rfl)
          have hgB : w.grownBy w6 none := grown_join (gr_drew hgw2) hg6 (.inl rfl)
          clear hr3 hr4 hr5 hr6 hO4 hO6 hgx hcl hxm HR1 HR2
          go_wp2_with fail
          go_cut [40] (fun s40 wx => ∃ bb, s40 = .bool bb ∧ Hid (w.grownBy wx none ∧ (bb = true → ∃ p, p.Perm (l.eraseIdx j) ∧ (respS ((ahead ++ [⟨x0, x1, x2, x3, x4⟩]) ++ p)).2.1 = 0)))
          case first =>
            go_region_law (first
              | (have g1 := gtA4; go_simp; go_at_call 19; refine IHA.out.mono ?_; rintro e w7 ⟨bb, rfl, hg7, hp7⟩; have gdone := hg7; have HP7 : Hid (w.grownBy w7 none ∧ (bb = true → ∃ p, p.Perm (l.eraseIdx j) ∧ (respS ((ahead ++ [⟨x0, x1, x2, x3, x4⟩]) ++ p)).2.1 = 0)) := ⟨grown_join hgA hg7 (.inl rfl), hp7⟩; clear hp7)
              | (have g1 := gtB4; go_simp; go_at_call 19; refine IHB.out.mono ?_; rintro e w7 ⟨bb, rfl, hg7, hp7⟩; have gdone := hg7; have HP7 : Hid (w.grownBy w7 none ∧ (bb = true → ∃ p, p.Perm (l.eraseIdx j) ∧ (respS ((ahead ++ [⟨x0, x1, x2, x3, x4⟩]) ++ p)).2.1 = 0)) := ⟨grown_join hgB hg7 (.inl rfl), hp7⟩; clear hp7)
              | (have g1 := gtA3; refine step_append_run2 (by rfl) _ _ 22 (by rfl) _ _ _ w4 (by rfl) (by rfl) HR4.out ?_; have gtA4 := i1)
              | (have g1 := gtB3; refine step_append_run2 (by rfl) _ _ 22 (by rfl) _ _ _ w6 (by rfl) (by rfl) HR6.out ?_; have gtB4 := i1)
              | (refine step_append_run2 (by rfl) _ _ 22 (by rfl) _ _ _ w3 (by rfl) (by rfl) HR3.out ?_; have gtA3 := i1)
              | (refine step_append_run2 (by rfl) _ _ 22 (by rfl) _ _ _ w5 (by rfl) (by rfl) HR5.out ?_; have gtB3 := i1))
            all_goals go_wp2_with fail
            all_goals go_meet
            all_goals exact ⟨bb, rfl, HP7.out⟩
          case rest =>
            obtain ⟨bb, rfl, HP⟩ := hcut
            cases bb with
            | true =>
              have HT : Hid (∃ p, p.Perm l ∧ (respS (ahead ++ p)).2.1 = 0) := (by
                obtain ⟨q, hq1, hq2⟩ := HP.out.2 rfl
                exact ⟨_ :: q, HPM.out q hq1, by rw [List.append_assoc] at hq2; exact hq2⟩ : ∃ p, p.Perm l ∧ (respS (ahead ++ p)).2.1 = 0)
              go_wp2_with fail
              go_ret
              exact ⟨true, rfl, HP.out.1, fun _ => HT.out⟩
            | false =>
              have hgl := HG.out
              go_wp2_with fail
              go_roundg (n + 1 - (j + 1))
              all_goals first | omega | exact ⟨j + 1, by go_num, by omega, by omega, HP.out.1⟩
      · have hk' : ¬ ((j : Int) < (n : Int) + 1) := by omega
        have hk2 : ¬ ((j : Int) < ((n + 1 : Nat) : Int)) := by omega
        go_wp2
        go_ret
        exact ⟨false, rfl, hgr, fun h => by cases h⟩
end Go.Proofs.Ytholmeebkgpjjaa
