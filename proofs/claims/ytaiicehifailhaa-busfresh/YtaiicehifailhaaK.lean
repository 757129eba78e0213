/- Open, the document's. -/
import Derived.Test.YtaiicehifailhaaJ
namespace Go.Proofs.Ytaiicehifailhaa
open Go.RowKit
attribute [local go_sem ↓] Go.wp_at_zero Go.wp_at_succ
set_option linter.unusedVariables false
set_option linter.unusedSimpArgs false

/-- What a frame tells, as the document has it. -/
def OpR (w w' : World) (e : Ending) (S Q : Nat) (W : List Int) (c : Nat) : Prop :=
  ∃ a cap, e = .returned (.tuple #[.agg #[.int .i64 (S : Int), .int .i64 (Q : Int), .slice a W.length cap], .int .i64 (c : Int)]) ∧ OwnL w.heap.size w' a cap W ∧ w.grownBy w' none
theorem results14 (tmps : Array Value) (W : World) (p : Nat) (x y z : Value) (h6 : tmps.getD 2 undef = .pointer (some ⟨p, 0, none⟩)) (hg : W.heap[p]? = some (.cells #[x, y, z] 32)) :
    (results Try.f14 tmps).run Try.prog W = .ok (.tuple #[.agg #[x, y, z], tmps.getD 3 undef]) W := by
  have hr : Try.f14.results = #[.cell 2 32, .tmp 3] := rfl
  have hi : (Try.prog.info? 32).map (·.size) = some 3 := by kernel_rfl
  have hl := run_loadVar_row (P := Try.prog) W p 32 32 #[x, y, z] (0, 0) _ hg Try.underlying32 rfl hi
  have h6' : tmps[2]?.getD undef = .pointer (some ⟨p, 0, none⟩) := by simpa using h6
  simp [results, hr]
  rw [h6']
  simp [asAddr, hl, Result.andThen]
theorem OpR.no {w w' : World} {e : Ending} {l : List Nat} (c : Nat) (h : openE l = c) (hc : c ≠ 0) (he : e = .returned (.tuple #[.agg #[.int .i64 0, .int .i64 0, .slice none 0 0], .int .i64 (c : Int)])) (hg : w.grownBy w' none) : OpR w w' e (openS l) (openQ l) (openW l) (openE l) := by
  obtain ⟨h1, h2, h3⟩ := open_no (l := l) (by omega)
  rw [h1, h2, h3, h]
  exact ⟨none, 0, he, OwnL.nil _ _, hg⟩
/-- Numbers of one's own in w', behind those in w at the block r. -/
def NewL (B : Nat) (w w' : World) (r : Option Nat) (a' : Option Addr) (cap' : Nat) (l : List Int) : Prop :=
  OwnL B w' a' cap' l ∧ w.grownBy w' r ∧ ((Value.slice a' l.length cap').ownBlock = r ∨ ∀ y, (Value.slice a' l.length cap').ownBlock = some y → w.heap.size ≤ y)
theorem ownL_one {B : Nat} {w : World} {a : Option Addr} {cap : Nat} {l : List Int} (h : OwnL B w a cap l) (g : Nat) (x : Int) (hg : w.heap[g]? = some (.cells #[.int .i64 x] 3)) (hl : l.length ≤ 1000000) (hB : B ≤ w.heap.size) :
    ∃ a' cap' w', (Builtin.append_ #[22, 22] 22 #[.slice a l.length cap, .slice (some ⟨g, 0, none⟩) 1 1]).run Try.prog w = .ok (.slice a' (l.length + 1) cap') w' ∧
      NewL B w w' (Value.slice a l.length cap).ownBlock a' cap' (l ++ [x]) := by
  obtain ⟨i0, hi, hz0, hz1, hz2⟩ := info_parts info3
  obtain ⟨v', w', r1, r2, r3, r4, r5⟩ := run_append_own_at (P := Try.prog) w B 22 22 3 i0 _ 1 8 Try.underlying22 hi hz0 hz1 hz2 rfl (by omega) _ _ _ h ⟨g, 0, none⟩ 1 1 [.int .i64 x] rfl
    (fun j u hj => by
      rw [addn, at_cell hg _]
      simpa using hj)
    (by simp [Value.oneCell']) (by unfold maxLen; omega) (by omega) hB
  have r2' := r2
  obtain ⟨_, ⟨hx, hn⟩ | ⟨g', cap', cur, rfl, _⟩⟩ := r2'
  · omega
  · refine ⟨_, cap', w', r1, ?_, r3, ?_⟩
    · unfold OwnL
      rw [List.map_append, List.length_append]
      exact r2
    · rcases r5 with h5 | h5
      · exact .inl h5
      · right
        intro y hy
        have : some y = some w.heap.size := hy.symm.trans h5
        simp at this
        omega
theorem wordsOf_succ (l : List Nat) (k : Nat) : wordsOf l (k + 1) = wordsOf l k ++ [((pairV l (k * 2) : Nat) : Int)] := by
  simp [wordsOf, List.range_succ]
/-- What lies there in the loop. -/
def LpR (w wx : World) (T x0 x1 : Nat) (l : List Nat) (k : Nat) (a : Option Addr) (c : Nat) : Prop :=
  wx.heap[w.heap.size]? = some (.cells #[.int .i64 0, .int .i64 0, .slice none 0 0] 32) ∧ wx.heap[T]? = some (.cells #[.int .i64 (x0 : Int), .int .i64 (x1 : Int), .slice a k c] 32) ∧ OwnL (T + 1) wx a c (wordsOf l k) ∧ w.grownBy wx none ∧ w.heap.size + 1 = T
theorem box3 {W : World} {p : Nat} {a b c x y z : Value} {T : TypeId} (h : W.heap[p]? = some (.cells #[a, b, c] T)) : (((W.setCell ⟨p, 0, none⟩ x).setCell ⟨p, 1, none⟩ y).setCell ⟨p, 2, none⟩ z).heap[p]? = some (.cells #[x, y, z] T) := by
  have := at_set (at_set (at_set h 0 x) 1 y) 2 z
  simpa using this
theorem gr3 {w W : World} {p : Nat} {x y z : Value} (h : w.grownBy W none) (hp : w.heap.size ≤ p) : w.grownBy (((W.setCell ⟨p, 0, none⟩ x).setCell ⟨p, 1, none⟩ y).setCell ⟨p, 2, none⟩ z) none :=
  gr_own (gr_own (gr_own h hp _ _) hp _ _) hp _ _
set_option maxRecDepth 10000 in
set_option maxHeartbeats 1000000 in
theorem refOpen_any (l : List Nat) (v : Value) (w : World) (hb : isB l) (hv : rdB w v l) (hm : l.length ≤ maxLen) : Calls Try.prog 14 #[v] w fun e w' => OpR w w' e (openS l) (openQ l) (openW l) (openE l) := by
  have hv0 := hv
  have hbx : ∀ W : World, (W.alloc (.cells #[.int .i64 0, .int .i64 0, .slice none 0 0] 32)).heap[W.heap.size]? = some (.cells #[.int .i64 0, .int .i64 0, .slice none 0 0] 32) := fun W => heap_alloc_new W _
  by_cases h5 : l.length < 5
  · obtain ⟨a, cap, rfl, hcap, _⟩ := hv0
    have HE : Hid (openE l = 4) := hidI (by unfold openE; rw [if_pos h5])
    have i0 : ((l.length : Nat) : Int) < 5 := by omega
    go_enter Try.func14, Try.ntmps14
    go_wp2
    refine bodyPost_ret (results14 _ _ w.heap.size (.int .i64 0) (.int .i64 0) (.slice none 0 0) rfl ?_) rfl ?_
    · exact heap_alloc_new w _
    · exact OpR.no 4 HE.out (by omega) rfl (gr_alloc (World.grownBy.refl _ _) _)
  obtain ⟨b, off, cap, rfl, hcap, hc⟩ := rdB_at hv0 (by omega)
  have hgW := gr_alloc (World.grownBy.refl w none) (.cells #[.int .i64 0, .int .i64 0, .slice none 0 0] 32)
  have HE : Hid (openE l = if l.length ≠ 2 * l.getD 2 0 + 5 then 4 else if pairV l (l.length - 2) ≠ crc (l.take (l.length - 2)) then 17 else if 247 < l.getD 0 0 then 3 else if 60 < l.getD 2 0 then 4 else 0) := hidI (by unfold openE; rw [if_neg h5])
  have q2 := hgW.cell (hc 2 (by omega)) (by simp)
  have b2 := at_byte hb 2
  by_cases hodd : (l.length - 5) % 2 = 1
  · obtain ⟨r, hr⟩ : ∃ r, l.length = r + 5 := ⟨l.length - 5, by omega⟩
    have hE4 : Hid (openE l = 4) := hidI (by rw [HE.out, if_pos (by omega)])
    have hr63 : r ≤ 9223372036854775802 := by unfold maxLen at hm; omega
    rw [hr]
    have t1 : ((r : Int)) % 2 = 1 := by omega
    have t2 : ((r : Int)).tmod 2 = 1 := by rw [Int.tmod_eq_emod_of_nonneg (by omega)]; exact t1
    have i0 : ¬ (r : Int) + 5 < 5 := by omega
    go_enter Try.func14, Try.ntmps14
    go_wp2
    refine bodyPost_ret (results14 _ _ w.heap.size (.int .i64 0) (.int .i64 0) (.slice none 0 0) rfl ?_) rfl ?_
    · exact heap_alloc_new w _
    · exact OpR.no 4 hE4.out (by omega) rfl (gr_alloc (World.grownBy.refl _ _) _)
  obtain ⟨q, hq⟩ : ∃ q, l.length = 2 * q + 5 := ⟨(l.length - 5) / 2, by omega⟩
  by_cases hq2 : q = l.getD 2 0
  case neg =>
    have hE4 : Hid (openE l = 4) := hidI (by rw [HE.out, if_pos (by omega)])
    have hr63 : 2 * q ≤ 9223372036854775802 := by unfold maxLen at hm; omega
    rw [hq]
    generalize l.getD 2 0 = x2 at *
    have i1 : ((q : Int) != (x2 : Int)) = true := by simpa using (show ¬ ((q : Int) = (x2 : Int)) by omega)
    have i2 : (2 : Int) < 2 * (q : Int) + 5 := by omega
    have t1 : (2 * (q : Int)).tmod 2 = 0 := by rw [Int.tmod_eq_emod_of_nonneg (by omega)]; omega
    have t2 : (2 * (q : Int)).tdiv 2 = q := by rw [Int.tdiv_eq_ediv_of_nonneg (by omega)]; omega
    have i0 : ¬ 2 * (q : Int) + 5 < 5 := by omega
    go_enter Try.func14, Try.ntmps14
    go_wp2
    refine bodyPost_ret (results14 _ _ w.heap.size (.int .i64 0) (.int .i64 0) (.slice none 0 0) rfl ?_) rfl ?_
    · exact heap_alloc_new w _
    · exact OpR.no 4 hE4.out (by omega) rfl (gr_alloc (World.grownBy.refl _ _) _)
  subst hq2
  have q0 := hgW.cell (hc 0 (by omega)) (by simp)
  have q1 := hgW.cell (hc 1 (by omega)) (by simp)
  have qa := hgW.cell (hc (2 * l.getD 2 0 + 3) (by omega)) (by simp)
  have qb := hgW.cell (hc (2 * l.getD 2 0 + 4) (by omega)) (by simp)
  have b0 := at_byte hb 0
  have b1 := at_byte hb 1
  have ba := at_byte hb (2 * l.getD 2 0 + 3)
  have bb := at_byte hb (2 * l.getD 2 0 + 4)
  rw [Nat.add_zero] at q0
  have HE2 : Hid (openE l = if l.getD (2 * l.getD 2 0 + 3) 0 + 256 * l.getD (2 * l.getD 2 0 + 4) 0 ≠ crc (l.take (2 * l.getD 2 0 + 3)) then 17 else if 247 < l.getD 0 0 then 3 else if 60 < l.getD 2 0 then 4 else 0) := hidI (by
    rw [HE.out, if_neg (by simpa using hq), hq, show 2 * l.getD 2 0 + 5 - 2 = 2 * l.getD 2 0 + 3 by omega]
    rfl)
  have cC := fun k => crc_any _ _ ((w.alloc (.cells #[.int .i64 0, .int .i64 0, .slice none 0 0] 32)).drewN k) (isB_take hb (2 * l.getD 2 0 + 3)) (rd_drewN (rdB_grown (rdB_take hv (2 * l.getD 2 0 + 3) (by omega)) hgW) k) (by simp; omega)
  have HV : Hid (rdB w (.slice (some ⟨b, off, none⟩) l.length cap) l) := hv
  have HB : Hid (isB l) := hb
  have HX : Hid (∀ c, openE l = c → c = 0 → OpR = OpR) := hidI (fun _ _ _ => rfl)
  obtain ⟨C, hC⟩ : ∃ C, crc (l.take (2 * l.getD 2 0 + 3)) = C := ⟨_, rfl⟩
  rw [hC] at HE2
  simp only [hC] at cC
  rw [hq] at HV hcap ⊢
  clear hC hc hv hv0 hb h5 hodd HE hm HX
  have HLW : Hid (openE l = 0 → openW l = wordsOf (l.drop 3) (l.getD 2 0) ∧ openS l = l.getD 0 0 ∧ openQ l = l.getD 1 0) := hidI (fun h => ⟨(open_yes h).1, (open_yes h).2.1, (open_yes h).2.2.1⟩)
  generalize l.getD (2 * l.getD 2 0 + 3) 0 = xa at *
  generalize l.getD (2 * l.getD 2 0 + 4) 0 = xb at *
  obtain ⟨x0, hx0⟩ : ∃ x, l.getD 0 0 = x := ⟨_, rfl⟩
  obtain ⟨x1, hx1⟩ : ∃ x, l.getD 1 0 = x := ⟨_, rfl⟩
  obtain ⟨q, hx2⟩ : ∃ x, l.getD 2 0 = x := ⟨_, rfl⟩
  rw [hx0] at HE2 HLW b0 q0
  rw [hx1] at HLW b1 q1
  simp only [hx2] at HE2 HLW b2 q2 cC qa qb hcap HV ⊢
  have HQ : Hid (l.getD 2 0 = q ∧ l.length = 2 * q + 5) := hidI ⟨hx2, by rw [hq, hx2]⟩
  clear hx0 hx1 hx2 hq
  have i2 : (2 : Int) < 2 * (q : Int) + 5 := by omega
  have t1 : (2 * (q : Int)).tmod 2 = 0 := by rw [Int.tmod_eq_emod_of_nonneg (by omega)]; omega
  have t2 : (2 * (q : Int)).tdiv 2 = q := by rw [Int.tdiv_eq_ediv_of_nonneg (by omega)]; omega
  have i0 : ¬ 2 * (q : Int) + 5 < 5 := by omega
  have qq := fun k => Calls.quiet_of_same ((cC k).mono fun _ _ h => ⟨h.1, h.2.symm⟩)
  go_enter Try.func14, Try.ntmps14
  go_wp2_with fail
  go_quiet (first | (go_at_call 30; with_reducible exact qq _))
  have hb1 : ((w.alloc (.cells #[.int .i64 0, .int .i64 0, .slice none 0 0] 32)).drewN nq).heap[w.heap.size]? = some (.cells #[.int .i64 0, .int .i64 0, .slice none 0 0] 32) := heap_alloc_new w _
  have hg1 : w.grownBy ((w.alloc (.cells #[.int .i64 0, .int .i64 0, .slice none 0 0] 32)).drewN nq) none := gr_drewN hgW nq
  have s1 : ((w.alloc (.cells #[.int .i64 0, .int .i64 0, .slice none 0 0] 32)).drewN nq).heap.size = w.heap.size + 1 := by show (w.alloc _).heap.size = _; simp
  have q0 : ((w.alloc (.cells #[.int .i64 0, .int .i64 0, .slice none 0 0] 32)).drewN nq).cell? ⟨b, off, none⟩ = _ := q0
  have q1 : ((w.alloc (.cells #[.int .i64 0, .int .i64 0, .slice none 0 0] 32)).drewN nq).cell? ⟨b, off + 1, none⟩ = _ := q1
  have q2 : ((w.alloc (.cells #[.int .i64 0, .int .i64 0, .slice none 0 0] 32)).drewN nq).cell? ⟨b, off + 2, none⟩ = _ := q2
  clear qa qb cC qq hgW
  generalize (w.alloc (.cells #[.int .i64 0, .int .i64 0, .slice none 0 0] 32)).drewN nq = W1 at *
  have c0 := at_cell hb1 0
  have c1 := at_cell hb1 1
  have c2 := at_cell hb1 2
  have f0 := at_frozen hb1 0
  have f1 := at_frozen hb1 1
  have f2 := at_frozen hb1 2
  simp at c0 c1 c2
  have HB1 := hidI hb1
  have HG1 := hidI hg1
  have HS1 := hidI s1
  clear hb1 hg1 s1
  by_cases hsum : xa + 256 * xb = C
  case neg =>
    have e1 : ((C : Int) != (xa : Int) + 256 * (xb : Int)) = true := by simpa using (show ¬ ((C : Int) = (xa : Int) + 256 * (xb : Int)) by omega)
    go_wp2
    refine bodyPost_ret (results14 _ _ w.heap.size (.int .i64 0) (.int .i64 0) (.slice none 0 0) rfl (box3 HB1.out)) rfl ?_
    exact OpR.no 17 (by rw [HE2.out, if_pos hsum]) (by omega) rfl (gr3 HG1.out (Nat.le_refl _))
  have e1 : ((C : Int) != (xa : Int) + 256 * (xb : Int)) = false := by simpa using (show ((C : Int) = (xa : Int) + 256 * (xb : Int)) by omega)
  have HSUM := hidI hsum
  clear hsum
  have k0 : (0 : Int) < 2 * (q : Int) + 5 := by omega
  have k1 : (1 : Int) < 2 * (q : Int) + 5 := by omega
  by_cases h7 : 247 < x0
  · have i7 : (247 : Int) < (x0 : Int) := by omega
    go_wp2
    refine bodyPost_ret (results14 _ _ w.heap.size (.int .i64 0) (.int .i64 0) (.slice none 0 0) rfl (box3 HB1.out)) rfl ?_
    exact OpR.no 3 (by rw [HE2.out, if_neg (by simp [HSUM.out]), if_pos h7]) (by omega) rfl (gr3 HG1.out (Nat.le_refl _))
  have i7 : ¬ (247 : Int) < (x0 : Int) := by omega
  by_cases h8 : 60 < q
  · have i8 : (60 : Int) < (q : Int) := by omega
    go_wp2
    refine bodyPost_ret (results14 _ _ w.heap.size (.int .i64 0) (.int .i64 0) (.slice none 0 0) rfl (box3 HB1.out)) rfl ?_
    exact OpR.no 4 (by rw [HE2.out, if_neg (by simp [HSUM.out]), if_neg h7, if_pos h8]) (by omega) rfl (gr3 HG1.out (Nat.le_refl _))
  have i8 : ¬ (60 : Int) < (q : Int) := by omega
  have HZ : Hid (openE l = 0) := hidI (by rw [HE2.out, if_neg (by simp [HSUM.out]), if_neg h7, if_neg h8])
  have h60 : q ≤ 60 := by omega
  go_wp2_with fail
  have m0 : IntKind.i64.wrap (x0 : Int) = x0 := i64_id (by omega) (by omega)
  have m1 : IntKind.i64.wrap (x1 : Int) = x1 := i64_id (by omega) (by omega)
  go_region_held3 (fun w' => w'.cell? ⟨b, off, none⟩ = some (.int .u8 (x0 : Int)) ∧ w'.cell? ⟨b, off + 1, none⟩ = some (.int .u8 (x1 : Int))) (go_keep) (fail)
  obtain ⟨T, hT⟩ : ∃ T, W1.heap.size = T := ⟨_, rfl⟩
  have HL0 : Hid (LpR w (W1.alloc (.cells #[.int .i64 (x0 : Int), .int .i64 (x1 : Int), .slice none 0 0] 32)).drew T x0 x1 (l.drop 3) 0 none 0) := hidI
    ⟨(hp_old (at_lt HB1.out) _).trans HB1.out, hp_new hT.symm _, OwnL.nil _ _, gr_drew (gr_alloc HG1.out _), by rw [← hT, HS1.out]⟩
  rw [hT]
  clear hT c0 c1 c2 f0 f1 f2 q0 q1 q2 HB1 HG1 HS1
  generalize (W1.alloc (.cells #[.int .i64 (x0 : Int), .int .i64 (x1 : Int), .slice none 0 0] 32)).drew = W2 at *
  go_wp2_with fail
  go_loopg [6] q (fun gk s6 wx => ∃ (k i : Nat) (a : Option Addr) (c : Nat), s6 = .int .i64 (i : Int) ∧ Hid (i = 2 * k + 3) ∧ k ≤ q ∧ gk = q - k ∧ Hid (LpR w wx T x0 x1 (l.drop 3) k a c))
  case atStart => exact ⟨0, 3, none, 0, rfl, hidI rfl, Nat.zero_le _, by omega, HL0⟩
  case round =>
    obtain ⟨k, i, a, c, rfl, HI, hk, hgk, HL⟩ := hrel
    have HG : Hid (gk = q - k) := hgk
    clear hgk HL0
    by_cases hlt : k < q
    · obtain ⟨g1, g2, g3, g4, g5⟩ := HL.out
      obtain ⟨b', off', cp', he, _, hc⟩ := rdB_at HV.out (by rw [HQ.out.2]; omega)
      injection he with z1 z2 z3
      injection z1 with z1
      injection z1 with z4 z5
      subst z4 z5
      have hi := HI.out
      obtain ⟨j, hj⟩ : ∃ j, j = i + 1 := ⟨_, rfl⟩
      have qa := g4.cell (hc i (by rw [HQ.out.2]; omega)) (by simp)
      have qb := g4.cell (hc j (by rw [HQ.out.2]; omega)) (by simp)
      have ba' := at_byte HB.out i
      have bb' := at_byte HB.out j
      have hbw : b < w.heap.size := by have := World.block_lt_of_cell? w _ (hc 0 (by rw [HQ.out.2]; omega)); simpa using this
      have hP : pairV (l.drop 3) (k * 2) = l.getD i 0 + 256 * l.getD j 0 := by
        rw [pairV_drop]
        unfold pairV
        rw [show 3 + k * 2 = i by omega, hj]
      have HP : Hid (_ = _) := hP
      clear hc hP z2 z3
      generalize l.getD i 0 = ya at *
      generalize l.getD j 0 = yb at *
      have p2 : wr.cell? ⟨T, 2, none⟩ = some (.slice a k c) := at_cell g2 2
      have hTl := at_lt g2
      have hlt1 := World.ownsRow.lt g3
      have hwl := wordsOf_len (l.drop 3) k
      obtain ⟨a2, c2, w5, hrun, hnew⟩ := ownL_one (w := (wr.alloc (.cells #[.int .i64 ((ya : Int) + 256 * (yb : Int))] 3)).drew) (own_keep g3 (gr_drew (gr_alloc (World.grownBy.refl _ _) _))) wr.heap.size _ (heap_alloc_new wr _) (by omega) (by show _ ≤ (wr.alloc _).heap.size; simp; omega)
      rw [hwl] at hrun
      have HRUN : Hid (_ = _) := hrun
      obtain ⟨n1, n2, n3⟩ := hnew
      have hgw : wr.grownBy w5 (Value.slice a (wordsOf (l.drop 3) k).length c).ownBlock := grown_join (gr_drew (gr_alloc (World.grownBy.refl _ _) _)) n2 (.inl rfl)
      have hT5 : w5.heap[T]? = some (.cells #[.int .i64 (x0 : Int), .int .i64 (x1 : Int), .slice a k c] 32) := (hgw.block T hTl (fun e => by have := (hlt1 T e.symm).1; omega)).trans g2
      have hR5 : w5.heap[w.heap.size]? = some (.cells #[.int .i64 0, .int .i64 0, .slice none 0 0] 32) := (hgw.block _ (at_lt g1) (fun e => by have := (hlt1 _ e.symm).1; omega)).trans g1
      have hg5 : w.grownBy w5 none := grown_join g4 hgw (.inr fun y hy => by have := (hlt1 y hy).1; omega)
      have p5 : w5.cell? ⟨T, 2, none⟩ = some (.slice a k c) := at_cell hT5 2
      have f5 := at_frozen hT5 2
      have HKP : Hid (w5.cell? ⟨b, off + i, none⟩ = some (.int .u8 (ya : Int)) ∧ w5.cell? ⟨b, off + j, none⟩ = some (.int .u8 (yb : Int))) := hidI ⟨hgw.cell qa (fun e => by have h1 : T + 1 ≤ b := (hlt1 _ e.symm).1; omega), hgw.cell qb (fun e => by have h1 : T + 1 ≤ b := (hlt1 _ e.symm).1; omega)⟩
      have HNEW : Hid (LpR w (w5.setCell ⟨T, 2, none⟩ (.slice a2 (k + 1) c2)) T x0 x1 (l.drop 3) (k + 1) a2 c2) := hidI (by
        refine ⟨?_, ?_, ?_, gr_own hg5 (by omega) _ _, g5⟩
        · rw [Below.heap_setCell _ _ _ _ (by simp; omega)]; exact hR5
        · have := at_set hT5 2 (.slice a2 (k + 1) c2); simpa using this
        · rw [wordsOf_succ]
          have e : ((pairV (l.drop 3) (k * 2) : Nat) : Int) = (ya : Int) + 256 * (yb : Int) := by rw [HP.out]; omega
          rw [e]
          exact own_but n1 (gr_set (World.grownBy.refl _ _) _ _) (by omega))
      have hbT : ¬ b = T := by omega
      clear g1 g2 g3 g4 g5 hlt1 hwl hrun n1 n2 n3 hgw hT5 hR5 hg5
      have hTb : ¬ T = b := fun e => hbT e.symm
      have m0 : IntKind.i64.wrap (ya : Int) = ya := i64_id (by omega) (by omega)
      have m1 : IntKind.i64.wrap (yb : Int) = yb := i64_id (by omega) (by omega)
      have m2 : IntKind.i64.wrap (256 * (yb : Int)) = 256 * yb := i64_id (by omega) (by omega)
      have m3 : IntKind.i64.wrap ((ya : Int) + 256 * (yb : Int)) = ya + 256 * yb := i64_id (by omega) (by omega)
      have m4 : IntKind.i64.wrap ((i : Int) + 1) = (j : Int) := by rw [i64_id (by omega) (by omega)]; omega
      have i1 : (i : Int) < 2 * (q : Int) + 5 := by omega
      have i2 : (j : Int) < 2 * (q : Int) + 5 := by omega
      have i3 : (0 : Int) ≤ (i : Int) := by omega
      have i4 : (0 : Int) ≤ (j : Int) := by omega
      have i5 : (i : Int) < 2 * (q : Int) + 3 := by omega
      have HJ := hidI hj
      clear hi hj
      go_wp2_with fail
      go_region_law (first | (refine step_append_run (by rfl) _ _ 22 (by rfl) _ _ _ w5 (by rfl) (by rfl) HRUN.out ?_))
      all_goals
        go_wp2
        have hgl := HG.out
        have hil := HI.out
        go_roundg (q - (k + 1))
        all_goals first | omega | exact ⟨k + 1, i + 2, a2, c2, by go_num, hidI (by omega), by omega, by omega, HNEW⟩
    · have hkq : k = q := by omega
      subst hkq
      have hi := HI.out
      have i5 : ¬ (i : Int) < 2 * (k : Int) + 3 := by omega
      obtain ⟨g1, g2, g3, g4, g5⟩ := HL.out
      have p0 : wr.cell? ⟨T, 0, none⟩ = some (.int .i64 (x0 : Int)) := at_cell g2 0
      have p1 : wr.cell? ⟨T, 1, none⟩ = some (.int .i64 (x1 : Int)) := at_cell g2 1
      have p2 : wr.cell? ⟨T, 2, none⟩ = some (.slice a k c) := at_cell g2 2
      have r0 : wr.cell? ⟨w.heap.size, 0, none⟩ = some (.int .i64 0) := at_cell g1 0
      have r1 : wr.cell? ⟨w.heap.size, 1, none⟩ = some (.int .i64 0) := at_cell g1 1
      have r2 : wr.cell? ⟨w.heap.size, 2, none⟩ = some (.slice none 0 0) := at_cell g1 2
      have f0 := at_frozen g1 0
      have f1 := at_frozen g1 1
      have f2 := at_frozen g1 2
      obtain ⟨y1, y2, y3⟩ := HLW.out HZ.out
      have HY := hidI (And.intro y1 (And.intro y2 y3))
      have HGG := hidI (And.intro g1 (And.intro g3 (And.intro g4 g5)))
      clear g1 g2 g3 g4 g5 hi y1 y2 y3
      go_wp2
      refine bodyPost_ret (results14 _ _ w.heap.size (.int .i64 (x0 : Int)) (.int .i64 (x1 : Int)) (.slice a k c) rfl (box3 HGG.out.1)) rfl ?_
      rw [HY.out.1, HY.out.2.1, HY.out.2.2, HZ.out]
      exact ⟨a, c, by rw [wordsOf_len]; rfl, own_low (own_but HGG.out.2.1 (gr_set (gr_set (gr_set (World.grownBy.refl _ _) _ _) _ _) _ _) (by have := HGG.out.2.2.2; omega)) (by have := HGG.out.2.2.2; omega), gr3 HGG.out.2.2.1 (Nat.le_refl _)⟩
end Go.Proofs.Ytaiicehifailhaa
