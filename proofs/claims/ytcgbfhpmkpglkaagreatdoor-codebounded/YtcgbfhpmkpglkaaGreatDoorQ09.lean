/- Texts put together: BlU2, N6. -/
import Derived.Test.YtcgbfhpmkpglkaaGreatDoorQ07
import Derived.Test.YtcgbfhpmkpglkaaGreatDoorQ08
import Derived.Test.YtcgbfhpmkpglkaaGreatDoorQ03
import Derived.Test.YtcgbfhpmkpglkaaGreatDoorQ02
import Derived.Laws.CopyRow
/- How long what the blocks leave is. -/
namespace Go.Proofs.YtcgbfhpmkpglkaaGreatDoor.Bl
open Go.RowKit
set_option linter.unusedVariables false
set_option linter.unusedSimpArgs false

def LensC (n m : Nat) (kS kI : List Int) (F : List Int → List Int → Int → List Int × List Int) : Prop := ∀ l li x, (F (wrapL kS l) (wrapL kI li) x).1.length = n ∧ (F (wrapL kS l) (wrapL kI li) x).2.length = m
theorem lens_ton : LensC 4 2 [1, 5, 1, 5] [1, 5] tonF := fun l li x => by
  obtain ⟨a, b, c, d, e⟩ := form4 1 5 1 5 l
  obtain ⟨f, g, e'⟩ := form2 1 5 li
  rw [e, e']
  refine ⟨?_, ?_⟩ <;> (simp only [tonF]; repeat' split) <;> rfl
theorem lens_tof : LensC 4 2 [1, 5, 1, 5] [1, 5] tofF := fun l li x => by
  obtain ⟨a, b, c, d, e⟩ := form4 1 5 1 5 l
  obtain ⟨f, g, e'⟩ := form2 1 5 li
  rw [e, e']
  refine ⟨?_, ?_⟩ <;> (simp only [tofF]; repeat' split) <;> rfl
theorem lens_tp : LensC 4 2 [1, 5, 1, 5] [1, 5] tpF := fun l li x => by
  obtain ⟨a, b, c, d, e⟩ := form4 1 5 1 5 l
  obtain ⟨f, g, e'⟩ := form2 1 5 li
  rw [e, e']
  refine ⟨?_, ?_⟩ <;> (simp only [tpF, outF]; repeat' split) <;> rfl
theorem lens_ctu : LensC 2 2 [1, 2] [1, 1, 2] ctuF := fun l li x => by
  obtain ⟨a, b, e⟩ := form2 1 2 l
  obtain ⟨c, d, f, e'⟩ := form3 1 1 2 li
  rw [e, e']
  refine ⟨?_, ?_⟩ <;> (simp only [ctuF]; repeat' split) <;> rfl
theorem lens_ctd : LensC 2 2 [1, 2] [1, 1, 2] ctdF := fun l li x => by
  obtain ⟨a, b, e⟩ := form2 1 2 l
  obtain ⟨c, d, f, e'⟩ := form3 1 1 2 li
  rw [e, e']
  refine ⟨?_, ?_⟩ <;> (simp only [ctdF]; repeat' split) <;> rfl
theorem lens_ctud : LensC 3 3 [1, 1, 2] [1, 1, 1, 1, 2] ctudF := fun l li x => by
  obtain ⟨a, b, c, e⟩ := form3 1 1 2 l
  obtain ⟨d, f, g, h, i, e'⟩ := form5 1 1 1 1 2 li
  rw [e, e']
  refine ⟨?_, ?_⟩ <;> (simp only [ctudF]; repeat' split) <;> rfl
theorem lens_rtrig : LensC 1 1 [1] [1] rtrigF := fun l li x => by
  obtain ⟨a, e⟩ := form1 1 l
  obtain ⟨c, e'⟩ := form1 1 li
  rw [e, e']
  exact ⟨rfl, rfl⟩
theorem lens_ftrig : LensC 1 1 [1] [1] ftrigF := fun l li x => by
  obtain ⟨a, e⟩ := form1 1 l
  obtain ⟨c, e'⟩ := form1 1 li
  rw [e, e']
  exact ⟨rfl, rfl⟩
theorem lens_sr : LensC 1 1 [1] [1, 1] srF := fun l li x => by
  obtain ⟨a, e⟩ := form1 1 l
  obtain ⟨c, d, e'⟩ := form2 1 1 li
  rw [e, e']
  exact ⟨rfl, rfl⟩
theorem lens_rs : LensC 1 1 [1] [1, 1] rsF := fun l li x => by
  obtain ⟨a, e⟩ := form1 1 l
  obtain ⟨c, d, e'⟩ := form2 1 1 li
  rw [e, e']
  exact ⟨rfl, rfl⟩
theorem lens_ramp : LensC 1 1 [2] [2, 2] rampF := fun l li x => by
  obtain ⟨a, e⟩ := form1 2 l
  obtain ⟨c, d, e'⟩ := form2 2 2 li
  rw [e, e']
  exact ⟨rfl, rfl⟩
theorem lens_hyst : LensC 1 1 [1] [2, 2, 2] hystF := fun l li x => by
  obtain ⟨a, e⟩ := form1 1 l
  obtain ⟨c, d, f, e'⟩ := form3 2 2 2 li
  rw [e, e']
  exact ⟨rfl, rfl⟩
end Go.Proofs.YtcgbfhpmkpglkaaGreatDoor.Bl

/- The machine: a standard block's step on its words. -/
namespace Go.Proofs.YtcgbfhpmkpglkaaGreatDoor
open Go.RowKit
attribute [local go_sem ↓] Go.wp_at_zero Go.wp_at_succ
set_option linter.unusedVariables false
set_option linter.unusedSimpArgs false

/-- A list put into another from a place on. -/
def put (ar : List Int) (q : Nat) (l : List Int) : List Int := ar.take q ++ l ++ ar.drop (q + l.length)
theorem put_len (ar : List Int) (q : Nat) (l : List Int) (h : q + l.length ≤ ar.length) : (put ar q l).length = ar.length := by
  simp [put]; omega
/-- A piece of a list. -/
def sub (ar : List Int) (q n : Nat) : List Int := (ar.drop q).take n
theorem sub_len (ar : List Int) (q n : Nat) (h : q + n ≤ ar.length) : (sub ar q n).length = n := by simp [sub]; omega
theorem FrAt.rd {w : World} {F : Nat} {ar : List Int} (h : FrAt w F ar) (q n c : Nat) (hq : q + n ≤ ar.length) : rd w (.slice (some ⟨F, q, none⟩) n c) (sub ar q n) := by
  refine ⟨_, c, by rw [sub_len ar q n hq], .inr ⟨F, q, rfl, fun i hi => ?_⟩⟩
  rw [sub_len ar q n hq] at hi
  rw [h.get (q + i) (by omega)]
  simp [sub, List.getD, List.getElem?_take, hi]
theorem FrAt.put {w : World} {F : Nat} {ar : List Int} (h : FrAt w F ar) (q dl dc : Nat) (b sl sc : Nat) (l : List Int) (hb : w.heap[b]? = some (.cells (intsA l) 3)) (hl : l.length = sl) (hd : sl ≤ dl) (hq : q + sl ≤ ar.length) :
    ∃ w', (Builtin.copy_ #[25, 25] 3 #[.slice (some ⟨F, q, none⟩) dl dc, .slice (some ⟨b, 0, none⟩) sl sc]).run Tryz.prog w = .ok (.int .i64 sl) w' ∧ FrAt w' F (YtcgbfhpmkpglkaaGreatDoor.put ar q l) ∧ (∀ k, k ≠ F → w'.heap[k]? = w.heap[k]?) ∧ w'.heap.size = w.heap.size ∧ w'.os = w.os ∧ w'.tape = w.tape ∧ w'.output = w.output := by
  have hs : (Tryz.prog.info? 3).map (·.size) = some 1 := by kernel_rfl
  have hr := run_copy_row (P := Tryz.prog) w 25 25 3 3 F q dl dc ⟨b, 0, none⟩ sl sc (intsA ar) 3 (l.map (Value.int .i64)) Tryz.underlying25 hs h (by rw [List.length_map, hl]; exact (Nat.min_eq_left hd).symm)
    (fun j v hj => by
      rw [addn, Nat.zero_add, at_cell hb]
      simpa [intsA] using hj)
    (by simp [intsA, hl]; omega) (by simp [Value.oneCell'])
  rw [List.length_map, hl] at hr
  obtain ⟨cs, hcs⟩ : ∃ cs, ((intsA ar).toList.take q ++ l.map (Value.int .i64) ++ (intsA ar).toList.drop (q + sl)).toArray = cs := ⟨_, rfl⟩
  rw [hcs] at hr
  have hE : cs = intsA (YtcgbfhpmkpglkaaGreatDoor.put ar q l) := by
    rw [← hcs]
    simp [intsA, YtcgbfhpmkpglkaaGreatDoor.put, hl]
  refine ⟨w.setRow F cs, hr, ?_, ?_, ?_, ?_, ?_, ?_⟩
  · unfold FrAt
    rw [← hE]
    exact setRow_heap _ _ _ _ 3 _ h
  · exact fun k hk => setRow_other _ _ _ _ hk
  · simp [World.setRow]
  · rfl
  · rfl
  · rfl

theorem wpList_copy_run {P : Program} {w : World} {ops : Array Oper} {rest : List Oper} {o : Oper} {a : Act} {Q : Exit → Act → World → Prop} (hgd : o.guard = none) (s x : Operand) (t : TypeId)
    (ho : o.op = .call { callee := .builtin .copy, args := #[s, x], argTypes := #[t, t] })
    (v u v' : Value) (w' : World) (hs : a.eval s = v) (hx : a.eval x = u) (hrun : (Builtin.copy_ #[t, t] o.type #[v, u]).run P w = .ok v' w')
    (h : wpList P ops Q rest (a.put o.dst v') w') : wpList P ops Q (o :: rest) a w := by
  refine wpList_plain hgd fun K hK => ?_
  unfold Oper.wp
  simp [execOp, ho, resolve, invoke, builtin, hs, hx, hrun, Result.andThen]
  exact hK _ _ h
theorem chg_of_frame {M F : Nat} {r : Option Nat} {w w' : World} (h : ∀ k, k ≠ F → w'.heap[k]? = w.heap[k]?) (hs : w'.heap.size = w.heap.size) (h1 : w'.os = w.os) (h2 : w'.tape = w.tape) (h3 : w'.output = w.output) : Chg M (some F) r w w' := ⟨h1, h2, h3, by omega, fun k hk _ hF _ => h k (by simpa using hF)⟩
theorem MaC.frame {w w' : World} {B M F : Nat} {pv : Value} {now : Int} {sa : Option Addr} {sc : Nat} {st : List Int} {sp fl : Int} (h : MaC w B M pv now sa sc st sp fl) (hk : ∀ k, k ≠ F → w'.heap[k]? = w.heap[k]?) (hFM : F ≠ M) (hFB : F < B) : MaC w' B M pv now sa sc st sp fl := by
  refine ⟨(hk M (Ne.symm hFM)).trans h.blk, ⟨h.own.1, ?_⟩, h.lo⟩
  rcases h.own.2 with h2 | ⟨g, c, cur, e, hb, hg, h3⟩
  · exact .inl h2
  · exact .inr ⟨g, c, cur, e, hb, (hk g (by omega)).trans hg, h3⟩

/-- What Step leaves of a frame: outputs, then words of state. -/
def stdF (Fn : List Int → List Int → Int → List Int × List Int) (kS kI : List Int) (ni no ns : Nat) (now : Int) (ar : List Int) (p : Nat) : List Int :=
  put (put ar (p + ni) (Fn (Bl.wrapL kS (sub ar (p + (ni + no)) ns)) (Bl.wrapL kI (sub ar p ni)) (Bl.wrapK 5 now)).2) (p + (ni + no)) (Fn (Bl.wrapL kS (sub ar (p + (ni + no)) ns)) (Bl.wrapL kI (sub ar p ni)) (Bl.wrapK 5 now)).1

set_option maxRecDepth 10000 in
set_option maxHeartbeats 4000000 in
theorem standard_gen (num : Int) (nm : ByteArray) (ni no ns : Nat) (kS kI : List Int) (Fn : List Int → List Int → Int → List Int × List Int)
    (hkit : ∀ w, Stds w → Calls Tryz.prog 72 #[.int .i64 num] w fun e w' => e = .returned (.agg #[.string nm, .int .i64 ni, .int .i64 (((ni + no : Nat) : Int)), .int .i64 ((ni + no + ns : Nat) : Int)]) ∧ w.grownBy w' none)
    (hstep : Bl.StepC nm ns no kS kI Fn) (hlen : Bl.LensC ns no kS kI Fn)
    (w : World) (B M F p wn fc : Nat) (ar : List Int) (pv : Value) (now : Int) (sa : Option Addr) (sc : Nat) (st : List Int) (sp fl : Int) (h : MaC w B M pv now sa sc st sp fl) (hF : FrAt w F ar) (hFM : F ≠ M) (hFB : F < B) (hB : B ≤ w.heap.size) (hw : ni + no + ns ≤ wn) (hwf : wn ≤ fc) (hp : p + wn ≤ ar.length) (hS : Stds w) (hns : 1 ≤ ns) (hno : 1 ≤ no) :
    Calls Tryz.prog 55 #[.pointer (some ⟨M, 0, none⟩), .int .i64 num, .slice (some ⟨F, p, none⟩) wn fc] w fun e w' => e = .returned (.tuple #[]) ∧ StP w B M (some F) pv now (sb sa) st sp fl w' ∧ FrAt w' F (stdF Fn kS kI ni no ns now ar p) := by
  have HM : Hid (MaC w B M pv now sa sc st sp fl) := h
  have HF : Hid (FrAt w F ar) := hF
  have cK := hkit w hS
  have HST : Hid (Bl.StepC nm ns no kS kI Fn) := hstep
  obtain ⟨R, hR⟩ : ∃ R, Fn (Bl.wrapL kS (sub ar (p + (ni + no)) ns)) (Bl.wrapL kI (sub ar p ni)) (Bl.wrapK 5 now) = R := ⟨_, rfl⟩
  have HR : Hid (Fn (Bl.wrapL kS (sub ar (p + (ni + no)) ns)) (Bl.wrapL kI (sub ar p ni)) (Bl.wrapK 5 now) = R) := hR
  have HLN : Hid (R.1.length = ns ∧ R.2.length = no) := by have := hlen (sub ar (p + (ni + no)) ns) (sub ar p ni) (Bl.wrapK 5 now); rw [hR] at this; exact this
  clear h hF hS hkit hstep hlen hR
  obtain ⟨a1, ha1⟩ : ∃ m, ni + no = m := ⟨_, rfl⟩
  obtain ⟨a2, ha2⟩ : ∃ m, ni + no + ns = m := ⟨_, rfl⟩
  have HA1 : Hid (ni + no = a1) := ha1
  have HA2 : Hid (ni + no + ns = a2) := ha2
  rw [ha2] at cK hw
  rw [ha1] at cK
  have l1 : ni ≤ a1 := by omega
  have l2 : a1 ≤ a2 := by omega
  clear ha1 ha2
  go_enter Tryz.func55, Tryz.ntmps55
  go_wp2_with fail
  refine cK.mono ?_
  rintro e w1 ⟨rfl, hg1⟩
  clear cK
  go_wp2_with fail
  generalize hw2 : w1.alloc (.cells #[.string nm, .int .i64 (ni : Int), .int .i64 (a1 : Int), .int .i64 (a2 : Int)] 119) = w2
  have hX2 : w2.heap[w1.heap.size]? = some (.cells #[.string nm, .int .i64 (ni : Int), .int .i64 (a1 : Int), .int .i64 (a2 : Int)] 119) := hw2 ▸ heap_alloc_new _ _
  have hg12 : w.grownBy w2 none := hg1.trans (hw2 ▸ gr1 _ _)
  have HM2 : Hid (MaC w2 B M pv now sa sc st sp fl) := HM.out.kept hg12
  have HF2 : Hid (FrAt w2 F ar) := HF.out.grown hg12
  have HX2 : Hid (w2.heap[w1.heap.size]? = some (.cells #[.string nm, .int .i64 (ni : Int), .int .i64 (a1 : Int), .int .i64 (a2 : Int)] 119)) := hX2
  have k0 := at_cell hX2 0
  have k1 := at_cell hX2 1
  have k2 := at_cell hX2 2
  have k3 := at_cell hX2 3
  have m1 := at_cell HM2.out.blk 1
  simp at k0 k1 k2 k3 m1
  have hFX : F < w1.heap.size := by have := hg1.size; omega
  have n1 : ¬ fc = a1 := by have := HA1.out; have := HA2.out; omega
  have n2 : ¬ fc = ni := by have := HA1.out; have := HA2.out; omega
  have i0 : (0 : Int) ≤ (ni : Int) := by omega
  have i1 : (0 : Int) ≤ (a1 : Int) := by omega
  have i2 : (a1 : Int) ≤ (a2 : Int) := by omega
  have i3 : (a2 : Int) ≤ (fc : Int) := by omega
  have i4 : (ni : Int) ≤ (fc : Int) := by omega
  have i5 : (ni : Int) ≤ (wn : Int) := by omega
  have i6 : (a1 : Int) ≤ (wn : Int) := by omega
  have i7 : (wn : Int) ≤ (fc : Int) := by omega
  have cS : ∀ W, w2.grownBy W none → ∀ c1 c2, Calls Tryz.prog 73 #[.string nm, .slice (some ⟨F, p + a1, none⟩) (a2 - a1) c1, .slice (some ⟨F, p, none⟩) ni c2, .int .i64 now] W fun e w' => ∃ b1 b2, e = .returned (.tuple #[.slice (some ⟨b1, 0, none⟩) ns ns, .slice (some ⟨b2, 0, none⟩) no no]) ∧ w'.heap[b1]? = some (.cells (intsA R.1) 3) ∧ w'.heap[b2]? = some (.cells (intsA R.2) 3) ∧ W.heap.size ≤ b1 ∧ W.heap.size ≤ b2 ∧ W.grownBy w' none := fun W hW c1 c2 => by
    have hs : a2 - a1 = ns := by have := HA1.out; have := HA2.out; omega
    have hf := HF2.out.grown hW
    have h1 := hf.rd (p + (ni + no)) ns c1 (by have := HA1.out; have := HA2.out; omega)
    have h2 := hf.rd p ni c2 (by have := HA1.out; have := HA2.out; omega)
    rw [HA1.out] at h1
    rw [hs]
    refine (HST.out _ _ _ _ now W h1 h2).mono ?_
    rintro e w' ⟨b1, b2, h3, h4, h5, h6, h7, h8, h9⟩
    have hR := HR.out
    rw [HA1.out] at hR
    rw [hR] at h7 h8
    exact ⟨b1, b2, h3, h7, h8, h4, h5, h9⟩
  clear hw2 hX2 hg1
  go_region_held3 (fun w' => w'.cell? ⟨w1.heap.size, 0, none⟩ = some (.string nm) ∧ w'.cell? ⟨w1.heap.size, 1, none⟩ = some (.int .i64 (ni : Int)) ∧ w'.cell? ⟨w1.heap.size, 2, none⟩ = some (.int .i64 (a1 : Int)) ∧ w'.cell? ⟨w1.heap.size, 3, none⟩ = some (.int .i64 (a2 : Int)) ∧ w'.cell? ⟨M, 1, none⟩ = some (.int .i64 now)) (first | (go_keep; done) | exact HK3.out) (first
    | (go_at_call 73
       refine (cS _ (gr_drew (World.grownBy.refl _ _)) _ _).mono ?_
       rintro e w3 ⟨b1, b2, rfl, hb1, hb2, hl1, hl2, hg3⟩
       have HK3 : Hid (w3.cell? ⟨w1.heap.size, 0, none⟩ = some (.string nm) ∧ w3.cell? ⟨w1.heap.size, 1, none⟩ = some (.int .i64 (ni : Int)) ∧ w3.cell? ⟨w1.heap.size, 2, none⟩ = some (.int .i64 (a1 : Int)) ∧ w3.cell? ⟨w1.heap.size, 3, none⟩ = some (.int .i64 (a2 : Int)) ∧ w3.cell? ⟨M, 1, none⟩ = some (.int .i64 now)) := ⟨hg3.cell k0 (by simp), hg3.cell k1 (by simp), hg3.cell k2 (by simp), hg3.cell k3 (by simp), hg3.cell m1 (by simp)⟩))
  have hg23 : w2.grownBy w3 none := (gr_drew (World.grownBy.refl _ _)).trans hg3
  have HM3 : Hid (MaC w3 B M pv now sa sc st sp fl) := HM2.out.kept hg23
  have HF3 : Hid (FrAt w3 F ar) := HF2.out.grown hg23
  have hw2s := at_lt HX2.out
  have z1 : a1 = ni + no := HA1.out.symm
  have z2 : a2 = ni + no + ns := HA2.out.symm
  have hd1 : w2.drew.heap.size = w2.heap.size := rfl
  obtain ⟨w4, hr4, hF4, hk4, hs4, ho4, ht4, hu4⟩ := HF3.out.put (p + ni) (wn - ni) (fc - ni) b2 no no R.2 hb2 HLN.out.2 (by omega) (by omega)
  have hb1' : w4.heap[b1]? = some (.cells (intsA R.1) 3) := (hk4 b1 (by omega)).trans hb1
  have hlp : (put ar (p + ni) R.2).length = ar.length := put_len _ _ _ (by rw [HLN.out.2]; omega)
  obtain ⟨w5, hr5, hF5, hk5, hs5, ho5, ht5, hu5⟩ := hF4.put (p + a1) (wn - a1) (fc - a1) b1 ns ns R.1 hb1' HLN.out.1 (by omega) (by rw [hlp]; omega)
  have j1 := HK3.out.2.1
  have j2 : w4.cell? ⟨w1.heap.size, 2, none⟩ = some (.int .i64 (a1 : Int)) := by
    rw [World.cell?_of_block (hk4 w1.heap.size (by omega))]; exact HK3.out.2.2.1
  have HFIN : Hid (StP w B M (some F) pv now (sb sa) st sp fl w5) := ⟨sa, sc, (HM3.out.frame hk4 hFM hFB).frame hk5 hFM hFB, ((Chg.of_none (hg12.trans hg23)).trans (Nx.refl _ _) (chg_of_frame hk4 hs4 ho4 ht4 hu4)).trans (Nx.refl _ _) (chg_of_frame hk5 hs5 ho5 ht5 hu5), Nx.refl _ _⟩
  have HFF : Hid (FrAt w5 F (stdF Fn kS kI ni no ns now ar p)) := by
    unfold stdF
    rw [HR.out, HA1.out]
    exact hF5
  clear hF4 hF5 hk4 hk5 hb1 hb2 hb1' z1 z2 hd1
  go_wp2_with fail
  all_goals first | go_end0 | ((try simp only [Exit.inBlock, Exit.then]); refine bodyPost_ret (results_none rfl _ _ _) rfl ?_)
  all_goals exact ⟨rfl, HFIN.out, HFF.out⟩
end Go.Proofs.YtcgbfhpmkpglkaaGreatDoor
