/- Texts put together: Wd. -/
import Derived.Test.YtdcoidmbainkmaaGreatDoorQ18
import Derived.Laws.StructEq
namespace Go.Proofs.YtdcoidmbainkmaaGreatDoor
open Go.RowKit
attribute [local go_sem ↓] Go.wp_at_zero Go.wp_at_succ
set_option linter.unusedVariables false
set_option linter.unusedSimpArgs false
theorem eqL' (d : Nat) (x y : Int) (W : World) : Sem.run Tryz.prog (Op.equalIn (d + 2) 103 (.agg #[.int .i64 x,.int .i64 y]) (.agg #[.int .i64 x,.int .i64 y])) W = .ok true W := by
 have h := Tryz.underlying103
 have hi : ∀ (n : Int) (w : World),Sem.run Tryz.prog (Op.equalIn (d + 1) 3 (.int .i64 n) (.int .i64 n)) w = .ok true w := fun n w => by
  rw [run_equalIn_int (P := Tryz.prog) w d 3 .i64 .i64 n n Tryz.underlying3]; simp
 have hs : ∀ w,Sem.run Tryz.prog (sizeOf 3) w = .ok 1 w := fun w => Tryz.sizeOf3 w
 rw [Op.equalIn.eq_2]
 simp only [Sem.run_bind,run_underlying h,Result.andThen_ok,hs]
 generalize hq : Op.equalIn (d + 1) 3 = f at hi ⊢
 have hp : ∀ (w : World),Sem.run Tryz.prog (part 3 #[.int .i64 x,.int .i64 y] 0) w = .ok (.int .i64 x) w := fun w => by simp [part,go_sem]
 have hp1 : ∀ (w : World),Sem.run Tryz.prog (part 3 #[.int .i64 x,.int .i64 y] 1) w = .ok (.int .i64 y) w := fun w => by simp [part,go_sem]
 simp [Std.Legacy.Range.forIn_eq_forIn_range',List.range',hi,hp,hp1]
theorem eqL (x y : Int) (W : World) : Sem.run Tryz.prog (Op.equalIn 10000 103 (.agg #[.int .i64 x,.int .i64 y]) (.agg #[.int .i64 x,.int .i64 y])) W = .ok true W := eqL' 9998 x y W
theorem sC_len (p : PS) (q : Sq) : (sC p q).length = 13 := by obtain ⟨_,_,_,_,_,_,_,_,_,_,_,_,_⟩ := p; rfl
theorem aC_len (p : PArg) (q : Value) : (aC p q).length = 12 := by obtain ⟨_,_,_,⟨_,_,_,_,_,_,_,_⟩,_⟩ := p; rfl
theorem mC_len (p : PArm) (q : Value × Value × Value) : (mC p q).length = 10 := by obtain ⟨⟨_,_,_,_,_,_,_,_⟩,_,_⟩ := p; rfl
def SmS (W : World) (va : Value) (l : List PS) : Prop := ∀ (W' : World),W.grownBy W' none → ∀ (ok : Nat → Prop) (vb : Value),Li kdS 94 W' ok vb l → Calls Tryz.prog 18 #[va,vb] W' (yesG W')
theorem Li.gw {α Q : Type} {K : Kd α Q} {T : Nat} {w w' : World} {ok : Nat → Prop} {v : Value} {l : List α} (h : Li K T w ok v l) (hg : w.grownBy w' none) : Li K T w' ok v l := h.kept (fun b _ hl => hg.block b hl (by simp)) hg.size
theorem Xs.gw {w w' : World} {ok : Nat → Prop} {v : Value} {l : List PE} (h : Xs w ok v l) (hg : w.grownBy w' none) : Xs w' ok v l := h.kept (fun b _ hl => hg.block b hl (by simp)) hg.size
set_option maxRecDepth 10000 in
set_option maxHeartbeats 16000000 in
theorem same_ss_in {W : World} {ok : Nat → Prop} {va : Value} {l : List PS} (hx : Li kdS 94 W ok va l) (hI : ∀ (i : Nat) (hi : i < l.length),(∀ k,Li kdS 94 W ok k l[i].els → SmS W k l[i].els) ∧ (∀ k,Li kdS 94 W ok k l[i].body → SmS W k l[i].body) ∧ (∀ (j : Nat) (hj : j < l[i].arms.length) k,Li kdS 94 W ok k (l[i].arms[j]).body → SmS W k (l[i].arms[j]).body)) : SmS W va l := by
 intro W' hg' okb vb hb
 obtain ⟨ax,ac,rfl⟩ := hx.sl
 obtain ⟨bx,bc,rfl⟩ := hb.sl
 have HI := hidI hI
 have HA := hidI hx
 have HB := hidI hb
 have HG := hidI hg'
 have hne : ((l.length : Int) != (l.length : Int)) = false := by simp
 clear hI hx hb hg'
 go_enter Tryz.func18,Tryz.ntmps18
 go_wp2_with fail
 have LS : Hid (EsL W' l.length (l.length + 1) (.int .i64 0) W') := ⟨0,rfl,⟨Nat.zero_le _,rfl⟩,World.grownBy.refl _ _⟩
 go_loopg [5] (l.length + 1) (fun gk s5 wx => EsL W' l.length gk s5 wx)
 case atStart => exact LS.out
 case round =>
  rename World => wa
  obtain ⟨i,rfl,⟨hi1,hgk⟩,hg⟩ := hrel
  by_cases hi : i < l.length
  rotate_left
  · have hlt : ¬ ((i : Int) < (l.length : Int)) := by omega
    have HH := hidI hg
    clear hg
    go_wp2_with fail
    go_ret
    exact ⟨rfl,HH.out⟩
  have hlt : ((i : Int) < (l.length : Int)) := by omega
  obtain ⟨ga,oa,ca,ka,ea,hn,hga,hka,hca⟩ := HA.out.pick sC_len (by omega) i hi
  obtain ⟨gb,ob,cb,kb,eb,_,hgb,hkb,hcb⟩ := HB.out.pick sC_len (by omega) i hi
  injection ea with ea1 ea2 ea3
  injection eb with eb1 eb2 eb3
  subst ea1 eb1 ea3 eb3
  obtain ⟨xa1,xc1,xa2,xc2,xa3,xc3,xa4,xc4,xa5,xc5,rfl⟩ := sS_sl hka
  obtain ⟨ya1,yc1,ya2,yc2,ya3,yc3,ya4,yc4,ya5,yc5,rfl⟩ := sS_sl hkb
  have hIi := HI.out i hi
  generalize hE : l[i] = E at hca hcb hka hkb hIi
  obtain ⟨v1,a1,n1,i1,es1,as1,ms1,el1,bo1,lo1,hi1',by1,ti1⟩ := E
  simp only [PS.es,PS.args,PS.arms,PS.els,PS.body] at hca hcb hka hkb hIi
  obtain ⟨hI1,hI2,hI3⟩ := hIi
  obtain ⟨⟨hA1,hA2⟩,hA3,hA4,hA5⟩ := hka
  obtain ⟨⟨hB1,hB2⟩,hB3,hB4,hB5⟩ := hkb
  simp only [PS.es,PS.args,PS.arms,PS.els,PS.body] at hA1 hA2 hA3 hA4 hA5 hB1 hB2 hB3 hB4 hB5
  have cEs : Hid (∀ U,W'.grownBy U none → Calls Tryz.prog 37 #[.slice xa1 es1.length xc1,.slice ya1 es1.length yc1] U (yesG U)) := fun U hU => same_es hA1 U (gtn HG.out hU) _ _ (hB1.gw hU)
  have cEl : Hid (∀ U,W'.grownBy U none → Calls Tryz.prog 18 #[.slice xa4 el1.length xc4,.slice ya4 el1.length yc4] U (yesG U)) := fun U hU => hI1 _ hA4.ss U (gtn HG.out hU) _ _ (hB4.ss.gw hU)
  have cBo : Hid (∀ U,W'.grownBy U none → Calls Tryz.prog 18 #[.slice xa5 bo1.length xc5,.slice ya5 bo1.length yc5] U (yesG U)) := fun U hU => hI2 _ hA5.ss U (gtn HG.out hU) _ _ (hB5.ss.gw hU)
  have HA2 := hidI hA2
  have HB2 := hidI hB2
  have HA3 := hidI hA3.ms
  have HB3 := hidI hB3.ms
  have HI3 := hidI hI3
  have HGR := hidI hg
  have hne2 : ((as1.length : Int) != (as1.length : Int)) = false := by simp
  have hne3 : ((ms1.length : Int) != (ms1.length : Int)) = false := by simp
  clear hI1 hI2 hI3 hA1 hA2 hA3 hA4 hA5 hB1 hB2 hB3 hB4 hB5
  have cga0 : wa.cell? ⟨ga,oa + i * 13,none⟩ = some (.int .i64 v1) := by
   have h := hca 0 (by omega)
   rw [show oa + (i * 13 + 0) = oa + i * 13 by omega] at h
   exact (World.cell?_of_block (hg.block ga (by have := HG.out.size; omega) (by simp))).trans ((World.cell?_of_block (HG.out.block ga (by omega) (by simp))).trans h)
  have cga1 : wa.cell? ⟨ga,oa + i * 13 + 1,none⟩ = some (.int .i64 a1) := by
   have h := hca 1 (by omega)
   rw [show oa + (i * 13 + 1) = oa + i * 13 + 1 by omega] at h
   exact (World.cell?_of_block (hg.block ga (by have := HG.out.size; omega) (by simp))).trans ((World.cell?_of_block (HG.out.block ga (by omega) (by simp))).trans h)
  have cga2 : wa.cell? ⟨ga,oa + i * 13 + 2,none⟩ = some (.string n1) := by
   have h := hca 2 (by omega)
   rw [show oa + (i * 13 + 2) = oa + i * 13 + 2 by omega] at h
   exact (World.cell?_of_block (hg.block ga (by have := HG.out.size; omega) (by simp))).trans ((World.cell?_of_block (HG.out.block ga (by omega) (by simp))).trans h)
  have cga3 : wa.cell? ⟨ga,oa + i * 13 + 3,none⟩ = some (.bool i1) := by
   have h := hca 3 (by omega)
   rw [show oa + (i * 13 + 3) = oa + i * 13 + 3 by omega] at h
   exact (World.cell?_of_block (hg.block ga (by have := HG.out.size; omega) (by simp))).trans ((World.cell?_of_block (HG.out.block ga (by omega) (by simp))).trans h)
  have cga4 : wa.cell? ⟨ga,oa + i * 13 + 4,none⟩ = some (.slice xa1 es1.length xc1) := by
   have h := hca 4 (by omega)
   rw [show oa + (i * 13 + 4) = oa + i * 13 + 4 by omega] at h
   exact (World.cell?_of_block (hg.block ga (by have := HG.out.size; omega) (by simp))).trans ((World.cell?_of_block (HG.out.block ga (by omega) (by simp))).trans h)
  have cga5 : wa.cell? ⟨ga,oa + i * 13 + 5,none⟩ = some (.slice xa2 as1.length xc2) := by
   have h := hca 5 (by omega)
   rw [show oa + (i * 13 + 5) = oa + i * 13 + 5 by omega] at h
   exact (World.cell?_of_block (hg.block ga (by have := HG.out.size; omega) (by simp))).trans ((World.cell?_of_block (HG.out.block ga (by omega) (by simp))).trans h)
  have cga6 : wa.cell? ⟨ga,oa + i * 13 + 6,none⟩ = some (.slice xa3 ms1.length xc3) := by
   have h := hca 6 (by omega)
   rw [show oa + (i * 13 + 6) = oa + i * 13 + 6 by omega] at h
   exact (World.cell?_of_block (hg.block ga (by have := HG.out.size; omega) (by simp))).trans ((World.cell?_of_block (HG.out.block ga (by omega) (by simp))).trans h)
  have cga7 : wa.cell? ⟨ga,oa + i * 13 + 7,none⟩ = some (.slice xa4 el1.length xc4) := by
   have h := hca 7 (by omega)
   rw [show oa + (i * 13 + 7) = oa + i * 13 + 7 by omega] at h
   exact (World.cell?_of_block (hg.block ga (by have := HG.out.size; omega) (by simp))).trans ((World.cell?_of_block (HG.out.block ga (by omega) (by simp))).trans h)
  have cga8 : wa.cell? ⟨ga,oa + i * 13 + 8,none⟩ = some (.slice xa5 bo1.length xc5) := by
   have h := hca 8 (by omega)
   rw [show oa + (i * 13 + 8) = oa + i * 13 + 8 by omega] at h
   exact (World.cell?_of_block (hg.block ga (by have := HG.out.size; omega) (by simp))).trans ((World.cell?_of_block (HG.out.block ga (by omega) (by simp))).trans h)
  have cga9 : wa.cell? ⟨ga,oa + i * 13 + 9,none⟩ = some (.int .i64 lo1) := by
   have h := hca 9 (by omega)
   rw [show oa + (i * 13 + 9) = oa + i * 13 + 9 by omega] at h
   exact (World.cell?_of_block (hg.block ga (by have := HG.out.size; omega) (by simp))).trans ((World.cell?_of_block (HG.out.block ga (by omega) (by simp))).trans h)
  have cga10 : wa.cell? ⟨ga,oa + i * 13 + 10,none⟩ = some (.int .i64 hi1') := by
   have h := hca 10 (by omega)
   rw [show oa + (i * 13 + 10) = oa + i * 13 + 10 by omega] at h
   exact (World.cell?_of_block (hg.block ga (by have := HG.out.size; omega) (by simp))).trans ((World.cell?_of_block (HG.out.block ga (by omega) (by simp))).trans h)
  have cga11 : wa.cell? ⟨ga,oa + i * 13 + 11,none⟩ = some (.int .i64 by1) := by
   have h := hca 11 (by omega)
   rw [show oa + (i * 13 + 11) = oa + i * 13 + 11 by omega] at h
   exact (World.cell?_of_block (hg.block ga (by have := HG.out.size; omega) (by simp))).trans ((World.cell?_of_block (HG.out.block ga (by omega) (by simp))).trans h)
  have cga12 : wa.cell? ⟨ga,oa + i * 13 + 12,none⟩ = some (.int .i64 ti1) := by
   have h := hca 12 (by omega)
   rw [show oa + (i * 13 + 12) = oa + i * 13 + 12 by omega] at h
   exact (World.cell?_of_block (hg.block ga (by have := HG.out.size; omega) (by simp))).trans ((World.cell?_of_block (HG.out.block ga (by omega) (by simp))).trans h)
  have cgb0 : wa.cell? ⟨gb,ob + i * 13,none⟩ = some (.int .i64 v1) := by
   have h := hcb 0 (by omega)
   rw [show ob + (i * 13 + 0) = ob + i * 13 by omega] at h
   exact (World.cell?_of_block (hg.block gb (by omega) (by simp))).trans h
  have cgb1 : wa.cell? ⟨gb,ob + i * 13 + 1,none⟩ = some (.int .i64 a1) := by
   have h := hcb 1 (by omega)
   rw [show ob + (i * 13 + 1) = ob + i * 13 + 1 by omega] at h
   exact (World.cell?_of_block (hg.block gb (by omega) (by simp))).trans h
  have cgb2 : wa.cell? ⟨gb,ob + i * 13 + 2,none⟩ = some (.string n1) := by
   have h := hcb 2 (by omega)
   rw [show ob + (i * 13 + 2) = ob + i * 13 + 2 by omega] at h
   exact (World.cell?_of_block (hg.block gb (by omega) (by simp))).trans h
  have cgb3 : wa.cell? ⟨gb,ob + i * 13 + 3,none⟩ = some (.bool i1) := by
   have h := hcb 3 (by omega)
   rw [show ob + (i * 13 + 3) = ob + i * 13 + 3 by omega] at h
   exact (World.cell?_of_block (hg.block gb (by omega) (by simp))).trans h
  have cgb4 : wa.cell? ⟨gb,ob + i * 13 + 4,none⟩ = some (.slice ya1 es1.length yc1) := by
   have h := hcb 4 (by omega)
   rw [show ob + (i * 13 + 4) = ob + i * 13 + 4 by omega] at h
   exact (World.cell?_of_block (hg.block gb (by omega) (by simp))).trans h
  have cgb5 : wa.cell? ⟨gb,ob + i * 13 + 5,none⟩ = some (.slice ya2 as1.length yc2) := by
   have h := hcb 5 (by omega)
   rw [show ob + (i * 13 + 5) = ob + i * 13 + 5 by omega] at h
   exact (World.cell?_of_block (hg.block gb (by omega) (by simp))).trans h
  have cgb6 : wa.cell? ⟨gb,ob + i * 13 + 6,none⟩ = some (.slice ya3 ms1.length yc3) := by
   have h := hcb 6 (by omega)
   rw [show ob + (i * 13 + 6) = ob + i * 13 + 6 by omega] at h
   exact (World.cell?_of_block (hg.block gb (by omega) (by simp))).trans h
  have cgb7 : wa.cell? ⟨gb,ob + i * 13 + 7,none⟩ = some (.slice ya4 el1.length yc4) := by
   have h := hcb 7 (by omega)
   rw [show ob + (i * 13 + 7) = ob + i * 13 + 7 by omega] at h
   exact (World.cell?_of_block (hg.block gb (by omega) (by simp))).trans h
  have cgb8 : wa.cell? ⟨gb,ob + i * 13 + 8,none⟩ = some (.slice ya5 bo1.length yc5) := by
   have h := hcb 8 (by omega)
   rw [show ob + (i * 13 + 8) = ob + i * 13 + 8 by omega] at h
   exact (World.cell?_of_block (hg.block gb (by omega) (by simp))).trans h
  have cgb9 : wa.cell? ⟨gb,ob + i * 13 + 9,none⟩ = some (.int .i64 lo1) := by
   have h := hcb 9 (by omega)
   rw [show ob + (i * 13 + 9) = ob + i * 13 + 9 by omega] at h
   exact (World.cell?_of_block (hg.block gb (by omega) (by simp))).trans h
  have cgb10 : wa.cell? ⟨gb,ob + i * 13 + 10,none⟩ = some (.int .i64 hi1') := by
   have h := hcb 10 (by omega)
   rw [show ob + (i * 13 + 10) = ob + i * 13 + 10 by omega] at h
   exact (World.cell?_of_block (hg.block gb (by omega) (by simp))).trans h
  have cgb11 : wa.cell? ⟨gb,ob + i * 13 + 11,none⟩ = some (.int .i64 by1) := by
   have h := hcb 11 (by omega)
   rw [show ob + (i * 13 + 11) = ob + i * 13 + 11 by omega] at h
   exact (World.cell?_of_block (hg.block gb (by omega) (by simp))).trans h
  have cgb12 : wa.cell? ⟨gb,ob + i * 13 + 12,none⟩ = some (.int .i64 ti1) := by
   have h := hcb 12 (by omega)
   rw [show ob + (i * 13 + 12) = ob + i * 13 + 12 by omega] at h
   exact (World.cell?_of_block (hg.block gb (by omega) (by simp))).trans h
  have hga2 : ga < wa.heap.size := by have := hg.size; have := HG.out.size; omega
  have hgb2 : gb < wa.heap.size := by have := hg.size; omega
  have hwi : IntKind.i64.wrap ((i : Int) + 1) = i + 1 := IntWalk.i64_in _ (by omega)
  clear hg hca hcb
  go_upto_region 6 with fail
  go_cut [6,7] from 26 to 33 (fun s6 s7 wx => ∃ qa qb : Nat,s6 = .pointer (some ⟨qa,0,none⟩) ∧ s7 = .pointer (some ⟨qb,0,none⟩) ∧ Hid (wx.heap[qa]? = some (.cells #[.int .i64 v1,.int .i64 a1,.string n1,.bool i1,.slice xa1 es1.length xc1,.slice xa2 as1.length xc2,.slice xa3 ms1.length xc3,.slice xa4 el1.length xc4,.slice xa5 bo1.length xc5,.int .i64 lo1,.int .i64 hi1',.int .i64 by1,.int .i64 ti1] 94) ∧ wx.heap[qb]? = some (.cells #[.int .i64 v1,.int .i64 a1,.string n1,.bool i1,.slice ya1 es1.length yc1,.slice ya2 as1.length yc2,.slice ya3 ms1.length yc3,.slice ya4 el1.length yc4,.slice ya5 bo1.length yc5,.int .i64 lo1,.int .i64 hi1',.int .i64 by1,.int .i64 ti1] 94) ∧ wa.grownBy wx none))
  case first =>
   have hHeld0 : (fun w' : World => w'.cell? ⟨ga,oa + i * 13,none⟩ = some (.int .i64 v1) ∧ w'.cell? ⟨ga,oa + i * 13 + 1,none⟩ = some (.int .i64 a1) ∧ w'.cell? ⟨ga,oa + i * 13 + 2,none⟩ = some (.string n1) ∧ w'.cell? ⟨ga,oa + i * 13 + 3,none⟩ = some (.bool i1) ∧ w'.cell? ⟨ga,oa + i * 13 + 4,none⟩ = some (.slice xa1 es1.length xc1) ∧ w'.cell? ⟨ga,oa + i * 13 + 5,none⟩ = some (.slice xa2 as1.length xc2) ∧ w'.cell? ⟨ga,oa + i * 13 + 6,none⟩ = some (.slice xa3 ms1.length xc3) ∧ w'.cell? ⟨ga,oa + i * 13 + 7,none⟩ = some (.slice xa4 el1.length xc4) ∧ w'.cell? ⟨ga,oa + i * 13 + 8,none⟩ = some (.slice xa5 bo1.length xc5) ∧ w'.cell? ⟨ga,oa + i * 13 + 9,none⟩ = some (.int .i64 lo1) ∧ w'.cell? ⟨ga,oa + i * 13 + 10,none⟩ = some (.int .i64 hi1') ∧ w'.cell? ⟨ga,oa + i * 13 + 11,none⟩ = some (.int .i64 by1) ∧ w'.cell? ⟨ga,oa + i * 13 + 12,none⟩ = some (.int .i64 ti1) ∧ w'.cell? ⟨gb,ob + i * 13,none⟩ = some (.int .i64 v1) ∧ w'.cell? ⟨gb,ob + i * 13 + 1,none⟩ = some (.int .i64 a1) ∧ w'.cell? ⟨gb,ob + i * 13 + 2,none⟩ = some (.string n1) ∧ w'.cell? ⟨gb,ob + i * 13 + 3,none⟩ = some (.bool i1) ∧ w'.cell? ⟨gb,ob + i * 13 + 4,none⟩ = some (.slice ya1 es1.length yc1) ∧ w'.cell? ⟨gb,ob + i * 13 + 5,none⟩ = some (.slice ya2 as1.length yc2) ∧ w'.cell? ⟨gb,ob + i * 13 + 6,none⟩ = some (.slice ya3 ms1.length yc3) ∧ w'.cell? ⟨gb,ob + i * 13 + 7,none⟩ = some (.slice ya4 el1.length yc4) ∧ w'.cell? ⟨gb,ob + i * 13 + 8,none⟩ = some (.slice ya5 bo1.length yc5) ∧ w'.cell? ⟨gb,ob + i * 13 + 9,none⟩ = some (.int .i64 lo1) ∧ w'.cell? ⟨gb,ob + i * 13 + 10,none⟩ = some (.int .i64 hi1') ∧ w'.cell? ⟨gb,ob + i * 13 + 11,none⟩ = some (.int .i64 by1) ∧ w'.cell? ⟨gb,ob + i * 13 + 12,none⟩ = some (.int .i64 ti1)) wa := ⟨cga0,cga1,cga2,cga3,cga4,cga5,cga6,cga7,cga8,cga9,cga10,cga11,cga12,cgb0,cgb1,cgb2,cgb3,cgb4,cgb5,cgb6,cgb7,cgb8,cgb9,cgb10,cgb11,cgb12⟩
   have hDr : ∀ (W : World),(fun w' : World => w'.cell? ⟨ga,oa + i * 13,none⟩ = some (.int .i64 v1) ∧ w'.cell? ⟨ga,oa + i * 13 + 1,none⟩ = some (.int .i64 a1) ∧ w'.cell? ⟨ga,oa + i * 13 + 2,none⟩ = some (.string n1) ∧ w'.cell? ⟨ga,oa + i * 13 + 3,none⟩ = some (.bool i1) ∧ w'.cell? ⟨ga,oa + i * 13 + 4,none⟩ = some (.slice xa1 es1.length xc1) ∧ w'.cell? ⟨ga,oa + i * 13 + 5,none⟩ = some (.slice xa2 as1.length xc2) ∧ w'.cell? ⟨ga,oa + i * 13 + 6,none⟩ = some (.slice xa3 ms1.length xc3) ∧ w'.cell? ⟨ga,oa + i * 13 + 7,none⟩ = some (.slice xa4 el1.length xc4) ∧ w'.cell? ⟨ga,oa + i * 13 + 8,none⟩ = some (.slice xa5 bo1.length xc5) ∧ w'.cell? ⟨ga,oa + i * 13 + 9,none⟩ = some (.int .i64 lo1) ∧ w'.cell? ⟨ga,oa + i * 13 + 10,none⟩ = some (.int .i64 hi1') ∧ w'.cell? ⟨ga,oa + i * 13 + 11,none⟩ = some (.int .i64 by1) ∧ w'.cell? ⟨ga,oa + i * 13 + 12,none⟩ = some (.int .i64 ti1) ∧ w'.cell? ⟨gb,ob + i * 13,none⟩ = some (.int .i64 v1) ∧ w'.cell? ⟨gb,ob + i * 13 + 1,none⟩ = some (.int .i64 a1) ∧ w'.cell? ⟨gb,ob + i * 13 + 2,none⟩ = some (.string n1) ∧ w'.cell? ⟨gb,ob + i * 13 + 3,none⟩ = some (.bool i1) ∧ w'.cell? ⟨gb,ob + i * 13 + 4,none⟩ = some (.slice ya1 es1.length yc1) ∧ w'.cell? ⟨gb,ob + i * 13 + 5,none⟩ = some (.slice ya2 as1.length yc2) ∧ w'.cell? ⟨gb,ob + i * 13 + 6,none⟩ = some (.slice ya3 ms1.length yc3) ∧ w'.cell? ⟨gb,ob + i * 13 + 7,none⟩ = some (.slice ya4 el1.length yc4) ∧ w'.cell? ⟨gb,ob + i * 13 + 8,none⟩ = some (.slice ya5 bo1.length yc5) ∧ w'.cell? ⟨gb,ob + i * 13 + 9,none⟩ = some (.int .i64 lo1) ∧ w'.cell? ⟨gb,ob + i * 13 + 10,none⟩ = some (.int .i64 hi1') ∧ w'.cell? ⟨gb,ob + i * 13 + 11,none⟩ = some (.int .i64 by1) ∧ w'.cell? ⟨gb,ob + i * 13 + 12,none⟩ = some (.int .i64 ti1)) W → (fun w' : World => w'.cell? ⟨ga,oa + i * 13,none⟩ = some (.int .i64 v1) ∧ w'.cell? ⟨ga,oa + i * 13 + 1,none⟩ = some (.int .i64 a1) ∧ w'.cell? ⟨ga,oa + i * 13 + 2,none⟩ = some (.string n1) ∧ w'.cell? ⟨ga,oa + i * 13 + 3,none⟩ = some (.bool i1) ∧ w'.cell? ⟨ga,oa + i * 13 + 4,none⟩ = some (.slice xa1 es1.length xc1) ∧ w'.cell? ⟨ga,oa + i * 13 + 5,none⟩ = some (.slice xa2 as1.length xc2) ∧ w'.cell? ⟨ga,oa + i * 13 + 6,none⟩ = some (.slice xa3 ms1.length xc3) ∧ w'.cell? ⟨ga,oa + i * 13 + 7,none⟩ = some (.slice xa4 el1.length xc4) ∧ w'.cell? ⟨ga,oa + i * 13 + 8,none⟩ = some (.slice xa5 bo1.length xc5) ∧ w'.cell? ⟨ga,oa + i * 13 + 9,none⟩ = some (.int .i64 lo1) ∧ w'.cell? ⟨ga,oa + i * 13 + 10,none⟩ = some (.int .i64 hi1') ∧ w'.cell? ⟨ga,oa + i * 13 + 11,none⟩ = some (.int .i64 by1) ∧ w'.cell? ⟨ga,oa + i * 13 + 12,none⟩ = some (.int .i64 ti1) ∧ w'.cell? ⟨gb,ob + i * 13,none⟩ = some (.int .i64 v1) ∧ w'.cell? ⟨gb,ob + i * 13 + 1,none⟩ = some (.int .i64 a1) ∧ w'.cell? ⟨gb,ob + i * 13 + 2,none⟩ = some (.string n1) ∧ w'.cell? ⟨gb,ob + i * 13 + 3,none⟩ = some (.bool i1) ∧ w'.cell? ⟨gb,ob + i * 13 + 4,none⟩ = some (.slice ya1 es1.length yc1) ∧ w'.cell? ⟨gb,ob + i * 13 + 5,none⟩ = some (.slice ya2 as1.length yc2) ∧ w'.cell? ⟨gb,ob + i * 13 + 6,none⟩ = some (.slice ya3 ms1.length yc3) ∧ w'.cell? ⟨gb,ob + i * 13 + 7,none⟩ = some (.slice ya4 el1.length yc4) ∧ w'.cell? ⟨gb,ob + i * 13 + 8,none⟩ = some (.slice ya5 bo1.length yc5) ∧ w'.cell? ⟨gb,ob + i * 13 + 9,none⟩ = some (.int .i64 lo1) ∧ w'.cell? ⟨gb,ob + i * 13 + 10,none⟩ = some (.int .i64 hi1') ∧ w'.cell? ⟨gb,ob + i * 13 + 11,none⟩ = some (.int .i64 by1) ∧ w'.cell? ⟨gb,ob + i * 13 + 12,none⟩ = some (.int .i64 ti1)) W.drew := by
    rintro W ⟨h0,h1,h2,h3,h4,h5,h6,h7,h8,h9,h10,h11,h12,h13,h14,h15,h16,h17,h18,h19,h20,h21,h22,h23,h24,h25⟩
    exact ⟨h0,h1,h2,h3,h4,h5,h6,h7,h8,h9,h10,h11,h12,h13,h14,h15,h16,h17,h18,h19,h20,h21,h22,h23,h24,h25⟩
   have hHeld := hDr _ hHeld0
   have hOld : ∀ (W : World) (obj : Obj),(fun w' : World => w'.cell? ⟨ga,oa + i * 13,none⟩ = some (.int .i64 v1) ∧ w'.cell? ⟨ga,oa + i * 13 + 1,none⟩ = some (.int .i64 a1) ∧ w'.cell? ⟨ga,oa + i * 13 + 2,none⟩ = some (.string n1) ∧ w'.cell? ⟨ga,oa + i * 13 + 3,none⟩ = some (.bool i1) ∧ w'.cell? ⟨ga,oa + i * 13 + 4,none⟩ = some (.slice xa1 es1.length xc1) ∧ w'.cell? ⟨ga,oa + i * 13 + 5,none⟩ = some (.slice xa2 as1.length xc2) ∧ w'.cell? ⟨ga,oa + i * 13 + 6,none⟩ = some (.slice xa3 ms1.length xc3) ∧ w'.cell? ⟨ga,oa + i * 13 + 7,none⟩ = some (.slice xa4 el1.length xc4) ∧ w'.cell? ⟨ga,oa + i * 13 + 8,none⟩ = some (.slice xa5 bo1.length xc5) ∧ w'.cell? ⟨ga,oa + i * 13 + 9,none⟩ = some (.int .i64 lo1) ∧ w'.cell? ⟨ga,oa + i * 13 + 10,none⟩ = some (.int .i64 hi1') ∧ w'.cell? ⟨ga,oa + i * 13 + 11,none⟩ = some (.int .i64 by1) ∧ w'.cell? ⟨ga,oa + i * 13 + 12,none⟩ = some (.int .i64 ti1) ∧ w'.cell? ⟨gb,ob + i * 13,none⟩ = some (.int .i64 v1) ∧ w'.cell? ⟨gb,ob + i * 13 + 1,none⟩ = some (.int .i64 a1) ∧ w'.cell? ⟨gb,ob + i * 13 + 2,none⟩ = some (.string n1) ∧ w'.cell? ⟨gb,ob + i * 13 + 3,none⟩ = some (.bool i1) ∧ w'.cell? ⟨gb,ob + i * 13 + 4,none⟩ = some (.slice ya1 es1.length yc1) ∧ w'.cell? ⟨gb,ob + i * 13 + 5,none⟩ = some (.slice ya2 as1.length yc2) ∧ w'.cell? ⟨gb,ob + i * 13 + 6,none⟩ = some (.slice ya3 ms1.length yc3) ∧ w'.cell? ⟨gb,ob + i * 13 + 7,none⟩ = some (.slice ya4 el1.length yc4) ∧ w'.cell? ⟨gb,ob + i * 13 + 8,none⟩ = some (.slice ya5 bo1.length yc5) ∧ w'.cell? ⟨gb,ob + i * 13 + 9,none⟩ = some (.int .i64 lo1) ∧ w'.cell? ⟨gb,ob + i * 13 + 10,none⟩ = some (.int .i64 hi1') ∧ w'.cell? ⟨gb,ob + i * 13 + 11,none⟩ = some (.int .i64 by1) ∧ w'.cell? ⟨gb,ob + i * 13 + 12,none⟩ = some (.int .i64 ti1)) W → (fun w' : World => w'.cell? ⟨ga,oa + i * 13,none⟩ = some (.int .i64 v1) ∧ w'.cell? ⟨ga,oa + i * 13 + 1,none⟩ = some (.int .i64 a1) ∧ w'.cell? ⟨ga,oa + i * 13 + 2,none⟩ = some (.string n1) ∧ w'.cell? ⟨ga,oa + i * 13 + 3,none⟩ = some (.bool i1) ∧ w'.cell? ⟨ga,oa + i * 13 + 4,none⟩ = some (.slice xa1 es1.length xc1) ∧ w'.cell? ⟨ga,oa + i * 13 + 5,none⟩ = some (.slice xa2 as1.length xc2) ∧ w'.cell? ⟨ga,oa + i * 13 + 6,none⟩ = some (.slice xa3 ms1.length xc3) ∧ w'.cell? ⟨ga,oa + i * 13 + 7,none⟩ = some (.slice xa4 el1.length xc4) ∧ w'.cell? ⟨ga,oa + i * 13 + 8,none⟩ = some (.slice xa5 bo1.length xc5) ∧ w'.cell? ⟨ga,oa + i * 13 + 9,none⟩ = some (.int .i64 lo1) ∧ w'.cell? ⟨ga,oa + i * 13 + 10,none⟩ = some (.int .i64 hi1') ∧ w'.cell? ⟨ga,oa + i * 13 + 11,none⟩ = some (.int .i64 by1) ∧ w'.cell? ⟨ga,oa + i * 13 + 12,none⟩ = some (.int .i64 ti1) ∧ w'.cell? ⟨gb,ob + i * 13,none⟩ = some (.int .i64 v1) ∧ w'.cell? ⟨gb,ob + i * 13 + 1,none⟩ = some (.int .i64 a1) ∧ w'.cell? ⟨gb,ob + i * 13 + 2,none⟩ = some (.string n1) ∧ w'.cell? ⟨gb,ob + i * 13 + 3,none⟩ = some (.bool i1) ∧ w'.cell? ⟨gb,ob + i * 13 + 4,none⟩ = some (.slice ya1 es1.length yc1) ∧ w'.cell? ⟨gb,ob + i * 13 + 5,none⟩ = some (.slice ya2 as1.length yc2) ∧ w'.cell? ⟨gb,ob + i * 13 + 6,none⟩ = some (.slice ya3 ms1.length yc3) ∧ w'.cell? ⟨gb,ob + i * 13 + 7,none⟩ = some (.slice ya4 el1.length yc4) ∧ w'.cell? ⟨gb,ob + i * 13 + 8,none⟩ = some (.slice ya5 bo1.length yc5) ∧ w'.cell? ⟨gb,ob + i * 13 + 9,none⟩ = some (.int .i64 lo1) ∧ w'.cell? ⟨gb,ob + i * 13 + 10,none⟩ = some (.int .i64 hi1') ∧ w'.cell? ⟨gb,ob + i * 13 + 11,none⟩ = some (.int .i64 by1) ∧ w'.cell? ⟨gb,ob + i * 13 + 12,none⟩ = some (.int .i64 ti1)) (W.alloc obj) := by
    rintro W obj ⟨h0,h1,h2,h3,h4,h5,h6,h7,h8,h9,h10,h11,h12,h13,h14,h15,h16,h17,h18,h19,h20,h21,h22,h23,h24,h25⟩
    exact ⟨cell_al h0,cell_al h1,cell_al h2,cell_al h3,cell_al h4,cell_al h5,cell_al h6,cell_al h7,cell_al h8,cell_al h9,cell_al h10,cell_al h11,cell_al h12,cell_al h13,cell_al h14,cell_al h15,cell_al h16,cell_al h17,cell_al h18,cell_al h19,cell_al h20,cell_al h21,cell_al h22,cell_al h23,cell_al h24,cell_al h25⟩
   clear cga0 cga1 cga2 cga3 cga4 cga5 cga6 cga7 cga8 cga9 cga10 cga11 cga12 cgb0 cgb1 cgb2 cgb3 cgb4 cgb5 cgb6 cgb7 cgb8 cgb9 cgb10 cgb11 cgb12
   refine wp_region_L (L := 11) (S := (fun w' : World => w'.cell? ⟨ga,oa + i * 13,none⟩ = some (.int .i64 v1) ∧ w'.cell? ⟨ga,oa + i * 13 + 1,none⟩ = some (.int .i64 a1) ∧ w'.cell? ⟨ga,oa + i * 13 + 2,none⟩ = some (.string n1) ∧ w'.cell? ⟨ga,oa + i * 13 + 3,none⟩ = some (.bool i1) ∧ w'.cell? ⟨ga,oa + i * 13 + 4,none⟩ = some (.slice xa1 es1.length xc1) ∧ w'.cell? ⟨ga,oa + i * 13 + 5,none⟩ = some (.slice xa2 as1.length xc2) ∧ w'.cell? ⟨ga,oa + i * 13 + 6,none⟩ = some (.slice xa3 ms1.length xc3) ∧ w'.cell? ⟨ga,oa + i * 13 + 7,none⟩ = some (.slice xa4 el1.length xc4) ∧ w'.cell? ⟨ga,oa + i * 13 + 8,none⟩ = some (.slice xa5 bo1.length xc5) ∧ w'.cell? ⟨ga,oa + i * 13 + 9,none⟩ = some (.int .i64 lo1) ∧ w'.cell? ⟨ga,oa + i * 13 + 10,none⟩ = some (.int .i64 hi1') ∧ w'.cell? ⟨ga,oa + i * 13 + 11,none⟩ = some (.int .i64 by1) ∧ w'.cell? ⟨ga,oa + i * 13 + 12,none⟩ = some (.int .i64 ti1) ∧ w'.cell? ⟨gb,ob + i * 13,none⟩ = some (.int .i64 v1) ∧ w'.cell? ⟨gb,ob + i * 13 + 1,none⟩ = some (.int .i64 a1) ∧ w'.cell? ⟨gb,ob + i * 13 + 2,none⟩ = some (.string n1) ∧ w'.cell? ⟨gb,ob + i * 13 + 3,none⟩ = some (.bool i1) ∧ w'.cell? ⟨gb,ob + i * 13 + 4,none⟩ = some (.slice ya1 es1.length yc1) ∧ w'.cell? ⟨gb,ob + i * 13 + 5,none⟩ = some (.slice ya2 as1.length yc2) ∧ w'.cell? ⟨gb,ob + i * 13 + 6,none⟩ = some (.slice ya3 ms1.length yc3) ∧ w'.cell? ⟨gb,ob + i * 13 + 7,none⟩ = some (.slice ya4 el1.length yc4) ∧ w'.cell? ⟨gb,ob + i * 13 + 8,none⟩ = some (.slice ya5 bo1.length yc5) ∧ w'.cell? ⟨gb,ob + i * 13 + 9,none⟩ = some (.int .i64 lo1) ∧ w'.cell? ⟨gb,ob + i * 13 + 10,none⟩ = some (.int .i64 hi1') ∧ w'.cell? ⟨gb,ob + i * 13 + 11,none⟩ = some (.int .i64 by1) ∧ w'.cell? ⟨gb,ob + i * 13 + 12,none⟩ = some (.int .i64 ti1))) (by kernel_rfl) ?_
   refine wpAnyL_free (i := 0) (v := ?_) rfl (by kernel_rfl) (by kernel_rfl) (by kernel_rfl) (fun _ _ _ h => h) (by decide) (Or.inl ⟨by rfl,?_⟩) (fun _ => hHeld) ?_
   rotate_left
   · intro w hSw
     go_simp
     try with_reducible rfl
   try simp only [Act.put,List.setIfInBounds_toArray,List.set_cons_zero,List.set_cons_succ]
   refine wpAnyL_free (i := 1) (v := ?_) rfl (by kernel_rfl) (by kernel_rfl) (by kernel_rfl) (fun _ _ _ h => h) (by decide) (Or.inl ⟨by rfl,?_⟩) (fun _ => hHeld) ?_
   rotate_left
   · intro w hSw
     go_simp
     try with_reducible rfl
   try simp only [Act.put,List.setIfInBounds_toArray,List.set_cons_zero,List.set_cons_succ]
   refine wpAnyL_free (i := 2) (v := ?_) rfl (by kernel_rfl) (by kernel_rfl) (by kernel_rfl) (fun _ _ _ h => h) (by decide) (Or.inl ⟨by rfl,?_⟩) (fun _ => hHeld) ?_
   rotate_left
   · intro w hSw
     go_simp
     try with_reducible rfl
   try simp only [Act.put,List.setIfInBounds_toArray,List.set_cons_zero,List.set_cons_succ]
   refine wpAnyL_take (i := 3) (v := ?_) rfl (by kernel_rfl) (by kernel_rfl) (by kernel_rfl) (fun _ _ _ h => h) (by kernel_rfl) (by kernel_rfl) (Or.inl ⟨by rfl,?_⟩) hHeld ?_
   rotate_left
   · intro w hSw
     try dsimp only at hSw
     go_simp
     try with_reducible rfl
   try simp only [Act.put,List.setIfInBounds_toArray,List.set_cons_zero,List.set_cons_succ]
   refine wpAnyL_free (i := 4) (v := ?_) rfl (by kernel_rfl) (by kernel_rfl) (by kernel_rfl) (fun _ _ _ h => h) (by decide) (Or.inl ⟨by rfl,?_⟩) (fun _ => hHeld) ?_
   rotate_left
   · intro w hSw
     go_simp
     try with_reducible rfl
   try simp only [Act.put,List.setIfInBounds_toArray,List.set_cons_zero,List.set_cons_succ]
   refine wpAnyL_free (i := 5) (v := ?_) rfl (by kernel_rfl) (by kernel_rfl) (by kernel_rfl) (fun _ _ _ h => h) (by decide) (Or.inl ⟨by rfl,?_⟩) (fun _ => hHeld) ?_
   rotate_left
   · intro w hSw
     go_simp
     try with_reducible rfl
   try simp only [Act.put,List.setIfInBounds_toArray,List.set_cons_zero,List.set_cons_succ]
   refine wpAnyL_free (i := 6) (v := ?_) rfl (by kernel_rfl) (by kernel_rfl) (by kernel_rfl) (fun _ _ _ h => h) (by decide) (Or.inl ⟨by rfl,?_⟩) (fun _ => hHeld) ?_
   rotate_left
   · intro w hSw
     go_simp
     try with_reducible rfl
   try simp only [Act.put,List.setIfInBounds_toArray,List.set_cons_zero,List.set_cons_succ]
   refine wpAnyL_take (i := 7) (v := ?_) rfl (by kernel_rfl) (by kernel_rfl) (by kernel_rfl) (fun _ _ _ h => h) (by kernel_rfl) (by kernel_rfl) (Or.inl ⟨by rfl,?_⟩) hHeld ?_
   rotate_left
   · intro w hSw
     try dsimp only at hSw
     go_simp
     try with_reducible rfl
   try simp only [Act.put,List.setIfInBounds_toArray,List.set_cons_zero,List.set_cons_succ]
   refine wpAnyL_two (i := 8) (j := 9) (by kernel_rfl) rfl rfl (fun K hK => ?_) (fun K hK => ?_)
   · skip
     go_simp
     refine hK.out _ _ (fun _ _ => hDr _ (hOld _ _ hHeld0)) ?_
     clear hK K
     try simp only [Act.put,List.setIfInBounds_toArray,List.set_cons_zero,List.set_cons_succ]
     refine wpAnyL_one (j := 9) (by kernel_rfl) rfl (fun K hK => ?_)
     go_simp
     refine hK.out _ _ (fun _ _ => hDr _ (hOld _ _ (hOld _ _ hHeld0))) ?_
     clear hK K
     try simp only [Act.put,List.setIfInBounds_toArray,List.set_cons_zero,List.set_cons_succ]
     obtain ⟨W5,hW5⟩ : ∃ W : World,W = (wa.alloc (.cells #[.int .i64 0,.int .i64 0,.string ⟨#[]⟩,.bool false,.slice none 0 0,.slice none 0 0,.slice none 0 0,.slice none 0 0,.slice none 0 0,.int .i64 0,.int .i64 0,.int .i64 0,.int .i64 0] 94)).alloc (.cells #[.int .i64 0,.int .i64 0,.string ⟨#[]⟩,.bool false,.slice none 0 0,.slice none 0 0,.slice none 0 0,.slice none 0 0,.slice none 0 0,.int .i64 0,.int .i64 0,.int .i64 0,.int .i64 0] 94) := ⟨_,rfl⟩
     have X1 : W5.heap[wa.heap.size]? = some (.cells #[.int .i64 0,.int .i64 0,.string ⟨#[]⟩,.bool false,.slice none 0 0,.slice none 0 0,.slice none 0 0,.slice none 0 0,.slice none 0 0,.int .i64 0,.int .i64 0,.int .i64 0,.int .i64 0] 94) := by rw [hW5]; exact old (new _ _) _
     have X2 : W5.heap[wa.heap.size + 1]? = some (.cells #[.int .i64 0,.int .i64 0,.string ⟨#[]⟩,.bool false,.slice none 0 0,.slice none 0 0,.slice none 0 0,.slice none 0 0,.slice none 0 0,.int .i64 0,.int .i64 0,.int .i64 0,.int .i64 0] 94) := by rw [hW5]; exact hp_new (by simp) _
     have gW : wa.grownBy W5 none := by rw [hW5]; exact gr_alloc (gr1 _ _) _
     have hHW : (fun w' : World => w'.cell? ⟨ga,oa + i * 13,none⟩ = some (.int .i64 v1) ∧ w'.cell? ⟨ga,oa + i * 13 + 1,none⟩ = some (.int .i64 a1) ∧ w'.cell? ⟨ga,oa + i * 13 + 2,none⟩ = some (.string n1) ∧ w'.cell? ⟨ga,oa + i * 13 + 3,none⟩ = some (.bool i1) ∧ w'.cell? ⟨ga,oa + i * 13 + 4,none⟩ = some (.slice xa1 es1.length xc1) ∧ w'.cell? ⟨ga,oa + i * 13 + 5,none⟩ = some (.slice xa2 as1.length xc2) ∧ w'.cell? ⟨ga,oa + i * 13 + 6,none⟩ = some (.slice xa3 ms1.length xc3) ∧ w'.cell? ⟨ga,oa + i * 13 + 7,none⟩ = some (.slice xa4 el1.length xc4) ∧ w'.cell? ⟨ga,oa + i * 13 + 8,none⟩ = some (.slice xa5 bo1.length xc5) ∧ w'.cell? ⟨ga,oa + i * 13 + 9,none⟩ = some (.int .i64 lo1) ∧ w'.cell? ⟨ga,oa + i * 13 + 10,none⟩ = some (.int .i64 hi1') ∧ w'.cell? ⟨ga,oa + i * 13 + 11,none⟩ = some (.int .i64 by1) ∧ w'.cell? ⟨ga,oa + i * 13 + 12,none⟩ = some (.int .i64 ti1) ∧ w'.cell? ⟨gb,ob + i * 13,none⟩ = some (.int .i64 v1) ∧ w'.cell? ⟨gb,ob + i * 13 + 1,none⟩ = some (.int .i64 a1) ∧ w'.cell? ⟨gb,ob + i * 13 + 2,none⟩ = some (.string n1) ∧ w'.cell? ⟨gb,ob + i * 13 + 3,none⟩ = some (.bool i1) ∧ w'.cell? ⟨gb,ob + i * 13 + 4,none⟩ = some (.slice ya1 es1.length yc1) ∧ w'.cell? ⟨gb,ob + i * 13 + 5,none⟩ = some (.slice ya2 as1.length yc2) ∧ w'.cell? ⟨gb,ob + i * 13 + 6,none⟩ = some (.slice ya3 ms1.length yc3) ∧ w'.cell? ⟨gb,ob + i * 13 + 7,none⟩ = some (.slice ya4 el1.length yc4) ∧ w'.cell? ⟨gb,ob + i * 13 + 8,none⟩ = some (.slice ya5 bo1.length yc5) ∧ w'.cell? ⟨gb,ob + i * 13 + 9,none⟩ = some (.int .i64 lo1) ∧ w'.cell? ⟨gb,ob + i * 13 + 10,none⟩ = some (.int .i64 hi1') ∧ w'.cell? ⟨gb,ob + i * 13 + 11,none⟩ = some (.int .i64 by1) ∧ w'.cell? ⟨gb,ob + i * 13 + 12,none⟩ = some (.int .i64 ti1)) W5 := by rw [hW5]; exact hOld _ _ (hOld _ _ hHeld0)
     change wpAnyL _ _ _ _ _ _ _ _ _ ((wa.alloc (.cells #[.int .i64 0,.int .i64 0,.string ⟨#[]⟩,.bool false,.slice none 0 0,.slice none 0 0,.slice none 0 0,.slice none 0 0,.slice none 0 0,.int .i64 0,.int .i64 0,.int .i64 0,.int .i64 0] 94)).alloc (.cells #[.int .i64 0,.int .i64 0,.string ⟨#[]⟩,.bool false,.slice none 0 0,.slice none 0 0,.slice none 0 0,.slice none 0 0,.slice none 0 0,.int .i64 0,.int .i64 0,.int .i64 0,.int .i64 0] 94)).drew
     rw [← hW5]
     clear hW5 hHeld hHeld0
     obtain ⟨xp,xq,xr,xf,xg,xh⟩ := facts X1
     obtain ⟨yp,yq,yr,yf,yg,yh⟩ := facts X2
     have nq : wa.heap.size ≠ wa.heap.size + 1 := by omega
     have nq2 : wa.heap.size + 1 ≠ wa.heap.size := by omega
     have gC : W5.grownBy (((((((((((((W5.setCell ⟨wa.heap.size,0,none⟩ (.int .i64 v1)).setCell ⟨wa.heap.size,1,none⟩ (.int .i64 a1)).setCell ⟨wa.heap.size,2,none⟩ (.string n1)).setCell ⟨wa.heap.size,3,none⟩ (.bool i1)).setCell ⟨wa.heap.size,4,none⟩ (.slice xa1 es1.length xc1)).setCell ⟨wa.heap.size,5,none⟩ (.slice xa2 as1.length xc2)).setCell ⟨wa.heap.size,6,none⟩ (.slice xa3 ms1.length xc3)).setCell ⟨wa.heap.size,7,none⟩ (.slice xa4 el1.length xc4)).setCell ⟨wa.heap.size,8,none⟩ (.slice xa5 bo1.length xc5)).setCell ⟨wa.heap.size,9,none⟩ (.int .i64 lo1)).setCell ⟨wa.heap.size,10,none⟩ (.int .i64 hi1')).setCell ⟨wa.heap.size,11,none⟩ (.int .i64 by1)).setCell ⟨wa.heap.size,12,none⟩ (.int .i64 ti1)) (some (wa.heap.size)) := gr13 (World.grownBy.refl W5 _)
     have nga : ga ≠ wa.heap.size := by omega
     have ngb : gb ≠ wa.heap.size := by omega
     have hHW6 : (fun w' : World => w'.cell? ⟨ga,oa + i * 13,none⟩ = some (.int .i64 v1) ∧ w'.cell? ⟨ga,oa + i * 13 + 1,none⟩ = some (.int .i64 a1) ∧ w'.cell? ⟨ga,oa + i * 13 + 2,none⟩ = some (.string n1) ∧ w'.cell? ⟨ga,oa + i * 13 + 3,none⟩ = some (.bool i1) ∧ w'.cell? ⟨ga,oa + i * 13 + 4,none⟩ = some (.slice xa1 es1.length xc1) ∧ w'.cell? ⟨ga,oa + i * 13 + 5,none⟩ = some (.slice xa2 as1.length xc2) ∧ w'.cell? ⟨ga,oa + i * 13 + 6,none⟩ = some (.slice xa3 ms1.length xc3) ∧ w'.cell? ⟨ga,oa + i * 13 + 7,none⟩ = some (.slice xa4 el1.length xc4) ∧ w'.cell? ⟨ga,oa + i * 13 + 8,none⟩ = some (.slice xa5 bo1.length xc5) ∧ w'.cell? ⟨ga,oa + i * 13 + 9,none⟩ = some (.int .i64 lo1) ∧ w'.cell? ⟨ga,oa + i * 13 + 10,none⟩ = some (.int .i64 hi1') ∧ w'.cell? ⟨ga,oa + i * 13 + 11,none⟩ = some (.int .i64 by1) ∧ w'.cell? ⟨ga,oa + i * 13 + 12,none⟩ = some (.int .i64 ti1) ∧ w'.cell? ⟨gb,ob + i * 13,none⟩ = some (.int .i64 v1) ∧ w'.cell? ⟨gb,ob + i * 13 + 1,none⟩ = some (.int .i64 a1) ∧ w'.cell? ⟨gb,ob + i * 13 + 2,none⟩ = some (.string n1) ∧ w'.cell? ⟨gb,ob + i * 13 + 3,none⟩ = some (.bool i1) ∧ w'.cell? ⟨gb,ob + i * 13 + 4,none⟩ = some (.slice ya1 es1.length yc1) ∧ w'.cell? ⟨gb,ob + i * 13 + 5,none⟩ = some (.slice ya2 as1.length yc2) ∧ w'.cell? ⟨gb,ob + i * 13 + 6,none⟩ = some (.slice ya3 ms1.length yc3) ∧ w'.cell? ⟨gb,ob + i * 13 + 7,none⟩ = some (.slice ya4 el1.length yc4) ∧ w'.cell? ⟨gb,ob + i * 13 + 8,none⟩ = some (.slice ya5 bo1.length yc5) ∧ w'.cell? ⟨gb,ob + i * 13 + 9,none⟩ = some (.int .i64 lo1) ∧ w'.cell? ⟨gb,ob + i * 13 + 10,none⟩ = some (.int .i64 hi1') ∧ w'.cell? ⟨gb,ob + i * 13 + 11,none⟩ = some (.int .i64 by1) ∧ w'.cell? ⟨gb,ob + i * 13 + 12,none⟩ = some (.int .i64 ti1)) (((((((((((((W5.setCell ⟨wa.heap.size,0,none⟩ (.int .i64 v1)).setCell ⟨wa.heap.size,1,none⟩ (.int .i64 a1)).setCell ⟨wa.heap.size,2,none⟩ (.string n1)).setCell ⟨wa.heap.size,3,none⟩ (.bool i1)).setCell ⟨wa.heap.size,4,none⟩ (.slice xa1 es1.length xc1)).setCell ⟨wa.heap.size,5,none⟩ (.slice xa2 as1.length xc2)).setCell ⟨wa.heap.size,6,none⟩ (.slice xa3 ms1.length xc3)).setCell ⟨wa.heap.size,7,none⟩ (.slice xa4 el1.length xc4)).setCell ⟨wa.heap.size,8,none⟩ (.slice xa5 bo1.length xc5)).setCell ⟨wa.heap.size,9,none⟩ (.int .i64 lo1)).setCell ⟨wa.heap.size,10,none⟩ (.int .i64 hi1')).setCell ⟨wa.heap.size,11,none⟩ (.int .i64 by1)).setCell ⟨wa.heap.size,12,none⟩ (.int .i64 ti1)).drew := by
      obtain ⟨h0,h1,h2,h3,h4,h5,h6,h7,h8,h9,h10,h11,h12,h13,h14,h15,h16,h17,h18,h19,h20,h21,h22,h23,h24,h25⟩ := hHW
      exact hDr _ ⟨cell_kp h0 gC nga,cell_kp h1 gC nga,cell_kp h2 gC nga,cell_kp h3 gC nga,cell_kp h4 gC nga,cell_kp h5 gC nga,cell_kp h6 gC nga,cell_kp h7 gC nga,cell_kp h8 gC nga,cell_kp h9 gC nga,cell_kp h10 gC nga,cell_kp h11 gC nga,cell_kp h12 gC nga,cell_kp h13 gC ngb,cell_kp h14 gC ngb,cell_kp h15 gC ngb,cell_kp h16 gC ngb,cell_kp h17 gC ngb,cell_kp h18 gC ngb,cell_kp h19 gC ngb,cell_kp h20 gC ngb,cell_kp h21 gC ngb,cell_kp h22 gC ngb,cell_kp h23 gC ngb,cell_kp h24 gC ngb,cell_kp h25 gC ngb⟩
     refine wpAnyL_one (j := 10) (by kernel_rfl) rfl (fun K hK => ?_)
     go_simp
     refine hK.out _ _ (fun _ _ => hHW6) ?_
     clear hK K
     try simp only [Act.put,List.setIfInBounds_toArray,List.set_cons_zero,List.set_cons_succ]
     refine wpAnyL_one (j := 11) (by kernel_rfl) rfl (fun K hK => ?_)
     go_simp
     refine hK.out _ _ (fun h => absurd rfl h) ?_
     clear hK K
     try simp only [Act.put,List.setIfInBounds_toArray,List.set_cons_zero,List.set_cons_succ]
     refine wpAnyL_done (by kernel_rfl) ?_ _
     go_wp2_with fail
     go_meet
     exact ⟨wa.heap.size,wa.heap.size + 1,rfl,rfl,hidI ⟨by rw [drew_heap]; exact keptBut (gr13 (World.grownBy.refl _ _)) (box13 X1) (by omega),by rw [drew_heap]; exact box13 (keptBut (gr13 (World.grownBy.refl _ _)) X2 (by omega)),gr_drew (gr13n (gr13n gW (by omega)) (by omega))⟩⟩
   · skip
     go_simp
     refine hK.out _ _ (fun _ _ => hDr _ (hOld _ _ hHeld0)) ?_
     clear hK K
     try simp only [Act.put,List.setIfInBounds_toArray,List.set_cons_zero,List.set_cons_succ]
     refine wpAnyL_one (j := 8) (by kernel_rfl) rfl (fun K hK => ?_)
     go_simp
     refine hK.out _ _ (fun _ _ => hDr _ (hOld _ _ (hOld _ _ hHeld0))) ?_
     clear hK K
     try simp only [Act.put,List.setIfInBounds_toArray,List.set_cons_zero,List.set_cons_succ]
     obtain ⟨W5,hW5⟩ : ∃ W : World,W = (wa.alloc (.cells #[.int .i64 0,.int .i64 0,.string ⟨#[]⟩,.bool false,.slice none 0 0,.slice none 0 0,.slice none 0 0,.slice none 0 0,.slice none 0 0,.int .i64 0,.int .i64 0,.int .i64 0,.int .i64 0] 94)).alloc (.cells #[.int .i64 0,.int .i64 0,.string ⟨#[]⟩,.bool false,.slice none 0 0,.slice none 0 0,.slice none 0 0,.slice none 0 0,.slice none 0 0,.int .i64 0,.int .i64 0,.int .i64 0,.int .i64 0] 94) := ⟨_,rfl⟩
     have X1 : W5.heap[wa.heap.size]? = some (.cells #[.int .i64 0,.int .i64 0,.string ⟨#[]⟩,.bool false,.slice none 0 0,.slice none 0 0,.slice none 0 0,.slice none 0 0,.slice none 0 0,.int .i64 0,.int .i64 0,.int .i64 0,.int .i64 0] 94) := by rw [hW5]; exact old (new _ _) _
     have X2 : W5.heap[wa.heap.size + 1]? = some (.cells #[.int .i64 0,.int .i64 0,.string ⟨#[]⟩,.bool false,.slice none 0 0,.slice none 0 0,.slice none 0 0,.slice none 0 0,.slice none 0 0,.int .i64 0,.int .i64 0,.int .i64 0,.int .i64 0] 94) := by rw [hW5]; exact hp_new (by simp) _
     have gW : wa.grownBy W5 none := by rw [hW5]; exact gr_alloc (gr1 _ _) _
     have hHW : (fun w' : World => w'.cell? ⟨ga,oa + i * 13,none⟩ = some (.int .i64 v1) ∧ w'.cell? ⟨ga,oa + i * 13 + 1,none⟩ = some (.int .i64 a1) ∧ w'.cell? ⟨ga,oa + i * 13 + 2,none⟩ = some (.string n1) ∧ w'.cell? ⟨ga,oa + i * 13 + 3,none⟩ = some (.bool i1) ∧ w'.cell? ⟨ga,oa + i * 13 + 4,none⟩ = some (.slice xa1 es1.length xc1) ∧ w'.cell? ⟨ga,oa + i * 13 + 5,none⟩ = some (.slice xa2 as1.length xc2) ∧ w'.cell? ⟨ga,oa + i * 13 + 6,none⟩ = some (.slice xa3 ms1.length xc3) ∧ w'.cell? ⟨ga,oa + i * 13 + 7,none⟩ = some (.slice xa4 el1.length xc4) ∧ w'.cell? ⟨ga,oa + i * 13 + 8,none⟩ = some (.slice xa5 bo1.length xc5) ∧ w'.cell? ⟨ga,oa + i * 13 + 9,none⟩ = some (.int .i64 lo1) ∧ w'.cell? ⟨ga,oa + i * 13 + 10,none⟩ = some (.int .i64 hi1') ∧ w'.cell? ⟨ga,oa + i * 13 + 11,none⟩ = some (.int .i64 by1) ∧ w'.cell? ⟨ga,oa + i * 13 + 12,none⟩ = some (.int .i64 ti1) ∧ w'.cell? ⟨gb,ob + i * 13,none⟩ = some (.int .i64 v1) ∧ w'.cell? ⟨gb,ob + i * 13 + 1,none⟩ = some (.int .i64 a1) ∧ w'.cell? ⟨gb,ob + i * 13 + 2,none⟩ = some (.string n1) ∧ w'.cell? ⟨gb,ob + i * 13 + 3,none⟩ = some (.bool i1) ∧ w'.cell? ⟨gb,ob + i * 13 + 4,none⟩ = some (.slice ya1 es1.length yc1) ∧ w'.cell? ⟨gb,ob + i * 13 + 5,none⟩ = some (.slice ya2 as1.length yc2) ∧ w'.cell? ⟨gb,ob + i * 13 + 6,none⟩ = some (.slice ya3 ms1.length yc3) ∧ w'.cell? ⟨gb,ob + i * 13 + 7,none⟩ = some (.slice ya4 el1.length yc4) ∧ w'.cell? ⟨gb,ob + i * 13 + 8,none⟩ = some (.slice ya5 bo1.length yc5) ∧ w'.cell? ⟨gb,ob + i * 13 + 9,none⟩ = some (.int .i64 lo1) ∧ w'.cell? ⟨gb,ob + i * 13 + 10,none⟩ = some (.int .i64 hi1') ∧ w'.cell? ⟨gb,ob + i * 13 + 11,none⟩ = some (.int .i64 by1) ∧ w'.cell? ⟨gb,ob + i * 13 + 12,none⟩ = some (.int .i64 ti1)) W5 := by rw [hW5]; exact hOld _ _ (hOld _ _ hHeld0)
     change wpAnyL _ _ _ _ _ _ _ _ _ ((wa.alloc (.cells #[.int .i64 0,.int .i64 0,.string ⟨#[]⟩,.bool false,.slice none 0 0,.slice none 0 0,.slice none 0 0,.slice none 0 0,.slice none 0 0,.int .i64 0,.int .i64 0,.int .i64 0,.int .i64 0] 94)).alloc (.cells #[.int .i64 0,.int .i64 0,.string ⟨#[]⟩,.bool false,.slice none 0 0,.slice none 0 0,.slice none 0 0,.slice none 0 0,.slice none 0 0,.int .i64 0,.int .i64 0,.int .i64 0,.int .i64 0] 94)).drew
     rw [← hW5]
     clear hW5 hHeld hHeld0
     obtain ⟨xp,xq,xr,xf,xg,xh⟩ := facts X1
     obtain ⟨yp,yq,yr,yf,yg,yh⟩ := facts X2
     have nq : wa.heap.size + 1 ≠ wa.heap.size := by omega
     have nq2 : wa.heap.size ≠ wa.heap.size + 1 := by omega
     have gC : W5.grownBy (((((((((((((W5.setCell ⟨wa.heap.size + 1,0,none⟩ (.int .i64 v1)).setCell ⟨wa.heap.size + 1,1,none⟩ (.int .i64 a1)).setCell ⟨wa.heap.size + 1,2,none⟩ (.string n1)).setCell ⟨wa.heap.size + 1,3,none⟩ (.bool i1)).setCell ⟨wa.heap.size + 1,4,none⟩ (.slice xa1 es1.length xc1)).setCell ⟨wa.heap.size + 1,5,none⟩ (.slice xa2 as1.length xc2)).setCell ⟨wa.heap.size + 1,6,none⟩ (.slice xa3 ms1.length xc3)).setCell ⟨wa.heap.size + 1,7,none⟩ (.slice xa4 el1.length xc4)).setCell ⟨wa.heap.size + 1,8,none⟩ (.slice xa5 bo1.length xc5)).setCell ⟨wa.heap.size + 1,9,none⟩ (.int .i64 lo1)).setCell ⟨wa.heap.size + 1,10,none⟩ (.int .i64 hi1')).setCell ⟨wa.heap.size + 1,11,none⟩ (.int .i64 by1)).setCell ⟨wa.heap.size + 1,12,none⟩ (.int .i64 ti1)) (some (wa.heap.size + 1)) := gr13 (World.grownBy.refl W5 _)
     have nga : ga ≠ wa.heap.size + 1 := by omega
     have ngb : gb ≠ wa.heap.size + 1 := by omega
     have hHW6 : (fun w' : World => w'.cell? ⟨ga,oa + i * 13,none⟩ = some (.int .i64 v1) ∧ w'.cell? ⟨ga,oa + i * 13 + 1,none⟩ = some (.int .i64 a1) ∧ w'.cell? ⟨ga,oa + i * 13 + 2,none⟩ = some (.string n1) ∧ w'.cell? ⟨ga,oa + i * 13 + 3,none⟩ = some (.bool i1) ∧ w'.cell? ⟨ga,oa + i * 13 + 4,none⟩ = some (.slice xa1 es1.length xc1) ∧ w'.cell? ⟨ga,oa + i * 13 + 5,none⟩ = some (.slice xa2 as1.length xc2) ∧ w'.cell? ⟨ga,oa + i * 13 + 6,none⟩ = some (.slice xa3 ms1.length xc3) ∧ w'.cell? ⟨ga,oa + i * 13 + 7,none⟩ = some (.slice xa4 el1.length xc4) ∧ w'.cell? ⟨ga,oa + i * 13 + 8,none⟩ = some (.slice xa5 bo1.length xc5) ∧ w'.cell? ⟨ga,oa + i * 13 + 9,none⟩ = some (.int .i64 lo1) ∧ w'.cell? ⟨ga,oa + i * 13 + 10,none⟩ = some (.int .i64 hi1') ∧ w'.cell? ⟨ga,oa + i * 13 + 11,none⟩ = some (.int .i64 by1) ∧ w'.cell? ⟨ga,oa + i * 13 + 12,none⟩ = some (.int .i64 ti1) ∧ w'.cell? ⟨gb,ob + i * 13,none⟩ = some (.int .i64 v1) ∧ w'.cell? ⟨gb,ob + i * 13 + 1,none⟩ = some (.int .i64 a1) ∧ w'.cell? ⟨gb,ob + i * 13 + 2,none⟩ = some (.string n1) ∧ w'.cell? ⟨gb,ob + i * 13 + 3,none⟩ = some (.bool i1) ∧ w'.cell? ⟨gb,ob + i * 13 + 4,none⟩ = some (.slice ya1 es1.length yc1) ∧ w'.cell? ⟨gb,ob + i * 13 + 5,none⟩ = some (.slice ya2 as1.length yc2) ∧ w'.cell? ⟨gb,ob + i * 13 + 6,none⟩ = some (.slice ya3 ms1.length yc3) ∧ w'.cell? ⟨gb,ob + i * 13 + 7,none⟩ = some (.slice ya4 el1.length yc4) ∧ w'.cell? ⟨gb,ob + i * 13 + 8,none⟩ = some (.slice ya5 bo1.length yc5) ∧ w'.cell? ⟨gb,ob + i * 13 + 9,none⟩ = some (.int .i64 lo1) ∧ w'.cell? ⟨gb,ob + i * 13 + 10,none⟩ = some (.int .i64 hi1') ∧ w'.cell? ⟨gb,ob + i * 13 + 11,none⟩ = some (.int .i64 by1) ∧ w'.cell? ⟨gb,ob + i * 13 + 12,none⟩ = some (.int .i64 ti1)) (((((((((((((W5.setCell ⟨wa.heap.size + 1,0,none⟩ (.int .i64 v1)).setCell ⟨wa.heap.size + 1,1,none⟩ (.int .i64 a1)).setCell ⟨wa.heap.size + 1,2,none⟩ (.string n1)).setCell ⟨wa.heap.size + 1,3,none⟩ (.bool i1)).setCell ⟨wa.heap.size + 1,4,none⟩ (.slice xa1 es1.length xc1)).setCell ⟨wa.heap.size + 1,5,none⟩ (.slice xa2 as1.length xc2)).setCell ⟨wa.heap.size + 1,6,none⟩ (.slice xa3 ms1.length xc3)).setCell ⟨wa.heap.size + 1,7,none⟩ (.slice xa4 el1.length xc4)).setCell ⟨wa.heap.size + 1,8,none⟩ (.slice xa5 bo1.length xc5)).setCell ⟨wa.heap.size + 1,9,none⟩ (.int .i64 lo1)).setCell ⟨wa.heap.size + 1,10,none⟩ (.int .i64 hi1')).setCell ⟨wa.heap.size + 1,11,none⟩ (.int .i64 by1)).setCell ⟨wa.heap.size + 1,12,none⟩ (.int .i64 ti1)).drew := by
      obtain ⟨h0,h1,h2,h3,h4,h5,h6,h7,h8,h9,h10,h11,h12,h13,h14,h15,h16,h17,h18,h19,h20,h21,h22,h23,h24,h25⟩ := hHW
      exact hDr _ ⟨cell_kp h0 gC nga,cell_kp h1 gC nga,cell_kp h2 gC nga,cell_kp h3 gC nga,cell_kp h4 gC nga,cell_kp h5 gC nga,cell_kp h6 gC nga,cell_kp h7 gC nga,cell_kp h8 gC nga,cell_kp h9 gC nga,cell_kp h10 gC nga,cell_kp h11 gC nga,cell_kp h12 gC nga,cell_kp h13 gC ngb,cell_kp h14 gC ngb,cell_kp h15 gC ngb,cell_kp h16 gC ngb,cell_kp h17 gC ngb,cell_kp h18 gC ngb,cell_kp h19 gC ngb,cell_kp h20 gC ngb,cell_kp h21 gC ngb,cell_kp h22 gC ngb,cell_kp h23 gC ngb,cell_kp h24 gC ngb,cell_kp h25 gC ngb⟩
     refine wpAnyL_one (j := 10) (by kernel_rfl) rfl (fun K hK => ?_)
     go_simp
     refine hK.out _ _ (fun _ _ => hHW6) ?_
     clear hK K
     try simp only [Act.put,List.setIfInBounds_toArray,List.set_cons_zero,List.set_cons_succ]
     refine wpAnyL_one (j := 11) (by kernel_rfl) rfl (fun K hK => ?_)
     go_simp
     refine hK.out _ _ (fun h => absurd rfl h) ?_
     clear hK K
     try simp only [Act.put,List.setIfInBounds_toArray,List.set_cons_zero,List.set_cons_succ]
     refine wpAnyL_done (by kernel_rfl) ?_ _
     go_wp2_with fail
     go_meet
     exact ⟨wa.heap.size + 1,wa.heap.size,rfl,rfl,hidI ⟨by rw [drew_heap]; exact keptBut (gr13 (World.grownBy.refl _ _)) (box13 X2) (by omega),by rw [drew_heap]; exact box13 (keptBut (gr13 (World.grownBy.refl _ _)) X1 (by omega)),gr_drew (gr13n (gr13n gW (by omega)) (by omega))⟩⟩
  case rest =>
  rename World => wb
  obtain ⟨qa,qb,rfl,rfl,HCU⟩ := hcut
  obtain ⟨hqa,hqb,hgc⟩ := HCU.out
  clear HCU cga0 cga1 cga2 cga3 cga4 cga5 cga6 cga7 cga8 cga9 cga10 cga11 cga12 cgb0 cgb1 cgb2 cgb3 cgb4 cgb5 cgb6 cgb7 cgb8 cgb9 cgb10 cgb11 cgb12
  have G0 := hidI (gtn HGR.out hgc)
  have A0 := hidI hqa
  have B0 := hidI hqb
  clear hgc hqa hqb
  obtain ⟨xp,xq,xr,xf,xg,xh⟩ := facts A0.out
  obtain ⟨yp,yq,yr,yf,yg,yh⟩ := facts B0.out
  go_wp2_with fail
  refine (cEs.out _ G0.out).mono ?_
  rintro e w1 ⟨rfl,g0⟩
  have G1 := hidI (gtn G0.out g0)
  have A1 := hidI (kept g0 A0.out)
  have B1 := hidI (kept g0 B0.out)
  clear g0
  clear xp xq xr xf xg xh yp yq yr yf yg yh
  obtain ⟨xp,xq,xr,xf,xg,xh⟩ := facts A1.out
  obtain ⟨yp,yq,yr,yf,yg,yh⟩ := facts B1.out
  go_wp2_with fail
  refine (cEl.out _ G1.out).mono ?_
  rintro e w2 ⟨rfl,g0⟩
  have G2 := hidI (gtn G1.out g0)
  have A2 := hidI (kept g0 A1.out)
  have B2 := hidI (kept g0 B1.out)
  clear g0
  clear xp xq xr xf xg xh yp yq yr yf yg yh
  obtain ⟨xp,xq,xr,xf,xg,xh⟩ := facts A2.out
  obtain ⟨yp,yq,yr,yf,yg,yh⟩ := facts B2.out
  go_wp2_with fail
  refine (cBo.out _ G2.out).mono ?_
  rintro e w3 ⟨rfl,g0⟩
  have G3 := hidI (gtn G2.out g0)
  have A3 := hidI (kept g0 A2.out)
  have B3 := hidI (kept g0 B2.out)
  clear g0
  clear xp xq xr xf xg xh yp yq yr yf yg yh
  obtain ⟨xp,xq,xr,xf,xg,xh⟩ := facts A3.out
  obtain ⟨yp,yq,yr,yf,yg,yh⟩ := facts B3.out
  have LS2 : Hid (EsL w3 as1.length (as1.length + 1) (.int .i64 0) w3) := ⟨0,rfl,⟨Nat.zero_le _,rfl⟩,World.grownBy.refl _ _⟩
  go_wp2_with fail
  go_loopg [8] (as1.length + 1) (fun gk s8 wx => EsL w3 as1.length gk s8 wx)
  case atStart => exact LS2.out
  case round =>
   clear xp xq xr xf xg xh yp yq yr yf yg yh
   rename World => wc
   obtain ⟨j,rfl,⟨hj1,hgj⟩,hg⟩ := hrel
   have G4 := hidI (gtn G3.out hg)
   have A4 := hidI (kept hg A3.out)
   have B4 := hidI (kept hg B3.out)
   have HGA := hidI hg
   by_cases hj : j < as1.length
   · have hlt2 : ((j : Int) < (as1.length : Int)) := by omega
     obtain ⟨ra,pa,c6,ka,ea,hn6,hra,hka,hca⟩ := HA2.out.pick aC_len (by omega) j hj
     obtain ⟨rb,pb,c7,kb,eb,_,hrb,hkb,hcb⟩ := HB2.out.pick aC_len (by omega) j hj
     injection ea with ea1 ea2 ea3
     injection eb with eb1 eb2 eb3
     subst ea1 eb1 ea3 eb3
     have hka' : Xs W ok ka as1[j].e.kids := hka
     have hkb' : Xs W' okb kb as1[j].e.kids := hkb
     clear hka hkb
     obtain ⟨ka1,ka2,rfl⟩ := hka'.sl
     obtain ⟨kb1,kb2,rfl⟩ := hkb'.sl
     generalize hE2 : as1[j] = E2 at hca hcb hka' hkb'
     obtain ⟨an,ao,at1,⟨f1,o1,kd1,m1,nm1,pt1,b1,ks1⟩,aa1⟩ := E2
     simp only [PE.kids] at hca hcb hka' hkb'
     have cK : Hid (∀ U,W'.grownBy U none → Calls Tryz.prog 36 #[.agg #[.int .i64 f1,.int .i64 o1,.int .i64 kd1,.int .i64 m1,.string nm1,.string pt1,.int .i64 b1,.slice ka1 ks1.length ka2],.agg #[.int .i64 f1,.int .i64 o1,.int .i64 kd1,.int .i64 m1,.string nm1,.string pt1,.int .i64 b1,.slice kb1 ks1.length kb2]] U (yesG U)) := fun U hU => same_e U f1 o1 kd1 m1 nm1 pt1 b1 ka1 kb1 _ _ ka2 kb2 (fun U2 hU2 => same_es hka' U2 (gtn (gtn HG.out hU) hU2) _ _ (hkb'.gw (gtn hU hU2)))
     clear hka' hkb'
     have hgW := gtn G3.out hg
     have hgV := gtn HG.out hgW
     have cra0 : wc.cell? ⟨ra,pa + j * 12,none⟩ = some (.string an) := by
      have h := hca 0 (by omega)
      rw [show pa + (j * 12 + 0) = pa + j * 12 by omega] at h
      exact (World.cell?_of_block (hgV.block ra (by omega) (by simp))).trans h
     have cra1 : wc.cell? ⟨ra,pa + j * 12 + 1,none⟩ = some (.bool ao) := by
      have h := hca 1 (by omega)
      rw [show pa + (j * 12 + 1) = pa + j * 12 + 1 by omega] at h
      exact (World.cell?_of_block (hgV.block ra (by omega) (by simp))).trans h
     have cra2 : wc.cell? ⟨ra,pa + j * 12 + 2,none⟩ = some (.string at1) := by
      have h := hca 2 (by omega)
      rw [show pa + (j * 12 + 2) = pa + j * 12 + 2 by omega] at h
      exact (World.cell?_of_block (hgV.block ra (by omega) (by simp))).trans h
     have cra3 : wc.cell? ⟨ra,pa + j * 12 + 3,none⟩ = some (.int .i64 f1) := by
      have h := hca 3 (by omega)
      rw [show pa + (j * 12 + 3) = pa + j * 12 + 3 by omega] at h
      exact (World.cell?_of_block (hgV.block ra (by omega) (by simp))).trans h
     have cra4 : wc.cell? ⟨ra,pa + j * 12 + 4,none⟩ = some (.int .i64 o1) := by
      have h := hca 4 (by omega)
      rw [show pa + (j * 12 + 4) = pa + j * 12 + 4 by omega] at h
      exact (World.cell?_of_block (hgV.block ra (by omega) (by simp))).trans h
     have cra5 : wc.cell? ⟨ra,pa + j * 12 + 5,none⟩ = some (.int .i64 kd1) := by
      have h := hca 5 (by omega)
      rw [show pa + (j * 12 + 5) = pa + j * 12 + 5 by omega] at h
      exact (World.cell?_of_block (hgV.block ra (by omega) (by simp))).trans h
     have cra6 : wc.cell? ⟨ra,pa + j * 12 + 6,none⟩ = some (.int .i64 m1) := by
      have h := hca 6 (by omega)
      rw [show pa + (j * 12 + 6) = pa + j * 12 + 6 by omega] at h
      exact (World.cell?_of_block (hgV.block ra (by omega) (by simp))).trans h
     have cra7 : wc.cell? ⟨ra,pa + j * 12 + 7,none⟩ = some (.string nm1) := by
      have h := hca 7 (by omega)
      rw [show pa + (j * 12 + 7) = pa + j * 12 + 7 by omega] at h
      exact (World.cell?_of_block (hgV.block ra (by omega) (by simp))).trans h
     have cra8 : wc.cell? ⟨ra,pa + j * 12 + 8,none⟩ = some (.string pt1) := by
      have h := hca 8 (by omega)
      rw [show pa + (j * 12 + 8) = pa + j * 12 + 8 by omega] at h
      exact (World.cell?_of_block (hgV.block ra (by omega) (by simp))).trans h
     have cra9 : wc.cell? ⟨ra,pa + j * 12 + 9,none⟩ = some (.int .i64 b1) := by
      have h := hca 9 (by omega)
      rw [show pa + (j * 12 + 9) = pa + j * 12 + 9 by omega] at h
      exact (World.cell?_of_block (hgV.block ra (by omega) (by simp))).trans h
     have cra10 : wc.cell? ⟨ra,pa + j * 12 + 10,none⟩ = some (.slice ka1 ks1.length ka2) := by
      have h := hca 10 (by omega)
      rw [show pa + (j * 12 + 10) = pa + j * 12 + 10 by omega] at h
      exact (World.cell?_of_block (hgV.block ra (by omega) (by simp))).trans h
     have cra11 : wc.cell? ⟨ra,pa + j * 12 + 11,none⟩ = some (.int .i64 aa1) := by
      have h := hca 11 (by omega)
      rw [show pa + (j * 12 + 11) = pa + j * 12 + 11 by omega] at h
      exact (World.cell?_of_block (hgV.block ra (by omega) (by simp))).trans h
     have crb0 : wc.cell? ⟨rb,pb + j * 12,none⟩ = some (.string an) := by
      have h := hcb 0 (by omega)
      rw [show pb + (j * 12 + 0) = pb + j * 12 by omega] at h
      exact (World.cell?_of_block (hgW.block rb (by omega) (by simp))).trans h
     have crb1 : wc.cell? ⟨rb,pb + j * 12 + 1,none⟩ = some (.bool ao) := by
      have h := hcb 1 (by omega)
      rw [show pb + (j * 12 + 1) = pb + j * 12 + 1 by omega] at h
      exact (World.cell?_of_block (hgW.block rb (by omega) (by simp))).trans h
     have crb2 : wc.cell? ⟨rb,pb + j * 12 + 2,none⟩ = some (.string at1) := by
      have h := hcb 2 (by omega)
      rw [show pb + (j * 12 + 2) = pb + j * 12 + 2 by omega] at h
      exact (World.cell?_of_block (hgW.block rb (by omega) (by simp))).trans h
     have crb3 : wc.cell? ⟨rb,pb + j * 12 + 3,none⟩ = some (.int .i64 f1) := by
      have h := hcb 3 (by omega)
      rw [show pb + (j * 12 + 3) = pb + j * 12 + 3 by omega] at h
      exact (World.cell?_of_block (hgW.block rb (by omega) (by simp))).trans h
     have crb4 : wc.cell? ⟨rb,pb + j * 12 + 4,none⟩ = some (.int .i64 o1) := by
      have h := hcb 4 (by omega)
      rw [show pb + (j * 12 + 4) = pb + j * 12 + 4 by omega] at h
      exact (World.cell?_of_block (hgW.block rb (by omega) (by simp))).trans h
     have crb5 : wc.cell? ⟨rb,pb + j * 12 + 5,none⟩ = some (.int .i64 kd1) := by
      have h := hcb 5 (by omega)
      rw [show pb + (j * 12 + 5) = pb + j * 12 + 5 by omega] at h
      exact (World.cell?_of_block (hgW.block rb (by omega) (by simp))).trans h
     have crb6 : wc.cell? ⟨rb,pb + j * 12 + 6,none⟩ = some (.int .i64 m1) := by
      have h := hcb 6 (by omega)
      rw [show pb + (j * 12 + 6) = pb + j * 12 + 6 by omega] at h
      exact (World.cell?_of_block (hgW.block rb (by omega) (by simp))).trans h
     have crb7 : wc.cell? ⟨rb,pb + j * 12 + 7,none⟩ = some (.string nm1) := by
      have h := hcb 7 (by omega)
      rw [show pb + (j * 12 + 7) = pb + j * 12 + 7 by omega] at h
      exact (World.cell?_of_block (hgW.block rb (by omega) (by simp))).trans h
     have crb8 : wc.cell? ⟨rb,pb + j * 12 + 8,none⟩ = some (.string pt1) := by
      have h := hcb 8 (by omega)
      rw [show pb + (j * 12 + 8) = pb + j * 12 + 8 by omega] at h
      exact (World.cell?_of_block (hgW.block rb (by omega) (by simp))).trans h
     have crb9 : wc.cell? ⟨rb,pb + j * 12 + 9,none⟩ = some (.int .i64 b1) := by
      have h := hcb 9 (by omega)
      rw [show pb + (j * 12 + 9) = pb + j * 12 + 9 by omega] at h
      exact (World.cell?_of_block (hgW.block rb (by omega) (by simp))).trans h
     have crb10 : wc.cell? ⟨rb,pb + j * 12 + 10,none⟩ = some (.slice kb1 ks1.length kb2) := by
      have h := hcb 10 (by omega)
      rw [show pb + (j * 12 + 10) = pb + j * 12 + 10 by omega] at h
      exact (World.cell?_of_block (hgW.block rb (by omega) (by simp))).trans h
     have crb11 : wc.cell? ⟨rb,pb + j * 12 + 11,none⟩ = some (.int .i64 aa1) := by
      have h := hcb 11 (by omega)
      rw [show pb + (j * 12 + 11) = pb + j * 12 + 11 by omega] at h
      exact (World.cell?_of_block (hgW.block rb (by omega) (by simp))).trans h
     have hra2 : ra < wc.heap.size := by have := hgV.size; omega
     have hrb2 : rb < wc.heap.size := by have := hgW.size; omega
     have hqa2 : qa < wc.heap.size := at_lt A4.out
     have hqb2 : qb < wc.heap.size := at_lt B4.out
     have e0 : wc.cell? ⟨qa,5,none⟩ = some (.slice (some ⟨ra,pa,none⟩) as1.length xc2) := by simpa using at_cell A4.out 5
     have e1 : wc.cell? ⟨qb,5,none⟩ = some (.slice (some ⟨rb,pb,none⟩) as1.length yc2) := by simpa using at_cell B4.out 5
     have hwj : IntKind.i64.wrap ((j : Int) + 1) = j + 1 := IntWalk.i64_in _ (by omega)
     clear hg hgW hgV hca hcb
     obtain ⟨xp,xq,xr,xf,xg,xh⟩ := facts A4.out
     obtain ⟨yp,yq,yr,yf,yg,yh⟩ := facts B4.out
     go_upto_region 14 with fail
     go_cut [9,10] from 135 to 144 (fun s9 s10 wx => ∃ qa qb : Nat,s9 = .pointer (some ⟨qa,0,none⟩) ∧ s10 = .pointer (some ⟨qb,0,none⟩) ∧ Hid (wx.heap[qa]? = some (.cells #[.string an,.bool ao,.string at1,.int .i64 f1,.int .i64 o1,.int .i64 kd1,.int .i64 m1,.string nm1,.string pt1,.int .i64 b1,.slice ka1 ks1.length ka2,.int .i64 aa1] 97) ∧ wx.heap[qb]? = some (.cells #[.string an,.bool ao,.string at1,.int .i64 f1,.int .i64 o1,.int .i64 kd1,.int .i64 m1,.string nm1,.string pt1,.int .i64 b1,.slice kb1 ks1.length kb2,.int .i64 aa1] 97) ∧ wc.grownBy wx none))
     case first =>
      have hHeld0 : (fun w' : World => w'.cell? ⟨ra,pa + j * 12,none⟩ = some (.string an) ∧ w'.cell? ⟨ra,pa + j * 12 + 1,none⟩ = some (.bool ao) ∧ w'.cell? ⟨ra,pa + j * 12 + 2,none⟩ = some (.string at1) ∧ w'.cell? ⟨ra,pa + j * 12 + 3,none⟩ = some (.int .i64 f1) ∧ w'.cell? ⟨ra,pa + j * 12 + 4,none⟩ = some (.int .i64 o1) ∧ w'.cell? ⟨ra,pa + j * 12 + 5,none⟩ = some (.int .i64 kd1) ∧ w'.cell? ⟨ra,pa + j * 12 + 6,none⟩ = some (.int .i64 m1) ∧ w'.cell? ⟨ra,pa + j * 12 + 7,none⟩ = some (.string nm1) ∧ w'.cell? ⟨ra,pa + j * 12 + 8,none⟩ = some (.string pt1) ∧ w'.cell? ⟨ra,pa + j * 12 + 9,none⟩ = some (.int .i64 b1) ∧ w'.cell? ⟨ra,pa + j * 12 + 10,none⟩ = some (.slice ka1 ks1.length ka2) ∧ w'.cell? ⟨ra,pa + j * 12 + 11,none⟩ = some (.int .i64 aa1) ∧ w'.cell? ⟨rb,pb + j * 12,none⟩ = some (.string an) ∧ w'.cell? ⟨rb,pb + j * 12 + 1,none⟩ = some (.bool ao) ∧ w'.cell? ⟨rb,pb + j * 12 + 2,none⟩ = some (.string at1) ∧ w'.cell? ⟨rb,pb + j * 12 + 3,none⟩ = some (.int .i64 f1) ∧ w'.cell? ⟨rb,pb + j * 12 + 4,none⟩ = some (.int .i64 o1) ∧ w'.cell? ⟨rb,pb + j * 12 + 5,none⟩ = some (.int .i64 kd1) ∧ w'.cell? ⟨rb,pb + j * 12 + 6,none⟩ = some (.int .i64 m1) ∧ w'.cell? ⟨rb,pb + j * 12 + 7,none⟩ = some (.string nm1) ∧ w'.cell? ⟨rb,pb + j * 12 + 8,none⟩ = some (.string pt1) ∧ w'.cell? ⟨rb,pb + j * 12 + 9,none⟩ = some (.int .i64 b1) ∧ w'.cell? ⟨rb,pb + j * 12 + 10,none⟩ = some (.slice kb1 ks1.length kb2) ∧ w'.cell? ⟨rb,pb + j * 12 + 11,none⟩ = some (.int .i64 aa1) ∧ w'.cell? ⟨qa,5,none⟩ = some (.slice (some ⟨ra,pa,none⟩) as1.length xc2) ∧ w'.cell? ⟨qb,5,none⟩ = some (.slice (some ⟨rb,pb,none⟩) as1.length yc2)) wc := ⟨cra0,cra1,cra2,cra3,cra4,cra5,cra6,cra7,cra8,cra9,cra10,cra11,crb0,crb1,crb2,crb3,crb4,crb5,crb6,crb7,crb8,crb9,crb10,crb11,e0,e1⟩
      have hDr : ∀ (W : World),(fun w' : World => w'.cell? ⟨ra,pa + j * 12,none⟩ = some (.string an) ∧ w'.cell? ⟨ra,pa + j * 12 + 1,none⟩ = some (.bool ao) ∧ w'.cell? ⟨ra,pa + j * 12 + 2,none⟩ = some (.string at1) ∧ w'.cell? ⟨ra,pa + j * 12 + 3,none⟩ = some (.int .i64 f1) ∧ w'.cell? ⟨ra,pa + j * 12 + 4,none⟩ = some (.int .i64 o1) ∧ w'.cell? ⟨ra,pa + j * 12 + 5,none⟩ = some (.int .i64 kd1) ∧ w'.cell? ⟨ra,pa + j * 12 + 6,none⟩ = some (.int .i64 m1) ∧ w'.cell? ⟨ra,pa + j * 12 + 7,none⟩ = some (.string nm1) ∧ w'.cell? ⟨ra,pa + j * 12 + 8,none⟩ = some (.string pt1) ∧ w'.cell? ⟨ra,pa + j * 12 + 9,none⟩ = some (.int .i64 b1) ∧ w'.cell? ⟨ra,pa + j * 12 + 10,none⟩ = some (.slice ka1 ks1.length ka2) ∧ w'.cell? ⟨ra,pa + j * 12 + 11,none⟩ = some (.int .i64 aa1) ∧ w'.cell? ⟨rb,pb + j * 12,none⟩ = some (.string an) ∧ w'.cell? ⟨rb,pb + j * 12 + 1,none⟩ = some (.bool ao) ∧ w'.cell? ⟨rb,pb + j * 12 + 2,none⟩ = some (.string at1) ∧ w'.cell? ⟨rb,pb + j * 12 + 3,none⟩ = some (.int .i64 f1) ∧ w'.cell? ⟨rb,pb + j * 12 + 4,none⟩ = some (.int .i64 o1) ∧ w'.cell? ⟨rb,pb + j * 12 + 5,none⟩ = some (.int .i64 kd1) ∧ w'.cell? ⟨rb,pb + j * 12 + 6,none⟩ = some (.int .i64 m1) ∧ w'.cell? ⟨rb,pb + j * 12 + 7,none⟩ = some (.string nm1) ∧ w'.cell? ⟨rb,pb + j * 12 + 8,none⟩ = some (.string pt1) ∧ w'.cell? ⟨rb,pb + j * 12 + 9,none⟩ = some (.int .i64 b1) ∧ w'.cell? ⟨rb,pb + j * 12 + 10,none⟩ = some (.slice kb1 ks1.length kb2) ∧ w'.cell? ⟨rb,pb + j * 12 + 11,none⟩ = some (.int .i64 aa1) ∧ w'.cell? ⟨qa,5,none⟩ = some (.slice (some ⟨ra,pa,none⟩) as1.length xc2) ∧ w'.cell? ⟨qb,5,none⟩ = some (.slice (some ⟨rb,pb,none⟩) as1.length yc2)) W → (fun w' : World => w'.cell? ⟨ra,pa + j * 12,none⟩ = some (.string an) ∧ w'.cell? ⟨ra,pa + j * 12 + 1,none⟩ = some (.bool ao) ∧ w'.cell? ⟨ra,pa + j * 12 + 2,none⟩ = some (.string at1) ∧ w'.cell? ⟨ra,pa + j * 12 + 3,none⟩ = some (.int .i64 f1) ∧ w'.cell? ⟨ra,pa + j * 12 + 4,none⟩ = some (.int .i64 o1) ∧ w'.cell? ⟨ra,pa + j * 12 + 5,none⟩ = some (.int .i64 kd1) ∧ w'.cell? ⟨ra,pa + j * 12 + 6,none⟩ = some (.int .i64 m1) ∧ w'.cell? ⟨ra,pa + j * 12 + 7,none⟩ = some (.string nm1) ∧ w'.cell? ⟨ra,pa + j * 12 + 8,none⟩ = some (.string pt1) ∧ w'.cell? ⟨ra,pa + j * 12 + 9,none⟩ = some (.int .i64 b1) ∧ w'.cell? ⟨ra,pa + j * 12 + 10,none⟩ = some (.slice ka1 ks1.length ka2) ∧ w'.cell? ⟨ra,pa + j * 12 + 11,none⟩ = some (.int .i64 aa1) ∧ w'.cell? ⟨rb,pb + j * 12,none⟩ = some (.string an) ∧ w'.cell? ⟨rb,pb + j * 12 + 1,none⟩ = some (.bool ao) ∧ w'.cell? ⟨rb,pb + j * 12 + 2,none⟩ = some (.string at1) ∧ w'.cell? ⟨rb,pb + j * 12 + 3,none⟩ = some (.int .i64 f1) ∧ w'.cell? ⟨rb,pb + j * 12 + 4,none⟩ = some (.int .i64 o1) ∧ w'.cell? ⟨rb,pb + j * 12 + 5,none⟩ = some (.int .i64 kd1) ∧ w'.cell? ⟨rb,pb + j * 12 + 6,none⟩ = some (.int .i64 m1) ∧ w'.cell? ⟨rb,pb + j * 12 + 7,none⟩ = some (.string nm1) ∧ w'.cell? ⟨rb,pb + j * 12 + 8,none⟩ = some (.string pt1) ∧ w'.cell? ⟨rb,pb + j * 12 + 9,none⟩ = some (.int .i64 b1) ∧ w'.cell? ⟨rb,pb + j * 12 + 10,none⟩ = some (.slice kb1 ks1.length kb2) ∧ w'.cell? ⟨rb,pb + j * 12 + 11,none⟩ = some (.int .i64 aa1) ∧ w'.cell? ⟨qa,5,none⟩ = some (.slice (some ⟨ra,pa,none⟩) as1.length xc2) ∧ w'.cell? ⟨qb,5,none⟩ = some (.slice (some ⟨rb,pb,none⟩) as1.length yc2)) W.drew := by
       rintro W ⟨h0,h1,h2,h3,h4,h5,h6,h7,h8,h9,h10,h11,h12,h13,h14,h15,h16,h17,h18,h19,h20,h21,h22,h23,h24,h25⟩
       exact ⟨h0,h1,h2,h3,h4,h5,h6,h7,h8,h9,h10,h11,h12,h13,h14,h15,h16,h17,h18,h19,h20,h21,h22,h23,h24,h25⟩
      have hHeld := hDr _ hHeld0
      have hOld : ∀ (W : World) (obj : Obj),(fun w' : World => w'.cell? ⟨ra,pa + j * 12,none⟩ = some (.string an) ∧ w'.cell? ⟨ra,pa + j * 12 + 1,none⟩ = some (.bool ao) ∧ w'.cell? ⟨ra,pa + j * 12 + 2,none⟩ = some (.string at1) ∧ w'.cell? ⟨ra,pa + j * 12 + 3,none⟩ = some (.int .i64 f1) ∧ w'.cell? ⟨ra,pa + j * 12 + 4,none⟩ = some (.int .i64 o1) ∧ w'.cell? ⟨ra,pa + j * 12 + 5,none⟩ = some (.int .i64 kd1) ∧ w'.cell? ⟨ra,pa + j * 12 + 6,none⟩ = some (.int .i64 m1) ∧ w'.cell? ⟨ra,pa + j * 12 + 7,none⟩ = some (.string nm1) ∧ w'.cell? ⟨ra,pa + j * 12 + 8,none⟩ = some (.string pt1) ∧ w'.cell? ⟨ra,pa + j * 12 + 9,none⟩ = some (.int .i64 b1) ∧ w'.cell? ⟨ra,pa + j * 12 + 10,none⟩ = some (.slice ka1 ks1.length ka2) ∧ w'.cell? ⟨ra,pa + j * 12 + 11,none⟩ = some (.int .i64 aa1) ∧ w'.cell? ⟨rb,pb + j * 12,none⟩ = some (.string an) ∧ w'.cell? ⟨rb,pb + j * 12 + 1,none⟩ = some (.bool ao) ∧ w'.cell? ⟨rb,pb + j * 12 + 2,none⟩ = some (.string at1) ∧ w'.cell? ⟨rb,pb + j * 12 + 3,none⟩ = some (.int .i64 f1) ∧ w'.cell? ⟨rb,pb + j * 12 + 4,none⟩ = some (.int .i64 o1) ∧ w'.cell? ⟨rb,pb + j * 12 + 5,none⟩ = some (.int .i64 kd1) ∧ w'.cell? ⟨rb,pb + j * 12 + 6,none⟩ = some (.int .i64 m1) ∧ w'.cell? ⟨rb,pb + j * 12 + 7,none⟩ = some (.string nm1) ∧ w'.cell? ⟨rb,pb + j * 12 + 8,none⟩ = some (.string pt1) ∧ w'.cell? ⟨rb,pb + j * 12 + 9,none⟩ = some (.int .i64 b1) ∧ w'.cell? ⟨rb,pb + j * 12 + 10,none⟩ = some (.slice kb1 ks1.length kb2) ∧ w'.cell? ⟨rb,pb + j * 12 + 11,none⟩ = some (.int .i64 aa1) ∧ w'.cell? ⟨qa,5,none⟩ = some (.slice (some ⟨ra,pa,none⟩) as1.length xc2) ∧ w'.cell? ⟨qb,5,none⟩ = some (.slice (some ⟨rb,pb,none⟩) as1.length yc2)) W → (fun w' : World => w'.cell? ⟨ra,pa + j * 12,none⟩ = some (.string an) ∧ w'.cell? ⟨ra,pa + j * 12 + 1,none⟩ = some (.bool ao) ∧ w'.cell? ⟨ra,pa + j * 12 + 2,none⟩ = some (.string at1) ∧ w'.cell? ⟨ra,pa + j * 12 + 3,none⟩ = some (.int .i64 f1) ∧ w'.cell? ⟨ra,pa + j * 12 + 4,none⟩ = some (.int .i64 o1) ∧ w'.cell? ⟨ra,pa + j * 12 + 5,none⟩ = some (.int .i64 kd1) ∧ w'.cell? ⟨ra,pa + j * 12 + 6,none⟩ = some (.int .i64 m1) ∧ w'.cell? ⟨ra,pa + j * 12 + 7,none⟩ = some (.string nm1) ∧ w'.cell? ⟨ra,pa + j * 12 + 8,none⟩ = some (.string pt1) ∧ w'.cell? ⟨ra,pa + j * 12 + 9,none⟩ = some (.int .i64 b1) ∧ w'.cell? ⟨ra,pa + j * 12 + 10,none⟩ = some (.slice ka1 ks1.length ka2) ∧ w'.cell? ⟨ra,pa + j * 12 + 11,none⟩ = some (.int .i64 aa1) ∧ w'.cell? ⟨rb,pb + j * 12,none⟩ = some (.string an) ∧ w'.cell? ⟨rb,pb + j * 12 + 1,none⟩ = some (.bool ao) ∧ w'.cell? ⟨rb,pb + j * 12 + 2,none⟩ = some (.string at1) ∧ w'.cell? ⟨rb,pb + j * 12 + 3,none⟩ = some (.int .i64 f1) ∧ w'.cell? ⟨rb,pb + j * 12 + 4,none⟩ = some (.int .i64 o1) ∧ w'.cell? ⟨rb,pb + j * 12 + 5,none⟩ = some (.int .i64 kd1) ∧ w'.cell? ⟨rb,pb + j * 12 + 6,none⟩ = some (.int .i64 m1) ∧ w'.cell? ⟨rb,pb + j * 12 + 7,none⟩ = some (.string nm1) ∧ w'.cell? ⟨rb,pb + j * 12 + 8,none⟩ = some (.string pt1) ∧ w'.cell? ⟨rb,pb + j * 12 + 9,none⟩ = some (.int .i64 b1) ∧ w'.cell? ⟨rb,pb + j * 12 + 10,none⟩ = some (.slice kb1 ks1.length kb2) ∧ w'.cell? ⟨rb,pb + j * 12 + 11,none⟩ = some (.int .i64 aa1) ∧ w'.cell? ⟨qa,5,none⟩ = some (.slice (some ⟨ra,pa,none⟩) as1.length xc2) ∧ w'.cell? ⟨qb,5,none⟩ = some (.slice (some ⟨rb,pb,none⟩) as1.length yc2)) (W.alloc obj) := by
       rintro W obj ⟨h0,h1,h2,h3,h4,h5,h6,h7,h8,h9,h10,h11,h12,h13,h14,h15,h16,h17,h18,h19,h20,h21,h22,h23,h24,h25⟩
       exact ⟨cell_al h0,cell_al h1,cell_al h2,cell_al h3,cell_al h4,cell_al h5,cell_al h6,cell_al h7,cell_al h8,cell_al h9,cell_al h10,cell_al h11,cell_al h12,cell_al h13,cell_al h14,cell_al h15,cell_al h16,cell_al h17,cell_al h18,cell_al h19,cell_al h20,cell_al h21,cell_al h22,cell_al h23,cell_al h24,cell_al h25⟩
      clear cra0 cra1 cra2 cra3 cra4 cra5 cra6 cra7 cra8 cra9 cra10 cra11 crb0 crb1 crb2 crb3 crb4 crb5 crb6 crb7 crb8 crb9 crb10 crb11 e0 e1
      refine wp_region_L (L := 13) (S := (fun w' : World => w'.cell? ⟨ra,pa + j * 12,none⟩ = some (.string an) ∧ w'.cell? ⟨ra,pa + j * 12 + 1,none⟩ = some (.bool ao) ∧ w'.cell? ⟨ra,pa + j * 12 + 2,none⟩ = some (.string at1) ∧ w'.cell? ⟨ra,pa + j * 12 + 3,none⟩ = some (.int .i64 f1) ∧ w'.cell? ⟨ra,pa + j * 12 + 4,none⟩ = some (.int .i64 o1) ∧ w'.cell? ⟨ra,pa + j * 12 + 5,none⟩ = some (.int .i64 kd1) ∧ w'.cell? ⟨ra,pa + j * 12 + 6,none⟩ = some (.int .i64 m1) ∧ w'.cell? ⟨ra,pa + j * 12 + 7,none⟩ = some (.string nm1) ∧ w'.cell? ⟨ra,pa + j * 12 + 8,none⟩ = some (.string pt1) ∧ w'.cell? ⟨ra,pa + j * 12 + 9,none⟩ = some (.int .i64 b1) ∧ w'.cell? ⟨ra,pa + j * 12 + 10,none⟩ = some (.slice ka1 ks1.length ka2) ∧ w'.cell? ⟨ra,pa + j * 12 + 11,none⟩ = some (.int .i64 aa1) ∧ w'.cell? ⟨rb,pb + j * 12,none⟩ = some (.string an) ∧ w'.cell? ⟨rb,pb + j * 12 + 1,none⟩ = some (.bool ao) ∧ w'.cell? ⟨rb,pb + j * 12 + 2,none⟩ = some (.string at1) ∧ w'.cell? ⟨rb,pb + j * 12 + 3,none⟩ = some (.int .i64 f1) ∧ w'.cell? ⟨rb,pb + j * 12 + 4,none⟩ = some (.int .i64 o1) ∧ w'.cell? ⟨rb,pb + j * 12 + 5,none⟩ = some (.int .i64 kd1) ∧ w'.cell? ⟨rb,pb + j * 12 + 6,none⟩ = some (.int .i64 m1) ∧ w'.cell? ⟨rb,pb + j * 12 + 7,none⟩ = some (.string nm1) ∧ w'.cell? ⟨rb,pb + j * 12 + 8,none⟩ = some (.string pt1) ∧ w'.cell? ⟨rb,pb + j * 12 + 9,none⟩ = some (.int .i64 b1) ∧ w'.cell? ⟨rb,pb + j * 12 + 10,none⟩ = some (.slice kb1 ks1.length kb2) ∧ w'.cell? ⟨rb,pb + j * 12 + 11,none⟩ = some (.int .i64 aa1) ∧ w'.cell? ⟨qa,5,none⟩ = some (.slice (some ⟨ra,pa,none⟩) as1.length xc2) ∧ w'.cell? ⟨qb,5,none⟩ = some (.slice (some ⟨rb,pb,none⟩) as1.length yc2))) (by kernel_rfl) ?_
      refine wpAnyL_free (i := 0) (v := ?_) rfl (by kernel_rfl) (by kernel_rfl) (by kernel_rfl) (fun _ _ _ h => h) (by decide) (Or.inl ⟨by rfl,?_⟩) (fun _ => hHeld) ?_
      rotate_left
      · intro w hSw
        go_simp
        try with_reducible rfl
      try simp only [Act.put,List.setIfInBounds_toArray,List.set_cons_zero,List.set_cons_succ]
      refine wpAnyL_take (i := 1) (v := ?_) rfl (by kernel_rfl) (by kernel_rfl) (by kernel_rfl) (fun _ _ _ h => h) (by kernel_rfl) (by kernel_rfl) (Or.inl ⟨by rfl,?_⟩) hHeld ?_
      rotate_left
      · intro w hSw
        try dsimp only at hSw
        go_simp
        try with_reducible rfl
      try simp only [Act.put,List.setIfInBounds_toArray,List.set_cons_zero,List.set_cons_succ]
      refine wpAnyL_free (i := 2) (v := ?_) rfl (by kernel_rfl) (by kernel_rfl) (by kernel_rfl) (fun _ _ _ h => h) (by decide) (Or.inl ⟨by rfl,?_⟩) (fun _ => hHeld) ?_
      rotate_left
      · intro w hSw
        go_simp
        try with_reducible rfl
      try simp only [Act.put,List.setIfInBounds_toArray,List.set_cons_zero,List.set_cons_succ]
      refine wpAnyL_free (i := 3) (v := ?_) rfl (by kernel_rfl) (by kernel_rfl) (by kernel_rfl) (fun _ _ _ h => h) (by decide) (Or.inl ⟨by rfl,?_⟩) (fun _ => hHeld) ?_
      rotate_left
      · intro w hSw
        go_simp
        try with_reducible rfl
      try simp only [Act.put,List.setIfInBounds_toArray,List.set_cons_zero,List.set_cons_succ]
      refine wpAnyL_take (i := 4) (v := ?_) rfl (by kernel_rfl) (by kernel_rfl) (by kernel_rfl) (fun _ _ _ h => h) (by kernel_rfl) (by kernel_rfl) (Or.inl ⟨by rfl,?_⟩) hHeld ?_
      rotate_left
      · intro w hSw
        try dsimp only at hSw
        go_simp
        try with_reducible rfl
      try simp only [Act.put,List.setIfInBounds_toArray,List.set_cons_zero,List.set_cons_succ]
      refine wpAnyL_free (i := 5) (v := ?_) rfl (by kernel_rfl) (by kernel_rfl) (by kernel_rfl) (fun _ _ _ h => h) (by decide) (Or.inl ⟨by rfl,?_⟩) (fun _ => hHeld) ?_
      rotate_left
      · intro w hSw
        go_simp
        try with_reducible rfl
      try simp only [Act.put,List.setIfInBounds_toArray,List.set_cons_zero,List.set_cons_succ]
      refine wpAnyL_take (i := 6) (v := ?_) rfl (by kernel_rfl) (by kernel_rfl) (by kernel_rfl) (fun _ _ _ h => h) (by kernel_rfl) (by kernel_rfl) (Or.inl ⟨by rfl,?_⟩) hHeld ?_
      rotate_left
      · intro w hSw
        try dsimp only at hSw
        go_simp
        try with_reducible rfl
      try simp only [Act.put,List.setIfInBounds_toArray,List.set_cons_zero,List.set_cons_succ]
      refine wpAnyL_free (i := 7) (v := ?_) rfl (by kernel_rfl) (by kernel_rfl) (by kernel_rfl) (fun _ _ _ h => h) (by decide) (Or.inl ⟨by rfl,?_⟩) (fun _ => hHeld) ?_
      rotate_left
      · intro w hSw
        go_simp
        try with_reducible rfl
      try simp only [Act.put,List.setIfInBounds_toArray,List.set_cons_zero,List.set_cons_succ]
      refine wpAnyL_free (i := 8) (v := ?_) rfl (by kernel_rfl) (by kernel_rfl) (by kernel_rfl) (fun _ _ _ h => h) (by decide) (Or.inl ⟨by rfl,?_⟩) (fun _ => hHeld) ?_
      rotate_left
      · intro w hSw
        go_simp
        try with_reducible rfl
      try simp only [Act.put,List.setIfInBounds_toArray,List.set_cons_zero,List.set_cons_succ]
      refine wpAnyL_take (i := 9) (v := ?_) rfl (by kernel_rfl) (by kernel_rfl) (by kernel_rfl) (fun _ _ _ h => h) (by kernel_rfl) (by kernel_rfl) (Or.inl ⟨by rfl,?_⟩) hHeld ?_
      rotate_left
      · intro w hSw
        try dsimp only at hSw
        go_simp
        try with_reducible rfl
      try simp only [Act.put,List.setIfInBounds_toArray,List.set_cons_zero,List.set_cons_succ]
      refine wpAnyL_two (i := 10) (j := 11) (by kernel_rfl) rfl rfl (fun K hK => ?_) (fun K hK => ?_)
      · skip
        go_simp
        refine hK.out _ _ (fun _ _ => hDr _ (hOld _ _ hHeld0)) ?_
        clear hK K
        try simp only [Act.put,List.setIfInBounds_toArray,List.set_cons_zero,List.set_cons_succ]
        refine wpAnyL_one (j := 11) (by kernel_rfl) rfl (fun K hK => ?_)
        go_simp
        refine hK.out _ _ (fun _ _ => hDr _ (hOld _ _ (hOld _ _ hHeld0))) ?_
        clear hK K
        try simp only [Act.put,List.setIfInBounds_toArray,List.set_cons_zero,List.set_cons_succ]
        obtain ⟨W5,hW5⟩ : ∃ W : World,W = (wc.alloc (.cells #[.string ⟨#[]⟩,.bool false,.string ⟨#[]⟩,.int .i64 0,.int .i64 0,.int .i64 0,.int .i64 0,.string ⟨#[]⟩,.string ⟨#[]⟩,.int .i64 0,.slice none 0 0,.int .i64 0] 97)).alloc (.cells #[.string ⟨#[]⟩,.bool false,.string ⟨#[]⟩,.int .i64 0,.int .i64 0,.int .i64 0,.int .i64 0,.string ⟨#[]⟩,.string ⟨#[]⟩,.int .i64 0,.slice none 0 0,.int .i64 0] 97) := ⟨_,rfl⟩
        have X1 : W5.heap[wc.heap.size]? = some (.cells #[.string ⟨#[]⟩,.bool false,.string ⟨#[]⟩,.int .i64 0,.int .i64 0,.int .i64 0,.int .i64 0,.string ⟨#[]⟩,.string ⟨#[]⟩,.int .i64 0,.slice none 0 0,.int .i64 0] 97) := by rw [hW5]; exact old (new _ _) _
        have X2 : W5.heap[wc.heap.size + 1]? = some (.cells #[.string ⟨#[]⟩,.bool false,.string ⟨#[]⟩,.int .i64 0,.int .i64 0,.int .i64 0,.int .i64 0,.string ⟨#[]⟩,.string ⟨#[]⟩,.int .i64 0,.slice none 0 0,.int .i64 0] 97) := by rw [hW5]; exact hp_new (by simp) _
        have gW : wc.grownBy W5 none := by rw [hW5]; exact gr_alloc (gr1 _ _) _
        have hHW : (fun w' : World => w'.cell? ⟨ra,pa + j * 12,none⟩ = some (.string an) ∧ w'.cell? ⟨ra,pa + j * 12 + 1,none⟩ = some (.bool ao) ∧ w'.cell? ⟨ra,pa + j * 12 + 2,none⟩ = some (.string at1) ∧ w'.cell? ⟨ra,pa + j * 12 + 3,none⟩ = some (.int .i64 f1) ∧ w'.cell? ⟨ra,pa + j * 12 + 4,none⟩ = some (.int .i64 o1) ∧ w'.cell? ⟨ra,pa + j * 12 + 5,none⟩ = some (.int .i64 kd1) ∧ w'.cell? ⟨ra,pa + j * 12 + 6,none⟩ = some (.int .i64 m1) ∧ w'.cell? ⟨ra,pa + j * 12 + 7,none⟩ = some (.string nm1) ∧ w'.cell? ⟨ra,pa + j * 12 + 8,none⟩ = some (.string pt1) ∧ w'.cell? ⟨ra,pa + j * 12 + 9,none⟩ = some (.int .i64 b1) ∧ w'.cell? ⟨ra,pa + j * 12 + 10,none⟩ = some (.slice ka1 ks1.length ka2) ∧ w'.cell? ⟨ra,pa + j * 12 + 11,none⟩ = some (.int .i64 aa1) ∧ w'.cell? ⟨rb,pb + j * 12,none⟩ = some (.string an) ∧ w'.cell? ⟨rb,pb + j * 12 + 1,none⟩ = some (.bool ao) ∧ w'.cell? ⟨rb,pb + j * 12 + 2,none⟩ = some (.string at1) ∧ w'.cell? ⟨rb,pb + j * 12 + 3,none⟩ = some (.int .i64 f1) ∧ w'.cell? ⟨rb,pb + j * 12 + 4,none⟩ = some (.int .i64 o1) ∧ w'.cell? ⟨rb,pb + j * 12 + 5,none⟩ = some (.int .i64 kd1) ∧ w'.cell? ⟨rb,pb + j * 12 + 6,none⟩ = some (.int .i64 m1) ∧ w'.cell? ⟨rb,pb + j * 12 + 7,none⟩ = some (.string nm1) ∧ w'.cell? ⟨rb,pb + j * 12 + 8,none⟩ = some (.string pt1) ∧ w'.cell? ⟨rb,pb + j * 12 + 9,none⟩ = some (.int .i64 b1) ∧ w'.cell? ⟨rb,pb + j * 12 + 10,none⟩ = some (.slice kb1 ks1.length kb2) ∧ w'.cell? ⟨rb,pb + j * 12 + 11,none⟩ = some (.int .i64 aa1) ∧ w'.cell? ⟨qa,5,none⟩ = some (.slice (some ⟨ra,pa,none⟩) as1.length xc2) ∧ w'.cell? ⟨qb,5,none⟩ = some (.slice (some ⟨rb,pb,none⟩) as1.length yc2)) W5 := by rw [hW5]; exact hOld _ _ (hOld _ _ hHeld0)
        change wpAnyL _ _ _ _ _ _ _ _ _ ((wc.alloc (.cells #[.string ⟨#[]⟩,.bool false,.string ⟨#[]⟩,.int .i64 0,.int .i64 0,.int .i64 0,.int .i64 0,.string ⟨#[]⟩,.string ⟨#[]⟩,.int .i64 0,.slice none 0 0,.int .i64 0] 97)).alloc (.cells #[.string ⟨#[]⟩,.bool false,.string ⟨#[]⟩,.int .i64 0,.int .i64 0,.int .i64 0,.int .i64 0,.string ⟨#[]⟩,.string ⟨#[]⟩,.int .i64 0,.slice none 0 0,.int .i64 0] 97)).drew
        rw [← hW5]
        clear hW5 hHeld hHeld0
        obtain ⟨xp,xq,xr,xf,xg,xh⟩ := facts X1
        obtain ⟨yp,yq,yr,yf,yg,yh⟩ := facts X2
        have nq : wc.heap.size ≠ wc.heap.size + 1 := by omega
        have nq2 : wc.heap.size + 1 ≠ wc.heap.size := by omega
        have gC : W5.grownBy ((((((((((((W5.setCell ⟨wc.heap.size,0,none⟩ (.string an)).setCell ⟨wc.heap.size,1,none⟩ (.bool ao)).setCell ⟨wc.heap.size,2,none⟩ (.string at1)).setCell ⟨wc.heap.size,3,none⟩ (.int .i64 f1)).setCell ⟨wc.heap.size,4,none⟩ (.int .i64 o1)).setCell ⟨wc.heap.size,5,none⟩ (.int .i64 kd1)).setCell ⟨wc.heap.size,6,none⟩ (.int .i64 m1)).setCell ⟨wc.heap.size,7,none⟩ (.string nm1)).setCell ⟨wc.heap.size,8,none⟩ (.string pt1)).setCell ⟨wc.heap.size,9,none⟩ (.int .i64 b1)).setCell ⟨wc.heap.size,10,none⟩ (.slice ka1 ks1.length ka2)).setCell ⟨wc.heap.size,11,none⟩ (.int .i64 aa1)) (some (wc.heap.size)) := gr12 (World.grownBy.refl W5 _)
        have nra : ra ≠ wc.heap.size := by omega
        have nrb : rb ≠ wc.heap.size := by omega
        have ne0 : qa ≠ wc.heap.size := by omega
        have ne1 : qb ≠ wc.heap.size := by omega
        have hHW6 : (fun w' : World => w'.cell? ⟨ra,pa + j * 12,none⟩ = some (.string an) ∧ w'.cell? ⟨ra,pa + j * 12 + 1,none⟩ = some (.bool ao) ∧ w'.cell? ⟨ra,pa + j * 12 + 2,none⟩ = some (.string at1) ∧ w'.cell? ⟨ra,pa + j * 12 + 3,none⟩ = some (.int .i64 f1) ∧ w'.cell? ⟨ra,pa + j * 12 + 4,none⟩ = some (.int .i64 o1) ∧ w'.cell? ⟨ra,pa + j * 12 + 5,none⟩ = some (.int .i64 kd1) ∧ w'.cell? ⟨ra,pa + j * 12 + 6,none⟩ = some (.int .i64 m1) ∧ w'.cell? ⟨ra,pa + j * 12 + 7,none⟩ = some (.string nm1) ∧ w'.cell? ⟨ra,pa + j * 12 + 8,none⟩ = some (.string pt1) ∧ w'.cell? ⟨ra,pa + j * 12 + 9,none⟩ = some (.int .i64 b1) ∧ w'.cell? ⟨ra,pa + j * 12 + 10,none⟩ = some (.slice ka1 ks1.length ka2) ∧ w'.cell? ⟨ra,pa + j * 12 + 11,none⟩ = some (.int .i64 aa1) ∧ w'.cell? ⟨rb,pb + j * 12,none⟩ = some (.string an) ∧ w'.cell? ⟨rb,pb + j * 12 + 1,none⟩ = some (.bool ao) ∧ w'.cell? ⟨rb,pb + j * 12 + 2,none⟩ = some (.string at1) ∧ w'.cell? ⟨rb,pb + j * 12 + 3,none⟩ = some (.int .i64 f1) ∧ w'.cell? ⟨rb,pb + j * 12 + 4,none⟩ = some (.int .i64 o1) ∧ w'.cell? ⟨rb,pb + j * 12 + 5,none⟩ = some (.int .i64 kd1) ∧ w'.cell? ⟨rb,pb + j * 12 + 6,none⟩ = some (.int .i64 m1) ∧ w'.cell? ⟨rb,pb + j * 12 + 7,none⟩ = some (.string nm1) ∧ w'.cell? ⟨rb,pb + j * 12 + 8,none⟩ = some (.string pt1) ∧ w'.cell? ⟨rb,pb + j * 12 + 9,none⟩ = some (.int .i64 b1) ∧ w'.cell? ⟨rb,pb + j * 12 + 10,none⟩ = some (.slice kb1 ks1.length kb2) ∧ w'.cell? ⟨rb,pb + j * 12 + 11,none⟩ = some (.int .i64 aa1) ∧ w'.cell? ⟨qa,5,none⟩ = some (.slice (some ⟨ra,pa,none⟩) as1.length xc2) ∧ w'.cell? ⟨qb,5,none⟩ = some (.slice (some ⟨rb,pb,none⟩) as1.length yc2)) ((((((((((((W5.setCell ⟨wc.heap.size,0,none⟩ (.string an)).setCell ⟨wc.heap.size,1,none⟩ (.bool ao)).setCell ⟨wc.heap.size,2,none⟩ (.string at1)).setCell ⟨wc.heap.size,3,none⟩ (.int .i64 f1)).setCell ⟨wc.heap.size,4,none⟩ (.int .i64 o1)).setCell ⟨wc.heap.size,5,none⟩ (.int .i64 kd1)).setCell ⟨wc.heap.size,6,none⟩ (.int .i64 m1)).setCell ⟨wc.heap.size,7,none⟩ (.string nm1)).setCell ⟨wc.heap.size,8,none⟩ (.string pt1)).setCell ⟨wc.heap.size,9,none⟩ (.int .i64 b1)).setCell ⟨wc.heap.size,10,none⟩ (.slice ka1 ks1.length ka2)).setCell ⟨wc.heap.size,11,none⟩ (.int .i64 aa1)).drew := by
         obtain ⟨h0,h1,h2,h3,h4,h5,h6,h7,h8,h9,h10,h11,h12,h13,h14,h15,h16,h17,h18,h19,h20,h21,h22,h23,h24,h25⟩ := hHW
         exact hDr _ ⟨cell_kp h0 gC nra,cell_kp h1 gC nra,cell_kp h2 gC nra,cell_kp h3 gC nra,cell_kp h4 gC nra,cell_kp h5 gC nra,cell_kp h6 gC nra,cell_kp h7 gC nra,cell_kp h8 gC nra,cell_kp h9 gC nra,cell_kp h10 gC nra,cell_kp h11 gC nra,cell_kp h12 gC nrb,cell_kp h13 gC nrb,cell_kp h14 gC nrb,cell_kp h15 gC nrb,cell_kp h16 gC nrb,cell_kp h17 gC nrb,cell_kp h18 gC nrb,cell_kp h19 gC nrb,cell_kp h20 gC nrb,cell_kp h21 gC nrb,cell_kp h22 gC nrb,cell_kp h23 gC nrb,cell_kp h24 gC ne0,cell_kp h25 gC ne1⟩
        refine wpAnyL_one (j := 12) (by kernel_rfl) rfl (fun K hK => ?_)
        go_simp
        refine hK.out _ _ (fun _ _ => hHW6) ?_
        clear hK K
        try simp only [Act.put,List.setIfInBounds_toArray,List.set_cons_zero,List.set_cons_succ]
        refine wpAnyL_one (j := 13) (by kernel_rfl) rfl (fun K hK => ?_)
        go_simp
        refine hK.out _ _ (fun h => absurd rfl h) ?_
        clear hK K
        try simp only [Act.put,List.setIfInBounds_toArray,List.set_cons_zero,List.set_cons_succ]
        refine wpAnyL_done (by kernel_rfl) ?_ _
        go_wp2_with fail
        go_meet
        exact ⟨wc.heap.size,wc.heap.size + 1,rfl,rfl,hidI ⟨by rw [drew_heap]; exact keptBut (gr12 (World.grownBy.refl _ _)) (box12 X1) (by omega),by rw [drew_heap]; exact box12 (keptBut (gr12 (World.grownBy.refl _ _)) X2 (by omega)),gr_drew (gr12n (gr12n gW (by omega)) (by omega))⟩⟩
      · skip
        go_simp
        refine hK.out _ _ (fun _ _ => hDr _ (hOld _ _ hHeld0)) ?_
        clear hK K
        try simp only [Act.put,List.setIfInBounds_toArray,List.set_cons_zero,List.set_cons_succ]
        refine wpAnyL_one (j := 10) (by kernel_rfl) rfl (fun K hK => ?_)
        go_simp
        refine hK.out _ _ (fun _ _ => hDr _ (hOld _ _ (hOld _ _ hHeld0))) ?_
        clear hK K
        try simp only [Act.put,List.setIfInBounds_toArray,List.set_cons_zero,List.set_cons_succ]
        obtain ⟨W5,hW5⟩ : ∃ W : World,W = (wc.alloc (.cells #[.string ⟨#[]⟩,.bool false,.string ⟨#[]⟩,.int .i64 0,.int .i64 0,.int .i64 0,.int .i64 0,.string ⟨#[]⟩,.string ⟨#[]⟩,.int .i64 0,.slice none 0 0,.int .i64 0] 97)).alloc (.cells #[.string ⟨#[]⟩,.bool false,.string ⟨#[]⟩,.int .i64 0,.int .i64 0,.int .i64 0,.int .i64 0,.string ⟨#[]⟩,.string ⟨#[]⟩,.int .i64 0,.slice none 0 0,.int .i64 0] 97) := ⟨_,rfl⟩
        have X1 : W5.heap[wc.heap.size]? = some (.cells #[.string ⟨#[]⟩,.bool false,.string ⟨#[]⟩,.int .i64 0,.int .i64 0,.int .i64 0,.int .i64 0,.string ⟨#[]⟩,.string ⟨#[]⟩,.int .i64 0,.slice none 0 0,.int .i64 0] 97) := by rw [hW5]; exact old (new _ _) _
        have X2 : W5.heap[wc.heap.size + 1]? = some (.cells #[.string ⟨#[]⟩,.bool false,.string ⟨#[]⟩,.int .i64 0,.int .i64 0,.int .i64 0,.int .i64 0,.string ⟨#[]⟩,.string ⟨#[]⟩,.int .i64 0,.slice none 0 0,.int .i64 0] 97) := by rw [hW5]; exact hp_new (by simp) _
        have gW : wc.grownBy W5 none := by rw [hW5]; exact gr_alloc (gr1 _ _) _
        have hHW : (fun w' : World => w'.cell? ⟨ra,pa + j * 12,none⟩ = some (.string an) ∧ w'.cell? ⟨ra,pa + j * 12 + 1,none⟩ = some (.bool ao) ∧ w'.cell? ⟨ra,pa + j * 12 + 2,none⟩ = some (.string at1) ∧ w'.cell? ⟨ra,pa + j * 12 + 3,none⟩ = some (.int .i64 f1) ∧ w'.cell? ⟨ra,pa + j * 12 + 4,none⟩ = some (.int .i64 o1) ∧ w'.cell? ⟨ra,pa + j * 12 + 5,none⟩ = some (.int .i64 kd1) ∧ w'.cell? ⟨ra,pa + j * 12 + 6,none⟩ = some (.int .i64 m1) ∧ w'.cell? ⟨ra,pa + j * 12 + 7,none⟩ = some (.string nm1) ∧ w'.cell? ⟨ra,pa + j * 12 + 8,none⟩ = some (.string pt1) ∧ w'.cell? ⟨ra,pa + j * 12 + 9,none⟩ = some (.int .i64 b1) ∧ w'.cell? ⟨ra,pa + j * 12 + 10,none⟩ = some (.slice ka1 ks1.length ka2) ∧ w'.cell? ⟨ra,pa + j * 12 + 11,none⟩ = some (.int .i64 aa1) ∧ w'.cell? ⟨rb,pb + j * 12,none⟩ = some (.string an) ∧ w'.cell? ⟨rb,pb + j * 12 + 1,none⟩ = some (.bool ao) ∧ w'.cell? ⟨rb,pb + j * 12 + 2,none⟩ = some (.string at1) ∧ w'.cell? ⟨rb,pb + j * 12 + 3,none⟩ = some (.int .i64 f1) ∧ w'.cell? ⟨rb,pb + j * 12 + 4,none⟩ = some (.int .i64 o1) ∧ w'.cell? ⟨rb,pb + j * 12 + 5,none⟩ = some (.int .i64 kd1) ∧ w'.cell? ⟨rb,pb + j * 12 + 6,none⟩ = some (.int .i64 m1) ∧ w'.cell? ⟨rb,pb + j * 12 + 7,none⟩ = some (.string nm1) ∧ w'.cell? ⟨rb,pb + j * 12 + 8,none⟩ = some (.string pt1) ∧ w'.cell? ⟨rb,pb + j * 12 + 9,none⟩ = some (.int .i64 b1) ∧ w'.cell? ⟨rb,pb + j * 12 + 10,none⟩ = some (.slice kb1 ks1.length kb2) ∧ w'.cell? ⟨rb,pb + j * 12 + 11,none⟩ = some (.int .i64 aa1) ∧ w'.cell? ⟨qa,5,none⟩ = some (.slice (some ⟨ra,pa,none⟩) as1.length xc2) ∧ w'.cell? ⟨qb,5,none⟩ = some (.slice (some ⟨rb,pb,none⟩) as1.length yc2)) W5 := by rw [hW5]; exact hOld _ _ (hOld _ _ hHeld0)
        change wpAnyL _ _ _ _ _ _ _ _ _ ((wc.alloc (.cells #[.string ⟨#[]⟩,.bool false,.string ⟨#[]⟩,.int .i64 0,.int .i64 0,.int .i64 0,.int .i64 0,.string ⟨#[]⟩,.string ⟨#[]⟩,.int .i64 0,.slice none 0 0,.int .i64 0] 97)).alloc (.cells #[.string ⟨#[]⟩,.bool false,.string ⟨#[]⟩,.int .i64 0,.int .i64 0,.int .i64 0,.int .i64 0,.string ⟨#[]⟩,.string ⟨#[]⟩,.int .i64 0,.slice none 0 0,.int .i64 0] 97)).drew
        rw [← hW5]
        clear hW5 hHeld hHeld0
        obtain ⟨xp,xq,xr,xf,xg,xh⟩ := facts X1
        obtain ⟨yp,yq,yr,yf,yg,yh⟩ := facts X2
        have nq : wc.heap.size + 1 ≠ wc.heap.size := by omega
        have nq2 : wc.heap.size ≠ wc.heap.size + 1 := by omega
        have gC : W5.grownBy ((((((((((((W5.setCell ⟨wc.heap.size + 1,0,none⟩ (.string an)).setCell ⟨wc.heap.size + 1,1,none⟩ (.bool ao)).setCell ⟨wc.heap.size + 1,2,none⟩ (.string at1)).setCell ⟨wc.heap.size + 1,3,none⟩ (.int .i64 f1)).setCell ⟨wc.heap.size + 1,4,none⟩ (.int .i64 o1)).setCell ⟨wc.heap.size + 1,5,none⟩ (.int .i64 kd1)).setCell ⟨wc.heap.size + 1,6,none⟩ (.int .i64 m1)).setCell ⟨wc.heap.size + 1,7,none⟩ (.string nm1)).setCell ⟨wc.heap.size + 1,8,none⟩ (.string pt1)).setCell ⟨wc.heap.size + 1,9,none⟩ (.int .i64 b1)).setCell ⟨wc.heap.size + 1,10,none⟩ (.slice ka1 ks1.length ka2)).setCell ⟨wc.heap.size + 1,11,none⟩ (.int .i64 aa1)) (some (wc.heap.size + 1)) := gr12 (World.grownBy.refl W5 _)
        have nra : ra ≠ wc.heap.size + 1 := by omega
        have nrb : rb ≠ wc.heap.size + 1 := by omega
        have ne0 : qa ≠ wc.heap.size + 1 := by omega
        have ne1 : qb ≠ wc.heap.size + 1 := by omega
        have hHW6 : (fun w' : World => w'.cell? ⟨ra,pa + j * 12,none⟩ = some (.string an) ∧ w'.cell? ⟨ra,pa + j * 12 + 1,none⟩ = some (.bool ao) ∧ w'.cell? ⟨ra,pa + j * 12 + 2,none⟩ = some (.string at1) ∧ w'.cell? ⟨ra,pa + j * 12 + 3,none⟩ = some (.int .i64 f1) ∧ w'.cell? ⟨ra,pa + j * 12 + 4,none⟩ = some (.int .i64 o1) ∧ w'.cell? ⟨ra,pa + j * 12 + 5,none⟩ = some (.int .i64 kd1) ∧ w'.cell? ⟨ra,pa + j * 12 + 6,none⟩ = some (.int .i64 m1) ∧ w'.cell? ⟨ra,pa + j * 12 + 7,none⟩ = some (.string nm1) ∧ w'.cell? ⟨ra,pa + j * 12 + 8,none⟩ = some (.string pt1) ∧ w'.cell? ⟨ra,pa + j * 12 + 9,none⟩ = some (.int .i64 b1) ∧ w'.cell? ⟨ra,pa + j * 12 + 10,none⟩ = some (.slice ka1 ks1.length ka2) ∧ w'.cell? ⟨ra,pa + j * 12 + 11,none⟩ = some (.int .i64 aa1) ∧ w'.cell? ⟨rb,pb + j * 12,none⟩ = some (.string an) ∧ w'.cell? ⟨rb,pb + j * 12 + 1,none⟩ = some (.bool ao) ∧ w'.cell? ⟨rb,pb + j * 12 + 2,none⟩ = some (.string at1) ∧ w'.cell? ⟨rb,pb + j * 12 + 3,none⟩ = some (.int .i64 f1) ∧ w'.cell? ⟨rb,pb + j * 12 + 4,none⟩ = some (.int .i64 o1) ∧ w'.cell? ⟨rb,pb + j * 12 + 5,none⟩ = some (.int .i64 kd1) ∧ w'.cell? ⟨rb,pb + j * 12 + 6,none⟩ = some (.int .i64 m1) ∧ w'.cell? ⟨rb,pb + j * 12 + 7,none⟩ = some (.string nm1) ∧ w'.cell? ⟨rb,pb + j * 12 + 8,none⟩ = some (.string pt1) ∧ w'.cell? ⟨rb,pb + j * 12 + 9,none⟩ = some (.int .i64 b1) ∧ w'.cell? ⟨rb,pb + j * 12 + 10,none⟩ = some (.slice kb1 ks1.length kb2) ∧ w'.cell? ⟨rb,pb + j * 12 + 11,none⟩ = some (.int .i64 aa1) ∧ w'.cell? ⟨qa,5,none⟩ = some (.slice (some ⟨ra,pa,none⟩) as1.length xc2) ∧ w'.cell? ⟨qb,5,none⟩ = some (.slice (some ⟨rb,pb,none⟩) as1.length yc2)) ((((((((((((W5.setCell ⟨wc.heap.size + 1,0,none⟩ (.string an)).setCell ⟨wc.heap.size + 1,1,none⟩ (.bool ao)).setCell ⟨wc.heap.size + 1,2,none⟩ (.string at1)).setCell ⟨wc.heap.size + 1,3,none⟩ (.int .i64 f1)).setCell ⟨wc.heap.size + 1,4,none⟩ (.int .i64 o1)).setCell ⟨wc.heap.size + 1,5,none⟩ (.int .i64 kd1)).setCell ⟨wc.heap.size + 1,6,none⟩ (.int .i64 m1)).setCell ⟨wc.heap.size + 1,7,none⟩ (.string nm1)).setCell ⟨wc.heap.size + 1,8,none⟩ (.string pt1)).setCell ⟨wc.heap.size + 1,9,none⟩ (.int .i64 b1)).setCell ⟨wc.heap.size + 1,10,none⟩ (.slice ka1 ks1.length ka2)).setCell ⟨wc.heap.size + 1,11,none⟩ (.int .i64 aa1)).drew := by
         obtain ⟨h0,h1,h2,h3,h4,h5,h6,h7,h8,h9,h10,h11,h12,h13,h14,h15,h16,h17,h18,h19,h20,h21,h22,h23,h24,h25⟩ := hHW
         exact hDr _ ⟨cell_kp h0 gC nra,cell_kp h1 gC nra,cell_kp h2 gC nra,cell_kp h3 gC nra,cell_kp h4 gC nra,cell_kp h5 gC nra,cell_kp h6 gC nra,cell_kp h7 gC nra,cell_kp h8 gC nra,cell_kp h9 gC nra,cell_kp h10 gC nra,cell_kp h11 gC nra,cell_kp h12 gC nrb,cell_kp h13 gC nrb,cell_kp h14 gC nrb,cell_kp h15 gC nrb,cell_kp h16 gC nrb,cell_kp h17 gC nrb,cell_kp h18 gC nrb,cell_kp h19 gC nrb,cell_kp h20 gC nrb,cell_kp h21 gC nrb,cell_kp h22 gC nrb,cell_kp h23 gC nrb,cell_kp h24 gC ne0,cell_kp h25 gC ne1⟩
        refine wpAnyL_one (j := 12) (by kernel_rfl) rfl (fun K hK => ?_)
        go_simp
        refine hK.out _ _ (fun _ _ => hHW6) ?_
        clear hK K
        try simp only [Act.put,List.setIfInBounds_toArray,List.set_cons_zero,List.set_cons_succ]
        refine wpAnyL_one (j := 13) (by kernel_rfl) rfl (fun K hK => ?_)
        go_simp
        refine hK.out _ _ (fun h => absurd rfl h) ?_
        clear hK K
        try simp only [Act.put,List.setIfInBounds_toArray,List.set_cons_zero,List.set_cons_succ]
        refine wpAnyL_done (by kernel_rfl) ?_ _
        go_wp2_with fail
        go_meet
        exact ⟨wc.heap.size + 1,wc.heap.size,rfl,rfl,hidI ⟨by rw [drew_heap]; exact keptBut (gr12 (World.grownBy.refl _ _)) (box12 X2) (by omega),by rw [drew_heap]; exact box12 (keptBut (gr12 (World.grownBy.refl _ _)) X1 (by omega)),gr_drew (gr12n (gr12n gW (by omega)) (by omega))⟩⟩
     case rest =>
     clear xp xq xr xf xg xh yp yq yr yf yg yh
     rename World => wd
     obtain ⟨sa,sb,rfl,rfl,HCU⟩ := hcut
     obtain ⟨hsa,hsb,hgc⟩ := HCU.out
     clear HCU
     have G5 := hidI (gtn G4.out hgc)
     have HGB := hidI (gtn HGA.out hgc)
     clear hgc
     obtain ⟨up,uq,ur,uf,ug,uh⟩ := facts hsa
     obtain ⟨vp,vq,vr,vf,vg,vh⟩ := facts hsb
     go_wp2_with fail
     refine (cK.out _ G5.out).mono ?_
     rintro e w6 ⟨rfl,g0⟩
     have HGE := hidI (gtn HGB.out g0)
     clear g0
     go_wp2_with fail
     go_roundg (as1.length + 1 - (j + 1))
     case measure => omega
     case rel =>
      exact ⟨j + 1,by simp,⟨by omega,rfl⟩,HGE.out⟩
   have hlt2 : ¬ ((j : Int) < (as1.length : Int)) := by omega
   clear hg
   obtain ⟨xp,xq,xr,xf,xg,xh⟩ := facts A4.out
   obtain ⟨yp,yq,yr,yf,yg,yh⟩ := facts B4.out
   have LS3 : Hid (EsL wc ms1.length (ms1.length + 1) (.int .i64 0) wc) := ⟨0,rfl,⟨Nat.zero_le _,rfl⟩,World.grownBy.refl _ _⟩
   go_wp2_with fail
   go_loopg [11] (ms1.length + 1) (fun gk s11 wx => EsL wc ms1.length gk s11 wx)
   case atStart => exact LS3.out
   case round =>
    clear xp xq xr xf xg xh yp yq yr yf yg yh
    rename World => we
    obtain ⟨k,rfl,⟨hk1,hgkk⟩,hg⟩ := hrel
    have G5 := hidI (gtn G4.out hg)
    have A5 := hidI (kept hg A4.out)
    have B5 := hidI (kept hg B4.out)
    have HGE := hidI hg
    by_cases hk : k < ms1.length
    rotate_left
    · have hlt3 : ¬ ((k : Int) < (ms1.length : Int)) := by omega
      clear hg
      obtain ⟨xp,xq,xr,xf,xg,xh⟩ := facts A5.out
      obtain ⟨yp,yq,yr,yf,yg,yh⟩ := facts B5.out
      go_wp2_with fail
      go_roundg (l.length + 1 - (i + 1))
      case measure => omega
      case rel =>
       exact ⟨i + 1,by simp,⟨by omega,rfl⟩,G5.out⟩
    have hlt3 : ((k : Int) < (ms1.length : Int)) := by omega
    obtain ⟨ta,pa,c6,ka,ea,hn6,hta,hka,hca⟩ := HA3.out.pick mC_len (by omega) k hk
    obtain ⟨tb,pb,c7,kb,eb,_,htb,hkb,hcb⟩ := HB3.out.pick mC_len (by omega) k hk
    injection ea with ea1 ea2 ea3
    injection eb with eb1 eb2 eb3
    subst ea1 eb1 ea3 eb3
    have hI4 := HI3.out k hk
    obtain ⟨ka0,kaL,kaB⟩ := ka
    obtain ⟨kb0,kbL,kbB⟩ := kb
    have hka' : mS W ok ms1[k] (ka0,kaL,kaB) := hka
    have hkb' : mS W' okb ms1[k] (kb0,kbL,kbB) := hkb
    clear hka hkb
    generalize hE3 : ms1[k] = E3 at hca hcb hka' hkb' hI4
    obtain ⟨⟨f1,o1,kd1,m1,nm1,pt1,b1,ks1⟩,ls1,bd1⟩ := E3
    obtain ⟨⟨hX1,hX2⟩,hX3⟩ := hka'
    obtain ⟨⟨hY1,hY2⟩,hY3⟩ := hkb'
    simp only [PArm.e,PArm.labels,PArm.body,PE.kids] at hX1 hX2 hX3 hY1 hY2 hY3 hI4 hca hcb
    obtain ⟨ka1,ka2,rfl⟩ := hX1.sl
    obtain ⟨kb1,kb2,rfl⟩ := hY1.sl
    obtain ⟨la1,la2,rfl⟩ := hX2.sl
    obtain ⟨lb1,lb2,rfl⟩ := hY2.sl
    obtain ⟨da1,da2,rfl⟩ := hX3.slS
    obtain ⟨db1,db2,rfl⟩ := hY3.slS
    have cK : Hid (∀ U,W'.grownBy U none → Calls Tryz.prog 36 #[.agg #[.int .i64 f1,.int .i64 o1,.int .i64 kd1,.int .i64 m1,.string nm1,.string pt1,.int .i64 b1,.slice ka1 ks1.length ka2],.agg #[.int .i64 f1,.int .i64 o1,.int .i64 kd1,.int .i64 m1,.string nm1,.string pt1,.int .i64 b1,.slice kb1 ks1.length kb2]] U (yesG U)) := fun U hU => same_e U f1 o1 kd1 m1 nm1 pt1 b1 ka1 kb1 _ _ ka2 kb2 (fun U2 hU2 => same_es hX1 U2 (gtn (gtn HG.out hU) hU2) _ _ (hY1.gw (gtn hU hU2)))
    have cD : Hid (∀ U,W'.grownBy U none → Calls Tryz.prog 18 #[.slice da1 bd1.length da2,.slice db1 bd1.length db2] U (yesG U)) := fun U hU => hI4 _ hX3.ss U (gtn HG.out hU) _ _ (hY3.ss.gw hU)
    have HX2 := hidI hX2
    have HY2 := hidI hY2
    have hne4 : ((ls1.length : Int) != (ls1.length : Int)) = false := by simp
    clear hX1 hX2 hX3 hY1 hY2 hY3 hI4
    have hgW := gtn G4.out hg
    have hgV := gtn HG.out hgW
    have cta0 : we.cell? ⟨ta,pa + k * 10,none⟩ = some (.int .i64 f1) := by
     have h := hca 0 (by omega)
     rw [show pa + (k * 10 + 0) = pa + k * 10 by omega] at h
     exact (World.cell?_of_block (hgV.block ta (by omega) (by simp))).trans h
    have cta1 : we.cell? ⟨ta,pa + k * 10 + 1,none⟩ = some (.int .i64 o1) := by
     have h := hca 1 (by omega)
     rw [show pa + (k * 10 + 1) = pa + k * 10 + 1 by omega] at h
     exact (World.cell?_of_block (hgV.block ta (by omega) (by simp))).trans h
    have cta2 : we.cell? ⟨ta,pa + k * 10 + 2,none⟩ = some (.int .i64 kd1) := by
     have h := hca 2 (by omega)
     rw [show pa + (k * 10 + 2) = pa + k * 10 + 2 by omega] at h
     exact (World.cell?_of_block (hgV.block ta (by omega) (by simp))).trans h
    have cta3 : we.cell? ⟨ta,pa + k * 10 + 3,none⟩ = some (.int .i64 m1) := by
     have h := hca 3 (by omega)
     rw [show pa + (k * 10 + 3) = pa + k * 10 + 3 by omega] at h
     exact (World.cell?_of_block (hgV.block ta (by omega) (by simp))).trans h
    have cta4 : we.cell? ⟨ta,pa + k * 10 + 4,none⟩ = some (.string nm1) := by
     have h := hca 4 (by omega)
     rw [show pa + (k * 10 + 4) = pa + k * 10 + 4 by omega] at h
     exact (World.cell?_of_block (hgV.block ta (by omega) (by simp))).trans h
    have cta5 : we.cell? ⟨ta,pa + k * 10 + 5,none⟩ = some (.string pt1) := by
     have h := hca 5 (by omega)
     rw [show pa + (k * 10 + 5) = pa + k * 10 + 5 by omega] at h
     exact (World.cell?_of_block (hgV.block ta (by omega) (by simp))).trans h
    have cta6 : we.cell? ⟨ta,pa + k * 10 + 6,none⟩ = some (.int .i64 b1) := by
     have h := hca 6 (by omega)
     rw [show pa + (k * 10 + 6) = pa + k * 10 + 6 by omega] at h
     exact (World.cell?_of_block (hgV.block ta (by omega) (by simp))).trans h
    have cta7 : we.cell? ⟨ta,pa + k * 10 + 7,none⟩ = some (.slice ka1 ks1.length ka2) := by
     have h := hca 7 (by omega)
     rw [show pa + (k * 10 + 7) = pa + k * 10 + 7 by omega] at h
     exact (World.cell?_of_block (hgV.block ta (by omega) (by simp))).trans h
    have cta8 : we.cell? ⟨ta,pa + k * 10 + 8,none⟩ = some (.slice la1 ls1.length la2) := by
     have h := hca 8 (by omega)
     rw [show pa + (k * 10 + 8) = pa + k * 10 + 8 by omega] at h
     exact (World.cell?_of_block (hgV.block ta (by omega) (by simp))).trans h
    have cta9 : we.cell? ⟨ta,pa + k * 10 + 9,none⟩ = some (.slice da1 bd1.length da2) := by
     have h := hca 9 (by omega)
     rw [show pa + (k * 10 + 9) = pa + k * 10 + 9 by omega] at h
     exact (World.cell?_of_block (hgV.block ta (by omega) (by simp))).trans h
    have ctb0 : we.cell? ⟨tb,pb + k * 10,none⟩ = some (.int .i64 f1) := by
     have h := hcb 0 (by omega)
     rw [show pb + (k * 10 + 0) = pb + k * 10 by omega] at h
     exact (World.cell?_of_block (hgW.block tb (by omega) (by simp))).trans h
    have ctb1 : we.cell? ⟨tb,pb + k * 10 + 1,none⟩ = some (.int .i64 o1) := by
     have h := hcb 1 (by omega)
     rw [show pb + (k * 10 + 1) = pb + k * 10 + 1 by omega] at h
     exact (World.cell?_of_block (hgW.block tb (by omega) (by simp))).trans h
    have ctb2 : we.cell? ⟨tb,pb + k * 10 + 2,none⟩ = some (.int .i64 kd1) := by
     have h := hcb 2 (by omega)
     rw [show pb + (k * 10 + 2) = pb + k * 10 + 2 by omega] at h
     exact (World.cell?_of_block (hgW.block tb (by omega) (by simp))).trans h
    have ctb3 : we.cell? ⟨tb,pb + k * 10 + 3,none⟩ = some (.int .i64 m1) := by
     have h := hcb 3 (by omega)
     rw [show pb + (k * 10 + 3) = pb + k * 10 + 3 by omega] at h
     exact (World.cell?_of_block (hgW.block tb (by omega) (by simp))).trans h
    have ctb4 : we.cell? ⟨tb,pb + k * 10 + 4,none⟩ = some (.string nm1) := by
     have h := hcb 4 (by omega)
     rw [show pb + (k * 10 + 4) = pb + k * 10 + 4 by omega] at h
     exact (World.cell?_of_block (hgW.block tb (by omega) (by simp))).trans h
    have ctb5 : we.cell? ⟨tb,pb + k * 10 + 5,none⟩ = some (.string pt1) := by
     have h := hcb 5 (by omega)
     rw [show pb + (k * 10 + 5) = pb + k * 10 + 5 by omega] at h
     exact (World.cell?_of_block (hgW.block tb (by omega) (by simp))).trans h
    have ctb6 : we.cell? ⟨tb,pb + k * 10 + 6,none⟩ = some (.int .i64 b1) := by
     have h := hcb 6 (by omega)
     rw [show pb + (k * 10 + 6) = pb + k * 10 + 6 by omega] at h
     exact (World.cell?_of_block (hgW.block tb (by omega) (by simp))).trans h
    have ctb7 : we.cell? ⟨tb,pb + k * 10 + 7,none⟩ = some (.slice kb1 ks1.length kb2) := by
     have h := hcb 7 (by omega)
     rw [show pb + (k * 10 + 7) = pb + k * 10 + 7 by omega] at h
     exact (World.cell?_of_block (hgW.block tb (by omega) (by simp))).trans h
    have ctb8 : we.cell? ⟨tb,pb + k * 10 + 8,none⟩ = some (.slice lb1 ls1.length lb2) := by
     have h := hcb 8 (by omega)
     rw [show pb + (k * 10 + 8) = pb + k * 10 + 8 by omega] at h
     exact (World.cell?_of_block (hgW.block tb (by omega) (by simp))).trans h
    have ctb9 : we.cell? ⟨tb,pb + k * 10 + 9,none⟩ = some (.slice db1 bd1.length db2) := by
     have h := hcb 9 (by omega)
     rw [show pb + (k * 10 + 9) = pb + k * 10 + 9 by omega] at h
     exact (World.cell?_of_block (hgW.block tb (by omega) (by simp))).trans h
    have hta2 : ta < we.heap.size := by have := hgV.size; omega
    have htb2 : tb < we.heap.size := by have := hgW.size; omega
    have hqa2 : qa < we.heap.size := at_lt A5.out
    have hqb2 : qb < we.heap.size := at_lt B5.out
    have e0 : we.cell? ⟨qa,6,none⟩ = some (.slice (some ⟨ta,pa,none⟩) ms1.length xc3) := by simpa using at_cell A5.out 6
    have e1 : we.cell? ⟨qb,6,none⟩ = some (.slice (some ⟨tb,pb,none⟩) ms1.length yc3) := by simpa using at_cell B5.out 6
    have hwk : IntKind.i64.wrap ((k : Int) + 1) = k + 1 := IntWalk.i64_in _ (by omega)
    clear hg hgW hgV hca hcb
    obtain ⟨xp,xq,xr,xf,xg,xh⟩ := facts A5.out
    obtain ⟨yp,yq,yr,yf,yg,yh⟩ := facts B5.out
    go_upto_region 20 with fail
    go_cut [12,13] from 186 to 195 (fun s12 s13 wx => ∃ qa qb : Nat,s12 = .pointer (some ⟨qa,0,none⟩) ∧ s13 = .pointer (some ⟨qb,0,none⟩) ∧ Hid (wx.heap[qa]? = some (.cells #[.int .i64 f1,.int .i64 o1,.int .i64 kd1,.int .i64 m1,.string nm1,.string pt1,.int .i64 b1,.slice ka1 ks1.length ka2,.slice la1 ls1.length la2,.slice da1 bd1.length da2] 100) ∧ wx.heap[qb]? = some (.cells #[.int .i64 f1,.int .i64 o1,.int .i64 kd1,.int .i64 m1,.string nm1,.string pt1,.int .i64 b1,.slice kb1 ks1.length kb2,.slice lb1 ls1.length lb2,.slice db1 bd1.length db2] 100) ∧ we.grownBy wx none))
    case first =>
     have hHeld0 : (fun w' : World => w'.cell? ⟨ta,pa + k * 10,none⟩ = some (.int .i64 f1) ∧ w'.cell? ⟨ta,pa + k * 10 + 1,none⟩ = some (.int .i64 o1) ∧ w'.cell? ⟨ta,pa + k * 10 + 2,none⟩ = some (.int .i64 kd1) ∧ w'.cell? ⟨ta,pa + k * 10 + 3,none⟩ = some (.int .i64 m1) ∧ w'.cell? ⟨ta,pa + k * 10 + 4,none⟩ = some (.string nm1) ∧ w'.cell? ⟨ta,pa + k * 10 + 5,none⟩ = some (.string pt1) ∧ w'.cell? ⟨ta,pa + k * 10 + 6,none⟩ = some (.int .i64 b1) ∧ w'.cell? ⟨ta,pa + k * 10 + 7,none⟩ = some (.slice ka1 ks1.length ka2) ∧ w'.cell? ⟨ta,pa + k * 10 + 8,none⟩ = some (.slice la1 ls1.length la2) ∧ w'.cell? ⟨ta,pa + k * 10 + 9,none⟩ = some (.slice da1 bd1.length da2) ∧ w'.cell? ⟨tb,pb + k * 10,none⟩ = some (.int .i64 f1) ∧ w'.cell? ⟨tb,pb + k * 10 + 1,none⟩ = some (.int .i64 o1) ∧ w'.cell? ⟨tb,pb + k * 10 + 2,none⟩ = some (.int .i64 kd1) ∧ w'.cell? ⟨tb,pb + k * 10 + 3,none⟩ = some (.int .i64 m1) ∧ w'.cell? ⟨tb,pb + k * 10 + 4,none⟩ = some (.string nm1) ∧ w'.cell? ⟨tb,pb + k * 10 + 5,none⟩ = some (.string pt1) ∧ w'.cell? ⟨tb,pb + k * 10 + 6,none⟩ = some (.int .i64 b1) ∧ w'.cell? ⟨tb,pb + k * 10 + 7,none⟩ = some (.slice kb1 ks1.length kb2) ∧ w'.cell? ⟨tb,pb + k * 10 + 8,none⟩ = some (.slice lb1 ls1.length lb2) ∧ w'.cell? ⟨tb,pb + k * 10 + 9,none⟩ = some (.slice db1 bd1.length db2) ∧ w'.cell? ⟨qa,6,none⟩ = some (.slice (some ⟨ta,pa,none⟩) ms1.length xc3) ∧ w'.cell? ⟨qb,6,none⟩ = some (.slice (some ⟨tb,pb,none⟩) ms1.length yc3)) we := ⟨cta0,cta1,cta2,cta3,cta4,cta5,cta6,cta7,cta8,cta9,ctb0,ctb1,ctb2,ctb3,ctb4,ctb5,ctb6,ctb7,ctb8,ctb9,e0,e1⟩
     have hDr : ∀ (W : World),(fun w' : World => w'.cell? ⟨ta,pa + k * 10,none⟩ = some (.int .i64 f1) ∧ w'.cell? ⟨ta,pa + k * 10 + 1,none⟩ = some (.int .i64 o1) ∧ w'.cell? ⟨ta,pa + k * 10 + 2,none⟩ = some (.int .i64 kd1) ∧ w'.cell? ⟨ta,pa + k * 10 + 3,none⟩ = some (.int .i64 m1) ∧ w'.cell? ⟨ta,pa + k * 10 + 4,none⟩ = some (.string nm1) ∧ w'.cell? ⟨ta,pa + k * 10 + 5,none⟩ = some (.string pt1) ∧ w'.cell? ⟨ta,pa + k * 10 + 6,none⟩ = some (.int .i64 b1) ∧ w'.cell? ⟨ta,pa + k * 10 + 7,none⟩ = some (.slice ka1 ks1.length ka2) ∧ w'.cell? ⟨ta,pa + k * 10 + 8,none⟩ = some (.slice la1 ls1.length la2) ∧ w'.cell? ⟨ta,pa + k * 10 + 9,none⟩ = some (.slice da1 bd1.length da2) ∧ w'.cell? ⟨tb,pb + k * 10,none⟩ = some (.int .i64 f1) ∧ w'.cell? ⟨tb,pb + k * 10 + 1,none⟩ = some (.int .i64 o1) ∧ w'.cell? ⟨tb,pb + k * 10 + 2,none⟩ = some (.int .i64 kd1) ∧ w'.cell? ⟨tb,pb + k * 10 + 3,none⟩ = some (.int .i64 m1) ∧ w'.cell? ⟨tb,pb + k * 10 + 4,none⟩ = some (.string nm1) ∧ w'.cell? ⟨tb,pb + k * 10 + 5,none⟩ = some (.string pt1) ∧ w'.cell? ⟨tb,pb + k * 10 + 6,none⟩ = some (.int .i64 b1) ∧ w'.cell? ⟨tb,pb + k * 10 + 7,none⟩ = some (.slice kb1 ks1.length kb2) ∧ w'.cell? ⟨tb,pb + k * 10 + 8,none⟩ = some (.slice lb1 ls1.length lb2) ∧ w'.cell? ⟨tb,pb + k * 10 + 9,none⟩ = some (.slice db1 bd1.length db2) ∧ w'.cell? ⟨qa,6,none⟩ = some (.slice (some ⟨ta,pa,none⟩) ms1.length xc3) ∧ w'.cell? ⟨qb,6,none⟩ = some (.slice (some ⟨tb,pb,none⟩) ms1.length yc3)) W → (fun w' : World => w'.cell? ⟨ta,pa + k * 10,none⟩ = some (.int .i64 f1) ∧ w'.cell? ⟨ta,pa + k * 10 + 1,none⟩ = some (.int .i64 o1) ∧ w'.cell? ⟨ta,pa + k * 10 + 2,none⟩ = some (.int .i64 kd1) ∧ w'.cell? ⟨ta,pa + k * 10 + 3,none⟩ = some (.int .i64 m1) ∧ w'.cell? ⟨ta,pa + k * 10 + 4,none⟩ = some (.string nm1) ∧ w'.cell? ⟨ta,pa + k * 10 + 5,none⟩ = some (.string pt1) ∧ w'.cell? ⟨ta,pa + k * 10 + 6,none⟩ = some (.int .i64 b1) ∧ w'.cell? ⟨ta,pa + k * 10 + 7,none⟩ = some (.slice ka1 ks1.length ka2) ∧ w'.cell? ⟨ta,pa + k * 10 + 8,none⟩ = some (.slice la1 ls1.length la2) ∧ w'.cell? ⟨ta,pa + k * 10 + 9,none⟩ = some (.slice da1 bd1.length da2) ∧ w'.cell? ⟨tb,pb + k * 10,none⟩ = some (.int .i64 f1) ∧ w'.cell? ⟨tb,pb + k * 10 + 1,none⟩ = some (.int .i64 o1) ∧ w'.cell? ⟨tb,pb + k * 10 + 2,none⟩ = some (.int .i64 kd1) ∧ w'.cell? ⟨tb,pb + k * 10 + 3,none⟩ = some (.int .i64 m1) ∧ w'.cell? ⟨tb,pb + k * 10 + 4,none⟩ = some (.string nm1) ∧ w'.cell? ⟨tb,pb + k * 10 + 5,none⟩ = some (.string pt1) ∧ w'.cell? ⟨tb,pb + k * 10 + 6,none⟩ = some (.int .i64 b1) ∧ w'.cell? ⟨tb,pb + k * 10 + 7,none⟩ = some (.slice kb1 ks1.length kb2) ∧ w'.cell? ⟨tb,pb + k * 10 + 8,none⟩ = some (.slice lb1 ls1.length lb2) ∧ w'.cell? ⟨tb,pb + k * 10 + 9,none⟩ = some (.slice db1 bd1.length db2) ∧ w'.cell? ⟨qa,6,none⟩ = some (.slice (some ⟨ta,pa,none⟩) ms1.length xc3) ∧ w'.cell? ⟨qb,6,none⟩ = some (.slice (some ⟨tb,pb,none⟩) ms1.length yc3)) W.drew := by
      rintro W ⟨h0,h1,h2,h3,h4,h5,h6,h7,h8,h9,h10,h11,h12,h13,h14,h15,h16,h17,h18,h19,h20,h21⟩
      exact ⟨h0,h1,h2,h3,h4,h5,h6,h7,h8,h9,h10,h11,h12,h13,h14,h15,h16,h17,h18,h19,h20,h21⟩
     have hHeld := hDr _ hHeld0
     have hOld : ∀ (W : World) (obj : Obj),(fun w' : World => w'.cell? ⟨ta,pa + k * 10,none⟩ = some (.int .i64 f1) ∧ w'.cell? ⟨ta,pa + k * 10 + 1,none⟩ = some (.int .i64 o1) ∧ w'.cell? ⟨ta,pa + k * 10 + 2,none⟩ = some (.int .i64 kd1) ∧ w'.cell? ⟨ta,pa + k * 10 + 3,none⟩ = some (.int .i64 m1) ∧ w'.cell? ⟨ta,pa + k * 10 + 4,none⟩ = some (.string nm1) ∧ w'.cell? ⟨ta,pa + k * 10 + 5,none⟩ = some (.string pt1) ∧ w'.cell? ⟨ta,pa + k * 10 + 6,none⟩ = some (.int .i64 b1) ∧ w'.cell? ⟨ta,pa + k * 10 + 7,none⟩ = some (.slice ka1 ks1.length ka2) ∧ w'.cell? ⟨ta,pa + k * 10 + 8,none⟩ = some (.slice la1 ls1.length la2) ∧ w'.cell? ⟨ta,pa + k * 10 + 9,none⟩ = some (.slice da1 bd1.length da2) ∧ w'.cell? ⟨tb,pb + k * 10,none⟩ = some (.int .i64 f1) ∧ w'.cell? ⟨tb,pb + k * 10 + 1,none⟩ = some (.int .i64 o1) ∧ w'.cell? ⟨tb,pb + k * 10 + 2,none⟩ = some (.int .i64 kd1) ∧ w'.cell? ⟨tb,pb + k * 10 + 3,none⟩ = some (.int .i64 m1) ∧ w'.cell? ⟨tb,pb + k * 10 + 4,none⟩ = some (.string nm1) ∧ w'.cell? ⟨tb,pb + k * 10 + 5,none⟩ = some (.string pt1) ∧ w'.cell? ⟨tb,pb + k * 10 + 6,none⟩ = some (.int .i64 b1) ∧ w'.cell? ⟨tb,pb + k * 10 + 7,none⟩ = some (.slice kb1 ks1.length kb2) ∧ w'.cell? ⟨tb,pb + k * 10 + 8,none⟩ = some (.slice lb1 ls1.length lb2) ∧ w'.cell? ⟨tb,pb + k * 10 + 9,none⟩ = some (.slice db1 bd1.length db2) ∧ w'.cell? ⟨qa,6,none⟩ = some (.slice (some ⟨ta,pa,none⟩) ms1.length xc3) ∧ w'.cell? ⟨qb,6,none⟩ = some (.slice (some ⟨tb,pb,none⟩) ms1.length yc3)) W → (fun w' : World => w'.cell? ⟨ta,pa + k * 10,none⟩ = some (.int .i64 f1) ∧ w'.cell? ⟨ta,pa + k * 10 + 1,none⟩ = some (.int .i64 o1) ∧ w'.cell? ⟨ta,pa + k * 10 + 2,none⟩ = some (.int .i64 kd1) ∧ w'.cell? ⟨ta,pa + k * 10 + 3,none⟩ = some (.int .i64 m1) ∧ w'.cell? ⟨ta,pa + k * 10 + 4,none⟩ = some (.string nm1) ∧ w'.cell? ⟨ta,pa + k * 10 + 5,none⟩ = some (.string pt1) ∧ w'.cell? ⟨ta,pa + k * 10 + 6,none⟩ = some (.int .i64 b1) ∧ w'.cell? ⟨ta,pa + k * 10 + 7,none⟩ = some (.slice ka1 ks1.length ka2) ∧ w'.cell? ⟨ta,pa + k * 10 + 8,none⟩ = some (.slice la1 ls1.length la2) ∧ w'.cell? ⟨ta,pa + k * 10 + 9,none⟩ = some (.slice da1 bd1.length da2) ∧ w'.cell? ⟨tb,pb + k * 10,none⟩ = some (.int .i64 f1) ∧ w'.cell? ⟨tb,pb + k * 10 + 1,none⟩ = some (.int .i64 o1) ∧ w'.cell? ⟨tb,pb + k * 10 + 2,none⟩ = some (.int .i64 kd1) ∧ w'.cell? ⟨tb,pb + k * 10 + 3,none⟩ = some (.int .i64 m1) ∧ w'.cell? ⟨tb,pb + k * 10 + 4,none⟩ = some (.string nm1) ∧ w'.cell? ⟨tb,pb + k * 10 + 5,none⟩ = some (.string pt1) ∧ w'.cell? ⟨tb,pb + k * 10 + 6,none⟩ = some (.int .i64 b1) ∧ w'.cell? ⟨tb,pb + k * 10 + 7,none⟩ = some (.slice kb1 ks1.length kb2) ∧ w'.cell? ⟨tb,pb + k * 10 + 8,none⟩ = some (.slice lb1 ls1.length lb2) ∧ w'.cell? ⟨tb,pb + k * 10 + 9,none⟩ = some (.slice db1 bd1.length db2) ∧ w'.cell? ⟨qa,6,none⟩ = some (.slice (some ⟨ta,pa,none⟩) ms1.length xc3) ∧ w'.cell? ⟨qb,6,none⟩ = some (.slice (some ⟨tb,pb,none⟩) ms1.length yc3)) (W.alloc obj) := by
      rintro W obj ⟨h0,h1,h2,h3,h4,h5,h6,h7,h8,h9,h10,h11,h12,h13,h14,h15,h16,h17,h18,h19,h20,h21⟩
      exact ⟨cell_al h0,cell_al h1,cell_al h2,cell_al h3,cell_al h4,cell_al h5,cell_al h6,cell_al h7,cell_al h8,cell_al h9,cell_al h10,cell_al h11,cell_al h12,cell_al h13,cell_al h14,cell_al h15,cell_al h16,cell_al h17,cell_al h18,cell_al h19,cell_al h20,cell_al h21⟩
     clear cta0 cta1 cta2 cta3 cta4 cta5 cta6 cta7 cta8 cta9 ctb0 ctb1 ctb2 ctb3 ctb4 ctb5 ctb6 ctb7 ctb8 ctb9 e0 e1
     refine wp_region_L (L := 13) (S := (fun w' : World => w'.cell? ⟨ta,pa + k * 10,none⟩ = some (.int .i64 f1) ∧ w'.cell? ⟨ta,pa + k * 10 + 1,none⟩ = some (.int .i64 o1) ∧ w'.cell? ⟨ta,pa + k * 10 + 2,none⟩ = some (.int .i64 kd1) ∧ w'.cell? ⟨ta,pa + k * 10 + 3,none⟩ = some (.int .i64 m1) ∧ w'.cell? ⟨ta,pa + k * 10 + 4,none⟩ = some (.string nm1) ∧ w'.cell? ⟨ta,pa + k * 10 + 5,none⟩ = some (.string pt1) ∧ w'.cell? ⟨ta,pa + k * 10 + 6,none⟩ = some (.int .i64 b1) ∧ w'.cell? ⟨ta,pa + k * 10 + 7,none⟩ = some (.slice ka1 ks1.length ka2) ∧ w'.cell? ⟨ta,pa + k * 10 + 8,none⟩ = some (.slice la1 ls1.length la2) ∧ w'.cell? ⟨ta,pa + k * 10 + 9,none⟩ = some (.slice da1 bd1.length da2) ∧ w'.cell? ⟨tb,pb + k * 10,none⟩ = some (.int .i64 f1) ∧ w'.cell? ⟨tb,pb + k * 10 + 1,none⟩ = some (.int .i64 o1) ∧ w'.cell? ⟨tb,pb + k * 10 + 2,none⟩ = some (.int .i64 kd1) ∧ w'.cell? ⟨tb,pb + k * 10 + 3,none⟩ = some (.int .i64 m1) ∧ w'.cell? ⟨tb,pb + k * 10 + 4,none⟩ = some (.string nm1) ∧ w'.cell? ⟨tb,pb + k * 10 + 5,none⟩ = some (.string pt1) ∧ w'.cell? ⟨tb,pb + k * 10 + 6,none⟩ = some (.int .i64 b1) ∧ w'.cell? ⟨tb,pb + k * 10 + 7,none⟩ = some (.slice kb1 ks1.length kb2) ∧ w'.cell? ⟨tb,pb + k * 10 + 8,none⟩ = some (.slice lb1 ls1.length lb2) ∧ w'.cell? ⟨tb,pb + k * 10 + 9,none⟩ = some (.slice db1 bd1.length db2) ∧ w'.cell? ⟨qa,6,none⟩ = some (.slice (some ⟨ta,pa,none⟩) ms1.length xc3) ∧ w'.cell? ⟨qb,6,none⟩ = some (.slice (some ⟨tb,pb,none⟩) ms1.length yc3))) (by kernel_rfl) ?_
     refine wpAnyL_free (i := 0) (v := ?_) rfl (by kernel_rfl) (by kernel_rfl) (by kernel_rfl) (fun _ _ _ h => h) (by decide) (Or.inl ⟨by rfl,?_⟩) (fun _ => hHeld) ?_
     rotate_left
     · intro w hSw
       go_simp
       try with_reducible rfl
     try simp only [Act.put,List.setIfInBounds_toArray,List.set_cons_zero,List.set_cons_succ]
     refine wpAnyL_take (i := 1) (v := ?_) rfl (by kernel_rfl) (by kernel_rfl) (by kernel_rfl) (fun _ _ _ h => h) (by kernel_rfl) (by kernel_rfl) (Or.inl ⟨by rfl,?_⟩) hHeld ?_
     rotate_left
     · intro w hSw
       try dsimp only at hSw
       go_simp
       try with_reducible rfl
     try simp only [Act.put,List.setIfInBounds_toArray,List.set_cons_zero,List.set_cons_succ]
     refine wpAnyL_free (i := 2) (v := ?_) rfl (by kernel_rfl) (by kernel_rfl) (by kernel_rfl) (fun _ _ _ h => h) (by decide) (Or.inl ⟨by rfl,?_⟩) (fun _ => hHeld) ?_
     rotate_left
     · intro w hSw
       go_simp
       try with_reducible rfl
     try simp only [Act.put,List.setIfInBounds_toArray,List.set_cons_zero,List.set_cons_succ]
     refine wpAnyL_free (i := 3) (v := ?_) rfl (by kernel_rfl) (by kernel_rfl) (by kernel_rfl) (fun _ _ _ h => h) (by decide) (Or.inl ⟨by rfl,?_⟩) (fun _ => hHeld) ?_
     rotate_left
     · intro w hSw
       go_simp
       try with_reducible rfl
     try simp only [Act.put,List.setIfInBounds_toArray,List.set_cons_zero,List.set_cons_succ]
     refine wpAnyL_take (i := 4) (v := ?_) rfl (by kernel_rfl) (by kernel_rfl) (by kernel_rfl) (fun _ _ _ h => h) (by kernel_rfl) (by kernel_rfl) (Or.inl ⟨by rfl,?_⟩) hHeld ?_
     rotate_left
     · intro w hSw
       try dsimp only at hSw
       go_simp
       try with_reducible rfl
     try simp only [Act.put,List.setIfInBounds_toArray,List.set_cons_zero,List.set_cons_succ]
     refine wpAnyL_free (i := 5) (v := ?_) rfl (by kernel_rfl) (by kernel_rfl) (by kernel_rfl) (fun _ _ _ h => h) (by decide) (Or.inl ⟨by rfl,?_⟩) (fun _ => hHeld) ?_
     rotate_left
     · intro w hSw
       go_simp
       try with_reducible rfl
     try simp only [Act.put,List.setIfInBounds_toArray,List.set_cons_zero,List.set_cons_succ]
     refine wpAnyL_take (i := 6) (v := ?_) rfl (by kernel_rfl) (by kernel_rfl) (by kernel_rfl) (fun _ _ _ h => h) (by kernel_rfl) (by kernel_rfl) (Or.inl ⟨by rfl,?_⟩) hHeld ?_
     rotate_left
     · intro w hSw
       try dsimp only at hSw
       go_simp
       try with_reducible rfl
     try simp only [Act.put,List.setIfInBounds_toArray,List.set_cons_zero,List.set_cons_succ]
     refine wpAnyL_free (i := 7) (v := ?_) rfl (by kernel_rfl) (by kernel_rfl) (by kernel_rfl) (fun _ _ _ h => h) (by decide) (Or.inl ⟨by rfl,?_⟩) (fun _ => hHeld) ?_
     rotate_left
     · intro w hSw
       go_simp
       try with_reducible rfl
     try simp only [Act.put,List.setIfInBounds_toArray,List.set_cons_zero,List.set_cons_succ]
     refine wpAnyL_free (i := 8) (v := ?_) rfl (by kernel_rfl) (by kernel_rfl) (by kernel_rfl) (fun _ _ _ h => h) (by decide) (Or.inl ⟨by rfl,?_⟩) (fun _ => hHeld) ?_
     rotate_left
     · intro w hSw
       go_simp
       try with_reducible rfl
     try simp only [Act.put,List.setIfInBounds_toArray,List.set_cons_zero,List.set_cons_succ]
     refine wpAnyL_take (i := 9) (v := ?_) rfl (by kernel_rfl) (by kernel_rfl) (by kernel_rfl) (fun _ _ _ h => h) (by kernel_rfl) (by kernel_rfl) (Or.inl ⟨by rfl,?_⟩) hHeld ?_
     rotate_left
     · intro w hSw
       try dsimp only at hSw
       go_simp
       try with_reducible rfl
     try simp only [Act.put,List.setIfInBounds_toArray,List.set_cons_zero,List.set_cons_succ]
     refine wpAnyL_two (i := 10) (j := 11) (by kernel_rfl) rfl rfl (fun K hK => ?_) (fun K hK => ?_)
     · skip
       go_simp
       refine hK.out _ _ (fun _ _ => hDr _ (hOld _ _ hHeld0)) ?_
       clear hK K
       try simp only [Act.put,List.setIfInBounds_toArray,List.set_cons_zero,List.set_cons_succ]
       refine wpAnyL_one (j := 11) (by kernel_rfl) rfl (fun K hK => ?_)
       go_simp
       refine hK.out _ _ (fun _ _ => hDr _ (hOld _ _ (hOld _ _ hHeld0))) ?_
       clear hK K
       try simp only [Act.put,List.setIfInBounds_toArray,List.set_cons_zero,List.set_cons_succ]
       obtain ⟨W5,hW5⟩ : ∃ W : World,W = (we.alloc (.cells #[.int .i64 0,.int .i64 0,.int .i64 0,.int .i64 0,.string ⟨#[]⟩,.string ⟨#[]⟩,.int .i64 0,.slice none 0 0,.slice none 0 0,.slice none 0 0] 100)).alloc (.cells #[.int .i64 0,.int .i64 0,.int .i64 0,.int .i64 0,.string ⟨#[]⟩,.string ⟨#[]⟩,.int .i64 0,.slice none 0 0,.slice none 0 0,.slice none 0 0] 100) := ⟨_,rfl⟩
       have X1 : W5.heap[we.heap.size]? = some (.cells #[.int .i64 0,.int .i64 0,.int .i64 0,.int .i64 0,.string ⟨#[]⟩,.string ⟨#[]⟩,.int .i64 0,.slice none 0 0,.slice none 0 0,.slice none 0 0] 100) := by rw [hW5]; exact old (new _ _) _
       have X2 : W5.heap[we.heap.size + 1]? = some (.cells #[.int .i64 0,.int .i64 0,.int .i64 0,.int .i64 0,.string ⟨#[]⟩,.string ⟨#[]⟩,.int .i64 0,.slice none 0 0,.slice none 0 0,.slice none 0 0] 100) := by rw [hW5]; exact hp_new (by simp) _
       have gW : we.grownBy W5 none := by rw [hW5]; exact gr_alloc (gr1 _ _) _
       have hHW : (fun w' : World => w'.cell? ⟨ta,pa + k * 10,none⟩ = some (.int .i64 f1) ∧ w'.cell? ⟨ta,pa + k * 10 + 1,none⟩ = some (.int .i64 o1) ∧ w'.cell? ⟨ta,pa + k * 10 + 2,none⟩ = some (.int .i64 kd1) ∧ w'.cell? ⟨ta,pa + k * 10 + 3,none⟩ = some (.int .i64 m1) ∧ w'.cell? ⟨ta,pa + k * 10 + 4,none⟩ = some (.string nm1) ∧ w'.cell? ⟨ta,pa + k * 10 + 5,none⟩ = some (.string pt1) ∧ w'.cell? ⟨ta,pa + k * 10 + 6,none⟩ = some (.int .i64 b1) ∧ w'.cell? ⟨ta,pa + k * 10 + 7,none⟩ = some (.slice ka1 ks1.length ka2) ∧ w'.cell? ⟨ta,pa + k * 10 + 8,none⟩ = some (.slice la1 ls1.length la2) ∧ w'.cell? ⟨ta,pa + k * 10 + 9,none⟩ = some (.slice da1 bd1.length da2) ∧ w'.cell? ⟨tb,pb + k * 10,none⟩ = some (.int .i64 f1) ∧ w'.cell? ⟨tb,pb + k * 10 + 1,none⟩ = some (.int .i64 o1) ∧ w'.cell? ⟨tb,pb + k * 10 + 2,none⟩ = some (.int .i64 kd1) ∧ w'.cell? ⟨tb,pb + k * 10 + 3,none⟩ = some (.int .i64 m1) ∧ w'.cell? ⟨tb,pb + k * 10 + 4,none⟩ = some (.string nm1) ∧ w'.cell? ⟨tb,pb + k * 10 + 5,none⟩ = some (.string pt1) ∧ w'.cell? ⟨tb,pb + k * 10 + 6,none⟩ = some (.int .i64 b1) ∧ w'.cell? ⟨tb,pb + k * 10 + 7,none⟩ = some (.slice kb1 ks1.length kb2) ∧ w'.cell? ⟨tb,pb + k * 10 + 8,none⟩ = some (.slice lb1 ls1.length lb2) ∧ w'.cell? ⟨tb,pb + k * 10 + 9,none⟩ = some (.slice db1 bd1.length db2) ∧ w'.cell? ⟨qa,6,none⟩ = some (.slice (some ⟨ta,pa,none⟩) ms1.length xc3) ∧ w'.cell? ⟨qb,6,none⟩ = some (.slice (some ⟨tb,pb,none⟩) ms1.length yc3)) W5 := by rw [hW5]; exact hOld _ _ (hOld _ _ hHeld0)
       change wpAnyL _ _ _ _ _ _ _ _ _ ((we.alloc (.cells #[.int .i64 0,.int .i64 0,.int .i64 0,.int .i64 0,.string ⟨#[]⟩,.string ⟨#[]⟩,.int .i64 0,.slice none 0 0,.slice none 0 0,.slice none 0 0] 100)).alloc (.cells #[.int .i64 0,.int .i64 0,.int .i64 0,.int .i64 0,.string ⟨#[]⟩,.string ⟨#[]⟩,.int .i64 0,.slice none 0 0,.slice none 0 0,.slice none 0 0] 100)).drew
       rw [← hW5]
       clear hW5 hHeld hHeld0
       obtain ⟨xp,xq,xr,xf,xg,xh⟩ := facts X1
       obtain ⟨yp,yq,yr,yf,yg,yh⟩ := facts X2
       have nq : we.heap.size ≠ we.heap.size + 1 := by omega
       have nq2 : we.heap.size + 1 ≠ we.heap.size := by omega
       have gC : W5.grownBy ((((((((((W5.setCell ⟨we.heap.size,0,none⟩ (.int .i64 f1)).setCell ⟨we.heap.size,1,none⟩ (.int .i64 o1)).setCell ⟨we.heap.size,2,none⟩ (.int .i64 kd1)).setCell ⟨we.heap.size,3,none⟩ (.int .i64 m1)).setCell ⟨we.heap.size,4,none⟩ (.string nm1)).setCell ⟨we.heap.size,5,none⟩ (.string pt1)).setCell ⟨we.heap.size,6,none⟩ (.int .i64 b1)).setCell ⟨we.heap.size,7,none⟩ (.slice ka1 ks1.length ka2)).setCell ⟨we.heap.size,8,none⟩ (.slice la1 ls1.length la2)).setCell ⟨we.heap.size,9,none⟩ (.slice da1 bd1.length da2)) (some (we.heap.size)) := gr10 (World.grownBy.refl W5 _)
       have nta : ta ≠ we.heap.size := by omega
       have ntb : tb ≠ we.heap.size := by omega
       have ne0 : qa ≠ we.heap.size := by omega
       have ne1 : qb ≠ we.heap.size := by omega
       have hHW6 : (fun w' : World => w'.cell? ⟨ta,pa + k * 10,none⟩ = some (.int .i64 f1) ∧ w'.cell? ⟨ta,pa + k * 10 + 1,none⟩ = some (.int .i64 o1) ∧ w'.cell? ⟨ta,pa + k * 10 + 2,none⟩ = some (.int .i64 kd1) ∧ w'.cell? ⟨ta,pa + k * 10 + 3,none⟩ = some (.int .i64 m1) ∧ w'.cell? ⟨ta,pa + k * 10 + 4,none⟩ = some (.string nm1) ∧ w'.cell? ⟨ta,pa + k * 10 + 5,none⟩ = some (.string pt1) ∧ w'.cell? ⟨ta,pa + k * 10 + 6,none⟩ = some (.int .i64 b1) ∧ w'.cell? ⟨ta,pa + k * 10 + 7,none⟩ = some (.slice ka1 ks1.length ka2) ∧ w'.cell? ⟨ta,pa + k * 10 + 8,none⟩ = some (.slice la1 ls1.length la2) ∧ w'.cell? ⟨ta,pa + k * 10 + 9,none⟩ = some (.slice da1 bd1.length da2) ∧ w'.cell? ⟨tb,pb + k * 10,none⟩ = some (.int .i64 f1) ∧ w'.cell? ⟨tb,pb + k * 10 + 1,none⟩ = some (.int .i64 o1) ∧ w'.cell? ⟨tb,pb + k * 10 + 2,none⟩ = some (.int .i64 kd1) ∧ w'.cell? ⟨tb,pb + k * 10 + 3,none⟩ = some (.int .i64 m1) ∧ w'.cell? ⟨tb,pb + k * 10 + 4,none⟩ = some (.string nm1) ∧ w'.cell? ⟨tb,pb + k * 10 + 5,none⟩ = some (.string pt1) ∧ w'.cell? ⟨tb,pb + k * 10 + 6,none⟩ = some (.int .i64 b1) ∧ w'.cell? ⟨tb,pb + k * 10 + 7,none⟩ = some (.slice kb1 ks1.length kb2) ∧ w'.cell? ⟨tb,pb + k * 10 + 8,none⟩ = some (.slice lb1 ls1.length lb2) ∧ w'.cell? ⟨tb,pb + k * 10 + 9,none⟩ = some (.slice db1 bd1.length db2) ∧ w'.cell? ⟨qa,6,none⟩ = some (.slice (some ⟨ta,pa,none⟩) ms1.length xc3) ∧ w'.cell? ⟨qb,6,none⟩ = some (.slice (some ⟨tb,pb,none⟩) ms1.length yc3)) ((((((((((W5.setCell ⟨we.heap.size,0,none⟩ (.int .i64 f1)).setCell ⟨we.heap.size,1,none⟩ (.int .i64 o1)).setCell ⟨we.heap.size,2,none⟩ (.int .i64 kd1)).setCell ⟨we.heap.size,3,none⟩ (.int .i64 m1)).setCell ⟨we.heap.size,4,none⟩ (.string nm1)).setCell ⟨we.heap.size,5,none⟩ (.string pt1)).setCell ⟨we.heap.size,6,none⟩ (.int .i64 b1)).setCell ⟨we.heap.size,7,none⟩ (.slice ka1 ks1.length ka2)).setCell ⟨we.heap.size,8,none⟩ (.slice la1 ls1.length la2)).setCell ⟨we.heap.size,9,none⟩ (.slice da1 bd1.length da2)).drew := by
        obtain ⟨h0,h1,h2,h3,h4,h5,h6,h7,h8,h9,h10,h11,h12,h13,h14,h15,h16,h17,h18,h19,h20,h21⟩ := hHW
        exact hDr _ ⟨cell_kp h0 gC nta,cell_kp h1 gC nta,cell_kp h2 gC nta,cell_kp h3 gC nta,cell_kp h4 gC nta,cell_kp h5 gC nta,cell_kp h6 gC nta,cell_kp h7 gC nta,cell_kp h8 gC nta,cell_kp h9 gC nta,cell_kp h10 gC ntb,cell_kp h11 gC ntb,cell_kp h12 gC ntb,cell_kp h13 gC ntb,cell_kp h14 gC ntb,cell_kp h15 gC ntb,cell_kp h16 gC ntb,cell_kp h17 gC ntb,cell_kp h18 gC ntb,cell_kp h19 gC ntb,cell_kp h20 gC ne0,cell_kp h21 gC ne1⟩
       refine wpAnyL_one (j := 12) (by kernel_rfl) rfl (fun K hK => ?_)
       go_simp
       refine hK.out _ _ (fun _ _ => hHW6) ?_
       clear hK K
       try simp only [Act.put,List.setIfInBounds_toArray,List.set_cons_zero,List.set_cons_succ]
       refine wpAnyL_one (j := 13) (by kernel_rfl) rfl (fun K hK => ?_)
       go_simp
       refine hK.out _ _ (fun h => absurd rfl h) ?_
       clear hK K
       try simp only [Act.put,List.setIfInBounds_toArray,List.set_cons_zero,List.set_cons_succ]
       refine wpAnyL_done (by kernel_rfl) ?_ _
       go_wp2_with fail
       go_meet
       exact ⟨we.heap.size,we.heap.size + 1,rfl,rfl,hidI ⟨by rw [drew_heap]; exact keptBut (gr10 (World.grownBy.refl _ _)) (box10 X1) (by omega),by rw [drew_heap]; exact box10 (keptBut (gr10 (World.grownBy.refl _ _)) X2 (by omega)),gr_drew (gr10n (gr10n gW (by omega)) (by omega))⟩⟩
     · skip
       go_simp
       refine hK.out _ _ (fun _ _ => hDr _ (hOld _ _ hHeld0)) ?_
       clear hK K
       try simp only [Act.put,List.setIfInBounds_toArray,List.set_cons_zero,List.set_cons_succ]
       refine wpAnyL_one (j := 10) (by kernel_rfl) rfl (fun K hK => ?_)
       go_simp
       refine hK.out _ _ (fun _ _ => hDr _ (hOld _ _ (hOld _ _ hHeld0))) ?_
       clear hK K
       try simp only [Act.put,List.setIfInBounds_toArray,List.set_cons_zero,List.set_cons_succ]
       obtain ⟨W5,hW5⟩ : ∃ W : World,W = (we.alloc (.cells #[.int .i64 0,.int .i64 0,.int .i64 0,.int .i64 0,.string ⟨#[]⟩,.string ⟨#[]⟩,.int .i64 0,.slice none 0 0,.slice none 0 0,.slice none 0 0] 100)).alloc (.cells #[.int .i64 0,.int .i64 0,.int .i64 0,.int .i64 0,.string ⟨#[]⟩,.string ⟨#[]⟩,.int .i64 0,.slice none 0 0,.slice none 0 0,.slice none 0 0] 100) := ⟨_,rfl⟩
       have X1 : W5.heap[we.heap.size]? = some (.cells #[.int .i64 0,.int .i64 0,.int .i64 0,.int .i64 0,.string ⟨#[]⟩,.string ⟨#[]⟩,.int .i64 0,.slice none 0 0,.slice none 0 0,.slice none 0 0] 100) := by rw [hW5]; exact old (new _ _) _
       have X2 : W5.heap[we.heap.size + 1]? = some (.cells #[.int .i64 0,.int .i64 0,.int .i64 0,.int .i64 0,.string ⟨#[]⟩,.string ⟨#[]⟩,.int .i64 0,.slice none 0 0,.slice none 0 0,.slice none 0 0] 100) := by rw [hW5]; exact hp_new (by simp) _
       have gW : we.grownBy W5 none := by rw [hW5]; exact gr_alloc (gr1 _ _) _
       have hHW : (fun w' : World => w'.cell? ⟨ta,pa + k * 10,none⟩ = some (.int .i64 f1) ∧ w'.cell? ⟨ta,pa + k * 10 + 1,none⟩ = some (.int .i64 o1) ∧ w'.cell? ⟨ta,pa + k * 10 + 2,none⟩ = some (.int .i64 kd1) ∧ w'.cell? ⟨ta,pa + k * 10 + 3,none⟩ = some (.int .i64 m1) ∧ w'.cell? ⟨ta,pa + k * 10 + 4,none⟩ = some (.string nm1) ∧ w'.cell? ⟨ta,pa + k * 10 + 5,none⟩ = some (.string pt1) ∧ w'.cell? ⟨ta,pa + k * 10 + 6,none⟩ = some (.int .i64 b1) ∧ w'.cell? ⟨ta,pa + k * 10 + 7,none⟩ = some (.slice ka1 ks1.length ka2) ∧ w'.cell? ⟨ta,pa + k * 10 + 8,none⟩ = some (.slice la1 ls1.length la2) ∧ w'.cell? ⟨ta,pa + k * 10 + 9,none⟩ = some (.slice da1 bd1.length da2) ∧ w'.cell? ⟨tb,pb + k * 10,none⟩ = some (.int .i64 f1) ∧ w'.cell? ⟨tb,pb + k * 10 + 1,none⟩ = some (.int .i64 o1) ∧ w'.cell? ⟨tb,pb + k * 10 + 2,none⟩ = some (.int .i64 kd1) ∧ w'.cell? ⟨tb,pb + k * 10 + 3,none⟩ = some (.int .i64 m1) ∧ w'.cell? ⟨tb,pb + k * 10 + 4,none⟩ = some (.string nm1) ∧ w'.cell? ⟨tb,pb + k * 10 + 5,none⟩ = some (.string pt1) ∧ w'.cell? ⟨tb,pb + k * 10 + 6,none⟩ = some (.int .i64 b1) ∧ w'.cell? ⟨tb,pb + k * 10 + 7,none⟩ = some (.slice kb1 ks1.length kb2) ∧ w'.cell? ⟨tb,pb + k * 10 + 8,none⟩ = some (.slice lb1 ls1.length lb2) ∧ w'.cell? ⟨tb,pb + k * 10 + 9,none⟩ = some (.slice db1 bd1.length db2) ∧ w'.cell? ⟨qa,6,none⟩ = some (.slice (some ⟨ta,pa,none⟩) ms1.length xc3) ∧ w'.cell? ⟨qb,6,none⟩ = some (.slice (some ⟨tb,pb,none⟩) ms1.length yc3)) W5 := by rw [hW5]; exact hOld _ _ (hOld _ _ hHeld0)
       change wpAnyL _ _ _ _ _ _ _ _ _ ((we.alloc (.cells #[.int .i64 0,.int .i64 0,.int .i64 0,.int .i64 0,.string ⟨#[]⟩,.string ⟨#[]⟩,.int .i64 0,.slice none 0 0,.slice none 0 0,.slice none 0 0] 100)).alloc (.cells #[.int .i64 0,.int .i64 0,.int .i64 0,.int .i64 0,.string ⟨#[]⟩,.string ⟨#[]⟩,.int .i64 0,.slice none 0 0,.slice none 0 0,.slice none 0 0] 100)).drew
       rw [← hW5]
       clear hW5 hHeld hHeld0
       obtain ⟨xp,xq,xr,xf,xg,xh⟩ := facts X1
       obtain ⟨yp,yq,yr,yf,yg,yh⟩ := facts X2
       have nq : we.heap.size + 1 ≠ we.heap.size := by omega
       have nq2 : we.heap.size ≠ we.heap.size + 1 := by omega
       have gC : W5.grownBy ((((((((((W5.setCell ⟨we.heap.size + 1,0,none⟩ (.int .i64 f1)).setCell ⟨we.heap.size + 1,1,none⟩ (.int .i64 o1)).setCell ⟨we.heap.size + 1,2,none⟩ (.int .i64 kd1)).setCell ⟨we.heap.size + 1,3,none⟩ (.int .i64 m1)).setCell ⟨we.heap.size + 1,4,none⟩ (.string nm1)).setCell ⟨we.heap.size + 1,5,none⟩ (.string pt1)).setCell ⟨we.heap.size + 1,6,none⟩ (.int .i64 b1)).setCell ⟨we.heap.size + 1,7,none⟩ (.slice ka1 ks1.length ka2)).setCell ⟨we.heap.size + 1,8,none⟩ (.slice la1 ls1.length la2)).setCell ⟨we.heap.size + 1,9,none⟩ (.slice da1 bd1.length da2)) (some (we.heap.size + 1)) := gr10 (World.grownBy.refl W5 _)
       have nta : ta ≠ we.heap.size + 1 := by omega
       have ntb : tb ≠ we.heap.size + 1 := by omega
       have ne0 : qa ≠ we.heap.size + 1 := by omega
       have ne1 : qb ≠ we.heap.size + 1 := by omega
       have hHW6 : (fun w' : World => w'.cell? ⟨ta,pa + k * 10,none⟩ = some (.int .i64 f1) ∧ w'.cell? ⟨ta,pa + k * 10 + 1,none⟩ = some (.int .i64 o1) ∧ w'.cell? ⟨ta,pa + k * 10 + 2,none⟩ = some (.int .i64 kd1) ∧ w'.cell? ⟨ta,pa + k * 10 + 3,none⟩ = some (.int .i64 m1) ∧ w'.cell? ⟨ta,pa + k * 10 + 4,none⟩ = some (.string nm1) ∧ w'.cell? ⟨ta,pa + k * 10 + 5,none⟩ = some (.string pt1) ∧ w'.cell? ⟨ta,pa + k * 10 + 6,none⟩ = some (.int .i64 b1) ∧ w'.cell? ⟨ta,pa + k * 10 + 7,none⟩ = some (.slice ka1 ks1.length ka2) ∧ w'.cell? ⟨ta,pa + k * 10 + 8,none⟩ = some (.slice la1 ls1.length la2) ∧ w'.cell? ⟨ta,pa + k * 10 + 9,none⟩ = some (.slice da1 bd1.length da2) ∧ w'.cell? ⟨tb,pb + k * 10,none⟩ = some (.int .i64 f1) ∧ w'.cell? ⟨tb,pb + k * 10 + 1,none⟩ = some (.int .i64 o1) ∧ w'.cell? ⟨tb,pb + k * 10 + 2,none⟩ = some (.int .i64 kd1) ∧ w'.cell? ⟨tb,pb + k * 10 + 3,none⟩ = some (.int .i64 m1) ∧ w'.cell? ⟨tb,pb + k * 10 + 4,none⟩ = some (.string nm1) ∧ w'.cell? ⟨tb,pb + k * 10 + 5,none⟩ = some (.string pt1) ∧ w'.cell? ⟨tb,pb + k * 10 + 6,none⟩ = some (.int .i64 b1) ∧ w'.cell? ⟨tb,pb + k * 10 + 7,none⟩ = some (.slice kb1 ks1.length kb2) ∧ w'.cell? ⟨tb,pb + k * 10 + 8,none⟩ = some (.slice lb1 ls1.length lb2) ∧ w'.cell? ⟨tb,pb + k * 10 + 9,none⟩ = some (.slice db1 bd1.length db2) ∧ w'.cell? ⟨qa,6,none⟩ = some (.slice (some ⟨ta,pa,none⟩) ms1.length xc3) ∧ w'.cell? ⟨qb,6,none⟩ = some (.slice (some ⟨tb,pb,none⟩) ms1.length yc3)) ((((((((((W5.setCell ⟨we.heap.size + 1,0,none⟩ (.int .i64 f1)).setCell ⟨we.heap.size + 1,1,none⟩ (.int .i64 o1)).setCell ⟨we.heap.size + 1,2,none⟩ (.int .i64 kd1)).setCell ⟨we.heap.size + 1,3,none⟩ (.int .i64 m1)).setCell ⟨we.heap.size + 1,4,none⟩ (.string nm1)).setCell ⟨we.heap.size + 1,5,none⟩ (.string pt1)).setCell ⟨we.heap.size + 1,6,none⟩ (.int .i64 b1)).setCell ⟨we.heap.size + 1,7,none⟩ (.slice ka1 ks1.length ka2)).setCell ⟨we.heap.size + 1,8,none⟩ (.slice la1 ls1.length la2)).setCell ⟨we.heap.size + 1,9,none⟩ (.slice da1 bd1.length da2)).drew := by
        obtain ⟨h0,h1,h2,h3,h4,h5,h6,h7,h8,h9,h10,h11,h12,h13,h14,h15,h16,h17,h18,h19,h20,h21⟩ := hHW
        exact hDr _ ⟨cell_kp h0 gC nta,cell_kp h1 gC nta,cell_kp h2 gC nta,cell_kp h3 gC nta,cell_kp h4 gC nta,cell_kp h5 gC nta,cell_kp h6 gC nta,cell_kp h7 gC nta,cell_kp h8 gC nta,cell_kp h9 gC nta,cell_kp h10 gC ntb,cell_kp h11 gC ntb,cell_kp h12 gC ntb,cell_kp h13 gC ntb,cell_kp h14 gC ntb,cell_kp h15 gC ntb,cell_kp h16 gC ntb,cell_kp h17 gC ntb,cell_kp h18 gC ntb,cell_kp h19 gC ntb,cell_kp h20 gC ne0,cell_kp h21 gC ne1⟩
       refine wpAnyL_one (j := 12) (by kernel_rfl) rfl (fun K hK => ?_)
       go_simp
       refine hK.out _ _ (fun _ _ => hHW6) ?_
       clear hK K
       try simp only [Act.put,List.setIfInBounds_toArray,List.set_cons_zero,List.set_cons_succ]
       refine wpAnyL_one (j := 13) (by kernel_rfl) rfl (fun K hK => ?_)
       go_simp
       refine hK.out _ _ (fun h => absurd rfl h) ?_
       clear hK K
       try simp only [Act.put,List.setIfInBounds_toArray,List.set_cons_zero,List.set_cons_succ]
       refine wpAnyL_done (by kernel_rfl) ?_ _
       go_wp2_with fail
       go_meet
       exact ⟨we.heap.size + 1,we.heap.size,rfl,rfl,hidI ⟨by rw [drew_heap]; exact keptBut (gr10 (World.grownBy.refl _ _)) (box10 X2) (by omega),by rw [drew_heap]; exact box10 (keptBut (gr10 (World.grownBy.refl _ _)) X1 (by omega)),gr_drew (gr10n (gr10n gW (by omega)) (by omega))⟩⟩
    case rest =>
    clear xp xq xr xf xg xh yp yq yr yf yg yh
    rename World => wf
    obtain ⟨sa,sb,rfl,rfl,HCU⟩ := hcut
    obtain ⟨hsa,hsb,hgc⟩ := HCU.out
    clear HCU
    have G6 := hidI (gtn G5.out hgc)
    have HG6 := hidI (gtn HGE.out hgc)
    have P6 := hidI hsa
    have Q6 := hidI hsb
    clear hgc hsa hsb
    obtain ⟨xp,xq,xr,xf,xg,xh⟩ := facts P6.out
    obtain ⟨yp,yq,yr,yf,yg,yh⟩ := facts Q6.out
    go_wp2_with fail
    refine (cK.out _ G6.out).mono ?_
    rintro e w7 ⟨rfl,g0⟩
    have G7 := hidI (gtn G6.out g0)
    have HG7 := hidI (gtn HG6.out g0)
    have P7 := hidI (kept g0 P6.out)
    have Q7 := hidI (kept g0 Q6.out)
    clear g0
    clear xp xq xr xf xg xh yp yq yr yf yg yh
    obtain ⟨xp,xq,xr,xf,xg,xh⟩ := facts P7.out
    obtain ⟨yp,yq,yr,yf,yg,yh⟩ := facts Q7.out
    go_wp2_with fail
    refine (cD.out _ G7.out).mono ?_
    rintro e w8 ⟨rfl,g0⟩
    have G8 := hidI (gtn G7.out g0)
    have HG8 := hidI (gtn HG7.out g0)
    have P8 := hidI (kept g0 P7.out)
    have Q8 := hidI (kept g0 Q7.out)
    clear g0
    clear xp xq xr xf xg xh yp yq yr yf yg yh
    obtain ⟨xp,xq,xr,xf,xg,xh⟩ := facts P8.out
    obtain ⟨yp,yq,yr,yf,yg,yh⟩ := facts Q8.out
    have LS4 : Hid (EsL w8 ls1.length (ls1.length + 1) (.int .i64 0) w8) := ⟨0,rfl,⟨Nat.zero_le _,rfl⟩,World.grownBy.refl _ _⟩
    go_wp2_with fail
    go_loopg [14] (ls1.length + 1) (fun gk s14 wx => EsL w8 ls1.length gk s14 wx)
    case atStart => exact LS4.out
    case round =>
     clear xp xq xr xf xg xh yp yq yr yf yg yh
     rename World => wg
     obtain ⟨m,rfl,⟨hm1,hgm⟩,hg⟩ := hrel
     have G9 := hidI (gtn G8.out hg)
     have HG9 := hidI (gtn HG8.out hg)
     have P9 := hidI (kept hg P8.out)
     have Q9 := hidI (kept hg Q8.out)
     have HGL := hidI hg
     by_cases hm : m < ls1.length
     rotate_left
     · have hlt4 : ¬ ((m : Int) < (ls1.length : Int)) := by omega
       clear hg
       obtain ⟨xp,xq,xr,xf,xg,xh⟩ := facts P9.out
       obtain ⟨yp,yq,yr,yf,yg,yh⟩ := facts Q9.out
       go_wp2_with fail
       go_roundg (ms1.length + 1 - (k + 1))
       case measure => omega
       case rel =>
        exact ⟨k + 1,by simp,⟨by omega,rfl⟩,HG9.out⟩
     have hlt4 : ((m : Int) < (ls1.length : Int)) := by omega
     obtain ⟨za,oz,c8,u8,ea,hn8,hza,_,hca⟩ := HX2.out.pick (sz := 2) (fun _ _ => rfl) (by omega) m hm
     obtain ⟨zb,oy,c9,u9,eb,_,hzb,_,hcb⟩ := HY2.out.pick (sz := 2) (fun _ _ => rfl) (by omega) m hm
     injection ea with ea1 ea2 ea3
     injection eb with eb1 eb2 eb3
     subst ea1 eb1 ea3 eb3
     generalize hE4 : ls1[m] = E4 at hca hcb
     obtain ⟨l1,l2⟩ := E4
     have hgW := gtn G8.out hg
     have hgV := gtn HG.out hgW
     have cza0 : wg.cell? ⟨za,oz + m * 2,none⟩ = some (.int .i64 l1) := by
      have h := hca 0 (by omega)
      rw [show oz + (m * 2 + 0) = oz + m * 2 by omega] at h
      exact (World.cell?_of_block (hgV.block za (by omega) (by simp))).trans h
     have cza1 : wg.cell? ⟨za,oz + m * 2 + 1,none⟩ = some (.int .i64 l2) := by
      have h := hca 1 (by omega)
      rw [show oz + (m * 2 + 1) = oz + m * 2 + 1 by omega] at h
      exact (World.cell?_of_block (hgV.block za (by omega) (by simp))).trans h
     have czb0 : wg.cell? ⟨zb,oy + m * 2,none⟩ = some (.int .i64 l1) := by
      have h := hcb 0 (by omega)
      rw [show oy + (m * 2 + 0) = oy + m * 2 by omega] at h
      exact (World.cell?_of_block (hgW.block zb (by omega) (by simp))).trans h
     have czb1 : wg.cell? ⟨zb,oy + m * 2 + 1,none⟩ = some (.int .i64 l2) := by
      have h := hcb 1 (by omega)
      rw [show oy + (m * 2 + 1) = oy + m * 2 + 1 by omega] at h
      exact (World.cell?_of_block (hgW.block zb (by omega) (by simp))).trans h
     have hwm : IntKind.i64.wrap ((m : Int) + 1) = m + 1 := IntWalk.i64_in _ (by omega)
     clear hg hgW hgV hca hcb
     have hEq := eqL l1 l2
     obtain ⟨xp,xq,xr,xf,xg,xh⟩ := facts P9.out
     obtain ⟨yp,yq,yr,yf,yg,yh⟩ := facts Q9.out
     go_wp2_with fail
     go_region
     all_goals go_wp2_with fail
     all_goals go_roundg (ls1.length + 1 - (m + 1))
     all_goals first | omega | exact ⟨m + 1,by simp,⟨by omega,rfl⟩,gr_drew HGL.out⟩
end Go.Proofs.YtdcoidmbainkmaaGreatDoor
