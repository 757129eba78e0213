/- Texts put together: We. -/
import Derived.Test.YtdcoidmbainkmaaGreatDoorQ23
import Derived.Test.YtdcoidmbainkmaaGreatDoorQ21
namespace Go.Proofs.YtdcoidmbainkmaaGreatDoor
open Go.RowKit
attribute [local go_sem ↓] Go.wp_at_zero Go.wp_at_succ
set_option linter.unusedVariables false
set_option linter.unusedSimpArgs false
theorem uC_len (p : PU) (q : Value × Value) : (uC p q).length = 6 := rfl
theorem same_ss {W : World} {ok : Nat → Prop} {va : Value} {l : List PS} (hx : Li kdS 94 W ok va l) : SmS W va l := by
 have key : ∀ (n : Nat) (l : List PS),SizeOf.sizeOf l < n → ∀ va,Li kdS 94 W ok va l → SmS W va l := by
  intro n
  induction n with
  | zero => intro l h; omega
  | succ n ih =>
   intro l h va hx
   refine same_ss_in hx (fun i hi => ?_)
   have h1 : SizeOf.sizeOf l[i] < SizeOf.sizeOf l := List.sizeOf_lt_of_mem (List.getElem_mem hi)
   generalize l[i] = E at h1 ⊢
   obtain ⟨v1,a1,n1,i1,es1,as1,ms1,el1,bo1,lo1,hi1',by1,ti1⟩ := E
   have h2 : SizeOf.sizeOf el1 < n ∧ SizeOf.sizeOf bo1 < n ∧ SizeOf.sizeOf ms1 < n := by
    simp at h1
    omega
   refine ⟨fun k hk => ih _ h2.1 k hk,fun k hk => ih _ h2.2.1 k hk,fun j hj k hk => ih _ ?_ k hk⟩
   simp only [PS.arms] at hj ⊢
   have h3 : SizeOf.sizeOf ms1[j] < SizeOf.sizeOf ms1 := List.sizeOf_lt_of_mem (List.getElem_mem hj)
   generalize ms1[j] = M at h3 ⊢
   obtain ⟨e,ls,bd⟩ := M
   simp [PArm.body] at h3 ⊢
   omega
 exact key _ l (Nat.lt_succ_self _) va hx
set_option maxRecDepth 10000 in
set_option maxHeartbeats 8000000 in
theorem same_us {W : World} {oka okb : Nat → Prop} {va vb : Value} {l : List PU} (hx : Li kdU 33 W oka va l) (hb : Li kdU 33 W okb vb l) : Calls Tryz.prog 9 #[va,vb] W (yesG W) := by
 obtain ⟨ax,ac,rfl⟩ := hx.sl
 obtain ⟨bx,bc,rfl⟩ := hb.sl
 have HA := hidI hx
 have HB := hidI hb
 have hne : ((l.length : Int) != (l.length : Int)) = false := by simp
 clear hx hb
 go_enter Tryz.func9,Tryz.ntmps9
 go_wp2_with fail
 have LS : Hid (EsL W l.length (l.length + 1) (.int .i64 0) W) := ⟨0,rfl,⟨Nat.zero_le _,rfl⟩,World.grownBy.refl _ _⟩
 go_loopg [5] (l.length + 1) (fun gk s5 wx => EsL W l.length gk s5 wx)
 case atStart => exact LS.out
 case round =>
  obtain ⟨i,rfl,⟨hi1,hgk⟩,hg⟩ := hrel
  by_cases hi : i < l.length
  rotate_left
  · have hlt : ¬ ((i : Int) < (l.length : Int)) := by omega
    have HH := hidI hg
    clear hg
    go_wp2_with fail
    go_ret
    exact ⟨rfl,HH.out⟩
  have hlt : ((i : Int) < (l.length : Int)) := by omega
  obtain ⟨ga,oa,ca,ka,ea,hn,hga,hka,hca⟩ := HA.out.pick uC_len (by omega) i hi
  obtain ⟨gb,ob,cb,kb,eb,_,hgb,hkb,hcb⟩ := HB.out.pick uC_len (by omega) i hi
  injection ea with ea1 ea2 ea3
  injection eb with eb1 eb2 eb3
  subst ea1 eb1 ea3 eb3
  obtain ⟨ka1,ka2⟩ := ka
  obtain ⟨kb1,kb2⟩ := kb
  obtain ⟨hA1,hA2⟩ := hka
  obtain ⟨hB1,hB2⟩ := hkb
  simp only at hA1 hA2 hB1 hB2
  obtain ⟨xa1,xc1,rfl⟩ := hA1.sl
  obtain ⟨xa2,xc2,rfl⟩ := hA2.sl
  obtain ⟨ya1,yc1,rfl⟩ := hB1.sl
  obtain ⟨ya2,yc2,rfl⟩ := hB2.sl
  generalize hE : l[i] = E at hca hcb hA1 hA2 hB1 hB2
  obtain ⟨k1,n1,re1,vs1,bo1,at1⟩ := E
  simp only at hA1 hA2 hB1 hB2 hca hcb
  have cV : Hid (∀ U,W.grownBy U none → Calls Tryz.prog 17 #[.slice xa1 vs1.length xc1,.slice ya1 vs1.length yc1] U (yesG U)) := fun U hU => same_vs (hA1.gw hU) (hB1.gw hU)
  have cB : Hid (∀ U,W.grownBy U none → Calls Tryz.prog 18 #[.slice xa2 bo1.length xc2,.slice ya2 bo1.length yc2] U (yesG U)) := fun U hU => same_ss hA2 U hU _ _ (hB2.gw hU)
  have HGR := hidI hg
  clear hA1 hA2 hB1 hB2
  have cga0 : wr.cell? ⟨ga,oa + i * 6,none⟩ = some (.int .i64 k1) := by
   have h := hca 0 (by omega)
   rw [show oa + (i * 6 + 0) = oa + i * 6 by omega] at h
   exact (World.cell?_of_block (hg.block ga (by omega) (by simp))).trans h
  have cga1 : wr.cell? ⟨ga,oa + i * 6 + 1,none⟩ = some (.string n1) := by
   have h := hca 1 (by omega)
   rw [show oa + (i * 6 + 1) = oa + i * 6 + 1 by omega] at h
   exact (World.cell?_of_block (hg.block ga (by omega) (by simp))).trans h
  have cga2 : wr.cell? ⟨ga,oa + i * 6 + 2,none⟩ = some (.int .i64 re1) := by
   have h := hca 2 (by omega)
   rw [show oa + (i * 6 + 2) = oa + i * 6 + 2 by omega] at h
   exact (World.cell?_of_block (hg.block ga (by omega) (by simp))).trans h
  have cga3 : wr.cell? ⟨ga,oa + i * 6 + 3,none⟩ = some (.slice xa1 vs1.length xc1) := by
   have h := hca 3 (by omega)
   rw [show oa + (i * 6 + 3) = oa + i * 6 + 3 by omega] at h
   exact (World.cell?_of_block (hg.block ga (by omega) (by simp))).trans h
  have cga4 : wr.cell? ⟨ga,oa + i * 6 + 4,none⟩ = some (.slice xa2 bo1.length xc2) := by
   have h := hca 4 (by omega)
   rw [show oa + (i * 6 + 4) = oa + i * 6 + 4 by omega] at h
   exact (World.cell?_of_block (hg.block ga (by omega) (by simp))).trans h
  have cga5 : wr.cell? ⟨ga,oa + i * 6 + 5,none⟩ = some (.int .i64 at1) := by
   have h := hca 5 (by omega)
   rw [show oa + (i * 6 + 5) = oa + i * 6 + 5 by omega] at h
   exact (World.cell?_of_block (hg.block ga (by omega) (by simp))).trans h
  have cgb0 : wr.cell? ⟨gb,ob + i * 6,none⟩ = some (.int .i64 k1) := by
   have h := hcb 0 (by omega)
   rw [show ob + (i * 6 + 0) = ob + i * 6 by omega] at h
   exact (World.cell?_of_block (hg.block gb (by omega) (by simp))).trans h
  have cgb1 : wr.cell? ⟨gb,ob + i * 6 + 1,none⟩ = some (.string n1) := by
   have h := hcb 1 (by omega)
   rw [show ob + (i * 6 + 1) = ob + i * 6 + 1 by omega] at h
   exact (World.cell?_of_block (hg.block gb (by omega) (by simp))).trans h
  have cgb2 : wr.cell? ⟨gb,ob + i * 6 + 2,none⟩ = some (.int .i64 re1) := by
   have h := hcb 2 (by omega)
   rw [show ob + (i * 6 + 2) = ob + i * 6 + 2 by omega] at h
   exact (World.cell?_of_block (hg.block gb (by omega) (by simp))).trans h
  have cgb3 : wr.cell? ⟨gb,ob + i * 6 + 3,none⟩ = some (.slice ya1 vs1.length yc1) := by
   have h := hcb 3 (by omega)
   rw [show ob + (i * 6 + 3) = ob + i * 6 + 3 by omega] at h
   exact (World.cell?_of_block (hg.block gb (by omega) (by simp))).trans h
  have cgb4 : wr.cell? ⟨gb,ob + i * 6 + 4,none⟩ = some (.slice ya2 bo1.length yc2) := by
   have h := hcb 4 (by omega)
   rw [show ob + (i * 6 + 4) = ob + i * 6 + 4 by omega] at h
   exact (World.cell?_of_block (hg.block gb (by omega) (by simp))).trans h
  have cgb5 : wr.cell? ⟨gb,ob + i * 6 + 5,none⟩ = some (.int .i64 at1) := by
   have h := hcb 5 (by omega)
   rw [show ob + (i * 6 + 5) = ob + i * 6 + 5 by omega] at h
   exact (World.cell?_of_block (hg.block gb (by omega) (by simp))).trans h
  have hga2 : ga < wr.heap.size := by have := hg.size; omega
  have hgb2 : gb < wr.heap.size := by have := hg.size; omega
  have hwi : IntKind.i64.wrap ((i : Int) + 1) = i + 1 := IntWalk.i64_in _ (by omega)
  clear hg hca hcb
  go_upto_region 6 with fail
  go_cut [6,7] from 19 to 26 (fun s6 s7 wx => ∃ qa qb : Nat,s6 = .pointer (some ⟨qa,0,none⟩) ∧ s7 = .pointer (some ⟨qb,0,none⟩) ∧ Hid (wx.heap[qa]? = some (.cells #[.int .i64 k1,.string n1,.int .i64 re1,.slice xa1 vs1.length xc1,.slice xa2 bo1.length xc2,.int .i64 at1] 33) ∧ wx.heap[qb]? = some (.cells #[.int .i64 k1,.string n1,.int .i64 re1,.slice ya1 vs1.length yc1,.slice ya2 bo1.length yc2,.int .i64 at1] 33) ∧ wr.grownBy wx none))
  case first =>
   have hHeld0 : (fun w' : World => w'.cell? ⟨ga,oa + i * 6,none⟩ = some (.int .i64 k1) ∧ w'.cell? ⟨ga,oa + i * 6 + 1,none⟩ = some (.string n1) ∧ w'.cell? ⟨ga,oa + i * 6 + 2,none⟩ = some (.int .i64 re1) ∧ w'.cell? ⟨ga,oa + i * 6 + 3,none⟩ = some (.slice xa1 vs1.length xc1) ∧ w'.cell? ⟨ga,oa + i * 6 + 4,none⟩ = some (.slice xa2 bo1.length xc2) ∧ w'.cell? ⟨ga,oa + i * 6 + 5,none⟩ = some (.int .i64 at1) ∧ w'.cell? ⟨gb,ob + i * 6,none⟩ = some (.int .i64 k1) ∧ w'.cell? ⟨gb,ob + i * 6 + 1,none⟩ = some (.string n1) ∧ w'.cell? ⟨gb,ob + i * 6 + 2,none⟩ = some (.int .i64 re1) ∧ w'.cell? ⟨gb,ob + i * 6 + 3,none⟩ = some (.slice ya1 vs1.length yc1) ∧ w'.cell? ⟨gb,ob + i * 6 + 4,none⟩ = some (.slice ya2 bo1.length yc2) ∧ w'.cell? ⟨gb,ob + i * 6 + 5,none⟩ = some (.int .i64 at1)) wr := ⟨cga0,cga1,cga2,cga3,cga4,cga5,cgb0,cgb1,cgb2,cgb3,cgb4,cgb5⟩
   have hDr : ∀ (W : World),(fun w' : World => w'.cell? ⟨ga,oa + i * 6,none⟩ = some (.int .i64 k1) ∧ w'.cell? ⟨ga,oa + i * 6 + 1,none⟩ = some (.string n1) ∧ w'.cell? ⟨ga,oa + i * 6 + 2,none⟩ = some (.int .i64 re1) ∧ w'.cell? ⟨ga,oa + i * 6 + 3,none⟩ = some (.slice xa1 vs1.length xc1) ∧ w'.cell? ⟨ga,oa + i * 6 + 4,none⟩ = some (.slice xa2 bo1.length xc2) ∧ w'.cell? ⟨ga,oa + i * 6 + 5,none⟩ = some (.int .i64 at1) ∧ w'.cell? ⟨gb,ob + i * 6,none⟩ = some (.int .i64 k1) ∧ w'.cell? ⟨gb,ob + i * 6 + 1,none⟩ = some (.string n1) ∧ w'.cell? ⟨gb,ob + i * 6 + 2,none⟩ = some (.int .i64 re1) ∧ w'.cell? ⟨gb,ob + i * 6 + 3,none⟩ = some (.slice ya1 vs1.length yc1) ∧ w'.cell? ⟨gb,ob + i * 6 + 4,none⟩ = some (.slice ya2 bo1.length yc2) ∧ w'.cell? ⟨gb,ob + i * 6 + 5,none⟩ = some (.int .i64 at1)) W → (fun w' : World => w'.cell? ⟨ga,oa + i * 6,none⟩ = some (.int .i64 k1) ∧ w'.cell? ⟨ga,oa + i * 6 + 1,none⟩ = some (.string n1) ∧ w'.cell? ⟨ga,oa + i * 6 + 2,none⟩ = some (.int .i64 re1) ∧ w'.cell? ⟨ga,oa + i * 6 + 3,none⟩ = some (.slice xa1 vs1.length xc1) ∧ w'.cell? ⟨ga,oa + i * 6 + 4,none⟩ = some (.slice xa2 bo1.length xc2) ∧ w'.cell? ⟨ga,oa + i * 6 + 5,none⟩ = some (.int .i64 at1) ∧ w'.cell? ⟨gb,ob + i * 6,none⟩ = some (.int .i64 k1) ∧ w'.cell? ⟨gb,ob + i * 6 + 1,none⟩ = some (.string n1) ∧ w'.cell? ⟨gb,ob + i * 6 + 2,none⟩ = some (.int .i64 re1) ∧ w'.cell? ⟨gb,ob + i * 6 + 3,none⟩ = some (.slice ya1 vs1.length yc1) ∧ w'.cell? ⟨gb,ob + i * 6 + 4,none⟩ = some (.slice ya2 bo1.length yc2) ∧ w'.cell? ⟨gb,ob + i * 6 + 5,none⟩ = some (.int .i64 at1)) W.drew := by
    rintro W ⟨h0,h1,h2,h3,h4,h5,h6,h7,h8,h9,h10,h11⟩
    exact ⟨h0,h1,h2,h3,h4,h5,h6,h7,h8,h9,h10,h11⟩
   have hHeld := hDr _ hHeld0
   have hOld : ∀ (W : World) (obj : Obj),(fun w' : World => w'.cell? ⟨ga,oa + i * 6,none⟩ = some (.int .i64 k1) ∧ w'.cell? ⟨ga,oa + i * 6 + 1,none⟩ = some (.string n1) ∧ w'.cell? ⟨ga,oa + i * 6 + 2,none⟩ = some (.int .i64 re1) ∧ w'.cell? ⟨ga,oa + i * 6 + 3,none⟩ = some (.slice xa1 vs1.length xc1) ∧ w'.cell? ⟨ga,oa + i * 6 + 4,none⟩ = some (.slice xa2 bo1.length xc2) ∧ w'.cell? ⟨ga,oa + i * 6 + 5,none⟩ = some (.int .i64 at1) ∧ w'.cell? ⟨gb,ob + i * 6,none⟩ = some (.int .i64 k1) ∧ w'.cell? ⟨gb,ob + i * 6 + 1,none⟩ = some (.string n1) ∧ w'.cell? ⟨gb,ob + i * 6 + 2,none⟩ = some (.int .i64 re1) ∧ w'.cell? ⟨gb,ob + i * 6 + 3,none⟩ = some (.slice ya1 vs1.length yc1) ∧ w'.cell? ⟨gb,ob + i * 6 + 4,none⟩ = some (.slice ya2 bo1.length yc2) ∧ w'.cell? ⟨gb,ob + i * 6 + 5,none⟩ = some (.int .i64 at1)) W → (fun w' : World => w'.cell? ⟨ga,oa + i * 6,none⟩ = some (.int .i64 k1) ∧ w'.cell? ⟨ga,oa + i * 6 + 1,none⟩ = some (.string n1) ∧ w'.cell? ⟨ga,oa + i * 6 + 2,none⟩ = some (.int .i64 re1) ∧ w'.cell? ⟨ga,oa + i * 6 + 3,none⟩ = some (.slice xa1 vs1.length xc1) ∧ w'.cell? ⟨ga,oa + i * 6 + 4,none⟩ = some (.slice xa2 bo1.length xc2) ∧ w'.cell? ⟨ga,oa + i * 6 + 5,none⟩ = some (.int .i64 at1) ∧ w'.cell? ⟨gb,ob + i * 6,none⟩ = some (.int .i64 k1) ∧ w'.cell? ⟨gb,ob + i * 6 + 1,none⟩ = some (.string n1) ∧ w'.cell? ⟨gb,ob + i * 6 + 2,none⟩ = some (.int .i64 re1) ∧ w'.cell? ⟨gb,ob + i * 6 + 3,none⟩ = some (.slice ya1 vs1.length yc1) ∧ w'.cell? ⟨gb,ob + i * 6 + 4,none⟩ = some (.slice ya2 bo1.length yc2) ∧ w'.cell? ⟨gb,ob + i * 6 + 5,none⟩ = some (.int .i64 at1)) (W.alloc obj) := by
    rintro W obj ⟨h0,h1,h2,h3,h4,h5,h6,h7,h8,h9,h10,h11⟩
    exact ⟨cell_al h0,cell_al h1,cell_al h2,cell_al h3,cell_al h4,cell_al h5,cell_al h6,cell_al h7,cell_al h8,cell_al h9,cell_al h10,cell_al h11⟩
   clear cga0 cga1 cga2 cga3 cga4 cga5 cgb0 cgb1 cgb2 cgb3 cgb4 cgb5
   refine wp_region_L (L := 11) (S := (fun w' : World => w'.cell? ⟨ga,oa + i * 6,none⟩ = some (.int .i64 k1) ∧ w'.cell? ⟨ga,oa + i * 6 + 1,none⟩ = some (.string n1) ∧ w'.cell? ⟨ga,oa + i * 6 + 2,none⟩ = some (.int .i64 re1) ∧ w'.cell? ⟨ga,oa + i * 6 + 3,none⟩ = some (.slice xa1 vs1.length xc1) ∧ w'.cell? ⟨ga,oa + i * 6 + 4,none⟩ = some (.slice xa2 bo1.length xc2) ∧ w'.cell? ⟨ga,oa + i * 6 + 5,none⟩ = some (.int .i64 at1) ∧ w'.cell? ⟨gb,ob + i * 6,none⟩ = some (.int .i64 k1) ∧ w'.cell? ⟨gb,ob + i * 6 + 1,none⟩ = some (.string n1) ∧ w'.cell? ⟨gb,ob + i * 6 + 2,none⟩ = some (.int .i64 re1) ∧ w'.cell? ⟨gb,ob + i * 6 + 3,none⟩ = some (.slice ya1 vs1.length yc1) ∧ w'.cell? ⟨gb,ob + i * 6 + 4,none⟩ = some (.slice ya2 bo1.length yc2) ∧ w'.cell? ⟨gb,ob + i * 6 + 5,none⟩ = some (.int .i64 at1))) (by kernel_rfl) ?_
   refine wpAnyL_free (i := 0) (v := ?_) rfl (by kernel_rfl) (by kernel_rfl) (by kernel_rfl) (fun _ _ _ h => h) (by decide) (Or.inl ⟨by rfl,?_⟩) (fun _ => hHeld) ?_
   rotate_left
   · intro w hSw
     go_simp
     try with_reducible rfl
   try simp only [Act.put,List.setIfInBounds_toArray,List.set_cons_zero,List.set_cons_succ]
   refine wpAnyL_free (i := 1) (v := ?_) rfl (by kernel_rfl) (by kernel_rfl) (by kernel_rfl) (fun _ _ _ h => h) (by decide) (Or.inl ⟨by rfl,?_⟩) (fun _ => hHeld) ?_
   rotate_left
   · intro w hSw
     go_simp
     try with_reducible rfl
   try simp only [Act.put,List.setIfInBounds_toArray,List.set_cons_zero,List.set_cons_succ]
   refine wpAnyL_free (i := 2) (v := ?_) rfl (by kernel_rfl) (by kernel_rfl) (by kernel_rfl) (fun _ _ _ h => h) (by decide) (Or.inl ⟨by rfl,?_⟩) (fun _ => hHeld) ?_
   rotate_left
   · intro w hSw
     go_simp
     try with_reducible rfl
   try simp only [Act.put,List.setIfInBounds_toArray,List.set_cons_zero,List.set_cons_succ]
   refine wpAnyL_take (i := 3) (v := ?_) rfl (by kernel_rfl) (by kernel_rfl) (by kernel_rfl) (fun _ _ _ h => h) (by kernel_rfl) (by kernel_rfl) (Or.inl ⟨by rfl,?_⟩) hHeld ?_
   rotate_left
   · intro w hSw
     try dsimp only at hSw
     go_simp
     try with_reducible rfl
   try simp only [Act.put,List.setIfInBounds_toArray,List.set_cons_zero,List.set_cons_succ]
   refine wpAnyL_free (i := 4) (v := ?_) rfl (by kernel_rfl) (by kernel_rfl) (by kernel_rfl) (fun _ _ _ h => h) (by decide) (Or.inl ⟨by rfl,?_⟩) (fun _ => hHeld) ?_
   rotate_left
   · intro w hSw
     go_simp
     try with_reducible rfl
   try simp only [Act.put,List.setIfInBounds_toArray,List.set_cons_zero,List.set_cons_succ]
   refine wpAnyL_free (i := 5) (v := ?_) rfl (by kernel_rfl) (by kernel_rfl) (by kernel_rfl) (fun _ _ _ h => h) (by decide) (Or.inl ⟨by rfl,?_⟩) (fun _ => hHeld) ?_
   rotate_left
   · intro w hSw
     go_simp
     try with_reducible rfl
   try simp only [Act.put,List.setIfInBounds_toArray,List.set_cons_zero,List.set_cons_succ]
   refine wpAnyL_free (i := 6) (v := ?_) rfl (by kernel_rfl) (by kernel_rfl) (by kernel_rfl) (fun _ _ _ h => h) (by decide) (Or.inl ⟨by rfl,?_⟩) (fun _ => hHeld) ?_
   rotate_left
   · intro w hSw
     go_simp
     try with_reducible rfl
   try simp only [Act.put,List.setIfInBounds_toArray,List.set_cons_zero,List.set_cons_succ]
   refine wpAnyL_take (i := 7) (v := ?_) rfl (by kernel_rfl) (by kernel_rfl) (by kernel_rfl) (fun _ _ _ h => h) (by kernel_rfl) (by kernel_rfl) (Or.inl ⟨by rfl,?_⟩) hHeld ?_
   rotate_left
   · intro w hSw
     try dsimp only at hSw
     go_simp
     try with_reducible rfl
   try simp only [Act.put,List.setIfInBounds_toArray,List.set_cons_zero,List.set_cons_succ]
   refine wpAnyL_two (i := 8) (j := 9) (by kernel_rfl) rfl rfl (fun K hK => ?_) (fun K hK => ?_)
   · skip
     go_simp
     refine hK.out _ _ (fun _ _ => hDr _ (hOld _ _ hHeld0)) ?_
     clear hK K
     try simp only [Act.put,List.setIfInBounds_toArray,List.set_cons_zero,List.set_cons_succ]
     refine wpAnyL_one (j := 9) (by kernel_rfl) rfl (fun K hK => ?_)
     go_simp
     refine hK.out _ _ (fun _ _ => hDr _ (hOld _ _ (hOld _ _ hHeld0))) ?_
     clear hK K
     try simp only [Act.put,List.setIfInBounds_toArray,List.set_cons_zero,List.set_cons_succ]
     obtain ⟨W5,hW5⟩ : ∃ W : World,W = (wr.alloc (.cells #[.int .i64 0,.string ⟨#[]⟩,.int .i64 0,.slice none 0 0,.slice none 0 0,.int .i64 0] 33)).alloc (.cells #[.int .i64 0,.string ⟨#[]⟩,.int .i64 0,.slice none 0 0,.slice none 0 0,.int .i64 0] 33) := ⟨_,rfl⟩
     have X1 : W5.heap[wr.heap.size]? = some (.cells #[.int .i64 0,.string ⟨#[]⟩,.int .i64 0,.slice none 0 0,.slice none 0 0,.int .i64 0] 33) := by rw [hW5]; exact old (new _ _) _
     have X2 : W5.heap[wr.heap.size + 1]? = some (.cells #[.int .i64 0,.string ⟨#[]⟩,.int .i64 0,.slice none 0 0,.slice none 0 0,.int .i64 0] 33) := by rw [hW5]; exact hp_new (by simp) _
     have gW : wr.grownBy W5 none := by rw [hW5]; exact gr_alloc (gr1 _ _) _
     have hHW : (fun w' : World => w'.cell? ⟨ga,oa + i * 6,none⟩ = some (.int .i64 k1) ∧ w'.cell? ⟨ga,oa + i * 6 + 1,none⟩ = some (.string n1) ∧ w'.cell? ⟨ga,oa + i * 6 + 2,none⟩ = some (.int .i64 re1) ∧ w'.cell? ⟨ga,oa + i * 6 + 3,none⟩ = some (.slice xa1 vs1.length xc1) ∧ w'.cell? ⟨ga,oa + i * 6 + 4,none⟩ = some (.slice xa2 bo1.length xc2) ∧ w'.cell? ⟨ga,oa + i * 6 + 5,none⟩ = some (.int .i64 at1) ∧ w'.cell? ⟨gb,ob + i * 6,none⟩ = some (.int .i64 k1) ∧ w'.cell? ⟨gb,ob + i * 6 + 1,none⟩ = some (.string n1) ∧ w'.cell? ⟨gb,ob + i * 6 + 2,none⟩ = some (.int .i64 re1) ∧ w'.cell? ⟨gb,ob + i * 6 + 3,none⟩ = some (.slice ya1 vs1.length yc1) ∧ w'.cell? ⟨gb,ob + i * 6 + 4,none⟩ = some (.slice ya2 bo1.length yc2) ∧ w'.cell? ⟨gb,ob + i * 6 + 5,none⟩ = some (.int .i64 at1)) W5 := by rw [hW5]; exact hOld _ _ (hOld _ _ hHeld0)
     change wpAnyL _ _ _ _ _ _ _ _ _ ((wr.alloc (.cells #[.int .i64 0,.string ⟨#[]⟩,.int .i64 0,.slice none 0 0,.slice none 0 0,.int .i64 0] 33)).alloc (.cells #[.int .i64 0,.string ⟨#[]⟩,.int .i64 0,.slice none 0 0,.slice none 0 0,.int .i64 0] 33)).drew
     rw [← hW5]
     clear hW5 hHeld hHeld0
     obtain ⟨xp,xq,xr,xf,xg,xh⟩ := facts X1
     obtain ⟨yp,yq,yr,yf,yg,yh⟩ := facts X2
     have nq : wr.heap.size ≠ wr.heap.size + 1 := by omega
     have nq2 : wr.heap.size + 1 ≠ wr.heap.size := by omega
     have gC : W5.grownBy ((((((W5.setCell ⟨wr.heap.size,0,none⟩ (.int .i64 k1)).setCell ⟨wr.heap.size,1,none⟩ (.string n1)).setCell ⟨wr.heap.size,2,none⟩ (.int .i64 re1)).setCell ⟨wr.heap.size,3,none⟩ (.slice xa1 vs1.length xc1)).setCell ⟨wr.heap.size,4,none⟩ (.slice xa2 bo1.length xc2)).setCell ⟨wr.heap.size,5,none⟩ (.int .i64 at1)) (some (wr.heap.size)) := gr6 (World.grownBy.refl W5 _)
     have nga : ga ≠ wr.heap.size := by omega
     have ngb : gb ≠ wr.heap.size := by omega
     have hHW6 : (fun w' : World => w'.cell? ⟨ga,oa + i * 6,none⟩ = some (.int .i64 k1) ∧ w'.cell? ⟨ga,oa + i * 6 + 1,none⟩ = some (.string n1) ∧ w'.cell? ⟨ga,oa + i * 6 + 2,none⟩ = some (.int .i64 re1) ∧ w'.cell? ⟨ga,oa + i * 6 + 3,none⟩ = some (.slice xa1 vs1.length xc1) ∧ w'.cell? ⟨ga,oa + i * 6 + 4,none⟩ = some (.slice xa2 bo1.length xc2) ∧ w'.cell? ⟨ga,oa + i * 6 + 5,none⟩ = some (.int .i64 at1) ∧ w'.cell? ⟨gb,ob + i * 6,none⟩ = some (.int .i64 k1) ∧ w'.cell? ⟨gb,ob + i * 6 + 1,none⟩ = some (.string n1) ∧ w'.cell? ⟨gb,ob + i * 6 + 2,none⟩ = some (.int .i64 re1) ∧ w'.cell? ⟨gb,ob + i * 6 + 3,none⟩ = some (.slice ya1 vs1.length yc1) ∧ w'.cell? ⟨gb,ob + i * 6 + 4,none⟩ = some (.slice ya2 bo1.length yc2) ∧ w'.cell? ⟨gb,ob + i * 6 + 5,none⟩ = some (.int .i64 at1)) ((((((W5.setCell ⟨wr.heap.size,0,none⟩ (.int .i64 k1)).setCell ⟨wr.heap.size,1,none⟩ (.string n1)).setCell ⟨wr.heap.size,2,none⟩ (.int .i64 re1)).setCell ⟨wr.heap.size,3,none⟩ (.slice xa1 vs1.length xc1)).setCell ⟨wr.heap.size,4,none⟩ (.slice xa2 bo1.length xc2)).setCell ⟨wr.heap.size,5,none⟩ (.int .i64 at1)).drew := by
      obtain ⟨h0,h1,h2,h3,h4,h5,h6,h7,h8,h9,h10,h11⟩ := hHW
      exact hDr _ ⟨cell_kp h0 gC nga,cell_kp h1 gC nga,cell_kp h2 gC nga,cell_kp h3 gC nga,cell_kp h4 gC nga,cell_kp h5 gC nga,cell_kp h6 gC ngb,cell_kp h7 gC ngb,cell_kp h8 gC ngb,cell_kp h9 gC ngb,cell_kp h10 gC ngb,cell_kp h11 gC ngb⟩
     refine wpAnyL_one (j := 10) (by kernel_rfl) rfl (fun K hK => ?_)
     go_simp
     refine hK.out _ _ (fun _ _ => hHW6) ?_
     clear hK K
     try simp only [Act.put,List.setIfInBounds_toArray,List.set_cons_zero,List.set_cons_succ]
     refine wpAnyL_one (j := 11) (by kernel_rfl) rfl (fun K hK => ?_)
     go_simp
     refine hK.out _ _ (fun h => absurd rfl h) ?_
     clear hK K
     try simp only [Act.put,List.setIfInBounds_toArray,List.set_cons_zero,List.set_cons_succ]
     refine wpAnyL_done (by kernel_rfl) ?_ _
     go_wp2_with fail
     go_meet
     exact ⟨wr.heap.size,wr.heap.size + 1,rfl,rfl,hidI ⟨by rw [drew_heap]; exact keptBut (gr6 (World.grownBy.refl _ _)) (box6 X1) (by omega),by rw [drew_heap]; exact box6 (keptBut (gr6 (World.grownBy.refl _ _)) X2 (by omega)),gr_drew (gr6n (gr6n gW (by omega)) (by omega))⟩⟩
   · skip
     go_simp
     refine hK.out _ _ (fun _ _ => hDr _ (hOld _ _ hHeld0)) ?_
     clear hK K
     try simp only [Act.put,List.setIfInBounds_toArray,List.set_cons_zero,List.set_cons_succ]
     refine wpAnyL_one (j := 8) (by kernel_rfl) rfl (fun K hK => ?_)
     go_simp
     refine hK.out _ _ (fun _ _ => hDr _ (hOld _ _ (hOld _ _ hHeld0))) ?_
     clear hK K
     try simp only [Act.put,List.setIfInBounds_toArray,List.set_cons_zero,List.set_cons_succ]
     obtain ⟨W5,hW5⟩ : ∃ W : World,W = (wr.alloc (.cells #[.int .i64 0,.string ⟨#[]⟩,.int .i64 0,.slice none 0 0,.slice none 0 0,.int .i64 0] 33)).alloc (.cells #[.int .i64 0,.string ⟨#[]⟩,.int .i64 0,.slice none 0 0,.slice none 0 0,.int .i64 0] 33) := ⟨_,rfl⟩
     have X1 : W5.heap[wr.heap.size]? = some (.cells #[.int .i64 0,.string ⟨#[]⟩,.int .i64 0,.slice none 0 0,.slice none 0 0,.int .i64 0] 33) := by rw [hW5]; exact old (new _ _) _
     have X2 : W5.heap[wr.heap.size + 1]? = some (.cells #[.int .i64 0,.string ⟨#[]⟩,.int .i64 0,.slice none 0 0,.slice none 0 0,.int .i64 0] 33) := by rw [hW5]; exact hp_new (by simp) _
     have gW : wr.grownBy W5 none := by rw [hW5]; exact gr_alloc (gr1 _ _) _
     have hHW : (fun w' : World => w'.cell? ⟨ga,oa + i * 6,none⟩ = some (.int .i64 k1) ∧ w'.cell? ⟨ga,oa + i * 6 + 1,none⟩ = some (.string n1) ∧ w'.cell? ⟨ga,oa + i * 6 + 2,none⟩ = some (.int .i64 re1) ∧ w'.cell? ⟨ga,oa + i * 6 + 3,none⟩ = some (.slice xa1 vs1.length xc1) ∧ w'.cell? ⟨ga,oa + i * 6 + 4,none⟩ = some (.slice xa2 bo1.length xc2) ∧ w'.cell? ⟨ga,oa + i * 6 + 5,none⟩ = some (.int .i64 at1) ∧ w'.cell? ⟨gb,ob + i * 6,none⟩ = some (.int .i64 k1) ∧ w'.cell? ⟨gb,ob + i * 6 + 1,none⟩ = some (.string n1) ∧ w'.cell? ⟨gb,ob + i * 6 + 2,none⟩ = some (.int .i64 re1) ∧ w'.cell? ⟨gb,ob + i * 6 + 3,none⟩ = some (.slice ya1 vs1.length yc1) ∧ w'.cell? ⟨gb,ob + i * 6 + 4,none⟩ = some (.slice ya2 bo1.length yc2) ∧ w'.cell? ⟨gb,ob + i * 6 + 5,none⟩ = some (.int .i64 at1)) W5 := by rw [hW5]; exact hOld _ _ (hOld _ _ hHeld0)
     change wpAnyL _ _ _ _ _ _ _ _ _ ((wr.alloc (.cells #[.int .i64 0,.string ⟨#[]⟩,.int .i64 0,.slice none 0 0,.slice none 0 0,.int .i64 0] 33)).alloc (.cells #[.int .i64 0,.string ⟨#[]⟩,.int .i64 0,.slice none 0 0,.slice none 0 0,.int .i64 0] 33)).drew
     rw [← hW5]
     clear hW5 hHeld hHeld0
     obtain ⟨xp,xq,xr,xf,xg,xh⟩ := facts X1
     obtain ⟨yp,yq,yr,yf,yg,yh⟩ := facts X2
     have nq : wr.heap.size + 1 ≠ wr.heap.size := by omega
     have nq2 : wr.heap.size ≠ wr.heap.size + 1 := by omega
     have gC : W5.grownBy ((((((W5.setCell ⟨wr.heap.size + 1,0,none⟩ (.int .i64 k1)).setCell ⟨wr.heap.size + 1,1,none⟩ (.string n1)).setCell ⟨wr.heap.size + 1,2,none⟩ (.int .i64 re1)).setCell ⟨wr.heap.size + 1,3,none⟩ (.slice xa1 vs1.length xc1)).setCell ⟨wr.heap.size + 1,4,none⟩ (.slice xa2 bo1.length xc2)).setCell ⟨wr.heap.size + 1,5,none⟩ (.int .i64 at1)) (some (wr.heap.size + 1)) := gr6 (World.grownBy.refl W5 _)
     have nga : ga ≠ wr.heap.size + 1 := by omega
     have ngb : gb ≠ wr.heap.size + 1 := by omega
     have hHW6 : (fun w' : World => w'.cell? ⟨ga,oa + i * 6,none⟩ = some (.int .i64 k1) ∧ w'.cell? ⟨ga,oa + i * 6 + 1,none⟩ = some (.string n1) ∧ w'.cell? ⟨ga,oa + i * 6 + 2,none⟩ = some (.int .i64 re1) ∧ w'.cell? ⟨ga,oa + i * 6 + 3,none⟩ = some (.slice xa1 vs1.length xc1) ∧ w'.cell? ⟨ga,oa + i * 6 + 4,none⟩ = some (.slice xa2 bo1.length xc2) ∧ w'.cell? ⟨ga,oa + i * 6 + 5,none⟩ = some (.int .i64 at1) ∧ w'.cell? ⟨gb,ob + i * 6,none⟩ = some (.int .i64 k1) ∧ w'.cell? ⟨gb,ob + i * 6 + 1,none⟩ = some (.string n1) ∧ w'.cell? ⟨gb,ob + i * 6 + 2,none⟩ = some (.int .i64 re1) ∧ w'.cell? ⟨gb,ob + i * 6 + 3,none⟩ = some (.slice ya1 vs1.length yc1) ∧ w'.cell? ⟨gb,ob + i * 6 + 4,none⟩ = some (.slice ya2 bo1.length yc2) ∧ w'.cell? ⟨gb,ob + i * 6 + 5,none⟩ = some (.int .i64 at1)) ((((((W5.setCell ⟨wr.heap.size + 1,0,none⟩ (.int .i64 k1)).setCell ⟨wr.heap.size + 1,1,none⟩ (.string n1)).setCell ⟨wr.heap.size + 1,2,none⟩ (.int .i64 re1)).setCell ⟨wr.heap.size + 1,3,none⟩ (.slice xa1 vs1.length xc1)).setCell ⟨wr.heap.size + 1,4,none⟩ (.slice xa2 bo1.length xc2)).setCell ⟨wr.heap.size + 1,5,none⟩ (.int .i64 at1)).drew := by
      obtain ⟨h0,h1,h2,h3,h4,h5,h6,h7,h8,h9,h10,h11⟩ := hHW
      exact hDr _ ⟨cell_kp h0 gC nga,cell_kp h1 gC nga,cell_kp h2 gC nga,cell_kp h3 gC nga,cell_kp h4 gC nga,cell_kp h5 gC nga,cell_kp h6 gC ngb,cell_kp h7 gC ngb,cell_kp h8 gC ngb,cell_kp h9 gC ngb,cell_kp h10 gC ngb,cell_kp h11 gC ngb⟩
     refine wpAnyL_one (j := 10) (by kernel_rfl) rfl (fun K hK => ?_)
     go_simp
     refine hK.out _ _ (fun _ _ => hHW6) ?_
     clear hK K
     try simp only [Act.put,List.setIfInBounds_toArray,List.set_cons_zero,List.set_cons_succ]
     refine wpAnyL_one (j := 11) (by kernel_rfl) rfl (fun K hK => ?_)
     go_simp
     refine hK.out _ _ (fun h => absurd rfl h) ?_
     clear hK K
     try simp only [Act.put,List.setIfInBounds_toArray,List.set_cons_zero,List.set_cons_succ]
     refine wpAnyL_done (by kernel_rfl) ?_ _
     go_wp2_with fail
     go_meet
     exact ⟨wr.heap.size + 1,wr.heap.size,rfl,rfl,hidI ⟨by rw [drew_heap]; exact keptBut (gr6 (World.grownBy.refl _ _)) (box6 X2) (by omega),by rw [drew_heap]; exact box6 (keptBut (gr6 (World.grownBy.refl _ _)) X1 (by omega)),gr_drew (gr6n (gr6n gW (by omega)) (by omega))⟩⟩
  case rest =>
  rename World => wb
  obtain ⟨qa,qb,rfl,rfl,HCU⟩ := hcut
  obtain ⟨hqa,hqb,hgc⟩ := HCU.out
  clear HCU
  have G0 := hidI (gtn HGR.out hgc)
  have A0 := hidI hqa
  have B0 := hidI hqb
  clear hgc hqa hqb
  obtain ⟨xp,xq,xr,xf,xg,xh⟩ := facts A0.out
  obtain ⟨yp,yq,yr,yf,yg,yh⟩ := facts B0.out
  go_wp2_with fail
  refine (cV.out _ G0.out).mono ?_
  rintro e w1 ⟨rfl,g0⟩
  have G1 := hidI (gtn G0.out g0)
  have A1 := hidI (kept g0 A0.out)
  have B1 := hidI (kept g0 B0.out)
  clear g0 xp xq xr xf xg xh yp yq yr yf yg yh
  obtain ⟨xp,xq,xr,xf,xg,xh⟩ := facts A1.out
  obtain ⟨yp,yq,yr,yf,yg,yh⟩ := facts B1.out
  go_wp2_with fail
  refine (cB.out _ G1.out).mono ?_
  rintro e w2 ⟨rfl,g0⟩
  have G2 := hidI (gtn G1.out g0)
  clear g0
  go_wp2_with fail
  go_roundg (l.length + 1 - (i + 1))
  case measure => omega
  case rel =>
   exact ⟨i + 1,by simp,⟨by omega,rfl⟩,G2.out⟩
end Go.Proofs.YtdcoidmbainkmaaGreatDoor
