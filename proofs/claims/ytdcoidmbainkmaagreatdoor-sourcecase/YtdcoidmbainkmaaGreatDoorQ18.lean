/- Texts put together: Wb, Wc. -/
import Derived.Test.YtdcoidmbainkmaaGreatDoorQ17
import Derived.Test.YtdcoidmbainkmaaGreatDoorQ20
namespace Go.Proofs.YtdcoidmbainkmaaGreatDoor
open Go.RowKit
attribute [local go_sem ↓] Go.wp_at_zero Go.wp_at_succ
set_option linter.unusedVariables false
set_option linter.unusedSimpArgs false
theorem Xs.pick {w : World} {ok : Nat → Prop} {v : Value} {l : List PE} (h : Xs w ok v l) (i : Nat) (hi : i < l.length) : ∃ g off c k,v = .slice (some ⟨g,off,none⟩) l.length c ∧ l.length ≤ 1000000 ∧ g < w.heap.size ∧ Xs w ok k l[i].kids ∧ ∀ j,j < 8 → w.cell? ⟨g,off + (i * 8 + j),none⟩ = (xC l[i] k)[j]? := by
 cases h with
 | mk v l ks hl hr hk =>
  have hz : (l.zip ks).length = l.length := by simp; omega
  have hf : ((l.zip ks).flatMap fun p => xC p.1 p.2).length = l.length * 8 := by
   have : ∀ (L : List (PE × Value)),(L.flatMap fun p => xC p.1 p.2).length = L.length * 8 := by
    intro L
    induction L with
    | nil => rfl
    | cons x L ih => rw [List.flatMap_cons,List.length_append,ih,xC_len,List.length_cons]; omega
   rw [this,hz]
  obtain ⟨g,off,c,rfl,hn,hg,hc⟩ := row_at hr (by rw [hf]; omega)
  have hzi : (l.zip ks)[i]'(by omega) = (l[i],ks[i]'(by omega)) := by simp
  refine ⟨g,off,c,ks[i]'(by omega),rfl,hn,hg,?_,?_⟩
  · have := hk _ (List.getElem_mem (l := l.zip ks) (n := i) (by omega))
    rw [hzi] at this
    exact this
  · intro j hj
    rw [hc _ (by rw [hf]; omega),flat_at (fun p : PE × Value => xC p.1 p.2) 8 (l.zip ks) (fun x _ => xC_len _ _) i j (by omega) hj,hzi]
def SmE (W : World) (va : Value) (l : List PE) : Prop := ∀ (W' : World),W.grownBy W' none → ∀ (ok : Nat → Prop) (vb : Value),Xs W' ok vb l → Calls Tryz.prog 37 #[va,vb] W' (yesG W')
def EsL (W : World) (n : Nat) (gk : Nat) (s5 : Value) (wx : World) : Prop := ∃ i : Nat,s5 = .int .i64 (i : Int) ∧ (i ≤ n ∧ gk = n + 1 - i) ∧ W.grownBy wx none
set_option maxRecDepth 10000 in
set_option maxHeartbeats 4000000 in
theorem same_es_in {W : World} {ok : Nat → Prop} {va : Value} {l : List PE} (hx : Xs W ok va l) (hI : ∀ (i : Nat) (hi : i < l.length) (k : Value),Xs W ok k l[i].kids → SmE W k l[i].kids) : SmE W va l := by
 intro W' hg' okb vb hb
 obtain ⟨ax,ac,rfl⟩ := hx.sl
 obtain ⟨bx,bc,rfl⟩ := hb.sl
 have HI := hidI hI
 have HA := hidI hx
 have HB := hidI hb
 have HG := hidI hg'
 have hne : ((l.length : Int) != (l.length : Int)) = false := by simp
 clear hI hx hb hg'
 go_enter Tryz.func37,Tryz.ntmps37
 go_wp2_with fail
 have LS : Hid (EsL W' l.length (l.length + 1) (.int .i64 0) W') := ⟨0,rfl,⟨Nat.zero_le _,rfl⟩,World.grownBy.refl _ _⟩
 go_loopg [5] (l.length + 1) (fun gk s5 wx => EsL W' l.length gk s5 wx)
 case atStart => exact LS.out
 case round =>
  obtain ⟨i,rfl,⟨hi1,hgk⟩,hg⟩ := hrel
  by_cases hi : i < l.length
  rotate_left
  · have hlt : ¬ ((i : Int) < (l.length : Int)) := by omega
    have HH := hidI hg
    clear hg
    go_wp2_with fail
    go_ret
    exact ⟨rfl,HH.out⟩
  have hlt : ((i : Int) < (l.length : Int)) := by omega
  obtain ⟨ga,oa,ca,ka,ea,hn,hga,hka,hca⟩ := HA.out.pick i hi
  obtain ⟨gb,ob,cb,kb,eb,_,hgb,hkb,hcb⟩ := HB.out.pick i hi
  injection ea with ea1 ea2 ea3
  injection eb with eb1 eb2 eb3
  subst ea1 eb1 ea3 eb3
  obtain ⟨ka1,ka2,rfl⟩ := hka.sl
  obtain ⟨kb1,kb2,rfl⟩ := hkb.sl
  have cK : Hid (∀ W2,W'.grownBy W2 none → Calls Tryz.prog 37 #[.slice ka1 l[i].kids.length ka2,.slice kb1 l[i].kids.length kb2] W2 (yesG W2)) := fun W2 hW2 => HI.out i hi _ hka W2 (gtn HG.out hW2) okb _ (hkb.kept (fun b _ hl => hW2.block b hl (by simp)) hW2.size)
  generalize hE : l[i] = E at cK hca hcb
  obtain ⟨f1,o1,kd1,n1,nm1,pt1,a1,ks1⟩ := E
  simp only [PE.kids] at cK hca hcb
  have hgD := gr_drew hg
  have HGD := hidI hgD
  have cga0 : wr.drew.cell? ⟨ga,oa + i * 8,none⟩ = some (.int .i64 f1) := by
   have h := hca 0 (by omega)
   rw [show oa + (i * 8 + 0) = oa + i * 8 by omega] at h
   exact (World.cell?_of_block (hg.block ga (by have := HG.out.size; omega) (by simp))).trans ((World.cell?_of_block (HG.out.block ga (by omega) (by simp))).trans h)
  have cga1 : wr.drew.cell? ⟨ga,oa + i * 8 + 1,none⟩ = some (.int .i64 o1) := by
   have h := hca 1 (by omega)
   rw [show oa + (i * 8 + 1) = oa + i * 8 + 1 by omega] at h
   exact (World.cell?_of_block (hg.block ga (by have := HG.out.size; omega) (by simp))).trans ((World.cell?_of_block (HG.out.block ga (by omega) (by simp))).trans h)
  have cga2 : wr.drew.cell? ⟨ga,oa + i * 8 + 2,none⟩ = some (.int .i64 kd1) := by
   have h := hca 2 (by omega)
   rw [show oa + (i * 8 + 2) = oa + i * 8 + 2 by omega] at h
   exact (World.cell?_of_block (hg.block ga (by have := HG.out.size; omega) (by simp))).trans ((World.cell?_of_block (HG.out.block ga (by omega) (by simp))).trans h)
  have cga3 : wr.drew.cell? ⟨ga,oa + i * 8 + 3,none⟩ = some (.int .i64 n1) := by
   have h := hca 3 (by omega)
   rw [show oa + (i * 8 + 3) = oa + i * 8 + 3 by omega] at h
   exact (World.cell?_of_block (hg.block ga (by have := HG.out.size; omega) (by simp))).trans ((World.cell?_of_block (HG.out.block ga (by omega) (by simp))).trans h)
  have cga4 : wr.drew.cell? ⟨ga,oa + i * 8 + 4,none⟩ = some (.string nm1) := by
   have h := hca 4 (by omega)
   rw [show oa + (i * 8 + 4) = oa + i * 8 + 4 by omega] at h
   exact (World.cell?_of_block (hg.block ga (by have := HG.out.size; omega) (by simp))).trans ((World.cell?_of_block (HG.out.block ga (by omega) (by simp))).trans h)
  have cga5 : wr.drew.cell? ⟨ga,oa + i * 8 + 5,none⟩ = some (.string pt1) := by
   have h := hca 5 (by omega)
   rw [show oa + (i * 8 + 5) = oa + i * 8 + 5 by omega] at h
   exact (World.cell?_of_block (hg.block ga (by have := HG.out.size; omega) (by simp))).trans ((World.cell?_of_block (HG.out.block ga (by omega) (by simp))).trans h)
  have cga6 : wr.drew.cell? ⟨ga,oa + i * 8 + 6,none⟩ = some (.int .i64 a1) := by
   have h := hca 6 (by omega)
   rw [show oa + (i * 8 + 6) = oa + i * 8 + 6 by omega] at h
   exact (World.cell?_of_block (hg.block ga (by have := HG.out.size; omega) (by simp))).trans ((World.cell?_of_block (HG.out.block ga (by omega) (by simp))).trans h)
  have cga7 : wr.drew.cell? ⟨ga,oa + i * 8 + 7,none⟩ = some (.slice ka1 ks1.length ka2) := by
   have h := hca 7 (by omega)
   rw [show oa + (i * 8 + 7) = oa + i * 8 + 7 by omega] at h
   exact (World.cell?_of_block (hg.block ga (by have := HG.out.size; omega) (by simp))).trans ((World.cell?_of_block (HG.out.block ga (by omega) (by simp))).trans h)
  have cgb0 : wr.drew.cell? ⟨gb,ob + i * 8,none⟩ = some (.int .i64 f1) := by
   have h := hcb 0 (by omega)
   rw [show ob + (i * 8 + 0) = ob + i * 8 by omega] at h
   exact (World.cell?_of_block (hg.block gb (by omega) (by simp))).trans h
  have cgb1 : wr.drew.cell? ⟨gb,ob + i * 8 + 1,none⟩ = some (.int .i64 o1) := by
   have h := hcb 1 (by omega)
   rw [show ob + (i * 8 + 1) = ob + i * 8 + 1 by omega] at h
   exact (World.cell?_of_block (hg.block gb (by omega) (by simp))).trans h
  have cgb2 : wr.drew.cell? ⟨gb,ob + i * 8 + 2,none⟩ = some (.int .i64 kd1) := by
   have h := hcb 2 (by omega)
   rw [show ob + (i * 8 + 2) = ob + i * 8 + 2 by omega] at h
   exact (World.cell?_of_block (hg.block gb (by omega) (by simp))).trans h
  have cgb3 : wr.drew.cell? ⟨gb,ob + i * 8 + 3,none⟩ = some (.int .i64 n1) := by
   have h := hcb 3 (by omega)
   rw [show ob + (i * 8 + 3) = ob + i * 8 + 3 by omega] at h
   exact (World.cell?_of_block (hg.block gb (by omega) (by simp))).trans h
  have cgb4 : wr.drew.cell? ⟨gb,ob + i * 8 + 4,none⟩ = some (.string nm1) := by
   have h := hcb 4 (by omega)
   rw [show ob + (i * 8 + 4) = ob + i * 8 + 4 by omega] at h
   exact (World.cell?_of_block (hg.block gb (by omega) (by simp))).trans h
  have cgb5 : wr.drew.cell? ⟨gb,ob + i * 8 + 5,none⟩ = some (.string pt1) := by
   have h := hcb 5 (by omega)
   rw [show ob + (i * 8 + 5) = ob + i * 8 + 5 by omega] at h
   exact (World.cell?_of_block (hg.block gb (by omega) (by simp))).trans h
  have cgb6 : wr.drew.cell? ⟨gb,ob + i * 8 + 6,none⟩ = some (.int .i64 a1) := by
   have h := hcb 6 (by omega)
   rw [show ob + (i * 8 + 6) = ob + i * 8 + 6 by omega] at h
   exact (World.cell?_of_block (hg.block gb (by omega) (by simp))).trans h
  have cgb7 : wr.drew.cell? ⟨gb,ob + i * 8 + 7,none⟩ = some (.slice kb1 ks1.length kb2) := by
   have h := hcb 7 (by omega)
   rw [show ob + (i * 8 + 7) = ob + i * 8 + 7 by omega] at h
   exact (World.cell?_of_block (hg.block gb (by omega) (by simp))).trans h
  have hHeld : (fun w' : World => w'.cell? ⟨ga,oa + i * 8,none⟩ = some (.int .i64 f1) ∧ w'.cell? ⟨ga,oa + i * 8 + 1,none⟩ = some (.int .i64 o1) ∧ w'.cell? ⟨ga,oa + i * 8 + 2,none⟩ = some (.int .i64 kd1) ∧ w'.cell? ⟨ga,oa + i * 8 + 3,none⟩ = some (.int .i64 n1) ∧ w'.cell? ⟨ga,oa + i * 8 + 4,none⟩ = some (.string nm1) ∧ w'.cell? ⟨ga,oa + i * 8 + 5,none⟩ = some (.string pt1) ∧ w'.cell? ⟨ga,oa + i * 8 + 6,none⟩ = some (.int .i64 a1) ∧ w'.cell? ⟨ga,oa + i * 8 + 7,none⟩ = some (.slice ka1 ks1.length ka2) ∧ w'.cell? ⟨gb,ob + i * 8,none⟩ = some (.int .i64 f1) ∧ w'.cell? ⟨gb,ob + i * 8 + 1,none⟩ = some (.int .i64 o1) ∧ w'.cell? ⟨gb,ob + i * 8 + 2,none⟩ = some (.int .i64 kd1) ∧ w'.cell? ⟨gb,ob + i * 8 + 3,none⟩ = some (.int .i64 n1) ∧ w'.cell? ⟨gb,ob + i * 8 + 4,none⟩ = some (.string nm1) ∧ w'.cell? ⟨gb,ob + i * 8 + 5,none⟩ = some (.string pt1) ∧ w'.cell? ⟨gb,ob + i * 8 + 6,none⟩ = some (.int .i64 a1) ∧ w'.cell? ⟨gb,ob + i * 8 + 7,none⟩ = some (.slice kb1 ks1.length kb2)) wr.drew := ⟨cga0,cga1,cga2,cga3,cga4,cga5,cga6,cga7,cgb0,cgb1,cgb2,cgb3,cgb4,cgb5,cgb6,cgb7⟩
  clear cga0 cga1 cga2 cga3 cga4 cga5 cga6 cga7 cgb0 cgb1 cgb2 cgb3 cgb4 cgb5 cgb6 cgb7
  have cE := hidI (same_e wr.drew f1 o1 kd1 n1 nm1 pt1 a1 ka1 kb1 ks1.length ks1.length ka2 kb2 (fun W2 hW2 => cK.out W2 (gtn HGD.out hW2)))
  have hwi : IntKind.i64.wrap ((i : Int) + 1) = i + 1 := IntWalk.i64_in _ (by omega)
  clear hg hgD hca hcb
  go_wp2_with fail
  refine wp_region_L (L := 8) (S := (fun w' : World => w'.cell? ⟨ga,oa + i * 8,none⟩ = some (.int .i64 f1) ∧ w'.cell? ⟨ga,oa + i * 8 + 1,none⟩ = some (.int .i64 o1) ∧ w'.cell? ⟨ga,oa + i * 8 + 2,none⟩ = some (.int .i64 kd1) ∧ w'.cell? ⟨ga,oa + i * 8 + 3,none⟩ = some (.int .i64 n1) ∧ w'.cell? ⟨ga,oa + i * 8 + 4,none⟩ = some (.string nm1) ∧ w'.cell? ⟨ga,oa + i * 8 + 5,none⟩ = some (.string pt1) ∧ w'.cell? ⟨ga,oa + i * 8 + 6,none⟩ = some (.int .i64 a1) ∧ w'.cell? ⟨ga,oa + i * 8 + 7,none⟩ = some (.slice ka1 ks1.length ka2) ∧ w'.cell? ⟨gb,ob + i * 8,none⟩ = some (.int .i64 f1) ∧ w'.cell? ⟨gb,ob + i * 8 + 1,none⟩ = some (.int .i64 o1) ∧ w'.cell? ⟨gb,ob + i * 8 + 2,none⟩ = some (.int .i64 kd1) ∧ w'.cell? ⟨gb,ob + i * 8 + 3,none⟩ = some (.int .i64 n1) ∧ w'.cell? ⟨gb,ob + i * 8 + 4,none⟩ = some (.string nm1) ∧ w'.cell? ⟨gb,ob + i * 8 + 5,none⟩ = some (.string pt1) ∧ w'.cell? ⟨gb,ob + i * 8 + 6,none⟩ = some (.int .i64 a1) ∧ w'.cell? ⟨gb,ob + i * 8 + 7,none⟩ = some (.slice kb1 ks1.length kb2))) (by kernel_rfl) ?_
  refine wpAnyL_free (i := 0) (v := ?_) rfl (by kernel_rfl) (by kernel_rfl) (by kernel_rfl) (fun _ _ _ h => h) (by decide) (Or.inl ⟨by rfl,?_⟩) (fun _ => hHeld) ?_
  rotate_left
  · intro w hSw
    go_simp
    try with_reducible rfl
  try simp only [Act.put,List.setIfInBounds_toArray,List.set_cons_zero,List.set_cons_succ]
  refine wpAnyL_free (i := 1) (v := ?_) rfl (by kernel_rfl) (by kernel_rfl) (by kernel_rfl) (fun _ _ _ h => h) (by decide) (Or.inl ⟨by rfl,?_⟩) (fun _ => hHeld) ?_
  rotate_left
  · intro w hSw
    go_simp
    try with_reducible rfl
  try simp only [Act.put,List.setIfInBounds_toArray,List.set_cons_zero,List.set_cons_succ]
  refine wpAnyL_free (i := 2) (v := ?_) rfl (by kernel_rfl) (by kernel_rfl) (by kernel_rfl) (fun _ _ _ h => h) (by decide) (Or.inl ⟨by rfl,?_⟩) (fun _ => hHeld) ?_
  rotate_left
  · intro w hSw
    go_simp
    try with_reducible rfl
  try simp only [Act.put,List.setIfInBounds_toArray,List.set_cons_zero,List.set_cons_succ]
  refine wpAnyL_take (i := 3) (v := ?_) rfl (by kernel_rfl) (by kernel_rfl) (by kernel_rfl) (fun _ _ _ h => h) (by kernel_rfl) (by kernel_rfl) (Or.inl ⟨by rfl,?_⟩) hHeld ?_
  rotate_left
  · intro w hSw
    try dsimp only at hSw
    go_simp
    try with_reducible rfl
  try simp only [Act.put,List.setIfInBounds_toArray,List.set_cons_zero,List.set_cons_succ]
  refine wpAnyL_free (i := 4) (v := ?_) rfl (by kernel_rfl) (by kernel_rfl) (by kernel_rfl) (fun _ _ _ h => h) (by decide) (Or.inl ⟨by rfl,?_⟩) (fun _ => hHeld) ?_
  rotate_left
  · intro w hSw
    go_simp
    try with_reducible rfl
  try simp only [Act.put,List.setIfInBounds_toArray,List.set_cons_zero,List.set_cons_succ]
  refine wpAnyL_free (i := 5) (v := ?_) rfl (by kernel_rfl) (by kernel_rfl) (by kernel_rfl) (fun _ _ _ h => h) (by decide) (Or.inl ⟨by rfl,?_⟩) (fun _ => hHeld) ?_
  rotate_left
  · intro w hSw
    go_simp
    try with_reducible rfl
  try simp only [Act.put,List.setIfInBounds_toArray,List.set_cons_zero,List.set_cons_succ]
  refine wpAnyL_free (i := 6) (v := ?_) rfl (by kernel_rfl) (by kernel_rfl) (by kernel_rfl) (fun _ _ _ h => h) (by decide) (Or.inl ⟨by rfl,?_⟩) (fun _ => hHeld) ?_
  rotate_left
  · intro w hSw
    go_simp
    try with_reducible rfl
  try simp only [Act.put,List.setIfInBounds_toArray,List.set_cons_zero,List.set_cons_succ]
  refine wpAnyL_take (i := 7) (v := ?_) rfl (by kernel_rfl) (by kernel_rfl) (by kernel_rfl) (fun _ _ _ h => h) (by kernel_rfl) (by kernel_rfl) (Or.inl ⟨by rfl,?_⟩) hHeld ?_
  rotate_left
  · intro w hSw
    try dsimp only at hSw
    go_simp
    try with_reducible rfl
  try simp only [Act.put,List.setIfInBounds_toArray,List.set_cons_zero,List.set_cons_succ]
  refine wpAnyL_one (j := 8) (by kernel_rfl) rfl (fun K hK => ?_)
  go_simp
  refine cE.out.mono ?_
  rintro e w2 ⟨rfl,g2⟩
  have G2 := hidI (gtn HGD.out g2)
  go_wp2_with fail
  refine hK.out _ _ (fun h => absurd rfl h) ?_
  clear hK K
  try simp only [Act.put,List.setIfInBounds_toArray,List.set_cons_zero,List.set_cons_succ]
  refine wpAnyL_free (i := 9) (v := ?_) rfl (by kernel_rfl) (by kernel_rfl) (by kernel_rfl) (fun _ _ _ h => h) (by decide) (Or.inl ⟨by rfl,?_⟩) (fun h => absurd h (by decide)) ?_
  rotate_left
  · intro w hSw
    go_simp
    try with_reducible rfl
  try simp only [Act.put,List.setIfInBounds_toArray,List.set_cons_zero,List.set_cons_succ]
  refine wpAnyL_done (by kernel_rfl) ?_ _
  go_wp2_with fail
  go_roundg (l.length + 1 - (i + 1))
  case measure => omega
  case rel =>
   exact ⟨i + 1,by simp,⟨by omega,rfl⟩,G2.out⟩
theorem same_es {W : World} {ok : Nat → Prop} {va : Value} {l : List PE} (hx : Xs W ok va l) : SmE W va l := by
 have key : ∀ (n : Nat) (l : List PE),SizeOf.sizeOf l < n → ∀ va,Xs W ok va l → SmE W va l := by
  intro n
  induction n with
  | zero => intro l h; omega
  | succ n ih =>
   intro l h va hx
   refine same_es_in hx (fun i hi k hk => ih _ ?_ k hk)
   have h1 : SizeOf.sizeOf l[i] < SizeOf.sizeOf l := List.sizeOf_lt_of_mem (List.getElem_mem hi)
   have h2 : SizeOf.sizeOf l[i].kids < SizeOf.sizeOf l[i] := by
    obtain ⟨_,_,_,_,_,_,_,_⟩ := l[i]
    simp [PE.kids]
    omega
   omega
 exact key _ l (Nat.lt_succ_self _) va hx
end Go.Proofs.YtdcoidmbainkmaaGreatDoor

namespace Go.Proofs.YtdcoidmbainkmaaGreatDoor
open Go.RowKit
attribute [local go_sem ↓] Go.wp_at_zero Go.wp_at_succ
set_option linter.unusedVariables false
set_option linter.unusedSimpArgs false
theorem cell_al {W : World} {g k : Nat} {v : Value} {ob : Obj} (h : W.cell? ⟨g,k,none⟩ = some v) : (W.alloc ob).cell? ⟨g,k,none⟩ = some v := by
 by_cases hg : g < W.heap.size
 · rw [← h]; exact World.cell?_of_block (hp_old hg ob)
 · simp [World.cell?,Array.getElem?_eq_none (Nat.le_of_not_lt hg)] at h
theorem cell_kp {W W' : World} {g k q : Nat} {v : Value} (h : W.cell? ⟨g,k,none⟩ = some v) (hg : W.grownBy W' (some q)) (hne : g ≠ q) : W'.cell? ⟨g,k,none⟩ = some v := by
 by_cases hl : g < W.heap.size
 · rw [← h]; exact World.cell?_of_block (hg.block g hl (by simpa using hne))
 · simp [World.cell?,Array.getElem?_eq_none (Nat.le_of_not_lt hl)] at h
theorem Li.pick {α Q : Type} {K : Kd α Q} {T sz : Nat} {w : World} {ok : Nat → Prop} {v : Value} {l : List α} (h : Li K T w ok v l) (hsz : ∀ e q,(K.c e q).length = sz) (h0 : 0 < sz) (i : Nat) (hi : i < l.length) : ∃ g off c q,v = .slice (some ⟨g,off,none⟩) l.length c ∧ l.length ≤ 1000000 ∧ g < w.heap.size ∧ K.S w ok l[i] q ∧ ∀ j,j < sz → w.cell? ⟨g,off + (i * sz + j),none⟩ = (K.c l[i] q)[j]? := by
 obtain ⟨ks,hl,hr,hk⟩ := h
 have hz : (l.zip ks).length = l.length := by simp; omega
 have hf : ((l.zip ks).flatMap fun p => K.c p.1 p.2).length = l.length * sz := by
  have : ∀ (L : List (α × Q)),(L.flatMap fun p => K.c p.1 p.2).length = L.length * sz := by
   intro L
   induction L with
   | nil => simp
   | cons x L ih => rw [List.flatMap_cons,List.length_append,ih,hsz,List.length_cons,Nat.succ_mul]; omega
  rw [this,hz]
 have hb : ∀ j,j < sz → i * sz + j < l.length * sz := fun j hj => by
  have : (i + 1) * sz ≤ l.length * sz := Nat.mul_le_mul_right sz hi
  rw [Nat.succ_mul] at this; omega
 obtain ⟨g,off,c,rfl,hn,hg,hc⟩ := row_at hr (by rw [hf]; have := hb 0 h0; omega)
 have hzi : (l.zip ks)[i]'(by omega) = (l[i],ks[i]'(by omega)) := by simp
 refine ⟨g,off,c,ks[i]'(by omega),rfl,hn,hg,?_,?_⟩
 · have := hk _ (List.getElem_mem (l := l.zip ks) (n := i) (by omega))
   rw [hzi] at this
   exact this
 · intro j hj
   rw [hc _ (by rw [hf]; exact hb j hj),flat_at (fun p : α × Q => K.c p.1 p.2) sz (l.zip ks) (fun x _ => hsz _ _) i j (by omega) hj,hzi]
theorem same_0 (W : World) (f o kd n : Int) (nm pt : ByteArray) (a : Int) (ax bx : Option Addr) (ac bc : Nat) :
 Calls Tryz.prog 36 #[.agg #[.int .i64 f,.int .i64 o,.int .i64 kd,.int .i64 n,.string nm,.string pt,.int .i64 a,.slice ax 0 ac],.agg #[.int .i64 f,.int .i64 o,.int .i64 kd,.int .i64 n,.string nm,.string pt,.int .i64 a,.slice bx 0 bc]] W (yesG W) := by
 refine same_e W f o kd n nm pt a ax bx 0 0 ac bc (fun W' _ => ?_)
 have h0 : ∀ (x : Option Addr) (c : Nat),Xs W' (fun _ => True) (.slice x 0 c) [] := fun x c => .mk _ _ [] rfl ⟨x,c,rfl,by simp,Or.inl ⟨rfl,rfl⟩⟩ (by simp)
 exact same_es (h0 ax ac) W' (World.grownBy.refl _ _) _ _ (h0 bx bc)
set_option maxRecDepth 10000 in
set_option maxHeartbeats 8000000 in
theorem same_vs {W : World} {oka okb : Nat → Prop} {va vb : Value} {l : List PV} (hx : Li kdV 63 W oka va l) (hb : Li kdV 63 W okb vb l) : Calls Tryz.prog 17 #[va,vb] W (yesG W) := by
 obtain ⟨ax,ac,rfl⟩ := hx.sl
 obtain ⟨bx,bc,rfl⟩ := hb.sl
 have HA := hidI hx
 have HB := hidI hb
 have hne : ((l.length : Int) != (l.length : Int)) = false := by simp
 clear hx hb
 go_enter Tryz.func17,Tryz.ntmps17
 go_wp2_with fail
 have LS : Hid (EsL W l.length (l.length + 1) (.int .i64 0) W) := ⟨0,rfl,⟨Nat.zero_le _,rfl⟩,World.grownBy.refl _ _⟩
 go_loopg [5] (l.length + 1) (fun gk s5 wx => EsL W l.length gk s5 wx)
 case atStart => exact LS.out
 case round =>
  obtain ⟨i,rfl,⟨hi1,hgk⟩,hg⟩ := hrel
  by_cases hi : i < l.length
  rotate_left
  · have hlt : ¬ ((i : Int) < (l.length : Int)) := by omega
    have HH := hidI hg
    clear hg
    go_wp2_with fail
    go_ret
    exact ⟨rfl,HH.out⟩
  have hlt : ((i : Int) < (l.length : Int)) := by omega
  obtain ⟨ga,oa,ca,ka,ea,hn,hga,hka,hca⟩ := HA.out.pick vC_len (by omega) i hi
  obtain ⟨gb,ob,cb,kb,eb,_,hgb,hkb,hcb⟩ := HB.out.pick vC_len (by omega) i hi
  injection ea with ea1 ea2 ea3
  injection eb with eb1 eb2 eb3
  subst ea1 eb1 ea3 eb3
  obtain ⟨hk0,ka1,ka2,rfl⟩ := hka
  obtain ⟨_,kb1,kb2,rfl⟩ := hkb
  generalize hE : l[i] = E at hca hcb hk0
  obtain ⟨y1,y2,y3,y4,y5,y6,⟨f1,o1,kd1,n1,nm1,pt1,a1,ks1⟩,y8⟩ := E
  have hgD := gr_drew hg
  have HGD := hidI hgD
  have HGR := hidI hg
  have cga0 : wr.cell? ⟨ga,oa + i * 15,none⟩ = some (.string y1) := by
   have h := hca 0 (by omega)
   rw [show oa + (i * 15 + 0) = oa + i * 15 by omega] at h
   exact (World.cell?_of_block (hg.block ga (by omega) (by simp))).trans h
  have cga1 : wr.cell? ⟨ga,oa + i * 15 + 1,none⟩ = some (.int .i64 y2) := by
   have h := hca 1 (by omega)
   rw [show oa + (i * 15 + 1) = oa + i * 15 + 1 by omega] at h
   exact (World.cell?_of_block (hg.block ga (by omega) (by simp))).trans h
  have cga2 : wr.cell? ⟨ga,oa + i * 15 + 2,none⟩ = some (.int .i64 y3) := by
   have h := hca 2 (by omega)
   rw [show oa + (i * 15 + 2) = oa + i * 15 + 2 by omega] at h
   exact (World.cell?_of_block (hg.block ga (by omega) (by simp))).trans h
  have cga3 : wr.cell? ⟨ga,oa + i * 15 + 3,none⟩ = some (.string y4) := by
   have h := hca 3 (by omega)
   rw [show oa + (i * 15 + 3) = oa + i * 15 + 3 by omega] at h
   exact (World.cell?_of_block (hg.block ga (by omega) (by simp))).trans h
  have cga4 : wr.cell? ⟨ga,oa + i * 15 + 4,none⟩ = some (.int .i64 y5) := by
   have h := hca 4 (by omega)
   rw [show oa + (i * 15 + 4) = oa + i * 15 + 4 by omega] at h
   exact (World.cell?_of_block (hg.block ga (by omega) (by simp))).trans h
  have cga5 : wr.cell? ⟨ga,oa + i * 15 + 5,none⟩ = some (.int .i64 y6) := by
   have h := hca 5 (by omega)
   rw [show oa + (i * 15 + 5) = oa + i * 15 + 5 by omega] at h
   exact (World.cell?_of_block (hg.block ga (by omega) (by simp))).trans h
  have cga6 : wr.cell? ⟨ga,oa + i * 15 + 6,none⟩ = some (.int .i64 f1) := by
   have h := hca 6 (by omega)
   rw [show oa + (i * 15 + 6) = oa + i * 15 + 6 by omega] at h
   exact (World.cell?_of_block (hg.block ga (by omega) (by simp))).trans h
  have cga7 : wr.cell? ⟨ga,oa + i * 15 + 7,none⟩ = some (.int .i64 o1) := by
   have h := hca 7 (by omega)
   rw [show oa + (i * 15 + 7) = oa + i * 15 + 7 by omega] at h
   exact (World.cell?_of_block (hg.block ga (by omega) (by simp))).trans h
  have cga8 : wr.cell? ⟨ga,oa + i * 15 + 8,none⟩ = some (.int .i64 kd1) := by
   have h := hca 8 (by omega)
   rw [show oa + (i * 15 + 8) = oa + i * 15 + 8 by omega] at h
   exact (World.cell?_of_block (hg.block ga (by omega) (by simp))).trans h
  have cga9 : wr.cell? ⟨ga,oa + i * 15 + 9,none⟩ = some (.int .i64 n1) := by
   have h := hca 9 (by omega)
   rw [show oa + (i * 15 + 9) = oa + i * 15 + 9 by omega] at h
   exact (World.cell?_of_block (hg.block ga (by omega) (by simp))).trans h
  have cga10 : wr.cell? ⟨ga,oa + i * 15 + 10,none⟩ = some (.string nm1) := by
   have h := hca 10 (by omega)
   rw [show oa + (i * 15 + 10) = oa + i * 15 + 10 by omega] at h
   exact (World.cell?_of_block (hg.block ga (by omega) (by simp))).trans h
  have cga11 : wr.cell? ⟨ga,oa + i * 15 + 11,none⟩ = some (.string pt1) := by
   have h := hca 11 (by omega)
   rw [show oa + (i * 15 + 11) = oa + i * 15 + 11 by omega] at h
   exact (World.cell?_of_block (hg.block ga (by omega) (by simp))).trans h
  have cga12 : wr.cell? ⟨ga,oa + i * 15 + 12,none⟩ = some (.int .i64 a1) := by
   have h := hca 12 (by omega)
   rw [show oa + (i * 15 + 12) = oa + i * 15 + 12 by omega] at h
   exact (World.cell?_of_block (hg.block ga (by omega) (by simp))).trans h
  have cga13 : wr.cell? ⟨ga,oa + i * 15 + 13,none⟩ = some (.slice ka1 0 ka2) := by
   have h := hca 13 (by omega)
   rw [show oa + (i * 15 + 13) = oa + i * 15 + 13 by omega] at h
   exact (World.cell?_of_block (hg.block ga (by omega) (by simp))).trans h
  have cga14 : wr.cell? ⟨ga,oa + i * 15 + 14,none⟩ = some (.int .i64 y8) := by
   have h := hca 14 (by omega)
   rw [show oa + (i * 15 + 14) = oa + i * 15 + 14 by omega] at h
   exact (World.cell?_of_block (hg.block ga (by omega) (by simp))).trans h
  have cgb0 : wr.cell? ⟨gb,ob + i * 15,none⟩ = some (.string y1) := by
   have h := hcb 0 (by omega)
   rw [show ob + (i * 15 + 0) = ob + i * 15 by omega] at h
   exact (World.cell?_of_block (hg.block gb (by omega) (by simp))).trans h
  have cgb1 : wr.cell? ⟨gb,ob + i * 15 + 1,none⟩ = some (.int .i64 y2) := by
   have h := hcb 1 (by omega)
   rw [show ob + (i * 15 + 1) = ob + i * 15 + 1 by omega] at h
   exact (World.cell?_of_block (hg.block gb (by omega) (by simp))).trans h
  have cgb2 : wr.cell? ⟨gb,ob + i * 15 + 2,none⟩ = some (.int .i64 y3) := by
   have h := hcb 2 (by omega)
   rw [show ob + (i * 15 + 2) = ob + i * 15 + 2 by omega] at h
   exact (World.cell?_of_block (hg.block gb (by omega) (by simp))).trans h
  have cgb3 : wr.cell? ⟨gb,ob + i * 15 + 3,none⟩ = some (.string y4) := by
   have h := hcb 3 (by omega)
   rw [show ob + (i * 15 + 3) = ob + i * 15 + 3 by omega] at h
   exact (World.cell?_of_block (hg.block gb (by omega) (by simp))).trans h
  have cgb4 : wr.cell? ⟨gb,ob + i * 15 + 4,none⟩ = some (.int .i64 y5) := by
   have h := hcb 4 (by omega)
   rw [show ob + (i * 15 + 4) = ob + i * 15 + 4 by omega] at h
   exact (World.cell?_of_block (hg.block gb (by omega) (by simp))).trans h
  have cgb5 : wr.cell? ⟨gb,ob + i * 15 + 5,none⟩ = some (.int .i64 y6) := by
   have h := hcb 5 (by omega)
   rw [show ob + (i * 15 + 5) = ob + i * 15 + 5 by omega] at h
   exact (World.cell?_of_block (hg.block gb (by omega) (by simp))).trans h
  have cgb6 : wr.cell? ⟨gb,ob + i * 15 + 6,none⟩ = some (.int .i64 f1) := by
   have h := hcb 6 (by omega)
   rw [show ob + (i * 15 + 6) = ob + i * 15 + 6 by omega] at h
   exact (World.cell?_of_block (hg.block gb (by omega) (by simp))).trans h
  have cgb7 : wr.cell? ⟨gb,ob + i * 15 + 7,none⟩ = some (.int .i64 o1) := by
   have h := hcb 7 (by omega)
   rw [show ob + (i * 15 + 7) = ob + i * 15 + 7 by omega] at h
   exact (World.cell?_of_block (hg.block gb (by omega) (by simp))).trans h
  have cgb8 : wr.cell? ⟨gb,ob + i * 15 + 8,none⟩ = some (.int .i64 kd1) := by
   have h := hcb 8 (by omega)
   rw [show ob + (i * 15 + 8) = ob + i * 15 + 8 by omega] at h
   exact (World.cell?_of_block (hg.block gb (by omega) (by simp))).trans h
  have cgb9 : wr.cell? ⟨gb,ob + i * 15 + 9,none⟩ = some (.int .i64 n1) := by
   have h := hcb 9 (by omega)
   rw [show ob + (i * 15 + 9) = ob + i * 15 + 9 by omega] at h
   exact (World.cell?_of_block (hg.block gb (by omega) (by simp))).trans h
  have cgb10 : wr.cell? ⟨gb,ob + i * 15 + 10,none⟩ = some (.string nm1) := by
   have h := hcb 10 (by omega)
   rw [show ob + (i * 15 + 10) = ob + i * 15 + 10 by omega] at h
   exact (World.cell?_of_block (hg.block gb (by omega) (by simp))).trans h
  have cgb11 : wr.cell? ⟨gb,ob + i * 15 + 11,none⟩ = some (.string pt1) := by
   have h := hcb 11 (by omega)
   rw [show ob + (i * 15 + 11) = ob + i * 15 + 11 by omega] at h
   exact (World.cell?_of_block (hg.block gb (by omega) (by simp))).trans h
  have cgb12 : wr.cell? ⟨gb,ob + i * 15 + 12,none⟩ = some (.int .i64 a1) := by
   have h := hcb 12 (by omega)
   rw [show ob + (i * 15 + 12) = ob + i * 15 + 12 by omega] at h
   exact (World.cell?_of_block (hg.block gb (by omega) (by simp))).trans h
  have cgb13 : wr.cell? ⟨gb,ob + i * 15 + 13,none⟩ = some (.slice kb1 0 kb2) := by
   have h := hcb 13 (by omega)
   rw [show ob + (i * 15 + 13) = ob + i * 15 + 13 by omega] at h
   exact (World.cell?_of_block (hg.block gb (by omega) (by simp))).trans h
  have cgb14 : wr.cell? ⟨gb,ob + i * 15 + 14,none⟩ = some (.int .i64 y8) := by
   have h := hcb 14 (by omega)
   rw [show ob + (i * 15 + 14) = ob + i * 15 + 14 by omega] at h
   exact (World.cell?_of_block (hg.block gb (by omega) (by simp))).trans h
  have hga2 : ga < wr.heap.size := by have := hg.size; omega
  have hgb2 : gb < wr.heap.size := by have := hg.size; omega
  have hwi : IntKind.i64.wrap ((i : Int) + 1) = i + 1 := IntWalk.i64_in _ (by omega)
  clear hg hgD hca hcb
  go_upto_region 6 with fail
  go_cut [6,7] from 19 to 26 (fun s6 s7 wx => ∃ qa qb : Nat,s6 = .pointer (some ⟨qa,0,none⟩) ∧ s7 = .pointer (some ⟨qb,0,none⟩) ∧ Hid (wx.heap[qa]? = some (.cells #[.string y1,.int .i64 y2,.int .i64 y3,.string y4,.int .i64 y5,.int .i64 y6,.int .i64 f1,.int .i64 o1,.int .i64 kd1,.int .i64 n1,.string nm1,.string pt1,.int .i64 a1,.slice ka1 0 ka2,.int .i64 y8] 63) ∧ wx.heap[qb]? = some (.cells #[.string y1,.int .i64 y2,.int .i64 y3,.string y4,.int .i64 y5,.int .i64 y6,.int .i64 f1,.int .i64 o1,.int .i64 kd1,.int .i64 n1,.string nm1,.string pt1,.int .i64 a1,.slice kb1 0 kb2,.int .i64 y8] 63) ∧ wr.grownBy wx none))
  case first =>
   have hHeld0 : (fun w' : World => w'.cell? ⟨ga,oa + i * 15,none⟩ = some (.string y1) ∧ w'.cell? ⟨ga,oa + i * 15 + 1,none⟩ = some (.int .i64 y2) ∧ w'.cell? ⟨ga,oa + i * 15 + 2,none⟩ = some (.int .i64 y3) ∧ w'.cell? ⟨ga,oa + i * 15 + 3,none⟩ = some (.string y4) ∧ w'.cell? ⟨ga,oa + i * 15 + 4,none⟩ = some (.int .i64 y5) ∧ w'.cell? ⟨ga,oa + i * 15 + 5,none⟩ = some (.int .i64 y6) ∧ w'.cell? ⟨ga,oa + i * 15 + 6,none⟩ = some (.int .i64 f1) ∧ w'.cell? ⟨ga,oa + i * 15 + 7,none⟩ = some (.int .i64 o1) ∧ w'.cell? ⟨ga,oa + i * 15 + 8,none⟩ = some (.int .i64 kd1) ∧ w'.cell? ⟨ga,oa + i * 15 + 9,none⟩ = some (.int .i64 n1) ∧ w'.cell? ⟨ga,oa + i * 15 + 10,none⟩ = some (.string nm1) ∧ w'.cell? ⟨ga,oa + i * 15 + 11,none⟩ = some (.string pt1) ∧ w'.cell? ⟨ga,oa + i * 15 + 12,none⟩ = some (.int .i64 a1) ∧ w'.cell? ⟨ga,oa + i * 15 + 13,none⟩ = some (.slice ka1 0 ka2) ∧ w'.cell? ⟨ga,oa + i * 15 + 14,none⟩ = some (.int .i64 y8) ∧ w'.cell? ⟨gb,ob + i * 15,none⟩ = some (.string y1) ∧ w'.cell? ⟨gb,ob + i * 15 + 1,none⟩ = some (.int .i64 y2) ∧ w'.cell? ⟨gb,ob + i * 15 + 2,none⟩ = some (.int .i64 y3) ∧ w'.cell? ⟨gb,ob + i * 15 + 3,none⟩ = some (.string y4) ∧ w'.cell? ⟨gb,ob + i * 15 + 4,none⟩ = some (.int .i64 y5) ∧ w'.cell? ⟨gb,ob + i * 15 + 5,none⟩ = some (.int .i64 y6) ∧ w'.cell? ⟨gb,ob + i * 15 + 6,none⟩ = some (.int .i64 f1) ∧ w'.cell? ⟨gb,ob + i * 15 + 7,none⟩ = some (.int .i64 o1) ∧ w'.cell? ⟨gb,ob + i * 15 + 8,none⟩ = some (.int .i64 kd1) ∧ w'.cell? ⟨gb,ob + i * 15 + 9,none⟩ = some (.int .i64 n1) ∧ w'.cell? ⟨gb,ob + i * 15 + 10,none⟩ = some (.string nm1) ∧ w'.cell? ⟨gb,ob + i * 15 + 11,none⟩ = some (.string pt1) ∧ w'.cell? ⟨gb,ob + i * 15 + 12,none⟩ = some (.int .i64 a1) ∧ w'.cell? ⟨gb,ob + i * 15 + 13,none⟩ = some (.slice kb1 0 kb2) ∧ w'.cell? ⟨gb,ob + i * 15 + 14,none⟩ = some (.int .i64 y8)) wr := ⟨cga0,cga1,cga2,cga3,cga4,cga5,cga6,cga7,cga8,cga9,cga10,cga11,cga12,cga13,cga14,cgb0,cgb1,cgb2,cgb3,cgb4,cgb5,cgb6,cgb7,cgb8,cgb9,cgb10,cgb11,cgb12,cgb13,cgb14⟩
   have hDr : ∀ (W : World),(fun w' : World => w'.cell? ⟨ga,oa + i * 15,none⟩ = some (.string y1) ∧ w'.cell? ⟨ga,oa + i * 15 + 1,none⟩ = some (.int .i64 y2) ∧ w'.cell? ⟨ga,oa + i * 15 + 2,none⟩ = some (.int .i64 y3) ∧ w'.cell? ⟨ga,oa + i * 15 + 3,none⟩ = some (.string y4) ∧ w'.cell? ⟨ga,oa + i * 15 + 4,none⟩ = some (.int .i64 y5) ∧ w'.cell? ⟨ga,oa + i * 15 + 5,none⟩ = some (.int .i64 y6) ∧ w'.cell? ⟨ga,oa + i * 15 + 6,none⟩ = some (.int .i64 f1) ∧ w'.cell? ⟨ga,oa + i * 15 + 7,none⟩ = some (.int .i64 o1) ∧ w'.cell? ⟨ga,oa + i * 15 + 8,none⟩ = some (.int .i64 kd1) ∧ w'.cell? ⟨ga,oa + i * 15 + 9,none⟩ = some (.int .i64 n1) ∧ w'.cell? ⟨ga,oa + i * 15 + 10,none⟩ = some (.string nm1) ∧ w'.cell? ⟨ga,oa + i * 15 + 11,none⟩ = some (.string pt1) ∧ w'.cell? ⟨ga,oa + i * 15 + 12,none⟩ = some (.int .i64 a1) ∧ w'.cell? ⟨ga,oa + i * 15 + 13,none⟩ = some (.slice ka1 0 ka2) ∧ w'.cell? ⟨ga,oa + i * 15 + 14,none⟩ = some (.int .i64 y8) ∧ w'.cell? ⟨gb,ob + i * 15,none⟩ = some (.string y1) ∧ w'.cell? ⟨gb,ob + i * 15 + 1,none⟩ = some (.int .i64 y2) ∧ w'.cell? ⟨gb,ob + i * 15 + 2,none⟩ = some (.int .i64 y3) ∧ w'.cell? ⟨gb,ob + i * 15 + 3,none⟩ = some (.string y4) ∧ w'.cell? ⟨gb,ob + i * 15 + 4,none⟩ = some (.int .i64 y5) ∧ w'.cell? ⟨gb,ob + i * 15 + 5,none⟩ = some (.int .i64 y6) ∧ w'.cell? ⟨gb,ob + i * 15 + 6,none⟩ = some (.int .i64 f1) ∧ w'.cell? ⟨gb,ob + i * 15 + 7,none⟩ = some (.int .i64 o1) ∧ w'.cell? ⟨gb,ob + i * 15 + 8,none⟩ = some (.int .i64 kd1) ∧ w'.cell? ⟨gb,ob + i * 15 + 9,none⟩ = some (.int .i64 n1) ∧ w'.cell? ⟨gb,ob + i * 15 + 10,none⟩ = some (.string nm1) ∧ w'.cell? ⟨gb,ob + i * 15 + 11,none⟩ = some (.string pt1) ∧ w'.cell? ⟨gb,ob + i * 15 + 12,none⟩ = some (.int .i64 a1) ∧ w'.cell? ⟨gb,ob + i * 15 + 13,none⟩ = some (.slice kb1 0 kb2) ∧ w'.cell? ⟨gb,ob + i * 15 + 14,none⟩ = some (.int .i64 y8)) W → (fun w' : World => w'.cell? ⟨ga,oa + i * 15,none⟩ = some (.string y1) ∧ w'.cell? ⟨ga,oa + i * 15 + 1,none⟩ = some (.int .i64 y2) ∧ w'.cell? ⟨ga,oa + i * 15 + 2,none⟩ = some (.int .i64 y3) ∧ w'.cell? ⟨ga,oa + i * 15 + 3,none⟩ = some (.string y4) ∧ w'.cell? ⟨ga,oa + i * 15 + 4,none⟩ = some (.int .i64 y5) ∧ w'.cell? ⟨ga,oa + i * 15 + 5,none⟩ = some (.int .i64 y6) ∧ w'.cell? ⟨ga,oa + i * 15 + 6,none⟩ = some (.int .i64 f1) ∧ w'.cell? ⟨ga,oa + i * 15 + 7,none⟩ = some (.int .i64 o1) ∧ w'.cell? ⟨ga,oa + i * 15 + 8,none⟩ = some (.int .i64 kd1) ∧ w'.cell? ⟨ga,oa + i * 15 + 9,none⟩ = some (.int .i64 n1) ∧ w'.cell? ⟨ga,oa + i * 15 + 10,none⟩ = some (.string nm1) ∧ w'.cell? ⟨ga,oa + i * 15 + 11,none⟩ = some (.string pt1) ∧ w'.cell? ⟨ga,oa + i * 15 + 12,none⟩ = some (.int .i64 a1) ∧ w'.cell? ⟨ga,oa + i * 15 + 13,none⟩ = some (.slice ka1 0 ka2) ∧ w'.cell? ⟨ga,oa + i * 15 + 14,none⟩ = some (.int .i64 y8) ∧ w'.cell? ⟨gb,ob + i * 15,none⟩ = some (.string y1) ∧ w'.cell? ⟨gb,ob + i * 15 + 1,none⟩ = some (.int .i64 y2) ∧ w'.cell? ⟨gb,ob + i * 15 + 2,none⟩ = some (.int .i64 y3) ∧ w'.cell? ⟨gb,ob + i * 15 + 3,none⟩ = some (.string y4) ∧ w'.cell? ⟨gb,ob + i * 15 + 4,none⟩ = some (.int .i64 y5) ∧ w'.cell? ⟨gb,ob + i * 15 + 5,none⟩ = some (.int .i64 y6) ∧ w'.cell? ⟨gb,ob + i * 15 + 6,none⟩ = some (.int .i64 f1) ∧ w'.cell? ⟨gb,ob + i * 15 + 7,none⟩ = some (.int .i64 o1) ∧ w'.cell? ⟨gb,ob + i * 15 + 8,none⟩ = some (.int .i64 kd1) ∧ w'.cell? ⟨gb,ob + i * 15 + 9,none⟩ = some (.int .i64 n1) ∧ w'.cell? ⟨gb,ob + i * 15 + 10,none⟩ = some (.string nm1) ∧ w'.cell? ⟨gb,ob + i * 15 + 11,none⟩ = some (.string pt1) ∧ w'.cell? ⟨gb,ob + i * 15 + 12,none⟩ = some (.int .i64 a1) ∧ w'.cell? ⟨gb,ob + i * 15 + 13,none⟩ = some (.slice kb1 0 kb2) ∧ w'.cell? ⟨gb,ob + i * 15 + 14,none⟩ = some (.int .i64 y8)) W.drew := by
    rintro W ⟨h0,h1,h2,h3,h4,h5,h6,h7,h8,h9,h10,h11,h12,h13,h14,h15,h16,h17,h18,h19,h20,h21,h22,h23,h24,h25,h26,h27,h28,h29⟩
    exact ⟨h0,h1,h2,h3,h4,h5,h6,h7,h8,h9,h10,h11,h12,h13,h14,h15,h16,h17,h18,h19,h20,h21,h22,h23,h24,h25,h26,h27,h28,h29⟩
   have hHeld := hDr _ hHeld0
   have hOld : ∀ (W : World) (obj : Obj),(fun w' : World => w'.cell? ⟨ga,oa + i * 15,none⟩ = some (.string y1) ∧ w'.cell? ⟨ga,oa + i * 15 + 1,none⟩ = some (.int .i64 y2) ∧ w'.cell? ⟨ga,oa + i * 15 + 2,none⟩ = some (.int .i64 y3) ∧ w'.cell? ⟨ga,oa + i * 15 + 3,none⟩ = some (.string y4) ∧ w'.cell? ⟨ga,oa + i * 15 + 4,none⟩ = some (.int .i64 y5) ∧ w'.cell? ⟨ga,oa + i * 15 + 5,none⟩ = some (.int .i64 y6) ∧ w'.cell? ⟨ga,oa + i * 15 + 6,none⟩ = some (.int .i64 f1) ∧ w'.cell? ⟨ga,oa + i * 15 + 7,none⟩ = some (.int .i64 o1) ∧ w'.cell? ⟨ga,oa + i * 15 + 8,none⟩ = some (.int .i64 kd1) ∧ w'.cell? ⟨ga,oa + i * 15 + 9,none⟩ = some (.int .i64 n1) ∧ w'.cell? ⟨ga,oa + i * 15 + 10,none⟩ = some (.string nm1) ∧ w'.cell? ⟨ga,oa + i * 15 + 11,none⟩ = some (.string pt1) ∧ w'.cell? ⟨ga,oa + i * 15 + 12,none⟩ = some (.int .i64 a1) ∧ w'.cell? ⟨ga,oa + i * 15 + 13,none⟩ = some (.slice ka1 0 ka2) ∧ w'.cell? ⟨ga,oa + i * 15 + 14,none⟩ = some (.int .i64 y8) ∧ w'.cell? ⟨gb,ob + i * 15,none⟩ = some (.string y1) ∧ w'.cell? ⟨gb,ob + i * 15 + 1,none⟩ = some (.int .i64 y2) ∧ w'.cell? ⟨gb,ob + i * 15 + 2,none⟩ = some (.int .i64 y3) ∧ w'.cell? ⟨gb,ob + i * 15 + 3,none⟩ = some (.string y4) ∧ w'.cell? ⟨gb,ob + i * 15 + 4,none⟩ = some (.int .i64 y5) ∧ w'.cell? ⟨gb,ob + i * 15 + 5,none⟩ = some (.int .i64 y6) ∧ w'.cell? ⟨gb,ob + i * 15 + 6,none⟩ = some (.int .i64 f1) ∧ w'.cell? ⟨gb,ob + i * 15 + 7,none⟩ = some (.int .i64 o1) ∧ w'.cell? ⟨gb,ob + i * 15 + 8,none⟩ = some (.int .i64 kd1) ∧ w'.cell? ⟨gb,ob + i * 15 + 9,none⟩ = some (.int .i64 n1) ∧ w'.cell? ⟨gb,ob + i * 15 + 10,none⟩ = some (.string nm1) ∧ w'.cell? ⟨gb,ob + i * 15 + 11,none⟩ = some (.string pt1) ∧ w'.cell? ⟨gb,ob + i * 15 + 12,none⟩ = some (.int .i64 a1) ∧ w'.cell? ⟨gb,ob + i * 15 + 13,none⟩ = some (.slice kb1 0 kb2) ∧ w'.cell? ⟨gb,ob + i * 15 + 14,none⟩ = some (.int .i64 y8)) W → (fun w' : World => w'.cell? ⟨ga,oa + i * 15,none⟩ = some (.string y1) ∧ w'.cell? ⟨ga,oa + i * 15 + 1,none⟩ = some (.int .i64 y2) ∧ w'.cell? ⟨ga,oa + i * 15 + 2,none⟩ = some (.int .i64 y3) ∧ w'.cell? ⟨ga,oa + i * 15 + 3,none⟩ = some (.string y4) ∧ w'.cell? ⟨ga,oa + i * 15 + 4,none⟩ = some (.int .i64 y5) ∧ w'.cell? ⟨ga,oa + i * 15 + 5,none⟩ = some (.int .i64 y6) ∧ w'.cell? ⟨ga,oa + i * 15 + 6,none⟩ = some (.int .i64 f1) ∧ w'.cell? ⟨ga,oa + i * 15 + 7,none⟩ = some (.int .i64 o1) ∧ w'.cell? ⟨ga,oa + i * 15 + 8,none⟩ = some (.int .i64 kd1) ∧ w'.cell? ⟨ga,oa + i * 15 + 9,none⟩ = some (.int .i64 n1) ∧ w'.cell? ⟨ga,oa + i * 15 + 10,none⟩ = some (.string nm1) ∧ w'.cell? ⟨ga,oa + i * 15 + 11,none⟩ = some (.string pt1) ∧ w'.cell? ⟨ga,oa + i * 15 + 12,none⟩ = some (.int .i64 a1) ∧ w'.cell? ⟨ga,oa + i * 15 + 13,none⟩ = some (.slice ka1 0 ka2) ∧ w'.cell? ⟨ga,oa + i * 15 + 14,none⟩ = some (.int .i64 y8) ∧ w'.cell? ⟨gb,ob + i * 15,none⟩ = some (.string y1) ∧ w'.cell? ⟨gb,ob + i * 15 + 1,none⟩ = some (.int .i64 y2) ∧ w'.cell? ⟨gb,ob + i * 15 + 2,none⟩ = some (.int .i64 y3) ∧ w'.cell? ⟨gb,ob + i * 15 + 3,none⟩ = some (.string y4) ∧ w'.cell? ⟨gb,ob + i * 15 + 4,none⟩ = some (.int .i64 y5) ∧ w'.cell? ⟨gb,ob + i * 15 + 5,none⟩ = some (.int .i64 y6) ∧ w'.cell? ⟨gb,ob + i * 15 + 6,none⟩ = some (.int .i64 f1) ∧ w'.cell? ⟨gb,ob + i * 15 + 7,none⟩ = some (.int .i64 o1) ∧ w'.cell? ⟨gb,ob + i * 15 + 8,none⟩ = some (.int .i64 kd1) ∧ w'.cell? ⟨gb,ob + i * 15 + 9,none⟩ = some (.int .i64 n1) ∧ w'.cell? ⟨gb,ob + i * 15 + 10,none⟩ = some (.string nm1) ∧ w'.cell? ⟨gb,ob + i * 15 + 11,none⟩ = some (.string pt1) ∧ w'.cell? ⟨gb,ob + i * 15 + 12,none⟩ = some (.int .i64 a1) ∧ w'.cell? ⟨gb,ob + i * 15 + 13,none⟩ = some (.slice kb1 0 kb2) ∧ w'.cell? ⟨gb,ob + i * 15 + 14,none⟩ = some (.int .i64 y8)) (W.alloc obj) := by
    rintro W obj ⟨h0,h1,h2,h3,h4,h5,h6,h7,h8,h9,h10,h11,h12,h13,h14,h15,h16,h17,h18,h19,h20,h21,h22,h23,h24,h25,h26,h27,h28,h29⟩
    exact ⟨cell_al h0,cell_al h1,cell_al h2,cell_al h3,cell_al h4,cell_al h5,cell_al h6,cell_al h7,cell_al h8,cell_al h9,cell_al h10,cell_al h11,cell_al h12,cell_al h13,cell_al h14,cell_al h15,cell_al h16,cell_al h17,cell_al h18,cell_al h19,cell_al h20,cell_al h21,cell_al h22,cell_al h23,cell_al h24,cell_al h25,cell_al h26,cell_al h27,cell_al h28,cell_al h29⟩
   clear cga0 cga1 cga2 cga3 cga4 cga5 cga6 cga7 cga8 cga9 cga10 cga11 cga12 cga13 cga14 cgb0 cgb1 cgb2 cgb3 cgb4 cgb5 cgb6 cgb7 cgb8 cgb9 cgb10 cgb11 cgb12 cgb13 cgb14
   refine wp_region_L (L := 11) (S := (fun w' : World => w'.cell? ⟨ga,oa + i * 15,none⟩ = some (.string y1) ∧ w'.cell? ⟨ga,oa + i * 15 + 1,none⟩ = some (.int .i64 y2) ∧ w'.cell? ⟨ga,oa + i * 15 + 2,none⟩ = some (.int .i64 y3) ∧ w'.cell? ⟨ga,oa + i * 15 + 3,none⟩ = some (.string y4) ∧ w'.cell? ⟨ga,oa + i * 15 + 4,none⟩ = some (.int .i64 y5) ∧ w'.cell? ⟨ga,oa + i * 15 + 5,none⟩ = some (.int .i64 y6) ∧ w'.cell? ⟨ga,oa + i * 15 + 6,none⟩ = some (.int .i64 f1) ∧ w'.cell? ⟨ga,oa + i * 15 + 7,none⟩ = some (.int .i64 o1) ∧ w'.cell? ⟨ga,oa + i * 15 + 8,none⟩ = some (.int .i64 kd1) ∧ w'.cell? ⟨ga,oa + i * 15 + 9,none⟩ = some (.int .i64 n1) ∧ w'.cell? ⟨ga,oa + i * 15 + 10,none⟩ = some (.string nm1) ∧ w'.cell? ⟨ga,oa + i * 15 + 11,none⟩ = some (.string pt1) ∧ w'.cell? ⟨ga,oa + i * 15 + 12,none⟩ = some (.int .i64 a1) ∧ w'.cell? ⟨ga,oa + i * 15 + 13,none⟩ = some (.slice ka1 0 ka2) ∧ w'.cell? ⟨ga,oa + i * 15 + 14,none⟩ = some (.int .i64 y8) ∧ w'.cell? ⟨gb,ob + i * 15,none⟩ = some (.string y1) ∧ w'.cell? ⟨gb,ob + i * 15 + 1,none⟩ = some (.int .i64 y2) ∧ w'.cell? ⟨gb,ob + i * 15 + 2,none⟩ = some (.int .i64 y3) ∧ w'.cell? ⟨gb,ob + i * 15 + 3,none⟩ = some (.string y4) ∧ w'.cell? ⟨gb,ob + i * 15 + 4,none⟩ = some (.int .i64 y5) ∧ w'.cell? ⟨gb,ob + i * 15 + 5,none⟩ = some (.int .i64 y6) ∧ w'.cell? ⟨gb,ob + i * 15 + 6,none⟩ = some (.int .i64 f1) ∧ w'.cell? ⟨gb,ob + i * 15 + 7,none⟩ = some (.int .i64 o1) ∧ w'.cell? ⟨gb,ob + i * 15 + 8,none⟩ = some (.int .i64 kd1) ∧ w'.cell? ⟨gb,ob + i * 15 + 9,none⟩ = some (.int .i64 n1) ∧ w'.cell? ⟨gb,ob + i * 15 + 10,none⟩ = some (.string nm1) ∧ w'.cell? ⟨gb,ob + i * 15 + 11,none⟩ = some (.string pt1) ∧ w'.cell? ⟨gb,ob + i * 15 + 12,none⟩ = some (.int .i64 a1) ∧ w'.cell? ⟨gb,ob + i * 15 + 13,none⟩ = some (.slice kb1 0 kb2) ∧ w'.cell? ⟨gb,ob + i * 15 + 14,none⟩ = some (.int .i64 y8))) (by kernel_rfl) ?_
   refine wpAnyL_free (i := 0) (v := ?_) rfl (by kernel_rfl) (by kernel_rfl) (by kernel_rfl) (fun _ _ _ h => h) (by decide) (Or.inl ⟨by rfl,?_⟩) (fun _ => hHeld) ?_
   rotate_left
   · intro w hSw
     go_simp
     try with_reducible rfl
   try simp only [Act.put,List.setIfInBounds_toArray,List.set_cons_zero,List.set_cons_succ]
   refine wpAnyL_free (i := 1) (v := ?_) rfl (by kernel_rfl) (by kernel_rfl) (by kernel_rfl) (fun _ _ _ h => h) (by decide) (Or.inl ⟨by rfl,?_⟩) (fun _ => hHeld) ?_
   rotate_left
   · intro w hSw
     go_simp
     try with_reducible rfl
   try simp only [Act.put,List.setIfInBounds_toArray,List.set_cons_zero,List.set_cons_succ]
   refine wpAnyL_free (i := 2) (v := ?_) rfl (by kernel_rfl) (by kernel_rfl) (by kernel_rfl) (fun _ _ _ h => h) (by decide) (Or.inl ⟨by rfl,?_⟩) (fun _ => hHeld) ?_
   rotate_left
   · intro w hSw
     go_simp
     try with_reducible rfl
   try simp only [Act.put,List.setIfInBounds_toArray,List.set_cons_zero,List.set_cons_succ]
   refine wpAnyL_take (i := 3) (v := ?_) rfl (by kernel_rfl) (by kernel_rfl) (by kernel_rfl) (fun _ _ _ h => h) (by kernel_rfl) (by kernel_rfl) (Or.inl ⟨by rfl,?_⟩) hHeld ?_
   rotate_left
   · intro w hSw
     try dsimp only at hSw
     go_simp
     try with_reducible rfl
   try simp only [Act.put,List.setIfInBounds_toArray,List.set_cons_zero,List.set_cons_succ]
   refine wpAnyL_free (i := 4) (v := ?_) rfl (by kernel_rfl) (by kernel_rfl) (by kernel_rfl) (fun _ _ _ h => h) (by decide) (Or.inl ⟨by rfl,?_⟩) (fun _ => hHeld) ?_
   rotate_left
   · intro w hSw
     go_simp
     try with_reducible rfl
   try simp only [Act.put,List.setIfInBounds_toArray,List.set_cons_zero,List.set_cons_succ]
   refine wpAnyL_free (i := 5) (v := ?_) rfl (by kernel_rfl) (by kernel_rfl) (by kernel_rfl) (fun _ _ _ h => h) (by decide) (Or.inl ⟨by rfl,?_⟩) (fun _ => hHeld) ?_
   rotate_left
   · intro w hSw
     go_simp
     try with_reducible rfl
   try simp only [Act.put,List.setIfInBounds_toArray,List.set_cons_zero,List.set_cons_succ]
   refine wpAnyL_free (i := 6) (v := ?_) rfl (by kernel_rfl) (by kernel_rfl) (by kernel_rfl) (fun _ _ _ h => h) (by decide) (Or.inl ⟨by rfl,?_⟩) (fun _ => hHeld) ?_
   rotate_left
   · intro w hSw
     go_simp
     try with_reducible rfl
   try simp only [Act.put,List.setIfInBounds_toArray,List.set_cons_zero,List.set_cons_succ]
   refine wpAnyL_take (i := 7) (v := ?_) rfl (by kernel_rfl) (by kernel_rfl) (by kernel_rfl) (fun _ _ _ h => h) (by kernel_rfl) (by kernel_rfl) (Or.inl ⟨by rfl,?_⟩) hHeld ?_
   rotate_left
   · intro w hSw
     try dsimp only at hSw
     go_simp
     try with_reducible rfl
   try simp only [Act.put,List.setIfInBounds_toArray,List.set_cons_zero,List.set_cons_succ]
   refine wpAnyL_two (i := 8) (j := 9) (by kernel_rfl) rfl rfl (fun K hK => ?_) (fun K hK => ?_)
   · skip
     go_simp
     refine hK.out _ _ (fun _ _ => hDr _ (hOld _ _ hHeld0)) ?_
     clear hK K
     try simp only [Act.put,List.setIfInBounds_toArray,List.set_cons_zero,List.set_cons_succ]
     refine wpAnyL_one (j := 9) (by kernel_rfl) rfl (fun K hK => ?_)
     go_simp
     refine hK.out _ _ (fun _ _ => hDr _ (hOld _ _ (hOld _ _ hHeld0))) ?_
     clear hK K
     try simp only [Act.put,List.setIfInBounds_toArray,List.set_cons_zero,List.set_cons_succ]
     obtain ⟨W5,hW5⟩ : ∃ W : World,W = (wr.alloc (.cells #[.string ⟨#[]⟩,.int .i64 0,.int .i64 0,.string ⟨#[]⟩,.int .i64 0,.int .i64 0,.int .i64 0,.int .i64 0,.int .i64 0,.int .i64 0,.string ⟨#[]⟩,.string ⟨#[]⟩,.int .i64 0,.slice none 0 0,.int .i64 0] 63)).alloc (.cells #[.string ⟨#[]⟩,.int .i64 0,.int .i64 0,.string ⟨#[]⟩,.int .i64 0,.int .i64 0,.int .i64 0,.int .i64 0,.int .i64 0,.int .i64 0,.string ⟨#[]⟩,.string ⟨#[]⟩,.int .i64 0,.slice none 0 0,.int .i64 0] 63) := ⟨_,rfl⟩
     have X1 : W5.heap[wr.heap.size]? = some (.cells #[.string ⟨#[]⟩,.int .i64 0,.int .i64 0,.string ⟨#[]⟩,.int .i64 0,.int .i64 0,.int .i64 0,.int .i64 0,.int .i64 0,.int .i64 0,.string ⟨#[]⟩,.string ⟨#[]⟩,.int .i64 0,.slice none 0 0,.int .i64 0] 63) := by rw [hW5]; exact old (new _ _) _
     have X2 : W5.heap[wr.heap.size + 1]? = some (.cells #[.string ⟨#[]⟩,.int .i64 0,.int .i64 0,.string ⟨#[]⟩,.int .i64 0,.int .i64 0,.int .i64 0,.int .i64 0,.int .i64 0,.int .i64 0,.string ⟨#[]⟩,.string ⟨#[]⟩,.int .i64 0,.slice none 0 0,.int .i64 0] 63) := by rw [hW5]; exact hp_new (by simp) _
     have gW : wr.grownBy W5 none := by rw [hW5]; exact gr_alloc (gr1 _ _) _
     have hHW : (fun w' : World => w'.cell? ⟨ga,oa + i * 15,none⟩ = some (.string y1) ∧ w'.cell? ⟨ga,oa + i * 15 + 1,none⟩ = some (.int .i64 y2) ∧ w'.cell? ⟨ga,oa + i * 15 + 2,none⟩ = some (.int .i64 y3) ∧ w'.cell? ⟨ga,oa + i * 15 + 3,none⟩ = some (.string y4) ∧ w'.cell? ⟨ga,oa + i * 15 + 4,none⟩ = some (.int .i64 y5) ∧ w'.cell? ⟨ga,oa + i * 15 + 5,none⟩ = some (.int .i64 y6) ∧ w'.cell? ⟨ga,oa + i * 15 + 6,none⟩ = some (.int .i64 f1) ∧ w'.cell? ⟨ga,oa + i * 15 + 7,none⟩ = some (.int .i64 o1) ∧ w'.cell? ⟨ga,oa + i * 15 + 8,none⟩ = some (.int .i64 kd1) ∧ w'.cell? ⟨ga,oa + i * 15 + 9,none⟩ = some (.int .i64 n1) ∧ w'.cell? ⟨ga,oa + i * 15 + 10,none⟩ = some (.string nm1) ∧ w'.cell? ⟨ga,oa + i * 15 + 11,none⟩ = some (.string pt1) ∧ w'.cell? ⟨ga,oa + i * 15 + 12,none⟩ = some (.int .i64 a1) ∧ w'.cell? ⟨ga,oa + i * 15 + 13,none⟩ = some (.slice ka1 0 ka2) ∧ w'.cell? ⟨ga,oa + i * 15 + 14,none⟩ = some (.int .i64 y8) ∧ w'.cell? ⟨gb,ob + i * 15,none⟩ = some (.string y1) ∧ w'.cell? ⟨gb,ob + i * 15 + 1,none⟩ = some (.int .i64 y2) ∧ w'.cell? ⟨gb,ob + i * 15 + 2,none⟩ = some (.int .i64 y3) ∧ w'.cell? ⟨gb,ob + i * 15 + 3,none⟩ = some (.string y4) ∧ w'.cell? ⟨gb,ob + i * 15 + 4,none⟩ = some (.int .i64 y5) ∧ w'.cell? ⟨gb,ob + i * 15 + 5,none⟩ = some (.int .i64 y6) ∧ w'.cell? ⟨gb,ob + i * 15 + 6,none⟩ = some (.int .i64 f1) ∧ w'.cell? ⟨gb,ob + i * 15 + 7,none⟩ = some (.int .i64 o1) ∧ w'.cell? ⟨gb,ob + i * 15 + 8,none⟩ = some (.int .i64 kd1) ∧ w'.cell? ⟨gb,ob + i * 15 + 9,none⟩ = some (.int .i64 n1) ∧ w'.cell? ⟨gb,ob + i * 15 + 10,none⟩ = some (.string nm1) ∧ w'.cell? ⟨gb,ob + i * 15 + 11,none⟩ = some (.string pt1) ∧ w'.cell? ⟨gb,ob + i * 15 + 12,none⟩ = some (.int .i64 a1) ∧ w'.cell? ⟨gb,ob + i * 15 + 13,none⟩ = some (.slice kb1 0 kb2) ∧ w'.cell? ⟨gb,ob + i * 15 + 14,none⟩ = some (.int .i64 y8)) W5 := by rw [hW5]; exact hOld _ _ (hOld _ _ hHeld0)
     change wpAnyL _ _ _ _ _ _ _ _ _ ((wr.alloc (.cells #[.string ⟨#[]⟩,.int .i64 0,.int .i64 0,.string ⟨#[]⟩,.int .i64 0,.int .i64 0,.int .i64 0,.int .i64 0,.int .i64 0,.int .i64 0,.string ⟨#[]⟩,.string ⟨#[]⟩,.int .i64 0,.slice none 0 0,.int .i64 0] 63)).alloc (.cells #[.string ⟨#[]⟩,.int .i64 0,.int .i64 0,.string ⟨#[]⟩,.int .i64 0,.int .i64 0,.int .i64 0,.int .i64 0,.int .i64 0,.int .i64 0,.string ⟨#[]⟩,.string ⟨#[]⟩,.int .i64 0,.slice none 0 0,.int .i64 0] 63)).drew
     rw [← hW5]
     clear hW5 hHeld hHeld0
     obtain ⟨xp,xq,xr,xf,xg,xh⟩ := facts X1
     obtain ⟨yp,yq,yr,yf,yg,yh⟩ := facts X2
     have nq : wr.heap.size ≠ wr.heap.size + 1 := by omega
     have nq2 : wr.heap.size + 1 ≠ wr.heap.size := by omega
     have gC : W5.grownBy (((((((((((((((W5.setCell ⟨wr.heap.size,0,none⟩ (.string y1)).setCell ⟨wr.heap.size,1,none⟩ (.int .i64 y2)).setCell ⟨wr.heap.size,2,none⟩ (.int .i64 y3)).setCell ⟨wr.heap.size,3,none⟩ (.string y4)).setCell ⟨wr.heap.size,4,none⟩ (.int .i64 y5)).setCell ⟨wr.heap.size,5,none⟩ (.int .i64 y6)).setCell ⟨wr.heap.size,6,none⟩ (.int .i64 f1)).setCell ⟨wr.heap.size,7,none⟩ (.int .i64 o1)).setCell ⟨wr.heap.size,8,none⟩ (.int .i64 kd1)).setCell ⟨wr.heap.size,9,none⟩ (.int .i64 n1)).setCell ⟨wr.heap.size,10,none⟩ (.string nm1)).setCell ⟨wr.heap.size,11,none⟩ (.string pt1)).setCell ⟨wr.heap.size,12,none⟩ (.int .i64 a1)).setCell ⟨wr.heap.size,13,none⟩ (.slice ka1 0 ka2)).setCell ⟨wr.heap.size,14,none⟩ (.int .i64 y8)) (some (wr.heap.size)) := gr15 (World.grownBy.refl W5 _)
     have nga : ga ≠ wr.heap.size := by omega
     have ngb : gb ≠ wr.heap.size := by omega
     have hHW6 : (fun w' : World => w'.cell? ⟨ga,oa + i * 15,none⟩ = some (.string y1) ∧ w'.cell? ⟨ga,oa + i * 15 + 1,none⟩ = some (.int .i64 y2) ∧ w'.cell? ⟨ga,oa + i * 15 + 2,none⟩ = some (.int .i64 y3) ∧ w'.cell? ⟨ga,oa + i * 15 + 3,none⟩ = some (.string y4) ∧ w'.cell? ⟨ga,oa + i * 15 + 4,none⟩ = some (.int .i64 y5) ∧ w'.cell? ⟨ga,oa + i * 15 + 5,none⟩ = some (.int .i64 y6) ∧ w'.cell? ⟨ga,oa + i * 15 + 6,none⟩ = some (.int .i64 f1) ∧ w'.cell? ⟨ga,oa + i * 15 + 7,none⟩ = some (.int .i64 o1) ∧ w'.cell? ⟨ga,oa + i * 15 + 8,none⟩ = some (.int .i64 kd1) ∧ w'.cell? ⟨ga,oa + i * 15 + 9,none⟩ = some (.int .i64 n1) ∧ w'.cell? ⟨ga,oa + i * 15 + 10,none⟩ = some (.string nm1) ∧ w'.cell? ⟨ga,oa + i * 15 + 11,none⟩ = some (.string pt1) ∧ w'.cell? ⟨ga,oa + i * 15 + 12,none⟩ = some (.int .i64 a1) ∧ w'.cell? ⟨ga,oa + i * 15 + 13,none⟩ = some (.slice ka1 0 ka2) ∧ w'.cell? ⟨ga,oa + i * 15 + 14,none⟩ = some (.int .i64 y8) ∧ w'.cell? ⟨gb,ob + i * 15,none⟩ = some (.string y1) ∧ w'.cell? ⟨gb,ob + i * 15 + 1,none⟩ = some (.int .i64 y2) ∧ w'.cell? ⟨gb,ob + i * 15 + 2,none⟩ = some (.int .i64 y3) ∧ w'.cell? ⟨gb,ob + i * 15 + 3,none⟩ = some (.string y4) ∧ w'.cell? ⟨gb,ob + i * 15 + 4,none⟩ = some (.int .i64 y5) ∧ w'.cell? ⟨gb,ob + i * 15 + 5,none⟩ = some (.int .i64 y6) ∧ w'.cell? ⟨gb,ob + i * 15 + 6,none⟩ = some (.int .i64 f1) ∧ w'.cell? ⟨gb,ob + i * 15 + 7,none⟩ = some (.int .i64 o1) ∧ w'.cell? ⟨gb,ob + i * 15 + 8,none⟩ = some (.int .i64 kd1) ∧ w'.cell? ⟨gb,ob + i * 15 + 9,none⟩ = some (.int .i64 n1) ∧ w'.cell? ⟨gb,ob + i * 15 + 10,none⟩ = some (.string nm1) ∧ w'.cell? ⟨gb,ob + i * 15 + 11,none⟩ = some (.string pt1) ∧ w'.cell? ⟨gb,ob + i * 15 + 12,none⟩ = some (.int .i64 a1) ∧ w'.cell? ⟨gb,ob + i * 15 + 13,none⟩ = some (.slice kb1 0 kb2) ∧ w'.cell? ⟨gb,ob + i * 15 + 14,none⟩ = some (.int .i64 y8)) (((((((((((((((W5.setCell ⟨wr.heap.size,0,none⟩ (.string y1)).setCell ⟨wr.heap.size,1,none⟩ (.int .i64 y2)).setCell ⟨wr.heap.size,2,none⟩ (.int .i64 y3)).setCell ⟨wr.heap.size,3,none⟩ (.string y4)).setCell ⟨wr.heap.size,4,none⟩ (.int .i64 y5)).setCell ⟨wr.heap.size,5,none⟩ (.int .i64 y6)).setCell ⟨wr.heap.size,6,none⟩ (.int .i64 f1)).setCell ⟨wr.heap.size,7,none⟩ (.int .i64 o1)).setCell ⟨wr.heap.size,8,none⟩ (.int .i64 kd1)).setCell ⟨wr.heap.size,9,none⟩ (.int .i64 n1)).setCell ⟨wr.heap.size,10,none⟩ (.string nm1)).setCell ⟨wr.heap.size,11,none⟩ (.string pt1)).setCell ⟨wr.heap.size,12,none⟩ (.int .i64 a1)).setCell ⟨wr.heap.size,13,none⟩ (.slice ka1 0 ka2)).setCell ⟨wr.heap.size,14,none⟩ (.int .i64 y8)).drew := by
      obtain ⟨h0,h1,h2,h3,h4,h5,h6,h7,h8,h9,h10,h11,h12,h13,h14,h15,h16,h17,h18,h19,h20,h21,h22,h23,h24,h25,h26,h27,h28,h29⟩ := hHW
      exact hDr _ ⟨cell_kp h0 gC nga,cell_kp h1 gC nga,cell_kp h2 gC nga,cell_kp h3 gC nga,cell_kp h4 gC nga,cell_kp h5 gC nga,cell_kp h6 gC nga,cell_kp h7 gC nga,cell_kp h8 gC nga,cell_kp h9 gC nga,cell_kp h10 gC nga,cell_kp h11 gC nga,cell_kp h12 gC nga,cell_kp h13 gC nga,cell_kp h14 gC nga,cell_kp h15 gC ngb,cell_kp h16 gC ngb,cell_kp h17 gC ngb,cell_kp h18 gC ngb,cell_kp h19 gC ngb,cell_kp h20 gC ngb,cell_kp h21 gC ngb,cell_kp h22 gC ngb,cell_kp h23 gC ngb,cell_kp h24 gC ngb,cell_kp h25 gC ngb,cell_kp h26 gC ngb,cell_kp h27 gC ngb,cell_kp h28 gC ngb,cell_kp h29 gC ngb⟩
     refine wpAnyL_one (j := 10) (by kernel_rfl) rfl (fun K hK => ?_)
     go_simp
     refine hK.out _ _ (fun _ _ => hHW6) ?_
     clear hK K
     try simp only [Act.put,List.setIfInBounds_toArray,List.set_cons_zero,List.set_cons_succ]
     refine wpAnyL_one (j := 11) (by kernel_rfl) rfl (fun K hK => ?_)
     go_simp
     refine hK.out _ _ (fun h => absurd rfl h) ?_
     clear hK K
     try simp only [Act.put,List.setIfInBounds_toArray,List.set_cons_zero,List.set_cons_succ]
     refine wpAnyL_done (by kernel_rfl) ?_ _
     go_wp2_with fail
     go_meet
     exact ⟨wr.heap.size,wr.heap.size + 1,rfl,rfl,hidI ⟨by rw [drew_heap]; exact keptBut (gr15 (World.grownBy.refl _ _)) (box15 X1) (by omega),by rw [drew_heap]; exact box15 (keptBut (gr15 (World.grownBy.refl _ _)) X2 (by omega)),gr_drew (gr15n (gr15n gW (by omega)) (by omega))⟩⟩
   · skip
     go_simp
     refine hK.out _ _ (fun _ _ => hDr _ (hOld _ _ hHeld0)) ?_
     clear hK K
     try simp only [Act.put,List.setIfInBounds_toArray,List.set_cons_zero,List.set_cons_succ]
     refine wpAnyL_one (j := 8) (by kernel_rfl) rfl (fun K hK => ?_)
     go_simp
     refine hK.out _ _ (fun _ _ => hDr _ (hOld _ _ (hOld _ _ hHeld0))) ?_
     clear hK K
     try simp only [Act.put,List.setIfInBounds_toArray,List.set_cons_zero,List.set_cons_succ]
     obtain ⟨W5,hW5⟩ : ∃ W : World,W = (wr.alloc (.cells #[.string ⟨#[]⟩,.int .i64 0,.int .i64 0,.string ⟨#[]⟩,.int .i64 0,.int .i64 0,.int .i64 0,.int .i64 0,.int .i64 0,.int .i64 0,.string ⟨#[]⟩,.string ⟨#[]⟩,.int .i64 0,.slice none 0 0,.int .i64 0] 63)).alloc (.cells #[.string ⟨#[]⟩,.int .i64 0,.int .i64 0,.string ⟨#[]⟩,.int .i64 0,.int .i64 0,.int .i64 0,.int .i64 0,.int .i64 0,.int .i64 0,.string ⟨#[]⟩,.string ⟨#[]⟩,.int .i64 0,.slice none 0 0,.int .i64 0] 63) := ⟨_,rfl⟩
     have X1 : W5.heap[wr.heap.size]? = some (.cells #[.string ⟨#[]⟩,.int .i64 0,.int .i64 0,.string ⟨#[]⟩,.int .i64 0,.int .i64 0,.int .i64 0,.int .i64 0,.int .i64 0,.int .i64 0,.string ⟨#[]⟩,.string ⟨#[]⟩,.int .i64 0,.slice none 0 0,.int .i64 0] 63) := by rw [hW5]; exact old (new _ _) _
     have X2 : W5.heap[wr.heap.size + 1]? = some (.cells #[.string ⟨#[]⟩,.int .i64 0,.int .i64 0,.string ⟨#[]⟩,.int .i64 0,.int .i64 0,.int .i64 0,.int .i64 0,.int .i64 0,.int .i64 0,.string ⟨#[]⟩,.string ⟨#[]⟩,.int .i64 0,.slice none 0 0,.int .i64 0] 63) := by rw [hW5]; exact hp_new (by simp) _
     have gW : wr.grownBy W5 none := by rw [hW5]; exact gr_alloc (gr1 _ _) _
     have hHW : (fun w' : World => w'.cell? ⟨ga,oa + i * 15,none⟩ = some (.string y1) ∧ w'.cell? ⟨ga,oa + i * 15 + 1,none⟩ = some (.int .i64 y2) ∧ w'.cell? ⟨ga,oa + i * 15 + 2,none⟩ = some (.int .i64 y3) ∧ w'.cell? ⟨ga,oa + i * 15 + 3,none⟩ = some (.string y4) ∧ w'.cell? ⟨ga,oa + i * 15 + 4,none⟩ = some (.int .i64 y5) ∧ w'.cell? ⟨ga,oa + i * 15 + 5,none⟩ = some (.int .i64 y6) ∧ w'.cell? ⟨ga,oa + i * 15 + 6,none⟩ = some (.int .i64 f1) ∧ w'.cell? ⟨ga,oa + i * 15 + 7,none⟩ = some (.int .i64 o1) ∧ w'.cell? ⟨ga,oa + i * 15 + 8,none⟩ = some (.int .i64 kd1) ∧ w'.cell? ⟨ga,oa + i * 15 + 9,none⟩ = some (.int .i64 n1) ∧ w'.cell? ⟨ga,oa + i * 15 + 10,none⟩ = some (.string nm1) ∧ w'.cell? ⟨ga,oa + i * 15 + 11,none⟩ = some (.string pt1) ∧ w'.cell? ⟨ga,oa + i * 15 + 12,none⟩ = some (.int .i64 a1) ∧ w'.cell? ⟨ga,oa + i * 15 + 13,none⟩ = some (.slice ka1 0 ka2) ∧ w'.cell? ⟨ga,oa + i * 15 + 14,none⟩ = some (.int .i64 y8) ∧ w'.cell? ⟨gb,ob + i * 15,none⟩ = some (.string y1) ∧ w'.cell? ⟨gb,ob + i * 15 + 1,none⟩ = some (.int .i64 y2) ∧ w'.cell? ⟨gb,ob + i * 15 + 2,none⟩ = some (.int .i64 y3) ∧ w'.cell? ⟨gb,ob + i * 15 + 3,none⟩ = some (.string y4) ∧ w'.cell? ⟨gb,ob + i * 15 + 4,none⟩ = some (.int .i64 y5) ∧ w'.cell? ⟨gb,ob + i * 15 + 5,none⟩ = some (.int .i64 y6) ∧ w'.cell? ⟨gb,ob + i * 15 + 6,none⟩ = some (.int .i64 f1) ∧ w'.cell? ⟨gb,ob + i * 15 + 7,none⟩ = some (.int .i64 o1) ∧ w'.cell? ⟨gb,ob + i * 15 + 8,none⟩ = some (.int .i64 kd1) ∧ w'.cell? ⟨gb,ob + i * 15 + 9,none⟩ = some (.int .i64 n1) ∧ w'.cell? ⟨gb,ob + i * 15 + 10,none⟩ = some (.string nm1) ∧ w'.cell? ⟨gb,ob + i * 15 + 11,none⟩ = some (.string pt1) ∧ w'.cell? ⟨gb,ob + i * 15 + 12,none⟩ = some (.int .i64 a1) ∧ w'.cell? ⟨gb,ob + i * 15 + 13,none⟩ = some (.slice kb1 0 kb2) ∧ w'.cell? ⟨gb,ob + i * 15 + 14,none⟩ = some (.int .i64 y8)) W5 := by rw [hW5]; exact hOld _ _ (hOld _ _ hHeld0)
     change wpAnyL _ _ _ _ _ _ _ _ _ ((wr.alloc (.cells #[.string ⟨#[]⟩,.int .i64 0,.int .i64 0,.string ⟨#[]⟩,.int .i64 0,.int .i64 0,.int .i64 0,.int .i64 0,.int .i64 0,.int .i64 0,.string ⟨#[]⟩,.string ⟨#[]⟩,.int .i64 0,.slice none 0 0,.int .i64 0] 63)).alloc (.cells #[.string ⟨#[]⟩,.int .i64 0,.int .i64 0,.string ⟨#[]⟩,.int .i64 0,.int .i64 0,.int .i64 0,.int .i64 0,.int .i64 0,.int .i64 0,.string ⟨#[]⟩,.string ⟨#[]⟩,.int .i64 0,.slice none 0 0,.int .i64 0] 63)).drew
     rw [← hW5]
     clear hW5 hHeld hHeld0
     obtain ⟨xp,xq,xr,xf,xg,xh⟩ := facts X1
     obtain ⟨yp,yq,yr,yf,yg,yh⟩ := facts X2
     have nq : wr.heap.size + 1 ≠ wr.heap.size := by omega
     have nq2 : wr.heap.size ≠ wr.heap.size + 1 := by omega
     have gC : W5.grownBy (((((((((((((((W5.setCell ⟨wr.heap.size + 1,0,none⟩ (.string y1)).setCell ⟨wr.heap.size + 1,1,none⟩ (.int .i64 y2)).setCell ⟨wr.heap.size + 1,2,none⟩ (.int .i64 y3)).setCell ⟨wr.heap.size + 1,3,none⟩ (.string y4)).setCell ⟨wr.heap.size + 1,4,none⟩ (.int .i64 y5)).setCell ⟨wr.heap.size + 1,5,none⟩ (.int .i64 y6)).setCell ⟨wr.heap.size + 1,6,none⟩ (.int .i64 f1)).setCell ⟨wr.heap.size + 1,7,none⟩ (.int .i64 o1)).setCell ⟨wr.heap.size + 1,8,none⟩ (.int .i64 kd1)).setCell ⟨wr.heap.size + 1,9,none⟩ (.int .i64 n1)).setCell ⟨wr.heap.size + 1,10,none⟩ (.string nm1)).setCell ⟨wr.heap.size + 1,11,none⟩ (.string pt1)).setCell ⟨wr.heap.size + 1,12,none⟩ (.int .i64 a1)).setCell ⟨wr.heap.size + 1,13,none⟩ (.slice ka1 0 ka2)).setCell ⟨wr.heap.size + 1,14,none⟩ (.int .i64 y8)) (some (wr.heap.size + 1)) := gr15 (World.grownBy.refl W5 _)
     have nga : ga ≠ wr.heap.size + 1 := by omega
     have ngb : gb ≠ wr.heap.size + 1 := by omega
     have hHW6 : (fun w' : World => w'.cell? ⟨ga,oa + i * 15,none⟩ = some (.string y1) ∧ w'.cell? ⟨ga,oa + i * 15 + 1,none⟩ = some (.int .i64 y2) ∧ w'.cell? ⟨ga,oa + i * 15 + 2,none⟩ = some (.int .i64 y3) ∧ w'.cell? ⟨ga,oa + i * 15 + 3,none⟩ = some (.string y4) ∧ w'.cell? ⟨ga,oa + i * 15 + 4,none⟩ = some (.int .i64 y5) ∧ w'.cell? ⟨ga,oa + i * 15 + 5,none⟩ = some (.int .i64 y6) ∧ w'.cell? ⟨ga,oa + i * 15 + 6,none⟩ = some (.int .i64 f1) ∧ w'.cell? ⟨ga,oa + i * 15 + 7,none⟩ = some (.int .i64 o1) ∧ w'.cell? ⟨ga,oa + i * 15 + 8,none⟩ = some (.int .i64 kd1) ∧ w'.cell? ⟨ga,oa + i * 15 + 9,none⟩ = some (.int .i64 n1) ∧ w'.cell? ⟨ga,oa + i * 15 + 10,none⟩ = some (.string nm1) ∧ w'.cell? ⟨ga,oa + i * 15 + 11,none⟩ = some (.string pt1) ∧ w'.cell? ⟨ga,oa + i * 15 + 12,none⟩ = some (.int .i64 a1) ∧ w'.cell? ⟨ga,oa + i * 15 + 13,none⟩ = some (.slice ka1 0 ka2) ∧ w'.cell? ⟨ga,oa + i * 15 + 14,none⟩ = some (.int .i64 y8) ∧ w'.cell? ⟨gb,ob + i * 15,none⟩ = some (.string y1) ∧ w'.cell? ⟨gb,ob + i * 15 + 1,none⟩ = some (.int .i64 y2) ∧ w'.cell? ⟨gb,ob + i * 15 + 2,none⟩ = some (.int .i64 y3) ∧ w'.cell? ⟨gb,ob + i * 15 + 3,none⟩ = some (.string y4) ∧ w'.cell? ⟨gb,ob + i * 15 + 4,none⟩ = some (.int .i64 y5) ∧ w'.cell? ⟨gb,ob + i * 15 + 5,none⟩ = some (.int .i64 y6) ∧ w'.cell? ⟨gb,ob + i * 15 + 6,none⟩ = some (.int .i64 f1) ∧ w'.cell? ⟨gb,ob + i * 15 + 7,none⟩ = some (.int .i64 o1) ∧ w'.cell? ⟨gb,ob + i * 15 + 8,none⟩ = some (.int .i64 kd1) ∧ w'.cell? ⟨gb,ob + i * 15 + 9,none⟩ = some (.int .i64 n1) ∧ w'.cell? ⟨gb,ob + i * 15 + 10,none⟩ = some (.string nm1) ∧ w'.cell? ⟨gb,ob + i * 15 + 11,none⟩ = some (.string pt1) ∧ w'.cell? ⟨gb,ob + i * 15 + 12,none⟩ = some (.int .i64 a1) ∧ w'.cell? ⟨gb,ob + i * 15 + 13,none⟩ = some (.slice kb1 0 kb2) ∧ w'.cell? ⟨gb,ob + i * 15 + 14,none⟩ = some (.int .i64 y8)) (((((((((((((((W5.setCell ⟨wr.heap.size + 1,0,none⟩ (.string y1)).setCell ⟨wr.heap.size + 1,1,none⟩ (.int .i64 y2)).setCell ⟨wr.heap.size + 1,2,none⟩ (.int .i64 y3)).setCell ⟨wr.heap.size + 1,3,none⟩ (.string y4)).setCell ⟨wr.heap.size + 1,4,none⟩ (.int .i64 y5)).setCell ⟨wr.heap.size + 1,5,none⟩ (.int .i64 y6)).setCell ⟨wr.heap.size + 1,6,none⟩ (.int .i64 f1)).setCell ⟨wr.heap.size + 1,7,none⟩ (.int .i64 o1)).setCell ⟨wr.heap.size + 1,8,none⟩ (.int .i64 kd1)).setCell ⟨wr.heap.size + 1,9,none⟩ (.int .i64 n1)).setCell ⟨wr.heap.size + 1,10,none⟩ (.string nm1)).setCell ⟨wr.heap.size + 1,11,none⟩ (.string pt1)).setCell ⟨wr.heap.size + 1,12,none⟩ (.int .i64 a1)).setCell ⟨wr.heap.size + 1,13,none⟩ (.slice ka1 0 ka2)).setCell ⟨wr.heap.size + 1,14,none⟩ (.int .i64 y8)).drew := by
      obtain ⟨h0,h1,h2,h3,h4,h5,h6,h7,h8,h9,h10,h11,h12,h13,h14,h15,h16,h17,h18,h19,h20,h21,h22,h23,h24,h25,h26,h27,h28,h29⟩ := hHW
      exact hDr _ ⟨cell_kp h0 gC nga,cell_kp h1 gC nga,cell_kp h2 gC nga,cell_kp h3 gC nga,cell_kp h4 gC nga,cell_kp h5 gC nga,cell_kp h6 gC nga,cell_kp h7 gC nga,cell_kp h8 gC nga,cell_kp h9 gC nga,cell_kp h10 gC nga,cell_kp h11 gC nga,cell_kp h12 gC nga,cell_kp h13 gC nga,cell_kp h14 gC nga,cell_kp h15 gC ngb,cell_kp h16 gC ngb,cell_kp h17 gC ngb,cell_kp h18 gC ngb,cell_kp h19 gC ngb,cell_kp h20 gC ngb,cell_kp h21 gC ngb,cell_kp h22 gC ngb,cell_kp h23 gC ngb,cell_kp h24 gC ngb,cell_kp h25 gC ngb,cell_kp h26 gC ngb,cell_kp h27 gC ngb,cell_kp h28 gC ngb,cell_kp h29 gC ngb⟩
     refine wpAnyL_one (j := 10) (by kernel_rfl) rfl (fun K hK => ?_)
     go_simp
     refine hK.out _ _ (fun _ _ => hHW6) ?_
     clear hK K
     try simp only [Act.put,List.setIfInBounds_toArray,List.set_cons_zero,List.set_cons_succ]
     refine wpAnyL_one (j := 11) (by kernel_rfl) rfl (fun K hK => ?_)
     go_simp
     refine hK.out _ _ (fun h => absurd rfl h) ?_
     clear hK K
     try simp only [Act.put,List.setIfInBounds_toArray,List.set_cons_zero,List.set_cons_succ]
     refine wpAnyL_done (by kernel_rfl) ?_ _
     go_wp2_with fail
     go_meet
     exact ⟨wr.heap.size + 1,wr.heap.size,rfl,rfl,hidI ⟨by rw [drew_heap]; exact keptBut (gr15 (World.grownBy.refl _ _)) (box15 X2) (by omega),by rw [drew_heap]; exact box15 (keptBut (gr15 (World.grownBy.refl _ _)) X1 (by omega)),gr_drew (gr15n (gr15n gW (by omega)) (by omega))⟩⟩
  case rest =>
  obtain ⟨qa,qb,rfl,rfl,HCU⟩ := hcut
  obtain ⟨hqa,hqb,hgc⟩ := HCU.out
  clear HCU
  obtain ⟨xp,xq,xr,xf,xg,xh⟩ := facts hqa
  obtain ⟨yp,yq,yr,yf,yg,yh⟩ := facts hqb
  have HGC := hidI (gtn HGR.out hgc)
  clear hgc
  have cE := fun W2 => same_0 W2 f1 o1 kd1 n1 nm1 pt1 a1 ka1 kb1 ka2 kb2
  go_wp2_with fail
  refine (cE _).mono ?_
  rintro e w2 ⟨rfl,g2⟩
  have G2 := hidI (gtn HGC.out g2)
  go_wp2_with fail
  go_roundg (l.length + 1 - (i + 1))
  case measure => omega
  case rel =>
   exact ⟨i + 1,by simp,⟨by omega,rfl⟩,G2.out⟩
end Go.Proofs.YtdcoidmbainkmaaGreatDoor
