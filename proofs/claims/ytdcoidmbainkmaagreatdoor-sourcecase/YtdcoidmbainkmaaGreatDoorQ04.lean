/- Texts put together: R2, Sa, R3, R4, R5. -/
import Derived.Test.YtdcoidmbainkmaaGreatDoorQ03
import Derived.Shelf.Slices.Turned
import Derived.Test.YtdcoidmbainkmaaGreatDoorProg
import Derived.Shelf.Abstract
import Derived.IntWalk
namespace Go.Proofs.YtdcoidmbainkmaaGreatDoor
open Go.RowKit
attribute [local go_sem ↓] Go.wp_at_zero Go.wp_at_succ
set_option linter.unusedVariables false
set_option linter.unusedSimpArgs false
theorem fldC (t : Tok) (w : World) : Sem.run Tryz.prog (Instr.field 73 (tokV t) 0) w = .ok (.int .i64 t.c) w := by kernel_rfl
theorem fldX (t : Tok) (w : World) : Sem.run Tryz.prog (Instr.field 73 (tokV t) 1) w = .ok (.string t.x) w := by kernel_rfl
theorem fldA (t : Tok) (w : World) : Sem.run Tryz.prog (Instr.field 73 (tokV t) 3) w = .ok (.int .i64 t.a) w := by kernel_rfl
theorem fldE (t : Tok) (w : World) : Sem.run Tryz.prog (Instr.field 73 (tokV t) 4) w = .ok (.int .i64 t.e) w := by kernel_rfl
theorem RdAt.lt {w : World} {R : Nat} {s : ByteArray} {t : Tok} {u : Int} (h : RdAt w R s t u) : R < w.heap.size := at_lt h
theorem next_any (V : World) (F : Int → Tok) (R : Nat) (s : ByteArray) (t : Tok) (u : Int) (w : World) (hS : Scn V s F) (h : RdAt w R s t u) (hc : t.c ≠ 0) (hT : TokOk s.size t) (hV : Vs V w) (hs : 15 ≤ w.heap.size) :
 Calls Tryz.prog 107 #[.pointer (some ⟨R,0,none⟩)] w fun e w' => e = .returned (tokV (F t.e)) ∧ w.grownBy w' none := by
 obtain ⟨t1,t2,t3,_⟩ := hT
 obtain ⟨t4,t5,t6⟩ := t3 hc
 have hA : ∀ o,RdAt (w.alloc o) R s t u := fun o => (hp_old h.lt o).trans h
 have hW : ∀ o,(w.alloc o).drew.cell? ⟨R,0,none⟩ = some (.string s) := fun o => (hA o).drew.cells.1
 have h4 := fldE t
 have HS : Hid (Scn V s F) := hS
 have HA : Hid (∀ o,RdAt (w.alloc o) R s t u) := hA
 have HV : Hid (Vs V w) := hV
 clear hS hA hV h
 go_enter Tryz.func107,Tryz.ntmps107
 go_wp2_with fail
 go_region_with (first
  | (go_at_call 40; refine (look_ok R s t u _ (HA.out _).drew hc).mono ?_; rintro e w1 ⟨rfl,hg1⟩
     have q1 : w1.cell? ⟨R,0,none⟩ = some (.string s) := ((HA.out _).drew.kept hg1).cells.1)
  | (go_at_call 63; refine (HS.out t.e _ (by omega) (by omega) (HV.out.kept (grown_join (gr_drew (gr_alloc (World.grownBy.refl _ none) _)) hg1 (Or.inl rfl)) hs (by simp)) (by have := hg1.size; simp at this; omega)).mono ?_; rintro e w2 ⟨rfl,hg2⟩
     have B2 : w2.heap[w.heap.size]? = some (.cells #[.int .i64 0,.string ⟨#[]⟩,.int .i64 0,.int .i64 0,.int .i64 0,.int .i64 0] 73) := kept hg2 (kept hg1 (hp_new rfl _))
     have fz := at_frozen B2; obtain ⟨z0,z1,z2,z3,z4,z5⟩ := at6 B2))
 all_goals (go_wp2; exact bodyPost_ret (resBox rfl _ _ w.heap.size _ rfl (ld73 (box6 B2))) rfl ⟨rfl,gr6n (gtn (gtn (gr_drew (gr1 _ _)) hg1) hg2) (Nat.le_refl _)⟩)
theorem take_any (V : World) (F : Int → Tok) (R : Nat) (s : ByteArray) (t : Tok) (u : Int) (w : World) (hS : Scn V s F) (h : RdAt w R s t u) (hc : t.c ≠ 0) (hT : TokOk s.size t) (hV : Vs V w) (hs : 15 ≤ w.heap.size) :
 Calls Tryz.prog 65 #[.pointer (some ⟨R,0,none⟩)] w fun e w' => e = .returned (tokV t) ∧ RdAt w' R s (F t.e) u ∧ w.grownBy w' (some R) := by
 have HS : Hid (Scn V s F) := hS
 have HA : Hid (RdAt w R s t u) := h
 have HV : Hid (Vs V w) := hV
 clear hS hV h
 go_enter Tryz.func65,Tryz.ntmps65
 go_wp2_with (first
  | (go_at_call 40; refine (look_ok R s t u _ (HA.out.alloc _) hc).mono ?_; rintro e w1 ⟨rfl,hg1⟩
     have B1 : Hid (w1.heap[w.heap.size]? = some tok0) := kept hg1 (hp_new rfl _)
     have R1 : Hid (RdAt w1 R s t u) := (HA.out.alloc _).kept hg1)
  | (go_at_call 107; refine (next_any V F R s t u _ HS.out (R1.out.alloc _) hc hT (HV.out.kept (gr_alloc (gtn (gr1 _ _) hg1) _) hs (by simp)) (by have := hg1.size; simp at this ⊢; omega)).mono ?_; rintro e w2 ⟨rfl,hg2⟩
     have R2 := (R1.out.alloc _).kept hg2
     have B2 := kept hg2 ((hp_old (at_lt B1.out) _).trans B1.out)
     have C2 : w2.heap[w1.heap.size]? = some (tokO t) := kept hg2 (hp_new rfl _)
     have n1 := R2.ne B2 (by decide)
     have n2 := R2.ne C2 (by decide)
     have n3 : w.heap.size ≠ w1.heap.size := by have := hg1.size; simp at this; omega
     have fR := at_frozen R2
     have fB := at_frozen B2
     have fC := at_frozen C2
     obtain ⟨y0,y1,y2,y3,y4,y5⟩ := at6 B2
     obtain ⟨z0,z1,z2,z3,z4,z5⟩ := at6 C2
     obtain ⟨x0,x1,x2,x3,x4,x5,x6,x7⟩ := R2.cells))
 have gP : w2.grownBy ((((((w2.setCell ⟨R,1,none⟩ (.int .i64 (F t.e).c)).setCell ⟨R,2,none⟩ (.string (F t.e).x)).setCell ⟨R,3,none⟩ (.int .i64 (F t.e).n)).setCell ⟨R,4,none⟩ (.int .i64 (F t.e).a)).setCell ⟨R,5,none⟩ (.int .i64 (F t.e).e)).setCell ⟨R,6,none⟩ (.int .i64 (F t.e).f)) (some R) := grPut (World.grownBy.refl _ _)
 exact bodyPost_ret (resBox rfl _ _ w.heap.size _ rfl (ld73 (box6 (keptBut gP B2 n1)))) rfl ⟨rfl,(R2.put _).keptBut (gr6 (World.grownBy.refl _ _)) (Ne.symm n1),gr6o (gnr (gtn (gr_alloc (gtn (gr1 _ _) hg1) _) hg2) gP) (Nat.le_refl _)⟩
theorem class_bad (R : Nat) (s : ByteArray) (t : Tok) (u k : Int) (w : World) (h : RdAt w R s t u) (hc : t.c = 0) :
 Calls Tryz.prog 21 #[.pointer (some ⟨R,0,none⟩),.int .i64 k] w fun e w' => e = flt t.f u t.a ∧ w.grownBy w' none := by
 have HA : Hid (RdAt w R s t u) := h
 clear h
 go_enter Tryz.func21,Tryz.ntmps21
 go_wp2_with (go_at_call 40; refine (look_bad R s t u _ HA.out hc).mono ?_; rintro e w1 ⟨rfl,hg1⟩)
 exact ⟨rfl,rfl,hg1⟩
theorem class_ok (R : Nat) (s : ByteArray) (t : Tok) (u k : Int) (w : World) (h : RdAt w R s t u) (hc : t.c ≠ 0) :
 Calls Tryz.prog 21 #[.pointer (some ⟨R,0,none⟩),.int .i64 k] w fun e w' => e = .returned (.bool (decide (t.c = k))) ∧ w.grownBy w' none := by
 have HA : Hid (RdAt w R s t u) := h
 have h4 := fldC t
 clear h
 go_enter Tryz.func21,Tryz.ntmps21
 go_wp2_with (go_at_call 40; refine (look_ok R s t u _ HA.out hc).mono ?_; rintro e w1 ⟨rfl,hg1⟩)
 go_ret
 exact ⟨ret_bool (by rw [Bool.eq_iff_iff]; simp),hg1⟩
theorem needClass_bad (R : Nat) (s : ByteArray) (t : Tok) (u k : Int) (w : World) (h : RdAt w R s t u) (hc : t.c = 0) :
 Calls Tryz.prog 66 #[.pointer (some ⟨R,0,none⟩),.int .i64 k] w fun e w' => e = flt t.f u t.a ∧ w.grownBy w' none := by
 have HA : Hid (RdAt w R s t u) := h
 clear h
 go_enter Tryz.func66,Tryz.ntmps66
 go_wp2_with (go_at_call 21; refine (class_bad R s t u k _ (HA.out.alloc _) hc).mono ?_; rintro e w1 ⟨rfl,hg1⟩)
 exact ⟨rfl,rfl,gtn (gr1 _ _) hg1⟩
theorem needClass_no (R : Nat) (s : ByteArray) (t : Tok) (u k : Int) (w : World) (h : RdAt w R s t u) (hc : t.c ≠ 0) (hk : t.c ≠ k) :
 Calls Tryz.prog 66 #[.pointer (some ⟨R,0,none⟩),.int .i64 k] w fun e w' => e = flt 1 u t.a ∧ w.grownBy w' none := by
 have HA : Hid (RdAt w R s t u) := h
 have hd : decide (t.c = k) = false := by simpa using hk
 clear h
 go_enter Tryz.func66,Tryz.ntmps66
 go_wp2_with (first
  | (go_at_call 21; refine (class_ok R s t u k _ (HA.out.alloc _) hc).mono ?_; rintro e w1 ⟨rfl,hg1⟩
     have R1 : Hid (RdAt w1 R s t u) := (HA.out.alloc _).kept hg1
     obtain ⟨x0,x1,x2,x3,x4,x5,x6,x7⟩ := R1.out.cells)
  | (go_at_call 42; refine (giveUp_any R s t u _ _ _ R1.out).mono ?_; rintro e w2 ⟨rfl,rfl⟩))
 exact ⟨rfl,rfl,gtn (gr1 _ _) hg1⟩
theorem needClass_yes (V : World) (F : Int → Tok) (R : Nat) (s : ByteArray) (t : Tok) (u k : Int) (w : World) (hS : Scn V s F) (h : RdAt w R s t u) (hc : t.c ≠ 0) (hk : t.c = k) (hT : TokOk s.size t) (hV : Vs V w) (hs : 15 ≤ w.heap.size) :
 Calls Tryz.prog 66 #[.pointer (some ⟨R,0,none⟩),.int .i64 k] w fun e w' => e = .returned (tokV t) ∧ RdAt w' R s (F t.e) u ∧ w.grownBy w' (some R) := by
 have HS : Hid (Scn V s F) := hS
 have HA : Hid (RdAt w R s t u) := h
 have HV : Hid (Vs V w) := hV
 subst hk
 have hd : decide (t.c = t.c) = true := by simp
 clear hS hV h
 go_enter Tryz.func66,Tryz.ntmps66
 go_wp2_with (first
  | (go_at_call 21; refine (class_ok R s t u _ _ (HA.out.alloc _) hc).mono ?_; rintro e w1 ⟨rfl,hg1⟩
     have B1 : Hid (w1.heap[w.heap.size]? = some tok0) := kept hg1 (hp_new rfl _)
     have R1 : Hid (RdAt w1 R s t u) := (HA.out.alloc _).kept hg1)
  | (go_at_call 65; refine (take_any V F R s t u _ HS.out R1.out hc hT (HV.out.kept (gtn (gr1 _ _) hg1) hs (by simp)) (by have := hg1.size; simp at this; omega)).mono ?_; rintro e w2 ⟨rfl,R2,hg2⟩
     have n1 := R1.out.ne B1.out (by decide)
     have B2 := keptBut hg2 B1.out n1
     have fB := at_frozen B2
     obtain ⟨y0,y1,y2,y3,y4,y5⟩ := at6 B2))
 exact bodyPost_ret (resBox rfl _ _ w.heap.size _ rfl (ld73 (box6 B2))) rfl ⟨rfl,R2.keptBut (gr6 (World.grownBy.refl _ _)) (Ne.symm n1),gr6o (gnr (gtn (gr1 _ _) hg1) hg2) (Nat.le_refl _)⟩
end Go.Proofs.YtdcoidmbainkmaaGreatDoor

namespace Go.Proofs
open Go.Shelf
def Tryz.lays110_ren : Go.Shelf.Ren := ⟨fun | 110 => 106 | 109 => 149 | n => n,fun | 31 => 123 | 9 => 9 | 4 => 4 | 3 => 3 | 0 => 0 | n => n,fun | n => n⟩
theorem Tryz.lays110 : Go.Proofs.Lays.n110 Tryz.prog Tryz.lays110_ren := {
 mixed := by kernel_rfl
 f109 := Tryz.func149.trans (congrArg some (by kernel_rfl))
 f110 := Tryz.func106.trans (congrArg some (by kernel_rfl))
 t0 := Tryz.underlying0
 a0 := Tryz.isAgg0
 z0 := Tryz.sizeOf0
 v0 := Tryz.zeroValue0
 t3 := Tryz.underlying3
 a3 := Tryz.isAgg3
 z3 := Tryz.sizeOf3
 v3 := Tryz.zeroValue3
 t4 := Tryz.underlying4
 a4 := Tryz.isAgg4
 z4 := Tryz.sizeOf4
 v4 := Tryz.zeroValue4
 t9 := Tryz.underlying9
 a9 := Tryz.isAgg9
 z9 := Tryz.sizeOf9
 v9 := Tryz.zeroValue9
 t31 := Tryz.underlying123
 a31 := Tryz.isAgg123
 z31 := Tryz.sizeOf123
 v31 := Tryz.zeroValue123 }
open Go.Lib in
theorem Tryz.slices_Contains_string (b off n c : Nat) (zs : List ByteArray) (x : ByteArray) (w : World) (hz : n ≤ zs.length) (hbig : n ≤ 9223372036854775807) (hc : ∀ j,j < zs.length → w.cell? ⟨b,off + j,none⟩ = some (.string (zs.getD j ByteArray.empty))) :
 Calls Tryz.prog 106 #[.slice (some ⟨b,off,none⟩) n c,.string x] w fun e w' => e = .returned (.bool (Lib.containsS (zs.take n) x)) ∧ w' = w := Any.slices_Contains_string Tryz.lays110 b off n c zs x w hz hbig hc
end Go.Proofs

namespace Go.Proofs.YtdcoidmbainkmaaGreatDoor
open Go.RowKit
attribute [local go_sem ↓] Go.wp_at_zero Go.wp_at_succ
set_option linter.unusedVariables false
set_option linter.unusedSimpArgs false
structure Cx (V : World) (F : Int → Tok) (R : Nat) (s : ByteArray) (u : Int) (w : World) (t : Tok) : Prop where
 S : Scn V s F
 G : GoodF s.size F
 rd : RdAt w R s t u
 ok : TokOk s.size t
 vs : Vs V w
 sz : 15 ≤ w.heap.size
 r15 : 15 ≤ R
 tb : Tabs V
section
variable {V : World} {F : Int → Tok} {R : Nat} {s : ByteArray} {u : Int} {w w' : World} {t t' : Tok}
theorem Cx.go (C : Cx V F R s u w t) (hg : w.grownBy w' (some R)) (hr : RdAt w' R s t' u) (ht : TokOk s.size t') : Cx V F R s u w' t' :=
 ⟨C.S,C.G,hr,ht,C.vs.kept hg C.sz (fun k e => by have := C.r15; injection e with e; omega),by have := hg.size; have := C.sz; omega,C.r15,C.tb⟩
theorem Cx.gn (C : Cx V F R s u w t) (hg : w.grownBy w' none) : Cx V F R s u w' t := C.go (gr_none hg) (C.rd.kept hg) C.ok
theorem Cx.al (C : Cx V F R s u w t) (o : Obj) : Cx V F R s u (w.alloc o) t := C.gn (gr1 _ _)
theorem Cx.drew (C : Cx V F R s u w t) : Cx V F R s u w.drew t := C.gn (gr_drew (World.grownBy.refl _ _))
theorem Cx.set (C : Cx V F R s u w t) {q : Nat} (hq : q ≠ R) (h15 : 15 ≤ q) (i : Nat) (v : Value) : Cx V F R s u (w.setCell ⟨q,i,none⟩ v) t :=
 ⟨C.S,C.G,keptBut (gr_set (World.grownBy.refl _ _) _ _) C.rd (Ne.symm hq),C.ok,C.vs.kept (gr_set (World.grownBy.refl _ (some q)) i v) C.sz (fun k e => by injection e with e; omega),by simpa using C.sz,C.r15,C.tb⟩
theorem Cx.lt (C : Cx V F R s u w t) : R < w.heap.size := C.rd.lt
def Out (V : World) (F : Int → Tok) (R : Nat) (s : ByteArray) (u : Int) {α : Type} (w : World) (r : Res α) (rep : World → Value → α → Prop) (e : Ending) (w' : World) : Prop :=
 match r with
 | .ok x t' => (∃ v,e = .returned v ∧ rep w' v x) ∧ Cx V F R s u w' t' ∧ w.grownBy w' (some R)
 | .bad c a => e = flt c u a ∧ w.grownBy w' (some R)
theorem Out.ok {α : Type} {r : Res α} {rep : World → Value → α → Prop} {x : α} {v : Value} (hr : r = .ok x t') (hv : rep w' v x) (hc : Cx V F R s u w' t') (hg : w.grownBy w' (some R)) : Out V F R s u w r rep (.returned v) w' := by
 subst hr; exact ⟨⟨v,rfl,hv⟩,hc,hg⟩
theorem Out.bad {α : Type} {r : Res α} {rep : World → Value → α → Prop} {c a : Int} (hr : r = .bad c a) (hg : w.grownBy w' (some R)) : Out V F R s u w r rep (flt c u a) w' := by
 subst hr; exact ⟨rfl,hg⟩
theorem Out.get {α : Type} {r : Res α} {rep : World → Value → α → Prop} {e : Ending} (h : Out V F R s u w r rep e w') :
 (∃ x t' v,r = .ok x t' ∧ e = .returned v ∧ rep w' v x ∧ Cx V F R s u w' t' ∧ w.grownBy w' (some R)) ∨ (∃ c a,r = .bad c a ∧ e = flt c u a ∧ w.grownBy w' (some R)) := by
 cases r with
 | ok x t' => obtain ⟨⟨v,h1,h2⟩,h3,h4⟩ := h; exact Or.inl ⟨x,t',v,rfl,h1,h2,h3,h4⟩
 | bad c a => exact Or.inr ⟨c,a,rfl,h.1,h.2⟩
end
abbrev isV {α : Type} (f : α → Value) : World → Value → α → Prop := fun _ v x => v = f x
abbrev pR (R : Nat) : Value := .pointer (some ⟨R,0,none⟩)
def WsAt (w : World) (v : Value) (ws : List ByteArray) : Prop := ∃ b c,v = .slice (some ⟨b,0,none⟩) ws.length c ∧ ∀ j,j < ws.length → w.cell? ⟨b,0 + j,none⟩ = some (.string (ws.getD j ByteArray.empty))
theorem any_contains (ws : List ByteArray) (x : ByteArray) : (ws.any fun y => decide (x = y)) = Lib.containsS (ws.take ws.length) x := by
 rw [List.take_length,Bool.eq_iff_iff,Lib.containsS_iff]
 simp
theorem WsAt.open {w : World} {b c : Nat} {ws : List ByteArray} (h : WsAt w (.slice (some ⟨b,0,none⟩) ws.length c) ws) : ∀ j,j < ws.length → w.cell? ⟨b,0 + j,none⟩ = some (.string (ws.getD j ByteArray.empty)) := by
 obtain ⟨b2,c2,e2,h2⟩ := h
 injection e2 with e2 _ _; injection e2 with e2; injection e2 with e2; subst e2; exact h2
theorem WsAt.kn {w w' : World} {v : Value} {ws : List ByteArray} (h : WsAt w v ws) (hg : w.grownBy w' none) : WsAt w' v ws := by
 obtain ⟨b,c,hv,hc⟩ := h
 refine ⟨b,c,hv,fun j hj => ?_⟩
 have h1 := hc j hj
 have hb : b < w.heap.size := by
  by_cases hb : b < w.heap.size
  · exact hb
  · simp [World.cell?,Array.getElem?_eq_none (Nat.le_of_not_lt hb)] at h1
 rw [← h1]
 simp only [World.cell?]
 rw [hg.block b hb (by simp)]
section
variable {V : World} {F : Int → Tok} {R : Nat} {s : ByteArray} {u : Int} {w : World} {t : Tok}
theorem is_any (C : Cx V F R s u w t) (v : Value) (ws : List ByteArray) (hw : WsAt w v ws) (hl : ws.length ≤ 100) :
 Calls Tryz.prog 64 #[pR R,v] w (Out V F R s u w (isP ws t) (isV .bool)) := by
 obtain ⟨b,c,rfl,hc⟩ := id hw
 have HW : Hid (WsAt w (.slice (some ⟨b,0,none⟩) ws.length c) ws) := hw
 have HC : Hid (Cx V F R s u w t) := C
 by_cases h0 : t.c = 0
 · clear C hc hw
   go_enter Tryz.func64,Tryz.ntmps64
   go_wp2_with (go_at_call 40; refine (look_bad R s t u _ HC.out.rd h0).mono ?_; rintro e w1 ⟨rfl,hg1⟩)
   exact ⟨rfl,Out.bad (by simp [isP,h0]) (gr_none hg1)⟩
 · clear C hc hw
   have h3 : decide (t.c = 3) = (t.c == 3) := by rw [Bool.eq_iff_iff]; simp
   by_cases hm : t.c = 3
   · have hm' : (t.c == 3) = true := by simpa using hm
     go_enter Tryz.func64,Tryz.ntmps64
     go_wp2_with (first
      | (go_at_call 40; refine (look_ok R s t u _ HC.out.rd h0).mono ?_; rintro e w1 ⟨rfl,hg1⟩)
      | (go_at_call 106; refine (Tryz.slices_Contains_string b 0 ws.length c ws t.x _ (Nat.le_refl _) (by omega) ((HW.out.kn hg1).kn (gr1 _ _)).open).mono ?_; rintro e w2 ⟨rfl,rfl⟩))
     go_ret
     exact Out.ok (by rw [isP,if_neg h0]) (by rw [mem,any_contains]; simp [hm]) (HC.out.gn (gr_alloc hg1 _)) (gr_none (gr_alloc hg1 _))
   · have hm' : (t.c == 3) = false := by simpa using hm
     go_enter Tryz.func64,Tryz.ntmps64
     go_wp2_with (first
      | (go_at_call 40; refine (look_ok R s t u _ HC.out.rd h0).mono ?_; rintro e w1 ⟨rfl,hg1⟩))
     go_ret
     exact Out.ok (by rw [isP,if_neg h0]) (by simp [mem,hm]) (HC.out.gn (gr_alloc hg1 _)) (gr_none (gr_alloc hg1 _))
theorem took_any (C : Cx V F R s u w t) (v : Value) (ws : List ByteArray) (hw : WsAt w v ws) (hl : ws.length ≤ 100) :
 Calls Tryz.prog 109 #[pR R,v] w (Out V F R s u w (tookP F ws t) (isV .bool)) := by
 have HW : Hid (WsAt w v ws) := hw
 have HC : Hid (Cx V F R s u w t) := C
 have hI := is_any C v ws hw hl
 have HI : Hid (Calls Tryz.prog 64 #[pR R,v] w (Out V F R s u w (isP ws t) (isV .bool))) := hI
 clear hI C hw
 by_cases h0 : t.c = 0
 · go_enter Tryz.func109,Tryz.ntmps109
   go_wp2_with (go_at_call 64; refine HI.out.mono ?_; intro e w1 h1; rw [isP,if_pos h0] at h1; obtain ⟨rfl,hg1⟩ := h1)
   exact ⟨rfl,Out.bad (by rw [tookP,if_pos h0]) hg1⟩
 · cases hm : mem ws t
   · go_enter Tryz.func109,Tryz.ntmps109
     go_wp2_with (go_at_call 64; refine HI.out.mono ?_; intro e w1 h1; rw [isP,if_neg h0,hm] at h1; obtain ⟨⟨v1,rfl,rfl⟩,C1,hg1⟩ := h1)
     go_ret
     exact Out.ok (by rw [tookP,if_neg h0,hm]; rfl) rfl C1 hg1
   · have hc3 : t.c = 3 := mem_c HC.out.G hm
     go_enter Tryz.func109,Tryz.ntmps109
     go_wp2_with (first
      | (go_at_call 64; refine HI.out.mono ?_; intro e w1 h1; rw [isP,if_neg h0,hm] at h1; obtain ⟨⟨v1,rfl,rfl⟩,C1,hg1⟩ := h1)
      | (go_at_call 65; refine (take_any V F R s t u _ C1.S C1.rd h0 C1.ok C1.vs C1.sz).mono ?_; rintro e w2 ⟨rfl,R2,hg2⟩))
     go_ret
     exact Out.ok (by rw [tookP,if_neg h0,hm,if_pos rfl]) rfl (C1.go hg2 R2 (next_ok C1.G C1.ok h0).1) (gtr hg1 hg2)
theorem need_any (C : Cx V F R s u w t) (v : Value) (ws : List ByteArray) (hw : WsAt w v ws) (hl : ws.length ≤ 100) :
 Calls Tryz.prog 41 #[pR R,v] w (Out V F R s u w (needP F ws t) (isV tokV)) := by
 have HC : Hid (Cx V F R s u w t) := C
 have HI : Hid (∀ o,Calls Tryz.prog 64 #[pR R,v] (w.alloc o) (Out V F R s u (w.alloc o) (isP ws t) (isV .bool))) := fun o => is_any (C.al o) v ws (hw.kn (gr1 _ _)) hl
 clear C hw
 by_cases h0 : t.c = 0
 · go_enter Tryz.func41,Tryz.ntmps41
   go_wp2_with (go_at_call 64; refine (HI.out _).mono ?_; intro e w1 h1; rw [isP,if_pos h0] at h1; obtain ⟨rfl,hg1⟩ := h1)
   exact ⟨rfl,Out.bad (by rw [needP,if_pos h0]) (gnr (gr1 _ _) hg1)⟩
 · cases hm : mem ws t
   · go_enter Tryz.func41,Tryz.ntmps41
     go_wp2_with (first
      | (go_at_call 64; refine (HI.out _).mono ?_; intro e w1 h1; rw [isP,if_neg h0,hm] at h1; obtain ⟨⟨v1,rfl,rfl⟩,C1,hg1⟩ := h1; obtain ⟨x0,x1,x2,x3,x4,x5,x6,x7⟩ := C1.rd.cells)
      | (go_at_call 42; refine (giveUp_any R s t u _ _ _ C1.rd).mono ?_; rintro e w2 ⟨rfl,rfl⟩))
     exact ⟨rfl,Out.bad (by rw [needP,if_neg h0,hm]; rfl) (gnr (gr1 _ _) hg1)⟩
   · go_enter Tryz.func41,Tryz.ntmps41
     go_wp2_with (first
      | (go_at_call 64; refine (HI.out _).mono ?_; intro e w1 h1; rw [isP,if_neg h0,hm] at h1; obtain ⟨⟨v1,rfl,rfl⟩,C1,hg1⟩ := h1)
      | (go_at_call 65; refine (take_any V F R s t u _ C1.S C1.rd h0 C1.ok C1.vs C1.sz).mono ?_; rintro e w2 ⟨rfl,R2,hg2⟩
         have n1 := (HC.out.al _).rd.ne (hp_new (w := w) rfl tok0) (by decide)
         have B2 := keptBut hg2 (keptBut hg1 (hp_new (w := w) rfl tok0) n1) n1
         have fB := at_frozen B2
         obtain ⟨y0,y1,y2,y3,y4,y5⟩ := at6 B2))
     exact bodyPost_ret (resBox rfl _ _ w.heap.size _ rfl (ld73 (box6 B2))) rfl (Out.ok (by rw [needP,if_neg h0,hm,if_pos rfl]) rfl (HC.out.go (gr6o (gtr (gnr (gr1 _ _) hg1) hg2) (Nat.le_refl _)) (R2.keptBut (gr6 (World.grownBy.refl _ _)) (Ne.symm n1)) (next_ok C1.G C1.ok h0).1) (gr6o (gtr (gnr (gr1 _ _) hg1) hg2) (Nat.le_refl _)))
theorem cls_any (C : Cx V F R s u w t) (k : Int) : Calls Tryz.prog 21 #[pR R,.int .i64 k] w (Out V F R s u w (clsP k t) (isV .bool)) := by
 by_cases h0 : t.c = 0
 · refine (class_bad R s t u k w C.rd h0).mono ?_
   rintro e w1 ⟨rfl,hg1⟩
   exact Out.bad (by rw [clsP,if_pos h0]) (gr_none hg1)
 · refine (class_ok R s t u k w C.rd h0).mono ?_
   rintro e w1 ⟨rfl,hg1⟩
   exact Out.ok (by rw [clsP,if_neg h0]) rfl (C.gn hg1) (gr_none hg1)
theorem needC_any (C : Cx V F R s u w t) (k : Int) : Calls Tryz.prog 66 #[pR R,.int .i64 k] w (Out V F R s u w (needC F k t) (isV tokV)) := by
 by_cases h0 : t.c = 0
 · refine (needClass_bad R s t u k w C.rd h0).mono ?_
   rintro e w1 ⟨rfl,hg1⟩
   exact Out.bad (by rw [needC,if_pos h0]) (gr_none hg1)
 · by_cases hk : t.c = k
   · refine (needClass_yes V F R s t u k w C.S C.rd h0 hk C.ok C.vs C.sz).mono ?_
     rintro e w1 ⟨rfl,R1,hg1⟩
     exact Out.ok (by rw [needC,if_neg h0,if_pos hk]) rfl (C.go hg1 R1 (next_ok C.G C.ok h0).1) hg1
   · refine (needClass_no R s t u k w C.rd h0 hk).mono ?_
     rintro e w1 ⟨rfl,hg1⟩
     exact Out.bad (by rw [needC,if_neg h0,if_neg hk]) (gr_none hg1)
theorem takeO (C : Cx V F R s u w t) : Calls Tryz.prog 65 #[pR R] w (Out V F R s u w (takeP F t) (isV tokV)) := by
 by_cases h0 : t.c = 0
 · have HC : Hid (Cx V F R s u w t) := C
   clear C
   go_enter Tryz.func65,Tryz.ntmps65
   go_wp2_with (go_at_call 40; refine (look_bad R s t u _ (HC.out.al _).rd h0).mono ?_; rintro e w1 ⟨rfl,hg1⟩)
   exact ⟨rfl,Out.bad (by rw [takeP,if_pos h0]) (gr_none (gtn (gr1 _ _) hg1))⟩
 · refine (take_any V F R s t u w C.S C.rd h0 C.ok C.vs C.sz).mono ?_
   rintro e w1 ⟨rfl,R1,hg1⟩
   exact Out.ok (by rw [takeP,if_neg h0]) rfl (C.go hg1 R1 (next_ok C.G C.ok h0).1) hg1
theorem name_any (C : Cx V F R s u w t) : Calls Tryz.prog 44 #[pR R] w (Out V F R s u w (needC F 2 t) (isV fun k => .string k.x)) := by
 have HC : Hid (Cx V F R s u w t) := C
 clear C
 rcases hr : needC F 2 t with ⟨k,t1⟩ | ⟨c,a⟩
 · have h1 := fldX k
   go_enter Tryz.func44,Tryz.ntmps44
   go_wp2_with (go_at_call 66; refine (needC_any HC.out 2).mono ?_; intro e w1 h; rw [hr] at h; obtain ⟨⟨v,rfl,rfl⟩,C1,hg1⟩ := h)
   go_ret
   exact Out.ok rfl rfl C1 hg1
 · go_enter Tryz.func44,Tryz.ntmps44
   go_wp2_with (go_at_call 66; refine (needC_any HC.out 2).mono ?_; intro e w1 h; rw [hr] at h; obtain ⟨rfl,hg1⟩ := h)
   exact ⟨rfl,Out.bad rfl hg1⟩
end
end Go.Proofs.YtdcoidmbainkmaaGreatDoor

namespace Go.Proofs.YtdcoidmbainkmaaGreatDoor
open Go.RowKit
attribute [local go_sem ↓] Go.wp_at_zero Go.wp_at_succ
set_option linter.unusedVariables false
set_option linter.unusedSimpArgs false
abbrev rV (R : Nat) : Value := .agg #[pR R]
abbrev rO (R : Nat) : Obj := .cells #[pR R] 46
theorem old {w : World} {q : Nat} {o : Obj} (h : w.heap[q]? = some o) (o' : Obj) : (w.alloc o').heap[q]? = some o := (hp_old (at_lt h) o').trans h
theorem new (w : World) (o : Obj) : (w.alloc o).heap[w.heap.size]? = some o := hp_new rfl o
def Fits (w : World) (R : Nat) (f : FuncId) (caps : Array Value) (fits : Int → Bool) : Prop :=
 ∀ (n : Int) (W : World),w.grownBy W (some R) → -4294967295 ≤ n → n ≤ 4294967295 → Calls Tryz.prog f (#[.int .i64 n] ++ caps) W fun e w' => e = .returned (.bool (fits n)) ∧ W = w'
theorem Fits.go {w w' : World} {R : Nat} {f : FuncId} {caps : Array Value} {fits : Int → Bool} (h : Fits w R f caps fits) (hg : w.grownBy w' (some R)) : Fits w' R f caps fits := fun n W hW a b => h n W (gtr hg hW) a b
theorem wsn (W : World) (b : Nat) (ws : List ByteArray) (cs : Array Value) (n c : Nat) (hb : b = W.heap.size) (hcs : cs = (ws.map Value.string).toArray) (hn : n = ws.length) : WsAt (W.alloc (.cells cs 9)) (.slice (some ⟨b,0,none⟩) n c) ws := by
 subst hb hn
 refine ⟨_,_,rfl,fun j hj => ?_⟩
 rw [at_cell (new W _),hcs]
 simp [List.getElem?_eq_getElem hj]
section
variable {V : World} {F : Int → Tok} {R : Nat} {s : ByteArray} {u : Int} {w : World} {t : Tok}
theorem isW (C : Cx V F R s u w t) (b : Nat) (ws : List ByteArray) (cs : Array Value) (n c : Nat) (hb : b = w.heap.size) (hcs : cs = (ws.map Value.string).toArray) (hn : n = ws.length) (hl : ws.length ≤ 100) :
 Calls Tryz.prog 64 #[pR R,.slice (some ⟨b,0,none⟩) n c] (w.alloc (.cells cs 9)) (Out V F R s u (w.alloc (.cells cs 9)) (isP ws t) (isV .bool)) := is_any (C.al _) _ ws (wsn _ _ _ _ _ _ hb hcs hn) hl
theorem tookW (C : Cx V F R s u w t) (b : Nat) (ws : List ByteArray) (cs : Array Value) (n c : Nat) (hb : b = w.heap.size) (hcs : cs = (ws.map Value.string).toArray) (hn : n = ws.length) (hl : ws.length ≤ 100) :
 Calls Tryz.prog 109 #[pR R,.slice (some ⟨b,0,none⟩) n c] (w.alloc (.cells cs 9)) (Out V F R s u (w.alloc (.cells cs 9)) (tookP F ws t) (isV .bool)) := took_any (C.al _) _ ws (wsn _ _ _ _ _ _ hb hcs hn) hl
theorem needW (C : Cx V F R s u w t) (b : Nat) (ws : List ByteArray) (cs : Array Value) (n c : Nat) (hb : b = w.heap.size) (hcs : cs = (ws.map Value.string).toArray) (hn : n = ws.length) (hl : ws.length ≤ 100) :
 Calls Tryz.prog 41 #[pR R,.slice (some ⟨b,0,none⟩) n c] (w.alloc (.cells cs 9)) (Out V F R s u (w.alloc (.cells cs 9)) (needP F ws t) (isV tokV)) := need_any (C.al _) _ ws (wsn _ _ _ _ _ _ hb hcs hn) hl
set_option maxHeartbeats 400000 in
theorem num_any (C : Cx V F R s u w t) (sg : Int) (hsg : sg = 1 ∨ sg = -1) (f : FuncId) (caps : Array Value) (fits : Int → Bool) (hf : ∀ (args : Array Value) (W : World),(callFunc f args).run Tryz.prog W = .ok (.enter f args) W) (hF : Fits w R f caps fits) :
 Calls Tryz.prog 184 #[rV R,.int .i64 sg,.func (.func f) #[] caps] w (Out V F R s u w (numP F sg fits t) (isV (.int .i64))) := by
 have HC : Hid (Cx V F R s u w t) := C
 have HF : Hid (Fits w R f caps fits) := hF
 clear C hF
 rcases hr : needC F 4 t with ⟨k,t1⟩ | ⟨c,a⟩
 · have hk : k = t := by
    simp only [needC] at hr
    split at hr
    · cases hr
    · split at hr
      · injection hr with h1 _; exact h1.symm
      · cases hr
   have kb : 0 ≤ k.n ∧ k.n ≤ 4294967295 := by rw [hk]; exact HC.out.ok.2.2.2
   obtain ⟨m,hm⟩ : ∃ m,sg * k.n = m := ⟨_,rfl⟩
   have mb : -4294967295 ≤ m ∧ m ≤ 4294967295 := by rcases hsg with rfl | rfl <;> omega
   have hw : wrap64 (sg * k.n) = m := by rw [hm]; exact IntWalk.wrap64_in _ (by omega)
   have hw' : IntKind.i64.wrap (sg * k.n) = m := by rw [hm]; exact IntWalk.i64_in _ (by omega)
   have HM : Hid (sg * k.n = m) := hm
   have HB : Hid (-4294967295 ≤ m ∧ m ≤ 4294967295) := mb
   have HK : Hid (k = t) := hk
   clear hm mb hk kb hsg
   cases hfit : fits m
   · go_enter Tryz.func184,Tryz.ntmps184
     go_wp2_with (first
      | (go_at_call 66; refine (needC_any (HC.out.al _) 4).mono ?_; intro e w1 h; rw [hr] at h; obtain ⟨⟨v,rfl,rfl⟩,C1,hg1⟩ := h
         have n1 := (HC.out.al _).rd.ne (new w (rO R)) (by decide)
         have x0 := at_cell (old (keptBut hg1 (new w (rO R)) n1) (tokO k)) 0
         simp at x0))
     refine (HF.out m _ (gr_alloc (gnr (gr1 _ _) hg1) _) HB.out.1 HB.out.2).mono ?_
     rw [hfit]
     rintro e w2 ⟨rfl,rfl⟩
     go_wp2_with (go_at_call 42; refine (giveUp_any R s t1 u _ _ _ (C1.al _).rd).mono ?_; rintro e w2 ⟨rfl,rfl⟩)
     exact ⟨rfl,Out.bad (by rw [numP,hr]; simp [Res.bind,HM.out,hfit]) (gr_alloc (gnr (gr1 _ _) hg1) _)⟩
   · go_enter Tryz.func184,Tryz.ntmps184
     go_wp2_with (first
      | (go_at_call 66; refine (needC_any (HC.out.al _) 4).mono ?_; intro e w1 h; rw [hr] at h; obtain ⟨⟨v,rfl,rfl⟩,C1,hg1⟩ := h
         have n1 := (HC.out.al _).rd.ne (new w (rO R)) (by decide)
         have x0 := at_cell (old (keptBut hg1 (new w (rO R)) n1) (tokO k)) 0
         simp at x0))
     refine (HF.out m _ (gr_alloc (gnr (gr1 _ _) hg1) _) HB.out.1 HB.out.2).mono ?_
     rw [hfit]
     rintro e w2 ⟨rfl,rfl⟩
     go_wp2_with fail
     go_ret
     exact Out.ok (by rw [numP,hr]; simp [Res.bind,HM.out,hfit]) rfl (C1.al _) (gr_alloc (gnr (gr1 _ _) hg1) _)
 · go_enter Tryz.func184,Tryz.ntmps184
   go_wp2_with (go_at_call 66; refine (needC_any (HC.out.al _) 4).mono ?_; intro e w1 h; rw [hr] at h; obtain ⟨rfl,hg1⟩ := h)
   exact ⟨rfl,Out.bad (by rw [numP,hr]; rfl) (gnr (gr1 _ _) hg1)⟩
theorem const_any (C : Cx V F R s u w t) (f : FuncId) (caps : Array Value) (fits : Int → Bool) (hf : ∀ (args : Array Value) (W : World),(callFunc f args).run Tryz.prog W = .ok (.enter f args) W) (hF : Fits w R f caps fits) :
 Calls Tryz.prog 151 #[rV R,.func (.func f) #[] caps] w (Out V F R s u w (constP F fits t) (isV (.int .i64))) := by
 have HC : Hid (Cx V F R s u w t) := C
 have HF : Hid (Fits w R f caps fits) := hF
 clear C hF
 go_enter Tryz.func151,Tryz.ntmps151
 go_wp2_with fail
 refine (tookW (HC.out.al _) _ [⟨#[45]⟩] _ _ _ (by simp) rfl rfl (by decide)).mono ?_
 intro e w1 h1
 rcases h1.get with ⟨b1,t1,v1,r1,rfl,rfl,C1,g1⟩ | ⟨c1,a1,r1,rfl,g1⟩
 rotate_left
 · exact ⟨rfl,Out.bad (by rw [constP,r1]; rfl) (gnr (gr_alloc (gr1 _ _) _) g1)⟩
 have n1 := (HC.out.al (rO R)).rd.ne (new w (rO R)) (by decide)
 have x0 := at_cell (keptBut g1 (old (new w (rO R)) _) n1) 0
 simp at x0
 have G1 := gnr (gr_alloc (gr1 w _) _) g1
 clear h1
 rcases b1 with _ | _
 all_goals
  go_wp2_with fail
  refine (num_any C1 _ (by first | exact Or.inl rfl | exact Or.inr rfl) f caps fits hf (HF.out.go G1)).mono ?_
  intro e w2 h2
  rcases h2.get with ⟨b2,t2,v2,r2,rfl,rfl,C2,g2⟩ | ⟨c2,a2,r2,rfl,g2⟩
  rotate_left
  · exact ⟨rfl,Out.bad (by rw [constP,r1]; exact r2) (gtr G1 g2)⟩
  go_wp2_with fail
  go_ret
  exact Out.ok (by rw [constP,r1]; exact r2) rfl C2 (gtr G1 g2)
theorem yes_fits (w : World) (R : Nat) : Fits w R 183 #[] (fun _ => true) := by
 intro n W _ _ _
 go_enter Tryz.func183,Tryz.ntmps183
 go_wp2
 go_ret
 exact ⟨rfl,rfl⟩
theorem enters183 (args : Array Value) (W : World) : (callFunc 183 args).run Tryz.prog W = .ok (.enter 183 args) W := enters_of Tryz.func183 (by kernel_rfl) rfl args W
theorem constant_any (C : Cx V F R s u w t) : Calls Tryz.prog 150 #[rV R] w (Out V F R s u w (constP F (fun _ => true) t) (isV (.int .i64))) := by
 have HC : Hid (Cx V F R s u w t) := C
 clear C
 go_enter Tryz.func150,Tryz.ntmps150
 go_wp2_with fail
 refine (const_any (HC.out.al _) 183 #[] _ enters183 (yes_fits _ _)).mono ?_
 intro e w2 h2
 rcases h2.get with ⟨b2,t2,v2,r2,rfl,rfl,C2,g2⟩ | ⟨c2,a2,r2,rfl,g2⟩
 rotate_left
 · exact ⟨rfl,Out.bad r2 (gnr (gr1 _ _) g2)⟩
 go_wp2_with fail
 go_ret
 exact Out.ok r2 rfl C2 (gnr (gr1 _ _) g2)
end
end Go.Proofs.YtdcoidmbainkmaaGreatDoor

namespace Go.Proofs.YtdcoidmbainkmaaGreatDoor
open Go.RowKit
attribute [local go_sem ↓] Go.wp_at_zero Go.wp_at_succ
set_option linter.unusedVariables false
set_option linter.unusedSimpArgs false
theorem facts {W : World} {q : Nat} {cs : Array Value} {T : TypeId} (X : W.heap[q]? = some (.cells cs T)) :
 (∀ i,W.cell? ⟨q,i,none⟩ = cs[i]?) ∧ (∀ o i,(W.alloc o).cell? ⟨q,i,none⟩ = cs[i]?) ∧ (∀ o o' i,((W.alloc o).alloc o').cell? ⟨q,i,none⟩ = cs[i]?) ∧
 (∀ i,W.frozen? ⟨q,i,none⟩ = false) ∧ (∀ o i,(W.alloc o).frozen? ⟨q,i,none⟩ = false) ∧ (∀ o o' i,((W.alloc o).alloc o').frozen? ⟨q,i,none⟩ = false) :=
 ⟨at_cell X,fun o => at_cell (old X o),fun o o' => at_cell (old (old X o) o'),at_frozen X,fun o => at_frozen (old X o),fun o o' => at_frozen (old (old X o) o')⟩
section
variable {V : World} {F : Int → Tok} {R : Nat} {s : ByteArray} {u : Int} {w : World} {t : Tok}
theorem ahead_any (C : Cx V F R s u w t) (h0 : t.c ≠ 0) (k : Int) (x : ByteArray) :
 Calls Tryz.prog 243 #[rV R,.int .i64 k,.string x] w fun e w' => e = .returned (.bool (ahead F k x t)) ∧ w.grownBy w' none := by
 have HC : Hid (Cx V F R s u w t) := C
 clear C
 have cN := next_any V F R s t u _ (HC.out.al (rO R)).S (HC.out.al (rO R)).rd h0 HC.out.ok (HC.out.al (rO R)).vs (HC.out.al (rO R)).sz
 have e1 : ((F t.e).c == k) = decide ((F t.e).c = k) := by rw [Bool.eq_iff_iff]; simp
 go_enter Tryz.func243,Tryz.ntmps243
 go_wp2_with fail
 refine cN.mono ?_
 rintro e w1 ⟨rfl,g1⟩
 cases hk : decide ((F t.e).c = k)
 all_goals rw [hk] at e1
 all_goals go_wp2_with fail
 all_goals go_ret
 all_goals refine ⟨ret_bool ?_,gr_alloc (gtn (gr1 _ _) g1) _⟩
 · simp [ahead,hk]
 · simp only [ahead,hk,eqS2]; rfl
theorem cls_look (C : Cx V F R s u w t) (h0 : t.c ≠ 0) (k : Int) : Calls Tryz.prog 21 #[pR R,.int .i64 k] w fun e w' => e = .returned (.bool (decide (t.c = k))) ∧ w.grownBy w' none := class_ok R s t u k w C.rd h0
theorem is_look (C : Cx V F R s u w t) (h0 : t.c ≠ 0) (b : Nat) (ws : List ByteArray) (cs : Array Value) (n c : Nat) (hb : b = w.heap.size) (hcs : cs = (ws.map Value.string).toArray) (hn : n = ws.length) (hl : ws.length ≤ 100) :
 Calls Tryz.prog 64 #[pR R,.slice (some ⟨b,0,none⟩) n c] (w.alloc (.cells cs 9)) fun e w' => e = .returned (.bool (mem ws t)) ∧ (w.alloc (.cells cs 9)).grownBy w' none := by
 have HC : Hid (Cx V F R s u w t) := C
 have HW := (wsn w b ws cs n c hb hcs hn)
 obtain ⟨b',c',hv,hc⟩ := HW
 injection hv with hv1 hv2 hv3
 injection hv1 with hv1
 injection hv1 with hv1
 subst hv1 hn
 have H2 : Hid (WsAt (w.alloc (.cells cs 9)) (.slice (some ⟨b,0,none⟩) ws.length c) ws) := ⟨b,c,rfl,hc⟩
 clear C hc hb hcs hv3
 by_cases hm : t.c = 3
 · have hm' : (t.c == 3) = true := by simpa using hm
   go_enter Tryz.func64,Tryz.ntmps64
   go_wp2_with fail
   refine (look_ok R s t u _ (HC.out.al _).rd h0).mono ?_
   rintro e w1 ⟨rfl,g1⟩
   go_wp2_with fail
   refine (Tryz.slices_Contains_string b 0 ws.length c ws t.x _ (Nat.le_refl _) (by omega) ((H2.out.kn g1).kn (gr1 _ _)).open).mono ?_
   rintro e w2 ⟨rfl,rfl⟩
   go_wp2_with fail
   go_ret
   exact ⟨ret_bool (by rw [mem,any_contains]; simp [hm]),gr_alloc g1 _⟩
 · have hm' : (t.c == 3) = false := by simpa using hm
   go_enter Tryz.func64,Tryz.ntmps64
   go_wp2_with fail
   refine (look_ok R s t u _ (HC.out.al _).rd h0).mono ?_
   rintro e w1 ⟨rfl,g1⟩
   go_wp2_with fail
   go_ret
   exact ⟨ret_bool (by simp [mem,hm]),gr_alloc g1 _⟩
set_option maxHeartbeats 1000000 in
theorem begL_any (C : Cx V F R s u w t) (h0 : t.c ≠ 0) : Calls Tryz.prog 228 #[rV R] w fun e w' => e = .returned (.bool (litB F t)) ∧ w.grownBy w' none := by
 have HC : Hid (Cx V F R s u w t) := C
 clear C
 have nR : w.heap.size ≠ R := by have := HC.out.lt; omega
 have c4 := cls_look (HC.out.al (rO R)) h0 4
 go_enter Tryz.func228,Tryz.ntmps228
 go_wp2_with fail
 refine c4.mono ?_
 rintro e w1 ⟨rfl,g1⟩
 obtain ⟨x0,x1,x2,_,_,_⟩ := facts (kept g1 (new w (rO R)))
 have X1 := hidI (kept g1 (new w (rO R)))
 have G1 := gtn (gr1 w _) g1
 clear g1
 cases h4 : decide (t.c = 4)
 rotate_left
 · go_wp2_with fail
   go_ret
   exact ⟨ret_bool (by simp [litB,h4]),G1⟩
 go_wp2_with fail
 refine (cls_look (HC.out.gn G1) h0 5).mono ?_
 rintro e w2 ⟨rfl,g2⟩
 obtain ⟨y0,y1,y2,_,_,_⟩ := facts (kept g2 X1.out)
 have X2 := hidI (kept g2 X1.out)
 have G2 := gtn G1 g2
 clear G1 g2 x0 x1 x2 X1
 cases h5 : decide (t.c = 5)
 rotate_left
 · go_wp2_with fail
   go_ret
   exact ⟨ret_bool (by simp [litB,h4,h5]),G2⟩
 go_wp2_with fail
 refine (is_look (HC.out.gn G2) h0 _ [⟨#[116,114,117,101]⟩,⟨#[102,97,108,115,101]⟩] _ _ _ (by simp) rfl rfl (by decide)).mono ?_
 rintro e w3 ⟨rfl,g3⟩
 obtain ⟨x0,x1,x2,_,_,_⟩ := facts (kept g3 (old X2.out _))
 have X3 := hidI (kept g3 (old X2.out _))
 have G3 := gtn (gr_alloc G2 _) g3
 clear G2 g3 y0 y1 y2 X2
 cases hm : mem [⟨#[116,114,117,101]⟩,⟨#[102,97,108,115,101]⟩] t
 rotate_left
 · go_wp2_with fail
   go_ret
   exact ⟨ret_bool (by simp [litB,h4,h5,hm]),G3⟩
 go_wp2_with fail
 refine (is_look (HC.out.gn G3) h0 _ [⟨#[45]⟩] _ _ _ (by simp) rfl rfl (by decide)).mono ?_
 rintro e w4 ⟨rfl,g4⟩
 obtain ⟨y0,y1,y2,_,_,_⟩ := facts (kept g4 (old X3.out _))
 have G4 := gtn (gr_alloc G3 _) g4
 clear G3 g4 x0 x1 x2 X3
 cases hn : mem [⟨#[45]⟩] t
 · go_wp2_with fail
   go_ret
   exact ⟨ret_bool (by simp [litB,h4,h5,hm,hn]),G4⟩
 go_wp2_with fail
 refine (ahead_any (HC.out.gn G4) h0 4 ⟨#[]⟩).mono ?_
 rintro e w5 ⟨rfl,g5⟩
 go_wp2_with fail
 go_ret
 exact ⟨ret_bool (by simp [litB,h4,h5,hm,hn,nob]),gtn G4 g5⟩
set_option maxHeartbeats 1000000 in
theorem begN_any (C : Cx V F R s u w t) (h0 : t.c ≠ 0) : Calls Tryz.prog 242 #[rV R] w fun e w' => e = .returned (.bool (nameB F t)) ∧ w.grownBy w' none := by
 have HC : Hid (Cx V F R s u w t) := C
 clear C
 have c4 := cls_look (HC.out.al (rO R)) h0 2
 go_enter Tryz.func242,Tryz.ntmps242
 go_wp2_with fail
 refine c4.mono ?_
 rintro e w1 ⟨rfl,g1⟩
 obtain ⟨x0,x1,x2,_,_,_⟩ := facts (kept g1 (new w (rO R)))
 have X1 := hidI (kept g1 (new w (rO R)))
 have G1 := gtn (gr1 w _) g1
 clear g1
 cases h4 : decide (t.c = 2)
 rotate_left
 · go_wp2_with fail
   go_ret
   exact ⟨ret_bool (by simp [nameB,h4]),G1⟩
 go_wp2_with fail
 refine (is_look (HC.out.gn G1) h0 _ [⟨#[109,97,120]⟩] _ _ _ (by simp) rfl rfl (by decide)).mono ?_
 rintro e w3 ⟨rfl,g3⟩
 obtain ⟨y0,y1,y2,_,_,_⟩ := facts (kept g3 (old X1.out _))
 have G3 := gtn (gr_alloc G1 _) g3
 clear G1 g3 x0 x1 x2 X1
 cases hm : mem [⟨#[109,97,120]⟩] t
 · go_wp2_with fail
   go_ret
   exact ⟨ret_bool (by simp [nameB,h4,hm]),G3⟩
 go_wp2_with fail
 refine (ahead_any (HC.out.gn G3) h0 3 ⟨#[40]⟩).mono ?_
 rintro e w5 ⟨rfl,g5⟩
 go_wp2_with fail
 go_ret
 exact ⟨ret_bool (by simp [nameB,h4,hm]),gtn G3 g5⟩
set_option maxHeartbeats 1000000 in
theorem beg_any (C : Cx V F R s u w t) : Calls Tryz.prog 227 #[rV R] w (Out V F R s u w (begP F t) (fun _ v _ => v = .tuple #[])) := by
 have HC : Hid (Cx V F R s u w t) := C
 by_cases h0 : t.c = 0
 · clear C
   go_enter Tryz.func227,Tryz.ntmps227
   go_wp2_with fail
   have : Calls Tryz.prog 228 #[rV R] (w.alloc (rO R)) fun e w' => e = flt t.f u t.a ∧ (w.alloc (rO R)).grownBy w' none := by
    go_enter Tryz.func228,Tryz.ntmps228
    go_wp2_with fail
    refine (class_bad R s t u _ _ ((HC.out.al _).al _).rd h0).mono ?_
    rintro e w1 ⟨rfl,g1⟩
    exact ⟨rfl,rfl,gtn (gr1 _ _) g1⟩
   refine this.mono ?_
   rintro e w1 ⟨rfl,g1⟩
   exact ⟨rfl,Out.bad (by rw [begP,if_pos h0]) (gr_none (gtn (gr1 _ _) g1))⟩
 have c1 := begL_any (C.al (rO R)) h0
 clear C
 go_enter Tryz.func227,Tryz.ntmps227
 go_wp2_with fail
 refine c1.mono ?_
 rintro e w1 ⟨rfl,g1⟩
 obtain ⟨x0,x1,x2,_,_,_⟩ := facts (kept g1 (new w (rO R)))
 have X1 := hidI (kept g1 (new w (rO R)))
 have G1 := gtn (gr1 w _) g1
 clear g1 c1
 cases hl : litB F t
 rotate_left
 · go_wp2_with fail
   refine bodyPost_ret (results_none rfl _ _ _) rfl ?_
   exact Out.ok (by rw [begP,if_neg h0,if_pos (by simp [begB,hl])]) rfl (HC.out.gn G1) (gr_none G1)
 go_wp2_with fail
 refine (begN_any (HC.out.gn G1) h0).mono ?_
 rintro e w2 ⟨rfl,g2⟩
 obtain ⟨y0,y1,y2,_,_,_⟩ := facts (kept g2 X1.out)
 have X2 := hidI (kept g2 X1.out)
 have G2 := gtn G1 g2
 clear G1 g2 x0 x1 x2 X1
 cases hn : nameB F t
 rotate_left
 · go_wp2_with fail
   refine bodyPost_ret (results_none rfl _ _ _) rfl ?_
   exact Out.ok (by rw [begP,if_neg h0,if_pos (by simp [begB,hl,hn])]) rfl (HC.out.gn G2) (gr_none G2)
 go_wp2_with fail
 refine (is_look (HC.out.gn G2) h0 _ [⟨#[110,111,116]⟩,⟨#[45]⟩,⟨#[40]⟩] _ _ _ (by simp) rfl rfl (by decide)).mono ?_
 rintro e w3 ⟨rfl,g3⟩
 obtain ⟨x0,x1,x2,_,_,_⟩ := facts (kept g3 (old X2.out _))
 have x0d : ∀ i,w3.drew.cell? ⟨w.heap.size,i,none⟩ = #[pR R][i]? := x0
 have G3 := gtn (gr_alloc G2 _) g3
 have C3 := hidI (HC.out.gn G3)
 obtain ⟨z0,z1,z2,z3,z4,z5,z6,z7⟩ := C3.out.drew.rd.cells
 clear G2 g3 y0 y1 y2 X2
 cases hm : mem [⟨#[110,111,116]⟩,⟨#[45]⟩,⟨#[40]⟩] t
 rotate_left
 · go_wp2_with fail
   refine bodyPost_ret (results_none rfl _ _ _) rfl ?_
   exact Out.ok (by rw [begP,if_neg h0,if_pos (by simp [begB,hl,hn,hm])]) rfl C3.out (gr_none G3)
 go_wp2_with fail
 go_region_dies
 all_goals (refine (giveUp_any R s t u _ _ _ C3.out.drew.rd).mono ?_; rintro e w2 ⟨rfl,rfl⟩; exact ⟨rfl,Out.bad (by rw [begP,if_neg h0,if_neg (by simp [begB,hl,hn,hm])]) (gr_none (gr_drew G3))⟩)
end
end Go.Proofs.YtdcoidmbainkmaaGreatDoor
