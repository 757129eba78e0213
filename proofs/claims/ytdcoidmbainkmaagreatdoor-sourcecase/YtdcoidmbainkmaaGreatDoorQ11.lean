/- Texts put together: Rd, Re. -/
import Derived.Test.YtdcoidmbainkmaaGreatDoorQ10
import Derived.Test.YtdcoidmbainkmaaGreatDoorQ08
namespace Go.Proofs.YtdcoidmbainkmaaGreatDoor
open Go.RowKit
attribute [local go_sem ↓] Go.wp_at_zero Go.wp_at_succ
set_option linter.unusedVariables false
set_option linter.unusedSimpArgs false
def AgP (w : World) : World → Value → PArg → Prop := fun w' v a => ∃ x c,v = .agg (aC a (.slice x a.e.kids.length c)).toArray ∧ Xs w' (nw w) (.slice x a.e.kids.length c) a.e.kids
section
variable {V : World} {F : Int → Tok} {R : Nat} {s : ByteArray} {u : Int}
set_option maxRecDepth 10000 in
theorem clo_any (d : Nat) (hd : d ≤ 40) (qa qd : Nat) (dp : Int) (hdp : dp = 41 - d) (w : World) (t : Tok) (C : Cx V F R s u w t) (hA : w.heap[qa]? = some (.cells #[pR R] 46)) (hD : w.heap[qd]? = some (.cells #[.int .i64 dp] 3)) :
 Calls Tryz.prog 186 #[.pointer (some ⟨qa,0,none⟩),.pointer (some ⟨qd,0,none⟩)] w (Out V F R s u w (exP F (s.size + 2) d t) (XeP w)) := by
 have HE : Hid (ExC V F R s u d) := expr_any d hd
 have HD : Hid (dp = 41 - (d : Int)) := hdp
 obtain ⟨xa,xb,xc,_,_,_⟩ := facts hA
 obtain ⟨ya,yb,yc,_,_,_⟩ := facts hD
 clear hdp hA hD
 have HC : Hid (Cx V F R s u w t) := C
 have C0 := HC
 have G0 : Hid (w.grownBy w (some R)) := World.grownBy.refl _ _
 have HR : Hid (R < w.heap.size ∧ 15 ≤ w.heap.size ∧ 15 ≤ R) := ⟨C.lt,C.sz,C.r15⟩
 clear C
 go_enter Tryz.func186,Tryz.ntmps186
 go_wp2_with fail
 refine (HE.out _ _ dp HD.out (C0.out.al _)).mono ?_
 intro e w1 h
 rcases h.get with ⟨e1,t1,v1,r1,rfl,hv,CC,g⟩ | ⟨cc,aa,r1,rfl,g⟩
 rotate_left
 · exact ⟨rfl,Out.bad (by (first | (rw [r1]; done) | (rw [r1]; rfl) | exact r1)) (gtr (gr_alloc G0.out _) g)⟩
 rcases e1 with ⟨f1,o1,kd1,n1,nm1,pt1,a1,ks1⟩
 obtain ⟨kx1,kc1,rfl,hx⟩ := Xe_sl hv
 have X1 := hidI (hx.tag (w.heap.size + 1) (by simp))
 clear hx hv
 have B1 : Hid (w1.heap[w.heap.size]? = some (.cells #[.int .i64 0,.int .i64 0,.int .i64 0,.int .i64 0,.string ⟨#[]⟩,.string ⟨#[]⟩,.int .i64 0,.slice none 0 0] 61)) := keptBut g (hp_new (by first | rfl | simp) _) (by have := HR.out; omega)
 have G1 := hidI (gtr (gr_alloc G0.out _) g)
 have C1 := hidI CC
 have S1 : Hid (w.heap.size + 1 ≤ w1.heap.size) := hidI (by have := g.size; first | omega | (simp at this; omega) | (simp at this ⊢; omega))
 have Z1 := hidI (And.intro HR.out S1.out)
 clear g CC h
 obtain ⟨bp,bq,br,bf,bg,bh⟩ := facts B1.out
 go_wp2_with fail
 have hP : exP F (s.size + 2) d t = .ok (.mk f1 o1 kd1 n1 nm1 pt1 a1 ks1) (t1) := r1
 refine bodyPost_ret (resBox rfl _ _ (w.heap.size) _ rfl (ld61 (box8 B1.out))) rfl (Out.ok hP ?_ ?_ ?_)
 · exact Xe_mk.2 ⟨_,rfl,X1.out.fin (gr8 (World.grownBy.refl _ _)) (by have := Z1.out; omega) (by have := Z1.out; omega)⟩
 · exact C1.out.gq (gr8 (World.grownBy.refl _ _)) (by have := Z1.out; omega) (by have := Z1.out; omega)
 · exact gr8o G1.out (by have := Z1.out; omega)
set_option maxRecDepth 10000 in
set_option maxHeartbeats 4000000 in
theorem arg_any (w : World) (t : Tok) (C : Cx V F R s u w t) (m : Nat) (hm : m ≤ 16) (ex : Tok → Res PE) (f : FuncId) (caps : Array Value) (hf : ∀ (args : Array Value) (W : World),(callFunc f args).run Tryz.prog W = .ok (.enter f args) W)
 (hE : ∀ (W : World) (t : Tok),w.grownBy W (some R) → Cx V F R s u W t → Calls Tryz.prog f caps W (Out V F R s u W (ex t) (XeP W))) :
 Calls Tryz.prog 187 #[pR R,.int .i64 (m : Int),.func (.func f) #[] caps] w (Out V F R s u w (argP F m ex t) (AgP w)) := by
 have HE : Hid (∀ (W : World) (t : Tok),w.grownBy W (some R) → Cx V F R s u W t → Calls Tryz.prog f caps W (Out V F R s u W (ex t) (XeP W))) := hE
 clear hE
 have HC : Hid (Cx V F R s u w t) := C
 have C0 := HC
 have G0 : Hid (w.grownBy w (some R)) := World.grownBy.refl _ _
 have HR : Hid (R < w.heap.size ∧ 15 ≤ w.heap.size ∧ 15 ≤ R) := ⟨C.lt,C.sz,C.r15⟩
 clear C
 go_enter Tryz.func187,Tryz.ntmps187
 go_wp2_with fail
 refine (needC_any (C0.out.al _) 2).mono ?_
 intro e w1 h
 rcases h.get with ⟨k,t1,v1,r1,rfl,rfl,CC,g⟩ | ⟨cc,aa,r1,rfl,g⟩
 rotate_left
 · exact ⟨rfl,Out.bad (by rw [argP]; (first | (rw [r1]; done) | (rw [r1]; rfl) | exact r1)) (gtr (gr_alloc G0.out _) g)⟩
 have B1 : Hid (w1.heap[w.heap.size]? = some (.cells #[.string ⟨#[]⟩,.bool false,.string ⟨#[]⟩,.int .i64 0,.int .i64 0,.int .i64 0,.int .i64 0,.string ⟨#[]⟩,.string ⟨#[]⟩,.int .i64 0,.slice none 0 0,.int .i64 0] 97)) := keptBut g (hp_new (by first | rfl | simp) _) (by have := HR.out; omega)
 have G1 := hidI (gtr (gr_alloc G0.out _) g)
 have C1 := hidI CC
 have S1 : Hid (w.heap.size + 1 ≤ w1.heap.size) := hidI (by have := g.size; first | omega | (simp at this; omega) | (simp at this ⊢; omega))
 clear g CC h
 obtain ⟨bp,bq,br,bf,bg,bh⟩ := facts B1.out
 by_cases h16 : m = 16
 · subst h16
   go_wp2_with fail
   refine (giveUp_any R s t1 u _ _ _ (C1.out.al _).rd).mono ?_
   rintro e w3 ⟨rfl,rfl⟩
   exact ⟨rfl,Out.bad (by rw [argP]; (first | rw [r1] | exact r1); try rw [bindOk]; rw [if_pos rfl]) (gr_alloc G1.out _)⟩
 have h16' : ((m : Int) == 16) = false := by rw [Bool.eq_false_iff]; intro h; simp at h; omega
 go_wp2_with fail
 refine (needW ((C1.out.al _).al _) _ [⟨#[58,61]⟩,⟨#[61,62]⟩] _ _ _ (by simp) rfl rfl (by decide)).mono ?_
 intro e w2 h
 rcases h.get with ⟨kk,t2,v2,r2,rfl,rfl,CC,g⟩ | ⟨cc,aa,r2,rfl,g⟩
 rotate_left
 · exact ⟨rfl,Out.bad (by rw [argP]; (first | rw [r1] | exact r1); try rw [bindOk]; rw [if_neg h16]; (first | (rw [r2]; done) | (rw [r2]; rfl) | exact r2)) (gtr (gr_alloc (gr_alloc (gr_alloc G1.out _) _) _) g)⟩
 have B2 : Hid (w2.heap[w.heap.size]? = some (.cells #[.string ⟨#[]⟩,.bool false,.string ⟨#[]⟩,.int .i64 0,.int .i64 0,.int .i64 0,.int .i64 0,.string ⟨#[]⟩,.string ⟨#[]⟩,.int .i64 0,.slice none 0 0,.int .i64 0] 97)) := keptBut g (old (old (old B1.out _) _) _) (by have := HR.out; have := S1.out; omega)
 have T2 : Hid (w2.heap[w1.heap.size]? = some (.cells #[.int .i64 k.c,.string k.x,.int .i64 k.n,.int .i64 k.a,.int .i64 k.e,.int .i64 k.f] 73)) := keptBut g (old (old (hp_new (by first | rfl | simp) _) _) _) (by have := HR.out; have := S1.out; omega)
 have E2 : Hid (w2.heap[w1.heap.size + 1]? = some (.cells #[.string k.x,.bool false,.string ⟨#[]⟩,.int .i64 0,.int .i64 0,.int .i64 0,.int .i64 0,.string ⟨#[]⟩,.string ⟨#[]⟩,.int .i64 0,.slice none 0 0,.int .i64 k.a] 97)) := keptBut g (old (hp_new (by first | rfl | simp) _) _) (by have := HR.out; have := S1.out; omega)
 have G2 := hidI (gtr (gr_alloc (gr_alloc (gr_alloc G1.out _) _) _) g)
 have C2 := hidI CC
 have S2 : Hid (w1.heap.size + 3 ≤ w2.heap.size) := hidI (by have := g.size; first | omega | (simp at this; omega) | (simp at this ⊢; omega))
 have Z2 := hidI (And.intro HR.out (And.intro S1.out S2.out))
 clear g CC h bp bq br bf bg bh
 obtain ⟨bp,bq,br,bf,bg,bh⟩ := facts B2.out
 obtain ⟨ep,eq,er,ef,eg,eh⟩ := facts E2.out
 have nBE : w.heap.size ≠ w1.heap.size + 1 := by have := Z2.out; omega
 have nEB : w1.heap.size + 1 ≠ w.heap.size := by have := Z2.out; omega
 have hX := fldX kk
 by_cases hp : kk.x = ⟨#[61,62]⟩
 · have hp' : (kk.x.toList == [61,62]) = true := by rw [eqS]; simpa using hp
   have HP := hidI hp
   clear hp
   go_wp2_with fail
   refine (name_any (C2.out.set (by have := Z2.out; omega) (by have := Z2.out; omega) _ _)).mono ?_
   intro e w3 h
   rcases h.get with ⟨mm,t3,v3,r3,rfl,rfl,CC,g⟩ | ⟨cc,aa,r3,rfl,g⟩
   rotate_left
   · exact ⟨rfl,Out.bad (by rw [argP]; (first | rw [r1] | exact r1); try rw [bindOk]; rw [if_neg h16]; (first | rw [r2] | exact r2); try rw [bindOk]; rw [if_pos HP.out]; (first | (rw [r3]; done) | (rw [r3]; rfl) | exact r3)) (gtr (gr_ow2 G2.out (by have := Z2.out; omega) _ _) g)⟩
   have B3 : Hid (w3.heap[w.heap.size]? = some (.cells #[.string ⟨#[]⟩,.bool false,.string ⟨#[]⟩,.int .i64 0,.int .i64 0,.int .i64 0,.int .i64 0,.string ⟨#[]⟩,.string ⟨#[]⟩,.int .i64 0,.slice none 0 0,.int .i64 0] 97)) := keptBut g (keepS B2.out (by have := Z2.out; omega)) (by have := Z2.out; omega)
   have T3 : Hid (w3.heap[w1.heap.size]? = some (.cells #[.int .i64 k.c,.string k.x,.int .i64 k.n,.int .i64 k.a,.int .i64 k.e,.int .i64 k.f] 73)) := keptBut g (keepS T2.out (by have := Z2.out; omega)) (by have := Z2.out; omega)
   have E3 : Hid (w3.heap[w1.heap.size + 1]? = some (.cells #[.string k.x,.bool true,.string ⟨#[]⟩,.int .i64 0,.int .i64 0,.int .i64 0,.int .i64 0,.string ⟨#[]⟩,.string ⟨#[]⟩,.int .i64 0,.slice none 0 0,.int .i64 k.a] 97)) := keptBut g (by simpa using (at_set E2.out 1 (.bool true))) (by have := Z2.out; omega)
   have G3 := hidI (gtr (gr_ow2 G2.out (by have := Z2.out; omega) _ _) g)
   have C3 := hidI CC
   have S3 : Hid (w2.heap.size + 0 ≤ w3.heap.size) := hidI (by have := g.size; first | omega | (simp at this; omega) | (simp at this ⊢; omega))
   have Z3 := hidI (And.intro HR.out (And.intro S1.out (And.intro S2.out S3.out)))
   clear g CC h bp bq br bf bg bh ep eq er ef eg eh
   obtain ⟨bp,bq,br,bf,bg,bh⟩ := facts B3.out
   obtain ⟨ep,eq,er,ef,eg,eh⟩ := facts E3.out
   go_wp2_with fail
   have hP : argP F m ex t = .ok (⟨k.x,true,mm.x,pe0,k.a⟩) (t3) := by rw [argP]; (first | rw [r1] | exact r1); try rw [bindOk]; rw [if_neg h16]; (first | rw [r2] | exact r2); try rw [bindOk]; rw [if_pos HP.out]; (first | rw [r3] | exact r3); try rw [bindOk]
   refine bodyPost_ret (resBox rfl _ _ (w.heap.size) _ rfl (ld97 (box12 (keepS B3.out (by have := Z3.out; omega))))) rfl (Out.ok hP ?_ ?_ ?_)
   · exact ⟨_,_,rfl,Xs.nil _ _⟩
   · exact (C3.out.set (by have := Z3.out; omega) (by have := Z3.out; omega) _ _).gq (gr12 (World.grownBy.refl _ _)) (by have := Z3.out; omega) (by have := Z3.out; omega)
   · exact gr12o (gr_ow2 G3.out (by have := Z3.out; omega) _ _) (by have := Z3.out; omega)
 have hp' : (kk.x.toList == [61,62]) = false := by rw [eqS]; simpa using hp
 go_wp2_with fail
 refine (HE.out _ _ G2.out C2.out).mono ?_
 intro e w3 h
 rcases h.get with ⟨e1,t3,v3,r3,rfl,hv,CC,g⟩ | ⟨cc,aa,r3,rfl,g⟩
 rotate_left
 · exact ⟨rfl,Out.bad (by rw [argP]; (first | rw [r1] | exact r1); try rw [bindOk]; rw [if_neg h16]; (first | rw [r2] | exact r2); try rw [bindOk]; rw [if_neg hp]; (first | (rw [r3]; done) | (rw [r3]; rfl) | exact r3)) (gtr G2.out g)⟩
 rcases e1 with ⟨f1,o1,kd1,n1,nm1,pt1,a1,ks1⟩
 obtain ⟨kx1,kc1,rfl,hx⟩ := Xe_sl hv
 have X3 := hidI (hx.tag (w2.heap.size + 0) (by simp))
 clear hx hv
 have B3 : Hid (w3.heap[w.heap.size]? = some (.cells #[.string ⟨#[]⟩,.bool false,.string ⟨#[]⟩,.int .i64 0,.int .i64 0,.int .i64 0,.int .i64 0,.string ⟨#[]⟩,.string ⟨#[]⟩,.int .i64 0,.slice none 0 0,.int .i64 0] 97)) := keptBut g B2.out (by have := Z2.out; omega)
 have T3 : Hid (w3.heap[w1.heap.size]? = some (.cells #[.int .i64 k.c,.string k.x,.int .i64 k.n,.int .i64 k.a,.int .i64 k.e,.int .i64 k.f] 73)) := keptBut g T2.out (by have := Z2.out; omega)
 have E3 : Hid (w3.heap[w1.heap.size + 1]? = some (.cells #[.string k.x,.bool false,.string ⟨#[]⟩,.int .i64 0,.int .i64 0,.int .i64 0,.int .i64 0,.string ⟨#[]⟩,.string ⟨#[]⟩,.int .i64 0,.slice none 0 0,.int .i64 k.a] 97)) := keptBut g E2.out (by have := Z2.out; omega)
 have G3 := hidI (gtr G2.out g)
 have C3 := hidI CC
 have S3 : Hid (w2.heap.size + 0 ≤ w3.heap.size) := hidI (by have := g.size; first | omega | (simp at this; omega) | (simp at this ⊢; omega))
 have Z4 := hidI (And.intro HR.out (And.intro S1.out (And.intro S2.out S3.out)))
 clear g CC h bp bq br bf bg bh ep eq er ef eg eh
 obtain ⟨bp,bq,br,bf,bg,bh⟩ := facts B3.out
 obtain ⟨ep,eq,er,ef,eg,eh⟩ := facts E3.out
 go_wp2_with fail
 have hP : argP F m ex t = .ok (⟨k.x,false,nob,.mk f1 o1 kd1 n1 nm1 pt1 a1 ks1,k.a⟩) (t3) := by rw [argP]; (first | rw [r1] | exact r1); try rw [bindOk]; rw [if_neg h16]; (first | rw [r2] | exact r2); try rw [bindOk]; rw [if_neg hp]; (first | rw [r3] | exact r3); try rw [bindOk]
 refine bodyPost_ret (resBox rfl _ _ (w.heap.size) _ rfl (ld97 (box12 (keepS (keepS (keepS (keepS (keepS (keepS (keepS (keepS B3.out (by have := Z4.out; omega)) (by have := Z4.out; omega)) (by have := Z4.out; omega)) (by have := Z4.out; omega)) (by have := Z4.out; omega)) (by have := Z4.out; omega)) (by have := Z4.out; omega)) (by have := Z4.out; omega))))) rfl (Out.ok hP ?_ ?_ ?_)
 · exact ⟨_,_,rfl,Xs.fin (Xs.st (Xs.st (Xs.st (Xs.st (Xs.st (Xs.st (Xs.st (Xs.st X3.out (by have := Z4.out; omega)) (by have := Z4.out; omega)) (by have := Z4.out; omega)) (by have := Z4.out; omega)) (by have := Z4.out; omega)) (by have := Z4.out; omega)) (by have := Z4.out; omega)) (by have := Z4.out; omega)) (gr12 (World.grownBy.refl _ _)) (by have := Z4.out; omega) (by have := Z4.out; omega)⟩
 · exact ((((((((C3.out.set (by have := Z4.out; omega) (by have := Z4.out; omega) _ _).set (by have := Z4.out; omega) (by have := Z4.out; omega) _ _).set (by have := Z4.out; omega) (by have := Z4.out; omega) _ _).set (by have := Z4.out; omega) (by have := Z4.out; omega) _ _).set (by have := Z4.out; omega) (by have := Z4.out; omega) _ _).set (by have := Z4.out; omega) (by have := Z4.out; omega) _ _).set (by have := Z4.out; omega) (by have := Z4.out; omega) _ _).set (by have := Z4.out; omega) (by have := Z4.out; omega) _ _).gq (gr12 (World.grownBy.refl _ _)) (by have := Z4.out; omega) (by have := Z4.out; omega)
 · exact gr12o (gr_ow2 (gr_ow2 (gr_ow2 (gr_ow2 (gr_ow2 (gr_ow2 (gr_ow2 (gr_ow2 G3.out (by have := Z4.out; omega) _ _) (by have := Z4.out; omega) _ _) (by have := Z4.out; omega) _ _) (by have := Z4.out; omega) _ _) (by have := Z4.out; omega) _ _) (by have := Z4.out; omega) _ _) (by have := Z4.out; omega) _ _) (by have := Z4.out; omega) _ _) (by have := Z4.out; omega)
end
end Go.Proofs.YtdcoidmbainkmaaGreatDoor

namespace Go.Proofs.YtdcoidmbainkmaaGreatDoor
open Go.RowKit
attribute [local go_sem ↓] Go.wp_at_zero Go.wp_at_succ
set_option linter.unusedVariables false
set_option linter.unusedSimpArgs false
theorem arg_ne {F : Int → Tok} {m : Nat} {ex : Tok → Res PE} {t t' : Tok} {a : PArg} (h : argP F m ex t = .ok a t') : m ≠ 16 := by
 rintro rfl
 rw [argP] at h
 obtain ⟨k,v,h1,h2⟩ := bind_ok h
 rw [if_pos rfl] at h2
 cases h2
theorem Ag_sl {w w' : World} {v : Value} {an : ByteArray} {ao : Bool} {at1 : ByteArray} {f o kd n : Int} {nm pt : ByteArray} {a : Int} {ks : List PE} {aa : Int} (h : AgP w w' v ⟨an,ao,at1,.mk f o kd n nm pt a ks,aa⟩) :
 ∃ x c,v = .agg #[.string an,.bool ao,.string at1,.int .i64 f,.int .i64 o,.int .i64 kd,.int .i64 n,.string nm,.string pt,.int .i64 a,.slice x ks.length c,.int .i64 aa] ∧ Xs w' (nw w) (.slice x ks.length c) ks := h
theorem makeF (fn : Fn) (first cap : Array Value) (w : World) : (Instr.makeFunc fn first cap).run Tryz.prog w = .ok (.func fn first cap) w := rfl
theorem enters186 (args : Array Value) (W : World) : (callFunc 186 args).run Tryz.prog W = .ok (.enter 186 args) W := enters_of Tryz.func186 (by kernel_rfl) rfl args W
section
variable {V : World} {F : Int → Tok} {R : Nat} {s : ByteArray} {u : Int}
def ArL (V : World) (F : Int → Tok) (R : Nat) (s : ByteArray) (u : Int) (w : World) (dp : Int) (ex : Tok → Res PE) (r0 : Res (List PArg)) (gk : Nat) (s5 s7 : Value) (wx : World) : Prop :=
 ∃ (l : List PArg) (a : Option Addr) (c : Nat) (tk : Tok) (m : Bool),s5 = .slice a l.length c ∧ s7 = .bool m ∧ Cx V F R s u wx tk ∧ w.grownBy wx (some R) ∧ wx.heap[w.heap.size]? = some (.cells #[pR R] 46) ∧ wx.heap[w.heap.size + 1]? = some (.cells #[.int .i64 dp] 3) ∧
  Gl kdA 97 12 wx (w.heap.size + 2) (.slice a l.length c) l ∧ w.heap.size + 2 ≤ wx.heap.size ∧ l.length ≤ 16 ∧ (m = true → gk = s.size + 3 - l.length ∧ (l.length : Int) ≤ tk.a ∧ argL F ex (s.size + 2 - l.length) l tk = r0) ∧ (m = false → gk = 0 ∧ r0 = .ok l tk)
set_option maxRecDepth 10000 in
set_option maxHeartbeats 4000000 in
theorem args_any (d : Nat) (hd : d ≤ 40) (w : World) (t : Tok) (dp : Int) (hdp : dp = 41 - d) (C : Cx V F R s u w t) : Calls Tryz.prog 154 #[rV R,.int .i64 dp] w (Out V F R s u w (argsP F (s.size + 2) (exP F (s.size + 2) d) t) (fun w' v l => Li kdA 97 w' (nw w) v l)) := by
 have HD : Hid (dp = 41 - (d : Int)) := hdp
 have hadv : Adv s.size 1 (exP F (s.size + 2) d) := ex_adv C.G _ _
 have HAdv := hidI hadv
 have hmf := makeF
 clear hdp hadv
 have HC : Hid (Cx V F R s u w t) := C
 have C0 := HC
 have G0 : Hid (w.grownBy w (some R)) := World.grownBy.refl _ _
 have HR : Hid (R < w.heap.size ∧ 15 ≤ w.heap.size ∧ 15 ≤ R) := ⟨C.lt,C.sz,C.r15⟩
 clear C
 go_enter Tryz.func154,Tryz.ntmps154
 obtain ⟨ex,hex⟩ : ∃ p,exP F (s.size + 2) d = p := ⟨_,rfl⟩
 have HX : Hid (exP F (s.size + 2) d = ex) := hex
 rw [hex]
 rw [hex] at HAdv
 clear hex
 go_wp2_with fail
 refine (tookW ((C0.out.al _).al _) _ [⟨#[41]⟩] _ _ _ (by simp) rfl rfl (by decide)).mono ?_
 intro e w1 h
 rcases h.get with ⟨b1,t1,v1,r1,rfl,rfl,CC,g⟩ | ⟨cc,aa,r1,rfl,g⟩
 rotate_left
 · exact ⟨rfl,Out.bad (by rw [argsP]; (first | (rw [r1]; done) | (rw [r1]; rfl) | exact r1)) (gtr (gr_alloc (gr_alloc (gr_alloc G0.out _) _) _) g)⟩
 have A1 : Hid (w1.heap[w.heap.size]? = some (.cells #[pR R] 46)) := keptBut g (old (old (hp_new (by first | rfl | simp) _) _) _) (by have := HR.out; omega)
 have D1 : Hid (w1.heap[w.heap.size + 1]? = some (.cells #[.int .i64 dp] 3)) := keptBut g (old (hp_new (by first | rfl | simp) _) _) (by have := HR.out; omega)
 have G1 := hidI (gtr (gr_alloc (gr_alloc (gr_alloc G0.out _) _) _) g)
 have C1 := hidI CC
 have S1 : Hid (w.heap.size + 3 ≤ w1.heap.size) := hidI (by have := g.size; first | omega | (simp at this; omega) | (simp at this ⊢; omega))
 clear g CC h
 cases b1
 rotate_left
 · go_wp2_with fail
   go_ret
   exact Out.ok (by rw [argsP]; (first | rw [r1] | exact r1); try rw [bindOk]; rw [if_pos rfl]) (Li.nil _ _) C1.out G1.out
 have HT : Hid (argsP F (s.size + 2) ex t = argL F ex (s.size + 2) [] t1) := (by rw [argsP]; (first | rw [r1] | exact r1); try rw [bindOk]; rw [if_neg (by simp)] : argsP F (s.size + 2) ex t = argL F ex (s.size + 2) [] t1)
 have LS : Hid (ArL V F R s u w dp ex (argsP F (s.size + 2) ex t) (s.size + 3) (.slice none 0 0) (.bool true) w1) :=
  ⟨[],none,0,t1,true,rfl,rfl,C1.out,G1.out,A1.out,D1.out,Gl.nil _ _,by have := HR.out; have := S1.out; omega,by simp,fun _ => ⟨rfl,by have := C1.out.ok.1; simpa using this,HT.out.symm⟩,(fun h => by cases h)⟩
 go_wp2_with fail
 go_loopg [5,7] (s.size + 3) (fun gk s5 s7 wx => ArL V F R s u w dp ex (argsP F (s.size + 2) ex t) gk s5 s7 wx)
 case atStart => exact LS.out
 case round =>
  obtain ⟨l,a,c,tk,m,rfl,rfl,CC,gg,hA,hD,hX,hq,hl,hm1,hm2⟩ := hrel
  cases m with
  | false =>
   obtain ⟨_,hr⟩ := hm2 rfl
   have HH := hidI (And.intro CC (And.intro gg (And.intro hX (And.intro hr hl))))
   clear CC gg hA hD hX hq hm1 hm2 hr hl
   go_wp2_with fail
   go_ret
   obtain ⟨CC,gg,hX,hr,hl⟩ := HH.out
   exact Out.ok hr ((hX.li (by omega)).imp (fun b _ (hb : w.heap.size + 2 ≤ b) => (by omega : w.heap.size ≤ b))) CC gg
  | true =>
   obtain ⟨hgk,hk,hr⟩ := hm1 rfl
   have C2 := hidI CC
   have G2 := hidI gg
   have A2 := hidI hA
   have D2 := hidI hD
   have L2 := hidI hX
   have S2 := hidI hq
   have Z1 := hidI (And.intro HR.out (And.intro S1.out S2.out))
   have HRr := hidI hr
   have HG := hidI hgk
   have HK := hidI hk
   have H16 := hidI hl
   have hf : s.size + 2 - l.length = (s.size + 1 - l.length) + 1 := by have := CC.ok.2.1; omega
   have HF := hidI hf
   clear CC gg hA hD hX hq hr hgk hk hf hm1 hm2 hl
   obtain ⟨ap,aq,ar,af,ag,ah⟩ := facts A2.out
   have cAr := hidI (arg_any wr tk C2.out l.length H16.out ex 186 #[.pointer (some ⟨w.heap.size,0,none⟩),.pointer (some ⟨w.heap.size + 1,0,none⟩)] enters186 (fun W t3 hg C3 => by rw [← HX.out]; exact clo_any d hd _ _ dp HD.out W t3 C3 (keptBut hg A2.out (by have := Z1.out; omega)) (keptBut hg D2.out (by have := Z1.out; omega))))
   go_wp2_with fail
   refine (cAr.out).mono ?_
   intro e w3 h
   rcases h.get with ⟨ag,t3,v3,r3,rfl,hv,CC,g⟩ | ⟨cc,aa,r3,rfl,g⟩
   rotate_left
   · exact ⟨rfl,Out.bad (by rw [← HRr.out,HF.out,argL]; (first | (rw [r3]; done) | (rw [r3]; rfl) | exact r3)) (gtr G2.out g)⟩
   have L3 := hidI (L2.out.g g (by have := Z1.out; omega))
   have T3 : Hid (tk.a + 1 ≤ t3.a) := (arg_adv C2.out.G _ HAdv.out _ _ _ C2.out.ok r3).2
   have N3 : Hid (l.length ≠ 16) := arg_ne r3
   rcases ag with ⟨an,ao,at1,⟨f1,o1,kd1,n1,nm1,pt1,a1,ks1⟩,aa1⟩
   obtain ⟨kx1,kc1,rfl,hx⟩ := Ag_sl hv
   have X3 := hidI (hx.tag wr.heap.size (by simp))
   clear hx hv
   have A3 : Hid (w3.heap[w.heap.size]? = some (.cells #[pR R] 46)) := keptBut g A2.out (by have := Z1.out; omega)
   have D3 : Hid (w3.heap[w.heap.size + 1]? = some (.cells #[.int .i64 dp] 3)) := keptBut g D2.out (by have := Z1.out; omega)
   have G3 := hidI (gtr G2.out g)
   have C3 := hidI CC
   have S3 : Hid (wr.heap.size + 0 ≤ w3.heap.size) := hidI (by have := g.size; first | omega | (simp at this; omega) | (simp at this ⊢; omega))
   clear g CC h ap aq ar af ag ah
   obtain ⟨a2,c2,w4,hrun,L4,g4⟩ := L3.out.add el91 (e := ⟨an,ao,at1,.mk f1 o1 kd1 n1 nm1 pt1 a1 ks1,aa1⟩) (k := .slice kx1 ks1.length kc1) X3.out rfl (by intro y hy; simp [kdA,aC,xC] at hy; rcases hy with rfl | rfl | rfl | rfl | rfl | rfl | rfl | rfl | rfl | rfl | rfl | rfl <;> rfl) (by have := HR.out; have := S1.out; have := S2.out; have := S3.out; omega) (fun g hg => (L2.out.lt g hg).2) (by have := H16.out; omega) (by have := HR.out; have := S1.out; have := S2.out; have := S3.out; omega)
   have ho := L3.out.lt
   have HRUN : Hid ((Builtin.append_ #[91,91] 91 #[.slice a l.length c,.slice (some ⟨w3.heap.size,0,none⟩) 1 1]).run Tryz.prog (w3.alloc (.cells #[.string an,.bool ao,.string at1,.int .i64 f1,.int .i64 o1,.int .i64 kd1,.int .i64 n1,.string nm1,.string pt1,.int .i64 a1,.slice kx1 ks1.length kc1,.int .i64 aa1] 97)) = .ok (.slice a2 (l.length + 1) c2) w4) := hrun
   have C4 := hidI ((C3.out.al _).ga g4 (fun q hq => by have := ho q hq; have := HR.out; constructor <;> omega))
   have G4 := hidI (grown_join (gr_alloc G3.out _) g4 (Or.inr (fun q hq => by have := ho q hq; omega)))
   have A4 := hidI (keptRow g4 (old A3.out _) (fun e => by have := ho _ e; omega))
   have D4 := hidI (keptRow g4 (old D3.out _) (fun e => by have := ho _ e; omega))
   have S4 : Hid (w3.heap.size + 1 ≤ w4.heap.size) := by have := g4.size; simp at this; exact this
   have Z2 := hidI (And.intro HR.out (And.intro S1.out (And.intro S2.out (And.intro S3.out S4.out))))
   have LL := hidI L4
   clear hrun L4 g4 ho
   obtain ⟨ap,aq,ar,af,ag,ah⟩ := facts A4.out
   go_wp2_with (first | (at_builtin; refine wpList_append_run rfl _ _ 91 rfl _ _ _ _ rfl rfl HRUN.out ?_))
   refine (needW C4.out _ [⟨#[44]⟩,⟨#[41]⟩] _ _ _ (by simp) rfl rfl (by decide)).mono ?_
   intro e w5 h
   rcases h.get with ⟨k,t5,v5,r5,rfl,rfl,CC,g⟩ | ⟨cc,aa,r5,rfl,g⟩
   rotate_left
   · exact ⟨rfl,Out.bad (by rw [← HRr.out,HF.out,argL]; (first | rw [r3] | exact r3); try rw [bindOk]; (first | (rw [r5]; done) | (rw [r5]; rfl) | exact r5)) (gtr (gr_alloc G4.out _) g)⟩
   have L5 := hidI ((LL.out.gn (gr1 _ _)).g g (by have := Z2.out; omega))
   have A5 : Hid (w5.heap[w.heap.size]? = some (.cells #[pR R] 46)) := keptBut g (old A4.out _) (by have := Z2.out; omega)
   have D5 : Hid (w5.heap[w.heap.size + 1]? = some (.cells #[.int .i64 dp] 3)) := keptBut g (old D4.out _) (by have := Z2.out; omega)
   have G5 := hidI (gtr (gr_alloc G4.out _) g)
   have C5 := hidI CC
   have S5 : Hid (w4.heap.size + 1 ≤ w5.heap.size) := hidI (by have := g.size; first | omega | (simp at this; omega) | (simp at this ⊢; omega))
   have Z3 := hidI (And.intro HR.out (And.intro S1.out (And.intro S2.out (And.intro S3.out (And.intro S4.out S5.out)))))
   clear g CC h ap aq ar af ag ah
   have T5 : Hid (t3.a + 1 ≤ t5.a) := (need_adv C3.out.G _ _ _ _ C3.out.ok r5).2
   have hX := fldX k
   by_cases hk : k.x = ⟨#[44]⟩
   · have hk' : (k.x.toList == [44]) = true := by rw [eqS]; simpa using hk
     go_wp2_with fail
     have hgl := HG.out
     have h8l := H16.out
     have hkk := HK.out
     have q3 := T3.out
     have q5 := T5.out
     have qs := HF.out
     have qn := N3.out
     go_roundg (s.size + 3 - (l.length + 1))
     case measure => omega
     case rel =>
      refine ⟨l ++ [⟨an,ao,at1,.mk f1 o1 kd1 n1 nm1 pt1 a1 ks1,aa1⟩],a2,c2,t5,true,by simp,rfl,C5.out,G5.out,A5.out,D5.out,L5.out,by have := Z3.out; omega,by simp; omega,fun _ => ⟨by simp,by simp; omega,?_⟩,(fun h => by cases h)⟩
      rw [show s.size + 2 - (l ++ [(⟨an,ao,at1,.mk f1 o1 kd1 n1 nm1 pt1 a1 ks1,aa1⟩ : PArg)]).length = s.size + 1 - l.length by simp]
      symm; rw [← HRr.out,HF.out,argL]; (first | rw [r3] | exact r3); try rw [bindOk]; (first | rw [r5] | exact r5); try rw [bindOk]; rw [if_pos hk]
   · have hk' : (k.x.toList == [44]) = false := by rw [eqS]; simpa using hk
     go_wp2_with fail
     have hgl := HG.out
     have h8l := H16.out
     have hkk := HK.out
     have q3 := T3.out
     have q5 := T5.out
     have qs := HF.out
     have qn := N3.out
     go_roundg 0
     case measure => omega
     case rel =>
      refine ⟨l ++ [⟨an,ao,at1,.mk f1 o1 kd1 n1 nm1 pt1 a1 ks1,aa1⟩],a2,c2,t5,false,by simp,rfl,C5.out,G5.out,A5.out,D5.out,L5.out,by have := Z3.out; omega,by simp; omega,(fun h => by cases h),fun _ => ⟨rfl,?_⟩⟩
      rw [← HRr.out,HF.out,argL]; (first | rw [r3] | exact r3); try rw [bindOk]; (first | rw [r5] | exact r5); try rw [bindOk]; rw [if_neg hk]
end
end Go.Proofs.YtdcoidmbainkmaaGreatDoor
