/- Texts put together: Rg. -/
import Derived.Test.YtdcoidmbainkmaaGreatDoorQ12
namespace Go.Proofs.YtdcoidmbainkmaaGreatDoor
open Go.RowKit
attribute [local go_sem ↓] Go.wp_at_zero Go.wp_at_succ
set_option linter.unusedVariables false
set_option linter.unusedSimpArgs false
theorem Li.al {α Q : Type} {K : Kd α Q} {T : Nat} {w : World} {ok : Nat → Prop} {v : Value} {l : List α} (h : Li K T w ok v l) (o : Obj) : Li K T (w.alloc o) ok v l := h.kept (fun b _ hl => hp_old hl _) (by simp)
theorem Li.imp2 {α Q : Type} {K : Kd α Q} {T : Nat} {w : World} {ok ok' : Nat → Prop} {v : Value} {l : List α} (h : Li K T w ok v l) (hk : ∀ b,b < w.heap.size → ok b → ok' b) : Li K T w ok' v l := h.imp hk
theorem Xs.imp2 {w : World} {ok ok' : Nat → Prop} {v : Value} {l : List PE} (h : Xs w ok v l) (hk : ∀ b,b < w.heap.size → ok b → ok' b) : Xs w ok' v l := h.imp hk
section
variable {V : World} {F : Int → Tok} {R : Nat} {s : ByteArray} {u : Int}
def LsC (V : World) (F : Int → Tok) (R : Nat) (s : ByteArray) (u : Int) (d : Nat) : Prop := ∀ (w : World) (t : Tok) (dp : Int),dp = 41 - d → Cx V F R s u w t → Calls Tryz.prog 47 #[rV R,.int .i64 dp] w (Out V F R s u w (lisP F (s.size + 2) d t) (fun w' v l => Li kdS 94 w' (nw w) v l))
theorem enters84 (args : Array Value) (W : World) : (callFunc 84 args).run Tryz.prog W = .ok (.enter 84 args) W := enters_of Tryz.func84 (by kernel_rfl) rfl args W
theorem times_fits (w : World) (R : Nat) : Fits w R 84 #[] timB := by
 intro n W _ _ _
 by_cases h1 : 1 ≤ n
 · go_enter Tryz.func84,Tryz.ntmps84
   go_wp2
   go_ret
   exact ⟨ret_bool (by simp [timB,h1]),rfl⟩
 · have h1' : ¬ (1 : Int) ≤ n := h1
   go_enter Tryz.func84,Tryz.ntmps84
   go_wp2
   go_ret
   exact ⟨ret_bool (by simp [timB]; omega),rfl⟩
set_option maxRecDepth 10000 in
theorem times_any (w : World) (t : Tok) (C : Cx V F R s u w t) : Calls Tryz.prog 157 #[rV R] w (Out V F R s u w (timP F t) (isV (.int .i64))) := by
 have HC : Hid (Cx V F R s u w t) := C
 have C0 := HC
 have G0 : Hid (w.grownBy w (some R)) := World.grownBy.refl _ _
 have HR : Hid (R < w.heap.size ∧ 15 ≤ w.heap.size ∧ 15 ≤ R) := ⟨C.lt,C.sz,C.r15⟩
 clear C
 go_enter Tryz.func157,Tryz.ntmps157
 go_wp2_with fail
 refine (needW (C0.out.al _) _ [⟨#[109,97,120]⟩] _ _ _ (by simp) rfl rfl (by decide)).mono ?_
 intro e w1 h
 rcases h.get with ⟨_,t1,v1,r1,rfl,rfl,CC,g⟩ | ⟨cc,aa,r1,rfl,g⟩
 rotate_left
 · exact ⟨rfl,Out.bad (by rw [timP]; (first | (rw [r1]; done) | (rw [r1]; rfl) | exact r1)) (gtr (gr_alloc (gr_alloc G0.out _) _) g)⟩
 have A1 : Hid (w1.heap[w.heap.size]? = some (.cells #[pR R] 46)) := keptBut g (old (hp_new (by first | rfl | simp) _) _) (by have := HR.out; omega)
 have G1 := hidI (gtr (gr_alloc (gr_alloc G0.out _) _) g)
 have C1 := hidI CC
 have S1 : Hid (w.heap.size + 2 ≤ w1.heap.size) := hidI (by have := g.size; first | omega | (simp at this; omega) | (simp at this ⊢; omega))
 clear g CC h
 obtain ⟨ap,aq,ar,af,ag,ah⟩ := facts A1.out
 go_wp2_with fail
 refine (num_any C1.out 1 (Or.inl rfl) 84 #[] timB enters84 (times_fits _ _)).mono ?_
 intro e w2 h
 rcases h.get with ⟨n,t2,v2,r2,rfl,rfl,CC,g⟩ | ⟨cc,aa,r2,rfl,g⟩
 rotate_left
 · exact ⟨rfl,Out.bad (by rw [timP]; (first | rw [r1] | exact r1); try rw [bindOk]; (first | (rw [r2]; done) | (rw [r2]; rfl) | exact r2)) (gtr G1.out g)⟩
 have A2 : Hid (w2.heap[w.heap.size]? = some (.cells #[pR R] 46)) := keptBut g A1.out (by have := HR.out; have := S1.out; omega)
 have G2 := hidI (gtr G1.out g)
 have C2 := hidI CC
 have S2 : Hid (w1.heap.size + 0 ≤ w2.heap.size) := hidI (by have := g.size; first | omega | (simp at this; omega) | (simp at this ⊢; omega))
 clear g CC h ap aq ar af ag ah
 go_wp2_with fail
 go_ret
 exact Out.ok (by rw [timP]; (first | rw [r1] | exact r1); try rw [bindOk]; (first | rw [r2] | exact r2); try rw [bindOk]) rfl C2.out G2.out
set_option maxRecDepth 10000 in
set_option maxHeartbeats 4000000 in
theorem while_any (d : Nat) (hd : d ≤ 39) (hL : LsC V F R s u d) (w : World) (t : Tok) (dp : Int) (hdp : dp = 41 - d) (C : Cx V F R s u w t) : Calls Tryz.prog 116 #[rV R,.int .i64 dp] w (Out V F R s u w (whiP F (exP F (s.size + 2) d) (lisP F (s.size + 2) d) t) (StP w)) := by
 have HE : Hid (ExC V F R s u d) := expr_any d (by omega)
 have HL : Hid (LsC V F R s u d) := hL
 have HD : Hid (dp = 41 - (d : Int)) := hdp
 have hmf := makeF
 clear hdp hL
 have HC : Hid (Cx V F R s u w t) := C
 have C0 := HC
 have G0 : Hid (w.grownBy w (some R)) := World.grownBy.refl _ _
 have HR : Hid (R < w.heap.size ∧ 15 ≤ w.heap.size ∧ 15 ≤ R) := ⟨C.lt,C.sz,C.r15⟩
 clear C
 go_enter Tryz.func116,Tryz.ntmps116
 go_wp2_with fail
 refine (HE.out _ _ dp HD.out ((C0.out.al _).al _)).mono ?_
 intro e w1 h
 rcases h.get with ⟨e1,t1,v1,r1,rfl,hv,CC,g⟩ | ⟨cc,aa,r1,rfl,g⟩
 rotate_left
 · exact ⟨rfl,Out.bad (by rw [whiP]; (first | (rw [r1]; done) | (rw [r1]; rfl) | exact r1)) (gtr (gr_alloc (gr_alloc G0.out _) _) g)⟩
 rcases e1 with ⟨f1,o1,kd1,n1,nm1,pt1,a1,ks1⟩
 obtain ⟨kx1,kc1,rfl,hx⟩ := Xe_sl hv
 have X1 := hidI (hx.tag (w.heap.size + 2) (by simp))
 clear hx hv
 have A1 : Hid (w1.heap[w.heap.size]? = some (.cells #[pR R] 46)) := keptBut g (old (hp_new (by first | rfl | simp) _) _) (by have := HR.out; omega)
 have B1 : Hid (w1.heap[w.heap.size + 1]? = some (.cells #[.int .i64 0,.int .i64 0,.string ⟨#[]⟩,.bool false,.slice none 0 0,.slice none 0 0,.slice none 0 0,.slice none 0 0,.slice none 0 0,.int .i64 0,.int .i64 0,.int .i64 0,.int .i64 0] 94)) := keptBut g (hp_new (by first | rfl | simp) _) (by have := HR.out; omega)
 have G1 := hidI (gtr (gr_alloc (gr_alloc G0.out _) _) g)
 have C1 := hidI CC
 have S1 : Hid (w.heap.size + 2 ≤ w1.heap.size) := hidI (by have := g.size; first | omega | (simp at this; omega) | (simp at this ⊢; omega))
 have Z1 := hidI (And.intro HR.out S1.out)
 clear g CC h
 have Y1 := hidI (xs_one (W := w1) (ok := av w.heap.size (w.heap.size + 1) (w1.heap.size + 1)) (e := .mk f1 o1 kd1 n1 nm1 pt1 a1 ks1) (X1.out.imp (fun b _ hb => (by obtain ⟨h1,h2⟩ := hb; exact ⟨by have := Z1.out; omega,by have := Z1.out; omega,by have := Z1.out; omega⟩))) ⟨by have := Z1.out; omega,by have := Z1.out; omega,by have := Z1.out; omega⟩)
 obtain ⟨ap,aq,ar,af,ag,ah⟩ := facts A1.out
 obtain ⟨bp,bq,br,bf,bg,bh⟩ := facts B1.out
 go_wp2_with fail
 refine (times_any _ _ ((C1.out.al _).al _)).mono ?_
 intro e w2 h
 rcases h.get with ⟨n,t2,v2,r2,rfl,rfl,CC,g⟩ | ⟨cc,aa,r2,rfl,g⟩
 rotate_left
 · exact ⟨rfl,Out.bad (by rw [whiP]; (first | rw [r1] | exact r1); try rw [bindOk]; (first | (rw [r2]; done) | (rw [r2]; rfl) | exact r2)) (gtr (gr_alloc (gr_alloc G1.out _) _) g)⟩
 have A2 : Hid (w2.heap[w.heap.size]? = some (.cells #[pR R] 46)) := keptBut g (old (old A1.out _) _) (by have := Z1.out; omega)
 have B2 : Hid (w2.heap[w.heap.size + 1]? = some (.cells #[.int .i64 0,.int .i64 0,.string ⟨#[]⟩,.bool false,.slice none 0 0,.slice none 0 0,.slice none 0 0,.slice none 0 0,.slice none 0 0,.int .i64 0,.int .i64 0,.int .i64 0,.int .i64 0] 94)) := keptBut g (old (old B1.out _) _) (by have := Z1.out; omega)
 have P2 : Hid (w2.heap[w1.heap.size + 1]? = some (.cells #[.int .i64 6,.int .i64 0,.string ⟨#[]⟩,.bool false,.slice (some ⟨w1.heap.size,0,none⟩) 1 1,.slice none 0 0,.slice none 0 0,.slice none 0 0,.slice none 0 0,.int .i64 0,.int .i64 0,.int .i64 0,.int .i64 0] 94)) := keptBut g (hp_new (by first | rfl | simp) _) (by have := Z1.out; omega)
 have G2 := hidI (gtr (gr_alloc (gr_alloc G1.out _) _) g)
 have C2 := hidI CC
 have S2 : Hid (w1.heap.size + 2 ≤ w2.heap.size) := hidI (by have := g.size; first | omega | (simp at this; omega) | (simp at this ⊢; omega))
 have Z2 := hidI (And.intro HR.out (And.intro S1.out S2.out))
 have Y2 := hidI ((Xs.g (Xs.al Y1.out _) g (fun b hb => by obtain ⟨h1,h2,h3⟩ := hb; have := Z1.out; omega)))
 clear g CC h ap aq ar af ag ah bp bq br bf bg bh
 obtain ⟨ap,aq,ar,af,ag,ah⟩ := facts A2.out
 obtain ⟨bp,bq,br,bf,bg,bh⟩ := facts B2.out
 obtain ⟨pp,pq,pr,pf,pg,ph⟩ := facts P2.out
 have nBP : w.heap.size + 1 ≠ w1.heap.size + 1 := by have := Z2.out; omega
 have nPB : w1.heap.size + 1 ≠ w.heap.size + 1 := by have := Z2.out; omega
 have nAP : w.heap.size ≠ w1.heap.size + 1 := by have := Z2.out; omega
 have nPA : w1.heap.size + 1 ≠ w.heap.size := by have := Z2.out; omega
 have nAB : w.heap.size ≠ w.heap.size + 1 := by have := Z2.out; omega
 have nBA : w.heap.size + 1 ≠ w.heap.size := by have := Z2.out; omega
 go_wp2_with fail
 refine (needW (C2.out.set (by have := Z2.out; omega) (by have := Z2.out; omega) _ _) _ [⟨#[100,111]⟩] _ _ _ (by simp) rfl rfl (by decide)).mono ?_
 intro e w3 h
 rcases h.get with ⟨_,t3,v3,r3,rfl,rfl,CC,g⟩ | ⟨cc,aa,r3,rfl,g⟩
 rotate_left
 · exact ⟨rfl,Out.bad (by rw [whiP]; (first | rw [r1] | exact r1); try rw [bindOk]; (first | rw [r2] | exact r2); try rw [bindOk]; (first | (rw [r3]; done) | (rw [r3]; rfl) | exact r3)) (gtr (gr_alloc (gr_ow2 G2.out (by have := Z2.out; omega) _ _) _) g)⟩
 have A3 : Hid (w3.heap[w.heap.size]? = some (.cells #[pR R] 46)) := keptBut g (old (keepS A2.out (by have := Z2.out; omega)) _) (by have := Z2.out; omega)
 have B3 : Hid (w3.heap[w.heap.size + 1]? = some (.cells #[.int .i64 0,.int .i64 0,.string ⟨#[]⟩,.bool false,.slice none 0 0,.slice none 0 0,.slice none 0 0,.slice none 0 0,.slice none 0 0,.int .i64 0,.int .i64 0,.int .i64 0,.int .i64 0] 94)) := keptBut g (old (keepS B2.out (by have := Z2.out; omega)) _) (by have := Z2.out; omega)
 have P3 : Hid (w3.heap[w1.heap.size + 1]? = some (.cells #[.int .i64 6,.int .i64 0,.string ⟨#[]⟩,.bool false,.slice (some ⟨w1.heap.size,0,none⟩) 1 1,.slice none 0 0,.slice none 0 0,.slice none 0 0,.slice none 0 0,.int .i64 0,.int .i64 0,.int .i64 0,.int .i64 n] 94)) := keptBut g (by simpa using (old (at_set P2.out 12 (.int .i64 n)) _)) (by have := Z2.out; omega)
 have G3 := hidI (gtr (gr_alloc (gr_ow2 G2.out (by have := Z2.out; omega) _ _) _) g)
 have C3 := hidI CC
 have S3 : Hid (w2.heap.size + 1 ≤ w3.heap.size) := hidI (by have := g.size; first | omega | (simp at this; omega) | (simp at this ⊢; omega))
 have Z3 := hidI (And.intro HR.out (And.intro S1.out (And.intro S2.out S3.out)))
 have Y3 := hidI ((Xs.g (Xs.al (Xs.g Y2.out (gr_set (World.grownBy.refl _ _) _ _) (fun b hb => by obtain ⟨h1,h2,h3⟩ := hb; have := Z2.out; omega)) _) g (fun b hb => by obtain ⟨h1,h2,h3⟩ := hb; have := Z2.out; omega)))
 clear g CC h ap aq ar af ag ah bp bq br bf bg bh pp pq pr pf pg ph
 obtain ⟨ap,aq,ar,af,ag,ah⟩ := facts A3.out
 go_wp2_with fail
 refine (HL.out _ _ dp HD.out C3.out).mono ?_
 intro e w4 h
 rcases h.get with ⟨bd,t4,v4,r4,rfl,hv,CC,g⟩ | ⟨cc,aa,r4,rfl,g⟩
 rotate_left
 · exact ⟨rfl,Out.bad (by rw [whiP]; (first | rw [r1] | exact r1); try rw [bindOk]; (first | rw [r2] | exact r2); try rw [bindOk]; (first | rw [r3] | exact r3); try rw [bindOk]; (first | (rw [r4]; done) | (rw [r4]; rfl) | exact r4)) (gtr G3.out g)⟩
 obtain ⟨lx,lc,rfl⟩ := hv.sl
 have L4 := hidI (hv.tag (w3.heap.size + 0) (by simp))
 clear hv
 have A4 : Hid (w4.heap[w.heap.size]? = some (.cells #[pR R] 46)) := keptBut g A3.out (by have := Z3.out; omega)
 have B4 : Hid (w4.heap[w.heap.size + 1]? = some (.cells #[.int .i64 0,.int .i64 0,.string ⟨#[]⟩,.bool false,.slice none 0 0,.slice none 0 0,.slice none 0 0,.slice none 0 0,.slice none 0 0,.int .i64 0,.int .i64 0,.int .i64 0,.int .i64 0] 94)) := keptBut g B3.out (by have := Z3.out; omega)
 have P4 : Hid (w4.heap[w1.heap.size + 1]? = some (.cells #[.int .i64 6,.int .i64 0,.string ⟨#[]⟩,.bool false,.slice (some ⟨w1.heap.size,0,none⟩) 1 1,.slice none 0 0,.slice none 0 0,.slice none 0 0,.slice none 0 0,.int .i64 0,.int .i64 0,.int .i64 0,.int .i64 n] 94)) := keptBut g P3.out (by have := Z3.out; omega)
 have G4 := hidI (gtr G3.out g)
 have C4 := hidI CC
 have S4 : Hid (w3.heap.size + 0 ≤ w4.heap.size) := hidI (by have := g.size; first | omega | (simp at this; omega) | (simp at this ⊢; omega))
 have Z4 := hidI (And.intro HR.out (And.intro S1.out (And.intro S2.out (And.intro S3.out S4.out))))
 have Y4 := hidI ((Xs.g Y3.out g (fun b hb => by obtain ⟨h1,h2,h3⟩ := hb; have := Z3.out; omega)))
 clear g CC h ap aq ar af ag ah
 obtain ⟨ap,aq,ar,af,ag,ah⟩ := facts A4.out
 obtain ⟨bp,bq,br,bf,bg,bh⟩ := facts B4.out
 obtain ⟨pp,pq,pr,pf,pg,ph⟩ := facts P4.out
 go_wp2_with fail
 refine (needW (C4.out.set (by have := Z4.out; omega) (by have := Z4.out; omega) _ _) _ [⟨#[101,110,100,95,119,104,105,108,101]⟩] _ _ _ (by simp) rfl rfl (by decide)).mono ?_
 intro e w5 h
 rcases h.get with ⟨_,t5,v5,r5,rfl,rfl,CC,g⟩ | ⟨cc,aa,r5,rfl,g⟩
 rotate_left
 · exact ⟨rfl,Out.bad (by rw [whiP]; (first | rw [r1] | exact r1); try rw [bindOk]; (first | rw [r2] | exact r2); try rw [bindOk]; (first | rw [r3] | exact r3); try rw [bindOk]; (first | rw [r4] | exact r4); try rw [bindOk]; (first | (rw [r5]; done) | (rw [r5]; rfl) | exact r5)) (gtr (gr_alloc (gr_ow2 G4.out (by have := Z4.out; omega) _ _) _) g)⟩
 have A5 : Hid (w5.heap[w.heap.size]? = some (.cells #[pR R] 46)) := keptBut g (old (keepS A4.out (by have := Z4.out; omega)) _) (by have := Z4.out; omega)
 have B5 : Hid (w5.heap[w.heap.size + 1]? = some (.cells #[.int .i64 0,.int .i64 0,.string ⟨#[]⟩,.bool false,.slice none 0 0,.slice none 0 0,.slice none 0 0,.slice none 0 0,.slice none 0 0,.int .i64 0,.int .i64 0,.int .i64 0,.int .i64 0] 94)) := keptBut g (old (keepS B4.out (by have := Z4.out; omega)) _) (by have := Z4.out; omega)
 have P5 : Hid (w5.heap[w1.heap.size + 1]? = some (.cells #[.int .i64 6,.int .i64 0,.string ⟨#[]⟩,.bool false,.slice (some ⟨w1.heap.size,0,none⟩) 1 1,.slice none 0 0,.slice none 0 0,.slice none 0 0,.slice lx bd.length lc,.int .i64 0,.int .i64 0,.int .i64 0,.int .i64 n] 94)) := keptBut g (by simpa using (old (at_set P4.out 8 (.slice lx bd.length lc)) _)) (by have := Z4.out; omega)
 have G5 := hidI (gtr (gr_alloc (gr_ow2 G4.out (by have := Z4.out; omega) _ _) _) g)
 have C5 := hidI CC
 have S5 : Hid (w4.heap.size + 1 ≤ w5.heap.size) := hidI (by have := g.size; first | omega | (simp at this; omega) | (simp at this ⊢; omega))
 have Z5 := hidI (And.intro HR.out (And.intro S1.out (And.intro S2.out (And.intro S3.out (And.intro S4.out S5.out)))))
 have Y5 := hidI ((Xs.g (Xs.al (Xs.g Y4.out (gr_set (World.grownBy.refl _ _) _ _) (fun b hb => by obtain ⟨h1,h2,h3⟩ := hb; have := Z4.out; omega)) _) g (fun b hb => by obtain ⟨h1,h2,h3⟩ := hb; have := Z4.out; omega)))
 have L5 := hidI ((Li.g (Li.al (Li.g L4.out (gr_set (World.grownBy.refl _ _) _ _) (fun b hb => by obtain ⟨h1,h2⟩ := hb; have := Z4.out; omega)) _) g (fun b hb => by obtain ⟨h1,h2⟩ := hb; have := Z4.out; omega)))
 clear g CC h ap aq ar af ag ah bp bq br bf bg bh pp pq pr pf pg ph
 obtain ⟨ap,aq,ar,af,ag,ah⟩ := facts A5.out
 obtain ⟨bp,bq,br,bf,bg,bh⟩ := facts B5.out
 obtain ⟨pp,pq,pr,pf,pg,ph⟩ := facts P5.out
 go_wp2_with fail
 have hP : whiP F (exP F (s.size + 2) d) (lisP F (s.size + 2) d) t = .ok (.mk 6 0 nob false [.mk f1 o1 kd1 n1 nm1 pt1 a1 ks1] [] [] [] bd 0 0 0 n) (t5) := by rw [whiP]; (first | rw [r1] | exact r1); try rw [bindOk]; (first | rw [r2] | exact r2); try rw [bindOk]; (first | rw [r3] | exact r3); try rw [bindOk]; (first | rw [r4] | exact r4); try rw [bindOk]; (first | rw [r5] | exact r5); try rw [bindOk]
 refine bodyPost_ret (resBox rfl _ _ (w.heap.size + 1) _ rfl (ld94 (box13 B5.out))) rfl (Out.ok hP ?_ ?_ ?_)
 · exact ⟨⟨.slice (some ⟨w1.heap.size,0,none⟩) 1 1,_,_,_,.slice lx bd.length lc⟩,rfl,⟨(Xs.imp2 (Xs.g Y5.out (gr13 (World.grownBy.refl _ _)) (fun b hb => by obtain ⟨h1,h2,h3⟩ := hb; have := Z5.out; omega)) (fun b _ hb => (by obtain ⟨h1,h2,h3⟩ := hb; have := Z5.out; omega : w.heap.size ≤ b))),Li.nil _ _⟩,ms0 _ _,ss0 _ _,Li.ss (Li.imp2 (Li.g L5.out (gr13 (World.grownBy.refl _ _)) (fun b hb => by obtain ⟨h1,h2⟩ := hb; have := Z5.out; omega)) (fun b _ hb => (by obtain ⟨h1,h2⟩ := hb; have := Z5.out; omega : w.heap.size ≤ b)))⟩
 · exact C5.out.gq (gr13 (World.grownBy.refl _ _)) (by have := Z5.out; omega) (by have := Z5.out; omega)
 · exact gr13o G5.out (by have := Z5.out; omega)
set_option maxRecDepth 10000 in
set_option maxHeartbeats 4000000 in
theorem repeat_any (d : Nat) (hd : d ≤ 39) (hL : LsC V F R s u d) (w : World) (t : Tok) (dp : Int) (hdp : dp = 41 - d) (C : Cx V F R s u w t) : Calls Tryz.prog 117 #[rV R,.int .i64 dp] w (Out V F R s u w (repP F (exP F (s.size + 2) d) (lisP F (s.size + 2) d) t) (StP w)) := by
 have HE : Hid (ExC V F R s u d) := expr_any d (by omega)
 have HL : Hid (LsC V F R s u d) := hL
 have HD : Hid (dp = 41 - (d : Int)) := hdp
 have hmf := makeF
 clear hdp hL
 have HC : Hid (Cx V F R s u w t) := C
 have C0 := HC
 have G0 : Hid (w.grownBy w (some R)) := World.grownBy.refl _ _
 have HR : Hid (R < w.heap.size ∧ 15 ≤ w.heap.size ∧ 15 ≤ R) := ⟨C.lt,C.sz,C.r15⟩
 clear C
 go_enter Tryz.func117,Tryz.ntmps117
 go_wp2_with fail
 refine (HL.out _ _ dp HD.out ((C0.out.al _).al _)).mono ?_
 intro e w1 h
 rcases h.get with ⟨bd,t1,v1,r1,rfl,hv,CC,g⟩ | ⟨cc,aa,r1,rfl,g⟩
 rotate_left
 · exact ⟨rfl,Out.bad (by rw [repP]; (first | (rw [r1]; done) | (rw [r1]; rfl) | exact r1)) (gtr (gr_alloc (gr_alloc G0.out _) _) g)⟩
 obtain ⟨lx,lc,rfl⟩ := hv.sl
 have L1 := hidI (hv.tag (w.heap.size + 2) (by simp))
 clear hv
 have A1 : Hid (w1.heap[w.heap.size]? = some (.cells #[pR R] 46)) := keptBut g (old (hp_new (by first | rfl | simp) _) _) (by have := HR.out; omega)
 have B1 : Hid (w1.heap[w.heap.size + 1]? = some (.cells #[.int .i64 0,.int .i64 0,.string ⟨#[]⟩,.bool false,.slice none 0 0,.slice none 0 0,.slice none 0 0,.slice none 0 0,.slice none 0 0,.int .i64 0,.int .i64 0,.int .i64 0,.int .i64 0] 94)) := keptBut g (hp_new (by first | rfl | simp) _) (by have := HR.out; omega)
 have G1 := hidI (gtr (gr_alloc (gr_alloc G0.out _) _) g)
 have C1 := hidI CC
 have S1 : Hid (w.heap.size + 2 ≤ w1.heap.size) := hidI (by have := g.size; first | omega | (simp at this; omega) | (simp at this ⊢; omega))
 have Z6 := hidI (And.intro HR.out S1.out)
 clear g CC h
 obtain ⟨ap,aq,ar,af,ag,ah⟩ := facts A1.out
 obtain ⟨bp,bq,br,bf,bg,bh⟩ := facts B1.out
 go_wp2_with fail
 refine (needW (C1.out.al _) _ [⟨#[117,110,116,105,108]⟩] _ _ _ (by simp) rfl rfl (by decide)).mono ?_
 intro e w2 h
 rcases h.get with ⟨_,t2,v2,r2,rfl,rfl,CC,g⟩ | ⟨cc,aa,r2,rfl,g⟩
 rotate_left
 · exact ⟨rfl,Out.bad (by rw [repP]; (first | rw [r1] | exact r1); try rw [bindOk]; (first | (rw [r2]; done) | (rw [r2]; rfl) | exact r2)) (gtr (gr_alloc (gr_alloc G1.out _) _) g)⟩
 have A2 : Hid (w2.heap[w.heap.size]? = some (.cells #[pR R] 46)) := keptBut g (old (old A1.out _) _) (by have := Z6.out; omega)
 have B2 : Hid (w2.heap[w.heap.size + 1]? = some (.cells #[.int .i64 0,.int .i64 0,.string ⟨#[]⟩,.bool false,.slice none 0 0,.slice none 0 0,.slice none 0 0,.slice none 0 0,.slice none 0 0,.int .i64 0,.int .i64 0,.int .i64 0,.int .i64 0] 94)) := keptBut g (old (old B1.out _) _) (by have := Z6.out; omega)
 have P2 : Hid (w2.heap[w1.heap.size]? = some (.cells #[.int .i64 7,.int .i64 0,.string ⟨#[]⟩,.bool false,.slice none 0 0,.slice none 0 0,.slice none 0 0,.slice none 0 0,.slice lx bd.length lc,.int .i64 0,.int .i64 0,.int .i64 0,.int .i64 0] 94)) := keptBut g (old (hp_new (by first | rfl | simp) _) _) (by have := Z6.out; omega)
 have G2 := hidI (gtr (gr_alloc (gr_alloc G1.out _) _) g)
 have C2 := hidI CC
 have S2 : Hid (w1.heap.size + 2 ≤ w2.heap.size) := hidI (by have := g.size; first | omega | (simp at this; omega) | (simp at this ⊢; omega))
 have Z7 := hidI (And.intro HR.out (And.intro S1.out S2.out))
 have L2 := hidI ((Li.g (Li.al (Li.al L1.out _) _) g (fun b hb => by obtain ⟨h1,h2⟩ := hb; have := Z6.out; omega)))
 clear g CC h ap aq ar af ag ah bp bq br bf bg bh
 obtain ⟨ap,aq,ar,af,ag,ah⟩ := facts A2.out
 obtain ⟨bp,bq,br,bf,bg,bh⟩ := facts B2.out
 obtain ⟨pp,pq,pr,pf,pg,ph⟩ := facts P2.out
 have nBP : w.heap.size + 1 ≠ w1.heap.size := by have := Z7.out; omega
 have nPB : w1.heap.size ≠ w.heap.size + 1 := by have := Z7.out; omega
 have nAP : w.heap.size ≠ w1.heap.size := by have := Z7.out; omega
 have nPA : w1.heap.size ≠ w.heap.size := by have := Z7.out; omega
 have nAB : w.heap.size ≠ w.heap.size + 1 := by have := Z7.out; omega
 have nBA : w.heap.size + 1 ≠ w.heap.size := by have := Z7.out; omega
 go_wp2_with fail
 refine (HE.out _ _ dp HD.out C2.out).mono ?_
 intro e w3 h
 rcases h.get with ⟨e1,t3,v3,r3,rfl,hv,CC,g⟩ | ⟨cc,aa,r3,rfl,g⟩
 rotate_left
 · exact ⟨rfl,Out.bad (by rw [repP]; (first | rw [r1] | exact r1); try rw [bindOk]; (first | rw [r2] | exact r2); try rw [bindOk]; (first | (rw [r3]; done) | (rw [r3]; rfl) | exact r3)) (gtr G2.out g)⟩
 rcases e1 with ⟨f1,o1,kd1,n1,nm1,pt1,a1,ks1⟩
 obtain ⟨kx1,kc1,rfl,hx⟩ := Xe_sl hv
 have X3 := hidI (hx.tag (w2.heap.size + 0) (by simp))
 clear hx hv
 have A3 : Hid (w3.heap[w.heap.size]? = some (.cells #[pR R] 46)) := keptBut g A2.out (by have := Z7.out; omega)
 have B3 : Hid (w3.heap[w.heap.size + 1]? = some (.cells #[.int .i64 0,.int .i64 0,.string ⟨#[]⟩,.bool false,.slice none 0 0,.slice none 0 0,.slice none 0 0,.slice none 0 0,.slice none 0 0,.int .i64 0,.int .i64 0,.int .i64 0,.int .i64 0] 94)) := keptBut g B2.out (by have := Z7.out; omega)
 have P3 : Hid (w3.heap[w1.heap.size]? = some (.cells #[.int .i64 7,.int .i64 0,.string ⟨#[]⟩,.bool false,.slice none 0 0,.slice none 0 0,.slice none 0 0,.slice none 0 0,.slice lx bd.length lc,.int .i64 0,.int .i64 0,.int .i64 0,.int .i64 0] 94)) := keptBut g P2.out (by have := Z7.out; omega)
 have G3 := hidI (gtr G2.out g)
 have C3 := hidI CC
 have S3 : Hid (w2.heap.size + 0 ≤ w3.heap.size) := hidI (by have := g.size; first | omega | (simp at this; omega) | (simp at this ⊢; omega))
 have Z8 := hidI (And.intro HR.out (And.intro S1.out (And.intro S2.out S3.out)))
 have L3 := hidI ((Li.g L2.out g (fun b hb => by obtain ⟨h1,h2⟩ := hb; have := Z7.out; omega)))
 clear g CC h ap aq ar af ag ah bp bq br bf bg bh pp pq pr pf pg ph
 have Y3 := hidI (xs_one (W := w3) (ok := av w.heap.size (w.heap.size + 1) w1.heap.size) (e := .mk f1 o1 kd1 n1 nm1 pt1 a1 ks1) (X3.out.imp (fun b _ hb => (by obtain ⟨h1,h2⟩ := hb; exact ⟨by have := Z8.out; omega,by have := Z8.out; omega,by have := Z8.out; omega⟩))) ⟨by have := Z8.out; omega,by have := Z8.out; omega,by have := Z8.out; omega⟩)
 obtain ⟨ap,aq,ar,af,ag,ah⟩ := facts A3.out
 obtain ⟨bp,bq,br,bf,bg,bh⟩ := facts B3.out
 obtain ⟨pp,pq,pr,pf,pg,ph⟩ := facts P3.out
 go_wp2_with fail
 refine (times_any _ _ ((C3.out.al _).set (by have := Z8.out; omega) (by have := Z8.out; omega) _ _)).mono ?_
 intro e w4 h
 rcases h.get with ⟨n,t4,v4,r4,rfl,rfl,CC,g⟩ | ⟨cc,aa,r4,rfl,g⟩
 rotate_left
 · exact ⟨rfl,Out.bad (by rw [repP]; (first | rw [r1] | exact r1); try rw [bindOk]; (first | rw [r2] | exact r2); try rw [bindOk]; (first | rw [r3] | exact r3); try rw [bindOk]; (first | (rw [r4]; done) | (rw [r4]; rfl) | exact r4)) (gtr (gr_ow2 (gr_alloc G3.out _) (by have := Z8.out; omega) _ _) g)⟩
 have A4 : Hid (w4.heap[w.heap.size]? = some (.cells #[pR R] 46)) := keptBut g (keepS (old A3.out _) (by have := Z8.out; omega)) (by have := Z8.out; omega)
 have B4 : Hid (w4.heap[w.heap.size + 1]? = some (.cells #[.int .i64 0,.int .i64 0,.string ⟨#[]⟩,.bool false,.slice none 0 0,.slice none 0 0,.slice none 0 0,.slice none 0 0,.slice none 0 0,.int .i64 0,.int .i64 0,.int .i64 0,.int .i64 0] 94)) := keptBut g (keepS (old B3.out _) (by have := Z8.out; omega)) (by have := Z8.out; omega)
 have P4 : Hid (w4.heap[w1.heap.size]? = some (.cells #[.int .i64 7,.int .i64 0,.string ⟨#[]⟩,.bool false,.slice (some ⟨w3.heap.size,0,none⟩) 1 1,.slice none 0 0,.slice none 0 0,.slice none 0 0,.slice lx bd.length lc,.int .i64 0,.int .i64 0,.int .i64 0,.int .i64 0] 94)) := keptBut g (by simpa using (at_set (old P3.out _) 4 (.slice (some ⟨w3.heap.size,0,none⟩) 1 1))) (by have := Z8.out; omega)
 have G4 := hidI (gtr (gr_ow2 (gr_alloc G3.out _) (by have := Z8.out; omega) _ _) g)
 have C4 := hidI CC
 have S4 : Hid (w3.heap.size + 1 ≤ w4.heap.size) := hidI (by have := g.size; first | omega | (simp at this; omega) | (simp at this ⊢; omega))
 have Z9 := hidI (And.intro HR.out (And.intro S1.out (And.intro S2.out (And.intro S3.out S4.out))))
 have L4 := hidI ((Li.g (Li.g (Li.al L3.out _) (gr_set (World.grownBy.refl _ _) _ _) (fun b hb => by obtain ⟨h1,h2⟩ := hb; have := Z8.out; omega)) g (fun b hb => by obtain ⟨h1,h2⟩ := hb; have := Z8.out; omega)))
 have Y4 := hidI ((Xs.g (Xs.g Y3.out (gr_set (World.grownBy.refl _ _) _ _) (fun b hb => by obtain ⟨h1,h2,h3⟩ := hb; have := Z8.out; omega)) g (fun b hb => by obtain ⟨h1,h2,h3⟩ := hb; have := Z8.out; omega)))
 clear g CC h ap aq ar af ag ah bp bq br bf bg bh pp pq pr pf pg ph
 obtain ⟨ap,aq,ar,af,ag,ah⟩ := facts A4.out
 obtain ⟨bp,bq,br,bf,bg,bh⟩ := facts B4.out
 obtain ⟨pp,pq,pr,pf,pg,ph⟩ := facts P4.out
 go_wp2_with fail
 refine (needW (C4.out.set (by have := Z9.out; omega) (by have := Z9.out; omega) _ _) _ [⟨#[101,110,100,95,114,101,112,101,97,116]⟩] _ _ _ (by simp) rfl rfl (by decide)).mono ?_
 intro e w5 h
 rcases h.get with ⟨_,t5,v5,r5,rfl,rfl,CC,g⟩ | ⟨cc,aa,r5,rfl,g⟩
 rotate_left
 · exact ⟨rfl,Out.bad (by rw [repP]; (first | rw [r1] | exact r1); try rw [bindOk]; (first | rw [r2] | exact r2); try rw [bindOk]; (first | rw [r3] | exact r3); try rw [bindOk]; (first | rw [r4] | exact r4); try rw [bindOk]; (first | (rw [r5]; done) | (rw [r5]; rfl) | exact r5)) (gtr (gr_alloc (gr_ow2 G4.out (by have := Z9.out; omega) _ _) _) g)⟩
 have A5 : Hid (w5.heap[w.heap.size]? = some (.cells #[pR R] 46)) := keptBut g (old (keepS A4.out (by have := Z9.out; omega)) _) (by have := Z9.out; omega)
 have B5 : Hid (w5.heap[w.heap.size + 1]? = some (.cells #[.int .i64 0,.int .i64 0,.string ⟨#[]⟩,.bool false,.slice none 0 0,.slice none 0 0,.slice none 0 0,.slice none 0 0,.slice none 0 0,.int .i64 0,.int .i64 0,.int .i64 0,.int .i64 0] 94)) := keptBut g (old (keepS B4.out (by have := Z9.out; omega)) _) (by have := Z9.out; omega)
 have P5 : Hid (w5.heap[w1.heap.size]? = some (.cells #[.int .i64 7,.int .i64 0,.string ⟨#[]⟩,.bool false,.slice (some ⟨w3.heap.size,0,none⟩) 1 1,.slice none 0 0,.slice none 0 0,.slice none 0 0,.slice lx bd.length lc,.int .i64 0,.int .i64 0,.int .i64 0,.int .i64 n] 94)) := keptBut g (by simpa using (old (at_set P4.out 12 (.int .i64 n)) _)) (by have := Z9.out; omega)
 have G5 := hidI (gtr (gr_alloc (gr_ow2 G4.out (by have := Z9.out; omega) _ _) _) g)
 have C5 := hidI CC
 have S5 : Hid (w4.heap.size + 1 ≤ w5.heap.size) := hidI (by have := g.size; first | omega | (simp at this; omega) | (simp at this ⊢; omega))
 have Z10 := hidI (And.intro HR.out (And.intro S1.out (And.intro S2.out (And.intro S3.out (And.intro S4.out S5.out)))))
 have L5 := hidI ((Li.g (Li.al (Li.g L4.out (gr_set (World.grownBy.refl _ _) _ _) (fun b hb => by obtain ⟨h1,h2⟩ := hb; have := Z9.out; omega)) _) g (fun b hb => by obtain ⟨h1,h2⟩ := hb; have := Z9.out; omega)))
 have Y5 := hidI ((Xs.g (Xs.al (Xs.g Y4.out (gr_set (World.grownBy.refl _ _) _ _) (fun b hb => by obtain ⟨h1,h2,h3⟩ := hb; have := Z9.out; omega)) _) g (fun b hb => by obtain ⟨h1,h2,h3⟩ := hb; have := Z9.out; omega)))
 clear g CC h ap aq ar af ag ah bp bq br bf bg bh pp pq pr pf pg ph
 obtain ⟨ap,aq,ar,af,ag,ah⟩ := facts A5.out
 obtain ⟨bp,bq,br,bf,bg,bh⟩ := facts B5.out
 obtain ⟨pp,pq,pr,pf,pg,ph⟩ := facts P5.out
 go_wp2_with fail
 have hP : repP F (exP F (s.size + 2) d) (lisP F (s.size + 2) d) t = .ok (.mk 7 0 nob false [.mk f1 o1 kd1 n1 nm1 pt1 a1 ks1] [] [] [] bd 0 0 0 n) (t5) := by rw [repP]; (first | rw [r1] | exact r1); try rw [bindOk]; (first | rw [r2] | exact r2); try rw [bindOk]; (first | rw [r3] | exact r3); try rw [bindOk]; (first | rw [r4] | exact r4); try rw [bindOk]; (first | rw [r5] | exact r5); try rw [bindOk]
 refine bodyPost_ret (resBox rfl _ _ (w.heap.size + 1) _ rfl (ld94 (box13 B5.out))) rfl (Out.ok hP ?_ ?_ ?_)
 · exact ⟨⟨.slice (some ⟨w3.heap.size,0,none⟩) 1 1,_,_,_,.slice lx bd.length lc⟩,rfl,⟨(Xs.imp2 (Xs.g Y5.out (gr13 (World.grownBy.refl _ _)) (fun b hb => by obtain ⟨h1,h2,h3⟩ := hb; have := Z10.out; omega)) (fun b _ hb => (by obtain ⟨h1,h2,h3⟩ := hb; have := Z10.out; omega : w.heap.size ≤ b))),Li.nil _ _⟩,ms0 _ _,ss0 _ _,Li.ss (Li.imp2 (Li.g L5.out (gr13 (World.grownBy.refl _ _)) (fun b hb => by obtain ⟨h1,h2⟩ := hb; have := Z10.out; omega)) (fun b _ hb => (by obtain ⟨h1,h2⟩ := hb; have := Z10.out; omega : w.heap.size ≤ b)))⟩
 · exact C5.out.gq (gr13 (World.grownBy.refl _ _)) (by have := Z10.out; omega) (by have := Z10.out; omega)
 · exact gr13o G5.out (by have := Z10.out; omega)
theorem rounds_any (a n : Int) (W : World) (h1 : -4294967295 ≤ a) (h2 : a ≤ 4294967295) (h3 : -4294967295 ≤ n) (h4 : n ≤ 4294967295) : Calls Tryz.prog 126 #[.int .i64 a,.int .i64 n] W fun e w' => e = .returned (.bool (decide (n - a + 1 ≤ 10000))) ∧ W = w' := by
 go_enter Tryz.func126,Tryz.ntmps126
 go_wp2
 go_ret
 exact ⟨rfl,rfl⟩
theorem enters156 (args : Array Value) (W : World) : (callFunc 156 args).run Tryz.prog W = .ok (.enter 156 args) W := enters_of Tryz.func156 (by kernel_rfl) rfl args W
theorem counted_fits (w : World) (R q : Nat) (a : Int) (cs : Array Value) (hP : w.heap[q]? = some (.cells cs 94)) (hc : cs[9]? = some (.int .i64 a)) (hq : q ≠ R) (h1 : -4294967295 ≤ a) (h2 : a ≤ 4294967295) : Fits w R 156 #[.pointer (some ⟨q,0,none⟩)] (fun n => decide (n - a + 1 ≤ 10000)) := by
 intro n W hg h3 h4
 have c9 : W.cell? ⟨q,9,none⟩ = some (.int .i64 a) := by rw [at_cell (keptBut hg hP hq)]; exact hc
 clear hP hc
 have cR := rounds_any a n W h1 h2 h3 h4
 show Calls Tryz.prog 156 #[.int .i64 n,.pointer (some ⟨q,0,none⟩)] W _
 go_enter Tryz.func156,Tryz.ntmps156
 go_wp2_with fail
 refine cR.mono ?_
 rintro e w' ⟨rfl,rfl⟩
 go_wp2_with fail
 go_ret
 exact ⟨rfl,rfl⟩
set_option maxRecDepth 10000 in
set_option maxHeartbeats 4000000 in
theorem for_any (d : Nat) (hd : d ≤ 39) (hL : LsC V F R s u d) (w : World) (t : Tok) (dp : Int) (hdp : dp = 41 - d) (C : Cx V F R s u w t) : Calls Tryz.prog 115 #[rV R,.int .i64 dp] w (Out V F R s u w (forP F (lisP F (s.size + 2) d) t) (StP w)) := by
 have HE : Hid (ExC V F R s u d) := expr_any d (by omega)
 have HL : Hid (LsC V F R s u d) := hL
 have HD : Hid (dp = 41 - (d : Int)) := hdp
 have hmf := makeF
 clear hdp hL
 have HC : Hid (Cx V F R s u w t) := C
 have C0 := HC
 have G0 : Hid (w.grownBy w (some R)) := World.grownBy.refl _ _
 have HR : Hid (R < w.heap.size ∧ 15 ≤ w.heap.size ∧ 15 ≤ R) := ⟨C.lt,C.sz,C.r15⟩
 clear C
 go_enter Tryz.func115,Tryz.ntmps115
 go_wp2_with fail
 refine (name_any ((C0.out.al _).al _)).mono ?_
 intro e w1 h
 rcases h.get with ⟨k,t1,v1,r1,rfl,rfl,CC,g⟩ | ⟨cc,aa,r1,rfl,g⟩
 rotate_left
 · exact ⟨rfl,Out.bad (by rw [forP]; (first | (rw [r1]; done) | (rw [r1]; rfl) | exact r1)) (gtr (gr_alloc (gr_alloc G0.out _) _) g)⟩
 have A1 : Hid (w1.heap[w.heap.size]? = some (.cells #[pR R] 46)) := keptBut g (old (hp_new (by first | rfl | simp) _) _) (by have := HR.out; omega)
 have B1 : Hid (w1.heap[w.heap.size + 1]? = some (.cells #[.int .i64 0,.int .i64 0,.string ⟨#[]⟩,.bool false,.slice none 0 0,.slice none 0 0,.slice none 0 0,.slice none 0 0,.slice none 0 0,.int .i64 0,.int .i64 0,.int .i64 0,.int .i64 0] 94)) := keptBut g (hp_new (by first | rfl | simp) _) (by have := HR.out; omega)
 have G1 := hidI (gtr (gr_alloc (gr_alloc G0.out _) _) g)
 have C1 := hidI CC
 have S1 : Hid (w.heap.size + 2 ≤ w1.heap.size) := hidI (by have := g.size; first | omega | (simp at this; omega) | (simp at this ⊢; omega))
 clear g CC h
 obtain ⟨ap,aq,ar,af,ag,ah⟩ := facts A1.out
 obtain ⟨bp,bq,br,bf,bg,bh⟩ := facts B1.out
 go_wp2_with fail
 refine (needW (C1.out.al _) _ [⟨#[58,61]⟩] _ _ _ (by simp) rfl rfl (by decide)).mono ?_
 intro e w2 h
 rcases h.get with ⟨_,t2,v2,r2,rfl,rfl,CC,g⟩ | ⟨cc,aa,r2,rfl,g⟩
 rotate_left
 · exact ⟨rfl,Out.bad (by rw [forP]; (first | rw [r1] | exact r1); try rw [bindOk]; (first | (rw [r2]; done) | (rw [r2]; rfl) | exact r2)) (gtr (gr_alloc (gr_alloc G1.out _) _) g)⟩
 have A2 : Hid (w2.heap[w.heap.size]? = some (.cells #[pR R] 46)) := keptBut g (old (old A1.out _) _) (by have := HR.out; have := S1.out; omega)
 have B2 : Hid (w2.heap[w.heap.size + 1]? = some (.cells #[.int .i64 0,.int .i64 0,.string ⟨#[]⟩,.bool false,.slice none 0 0,.slice none 0 0,.slice none 0 0,.slice none 0 0,.slice none 0 0,.int .i64 0,.int .i64 0,.int .i64 0,.int .i64 0] 94)) := keptBut g (old (old B1.out _) _) (by have := HR.out; have := S1.out; omega)
 have P2 : Hid (w2.heap[w1.heap.size]? = some (.cells #[.int .i64 5,.int .i64 0,.string k.x,.bool false,.slice none 0 0,.slice none 0 0,.slice none 0 0,.slice none 0 0,.slice none 0 0,.int .i64 0,.int .i64 0,.int .i64 1,.int .i64 0] 94)) := keptBut g (old (hp_new (by first | rfl | simp) _) _) (by have := HR.out; have := S1.out; omega)
 have G2 := hidI (gtr (gr_alloc (gr_alloc G1.out _) _) g)
 have C2 := hidI CC
 have S2 : Hid (w1.heap.size + 2 ≤ w2.heap.size) := hidI (by have := g.size; first | omega | (simp at this; omega) | (simp at this ⊢; omega))
 have Z11 := hidI (And.intro HR.out (And.intro S1.out S2.out))
 clear g CC h ap aq ar af ag ah bp bq br bf bg bh
 obtain ⟨ap,aq,ar,af,ag,ah⟩ := facts A2.out
 obtain ⟨bp,bq,br,bf,bg,bh⟩ := facts B2.out
 obtain ⟨pp,pq,pr,pf,pg,ph⟩ := facts P2.out
 have nBP : w.heap.size + 1 ≠ w1.heap.size := by have := Z11.out; omega
 have nPB : w1.heap.size ≠ w.heap.size + 1 := by have := Z11.out; omega
 have nAP : w.heap.size ≠ w1.heap.size := by have := Z11.out; omega
 have nPA : w1.heap.size ≠ w.heap.size := by have := Z11.out; omega
 have nAB : w.heap.size ≠ w.heap.size + 1 := by have := Z11.out; omega
 have nBA : w.heap.size + 1 ≠ w.heap.size := by have := Z11.out; omega
 go_wp2_with fail
 refine (constant_any C2.out).mono ?_
 intro e w3 h
 rcases h.get with ⟨lo,t3,v3,r3,rfl,rfl,CC,g⟩ | ⟨cc,aa,r3,rfl,g⟩
 rotate_left
 · exact ⟨rfl,Out.bad (by rw [forP]; (first | rw [r1] | exact r1); try rw [bindOk]; (first | rw [r2] | exact r2); try rw [bindOk]; (first | (rw [r3]; done) | (rw [r3]; rfl) | exact r3)) (gtr G2.out g)⟩
 have A3 : Hid (w3.heap[w.heap.size]? = some (.cells #[pR R] 46)) := keptBut g A2.out (by have := Z11.out; omega)
 have B3 : Hid (w3.heap[w.heap.size + 1]? = some (.cells #[.int .i64 0,.int .i64 0,.string ⟨#[]⟩,.bool false,.slice none 0 0,.slice none 0 0,.slice none 0 0,.slice none 0 0,.slice none 0 0,.int .i64 0,.int .i64 0,.int .i64 0,.int .i64 0] 94)) := keptBut g B2.out (by have := Z11.out; omega)
 have P3 : Hid (w3.heap[w1.heap.size]? = some (.cells #[.int .i64 5,.int .i64 0,.string k.x,.bool false,.slice none 0 0,.slice none 0 0,.slice none 0 0,.slice none 0 0,.slice none 0 0,.int .i64 0,.int .i64 0,.int .i64 1,.int .i64 0] 94)) := keptBut g P2.out (by have := Z11.out; omega)
 have G3 := hidI (gtr G2.out g)
 have C3 := hidI CC
 have S3 : Hid (w2.heap.size + 0 ≤ w3.heap.size) := hidI (by have := g.size; first | omega | (simp at this; omega) | (simp at this ⊢; omega))
 have Z12 := hidI (And.intro HR.out (And.intro S1.out (And.intro S2.out S3.out)))
 clear g CC h ap aq ar af ag ah bp bq br bf bg bh pp pq pr pf pg ph
 obtain ⟨ap,aq,ar,af,ag,ah⟩ := facts A3.out
 obtain ⟨bp,bq,br,bf,bg,bh⟩ := facts B3.out
 obtain ⟨pp,pq,pr,pf,pg,ph⟩ := facts P3.out
 have HB3 := hidI (const_bd C2.out.G C2.out.ok r3)
 go_wp2_with fail
 refine (needW (C3.out.set (by have := Z12.out; omega) (by have := Z12.out; omega) _ _) _ [⟨#[116,111]⟩] _ _ _ (by simp) rfl rfl (by decide)).mono ?_
 intro e w4 h
 rcases h.get with ⟨_,t4,v4,r4,rfl,rfl,CC,g⟩ | ⟨cc,aa,r4,rfl,g⟩
 rotate_left
 · exact ⟨rfl,Out.bad (by rw [forP]; (first | rw [r1] | exact r1); try rw [bindOk]; (first | rw [r2] | exact r2); try rw [bindOk]; (first | rw [r3] | exact r3); try rw [bindOk]; (first | (rw [r4]; done) | (rw [r4]; rfl) | exact r4)) (gtr (gr_alloc (gr_ow2 G3.out (by have := Z12.out; omega) _ _) _) g)⟩
 have A4 : Hid (w4.heap[w.heap.size]? = some (.cells #[pR R] 46)) := keptBut g (old (keepS A3.out (by have := Z12.out; omega)) _) (by have := Z12.out; omega)
 have B4 : Hid (w4.heap[w.heap.size + 1]? = some (.cells #[.int .i64 0,.int .i64 0,.string ⟨#[]⟩,.bool false,.slice none 0 0,.slice none 0 0,.slice none 0 0,.slice none 0 0,.slice none 0 0,.int .i64 0,.int .i64 0,.int .i64 0,.int .i64 0] 94)) := keptBut g (old (keepS B3.out (by have := Z12.out; omega)) _) (by have := Z12.out; omega)
 have P4 : Hid (w4.heap[w1.heap.size]? = some (.cells #[.int .i64 5,.int .i64 0,.string k.x,.bool false,.slice none 0 0,.slice none 0 0,.slice none 0 0,.slice none 0 0,.slice none 0 0,.int .i64 lo,.int .i64 0,.int .i64 1,.int .i64 0] 94)) := keptBut g (by simpa using (old (at_set P3.out 9 (.int .i64 lo)) _)) (by have := Z12.out; omega)
 have G4 := hidI (gtr (gr_alloc (gr_ow2 G3.out (by have := Z12.out; omega) _ _) _) g)
 have C4 := hidI CC
 have S4 : Hid (w3.heap.size + 1 ≤ w4.heap.size) := hidI (by have := g.size; first | omega | (simp at this; omega) | (simp at this ⊢; omega))
 have Z13 := hidI (And.intro HR.out (And.intro S1.out (And.intro S2.out (And.intro S3.out S4.out))))
 clear g CC h ap aq ar af ag ah bp bq br bf bg bh pp pq pr pf pg ph
 obtain ⟨ap,aq,ar,af,ag,ah⟩ := facts A4.out
 obtain ⟨bp,bq,br,bf,bg,bh⟩ := facts B4.out
 obtain ⟨pp,pq,pr,pf,pg,ph⟩ := facts P4.out
 have F4 := hidI (counted_fits w4 R w1.heap.size lo _ P4.out rfl (by have := Z13.out; omega) HB3.out.1 HB3.out.2.1)
 go_wp2_with fail
 refine (const_any C4.out 156 _ _ enters156 F4.out).mono ?_
 intro e w5 h
 rcases h.get with ⟨hi,t5,v5,r5,rfl,rfl,CC,g⟩ | ⟨cc,aa,r5,rfl,g⟩
 rotate_left
 · exact ⟨rfl,Out.bad (by rw [forP]; (first | rw [r1] | exact r1); try rw [bindOk]; (first | rw [r2] | exact r2); try rw [bindOk]; (first | rw [r3] | exact r3); try rw [bindOk]; (first | rw [r4] | exact r4); try rw [bindOk]; (first | (rw [r5]; done) | (rw [r5]; rfl) | exact r5)) (gtr G4.out g)⟩
 have A5 : Hid (w5.heap[w.heap.size]? = some (.cells #[pR R] 46)) := keptBut g A4.out (by have := Z13.out; omega)
 have B5 : Hid (w5.heap[w.heap.size + 1]? = some (.cells #[.int .i64 0,.int .i64 0,.string ⟨#[]⟩,.bool false,.slice none 0 0,.slice none 0 0,.slice none 0 0,.slice none 0 0,.slice none 0 0,.int .i64 0,.int .i64 0,.int .i64 0,.int .i64 0] 94)) := keptBut g B4.out (by have := Z13.out; omega)
 have P5 : Hid (w5.heap[w1.heap.size]? = some (.cells #[.int .i64 5,.int .i64 0,.string k.x,.bool false,.slice none 0 0,.slice none 0 0,.slice none 0 0,.slice none 0 0,.slice none 0 0,.int .i64 lo,.int .i64 0,.int .i64 1,.int .i64 0] 94)) := keptBut g P4.out (by have := Z13.out; omega)
 have G5 := hidI (gtr G4.out g)
 have C5 := hidI CC
 have S5 : Hid (w4.heap.size + 0 ≤ w5.heap.size) := hidI (by have := g.size; first | omega | (simp at this; omega) | (simp at this ⊢; omega))
 have Z14 := hidI (And.intro HR.out (And.intro S1.out (And.intro S2.out (And.intro S3.out (And.intro S4.out S5.out)))))
 clear g CC h ap aq ar af ag ah bp bq br bf bg bh pp pq pr pf pg ph
 obtain ⟨ap,aq,ar,af,ag,ah⟩ := facts A5.out
 obtain ⟨bp,bq,br,bf,bg,bh⟩ := facts B5.out
 obtain ⟨pp,pq,pr,pf,pg,ph⟩ := facts P5.out
 go_wp2_with fail
 refine (tookW (C5.out.set (by have := Z14.out; omega) (by have := Z14.out; omega) _ _) _ [⟨#[98,121]⟩] _ _ _ (by simp) rfl rfl (by decide)).mono ?_
 intro e w6 h
 rcases h.get with ⟨b6,t6,v6,r6,rfl,rfl,CC,g⟩ | ⟨cc,aa,r6,rfl,g⟩
 rotate_left
 · exact ⟨rfl,Out.bad (by rw [forP]; (first | rw [r1] | exact r1); try rw [bindOk]; (first | rw [r2] | exact r2); try rw [bindOk]; (first | rw [r3] | exact r3); try rw [bindOk]; (first | rw [r4] | exact r4); try rw [bindOk]; (first | rw [r5] | exact r5); try rw [bindOk]; (first | (rw [r6]; done) | (rw [r6]; rfl) | exact r6)) (gtr (gr_alloc (gr_ow2 G5.out (by have := Z14.out; omega) _ _) _) g)⟩
 have A6 : Hid (w6.heap[w.heap.size]? = some (.cells #[pR R] 46)) := keptBut g (old (keepS A5.out (by have := Z14.out; omega)) _) (by have := Z14.out; omega)
 have B6 : Hid (w6.heap[w.heap.size + 1]? = some (.cells #[.int .i64 0,.int .i64 0,.string ⟨#[]⟩,.bool false,.slice none 0 0,.slice none 0 0,.slice none 0 0,.slice none 0 0,.slice none 0 0,.int .i64 0,.int .i64 0,.int .i64 0,.int .i64 0] 94)) := keptBut g (old (keepS B5.out (by have := Z14.out; omega)) _) (by have := Z14.out; omega)
 have P6 : Hid (w6.heap[w1.heap.size]? = some (.cells #[.int .i64 5,.int .i64 0,.string k.x,.bool false,.slice none 0 0,.slice none 0 0,.slice none 0 0,.slice none 0 0,.slice none 0 0,.int .i64 lo,.int .i64 hi,.int .i64 1,.int .i64 0] 94)) := keptBut g (by simpa using (old (at_set P5.out 10 (.int .i64 hi)) _)) (by have := Z14.out; omega)
 have G6 := hidI (gtr (gr_alloc (gr_ow2 G5.out (by have := Z14.out; omega) _ _) _) g)
 have C6 := hidI CC
 have S6 : Hid (w5.heap.size + 1 ≤ w6.heap.size) := hidI (by have := g.size; first | omega | (simp at this; omega) | (simp at this ⊢; omega))
 have Z15 := hidI (And.intro HR.out (And.intro S1.out (And.intro S2.out (And.intro S3.out (And.intro S4.out (And.intro S5.out S6.out))))))
 clear g CC h ap aq ar af ag ah bp bq br bf bg bh pp pq pr pf pg ph
 obtain ⟨ap,aq,ar,af,ag,ah⟩ := facts A6.out
 obtain ⟨bp,bq,br,bf,bg,bh⟩ := facts B6.out
 obtain ⟨pp,pq,pr,pf,pg,ph⟩ := facts P6.out
 cases b6
 · go_wp2_with fail
   refine (needW C6.out _ [⟨#[100,111]⟩] _ _ _ (by simp) rfl rfl (by decide)).mono ?_
   intro e w7 h
   rcases h.get with ⟨_,t7,v7,r7,rfl,rfl,CC,g⟩ | ⟨cc,aa,r7,rfl,g⟩
   rotate_left
   · exact ⟨rfl,Out.bad (by rw [forP]; (first | rw [r1] | exact r1); try rw [bindOk]; (first | rw [r2] | exact r2); try rw [bindOk]; (first | rw [r3] | exact r3); try rw [bindOk]; (first | rw [r4] | exact r4); try rw [bindOk]; (first | rw [r5] | exact r5); try rw [bindOk]; (first | rw [r6] | exact r6); try rw [bindOk]; rw [if_neg (by simp)]; try rw [bindOk]; (first | (rw [r7]; done) | (rw [r7]; rfl) | exact r7)) (gtr (gr_alloc G6.out _) g)⟩
   have A7 : Hid (w7.heap[w.heap.size]? = some (.cells #[pR R] 46)) := keptBut g (old A6.out _) (by have := Z15.out; omega)
   have B7 : Hid (w7.heap[w.heap.size + 1]? = some (.cells #[.int .i64 0,.int .i64 0,.string ⟨#[]⟩,.bool false,.slice none 0 0,.slice none 0 0,.slice none 0 0,.slice none 0 0,.slice none 0 0,.int .i64 0,.int .i64 0,.int .i64 0,.int .i64 0] 94)) := keptBut g (old B6.out _) (by have := Z15.out; omega)
   have P7 : Hid (w7.heap[w1.heap.size]? = some (.cells #[.int .i64 5,.int .i64 0,.string k.x,.bool false,.slice none 0 0,.slice none 0 0,.slice none 0 0,.slice none 0 0,.slice none 0 0,.int .i64 lo,.int .i64 hi,.int .i64 1,.int .i64 0] 94)) := keptBut g (old P6.out _) (by have := Z15.out; omega)
   have G7 := hidI (gtr (gr_alloc G6.out _) g)
   have C7 := hidI CC
   have S7 : Hid (w6.heap.size + 1 ≤ w7.heap.size) := hidI (by have := g.size; first | omega | (simp at this; omega) | (simp at this ⊢; omega))
   have Z16 := hidI (And.intro HR.out (And.intro S1.out (And.intro S2.out (And.intro S3.out (And.intro S4.out (And.intro S5.out (And.intro S6.out S7.out)))))))
   clear g CC h ap aq ar af ag ah bp bq br bf bg bh pp pq pr pf pg ph
   obtain ⟨ap,aq,ar,af,ag,ah⟩ := facts A7.out
   obtain ⟨bp,bq,br,bf,bg,bh⟩ := facts B7.out
   obtain ⟨pp,pq,pr,pf,pg,ph⟩ := facts P7.out
   go_wp2_with fail
   refine (HL.out _ _ dp HD.out C7.out).mono ?_
   intro e w8 h
   rcases h.get with ⟨bd,t8,v8,r8,rfl,hv,CC,g⟩ | ⟨cc,aa,r8,rfl,g⟩
   rotate_left
   · exact ⟨rfl,Out.bad (by rw [forP]; (first | rw [r1] | exact r1); try rw [bindOk]; (first | rw [r2] | exact r2); try rw [bindOk]; (first | rw [r3] | exact r3); try rw [bindOk]; (first | rw [r4] | exact r4); try rw [bindOk]; (first | rw [r5] | exact r5); try rw [bindOk]; (first | rw [r6] | exact r6); try rw [bindOk]; rw [if_neg (by simp)]; try rw [bindOk]; (first | rw [r7] | exact r7); try rw [bindOk]; (first | (rw [r8]; done) | (rw [r8]; rfl) | exact r8)) (gtr G7.out g)⟩
   obtain ⟨lx,lc,rfl⟩ := hv.sl
   have L8 := hidI (hv.tag (w7.heap.size + 0) (by simp))
   clear hv
   have A8 : Hid (w8.heap[w.heap.size]? = some (.cells #[pR R] 46)) := keptBut g A7.out (by have := Z16.out; omega)
   have B8 : Hid (w8.heap[w.heap.size + 1]? = some (.cells #[.int .i64 0,.int .i64 0,.string ⟨#[]⟩,.bool false,.slice none 0 0,.slice none 0 0,.slice none 0 0,.slice none 0 0,.slice none 0 0,.int .i64 0,.int .i64 0,.int .i64 0,.int .i64 0] 94)) := keptBut g B7.out (by have := Z16.out; omega)
   have P8 : Hid (w8.heap[w1.heap.size]? = some (.cells #[.int .i64 5,.int .i64 0,.string k.x,.bool false,.slice none 0 0,.slice none 0 0,.slice none 0 0,.slice none 0 0,.slice none 0 0,.int .i64 lo,.int .i64 hi,.int .i64 1,.int .i64 0] 94)) := keptBut g P7.out (by have := Z16.out; omega)
   have G8 := hidI (gtr G7.out g)
   have C8 := hidI CC
   have S8 : Hid (w7.heap.size + 0 ≤ w8.heap.size) := hidI (by have := g.size; first | omega | (simp at this; omega) | (simp at this ⊢; omega))
   have Z17 := hidI (And.intro HR.out (And.intro S1.out (And.intro S2.out (And.intro S3.out (And.intro S4.out (And.intro S5.out (And.intro S6.out (And.intro S7.out S8.out))))))))
   clear g CC h ap aq ar af ag ah bp bq br bf bg bh pp pq pr pf pg ph
   obtain ⟨ap,aq,ar,af,ag,ah⟩ := facts A8.out
   obtain ⟨bp,bq,br,bf,bg,bh⟩ := facts B8.out
   obtain ⟨pp,pq,pr,pf,pg,ph⟩ := facts P8.out
   go_wp2_with fail
   refine (needW (C8.out.set (by have := Z17.out; omega) (by have := Z17.out; omega) _ _) _ [⟨#[101,110,100,95,102,111,114]⟩] _ _ _ (by simp) rfl rfl (by decide)).mono ?_
   intro e w9 h
   rcases h.get with ⟨_,t9,v9,r9,rfl,rfl,CC,g⟩ | ⟨cc,aa,r9,rfl,g⟩
   rotate_left
   · exact ⟨rfl,Out.bad (by rw [forP]; (first | rw [r1] | exact r1); try rw [bindOk]; (first | rw [r2] | exact r2); try rw [bindOk]; (first | rw [r3] | exact r3); try rw [bindOk]; (first | rw [r4] | exact r4); try rw [bindOk]; (first | rw [r5] | exact r5); try rw [bindOk]; (first | rw [r6] | exact r6); try rw [bindOk]; rw [if_neg (by simp)]; try rw [bindOk]; (first | rw [r7] | exact r7); try rw [bindOk]; (first | rw [r8] | exact r8); try rw [bindOk]; (first | (rw [r9]; done) | (rw [r9]; rfl) | exact r9)) (gtr (gr_alloc (gr_ow2 G8.out (by have := Z17.out; omega) _ _) _) g)⟩
   have A9 : Hid (w9.heap[w.heap.size]? = some (.cells #[pR R] 46)) := keptBut g (old (keepS A8.out (by have := Z17.out; omega)) _) (by have := Z17.out; omega)
   have B9 : Hid (w9.heap[w.heap.size + 1]? = some (.cells #[.int .i64 0,.int .i64 0,.string ⟨#[]⟩,.bool false,.slice none 0 0,.slice none 0 0,.slice none 0 0,.slice none 0 0,.slice none 0 0,.int .i64 0,.int .i64 0,.int .i64 0,.int .i64 0] 94)) := keptBut g (old (keepS B8.out (by have := Z17.out; omega)) _) (by have := Z17.out; omega)
   have P9 : Hid (w9.heap[w1.heap.size]? = some (.cells #[.int .i64 5,.int .i64 0,.string k.x,.bool false,.slice none 0 0,.slice none 0 0,.slice none 0 0,.slice none 0 0,.slice lx bd.length lc,.int .i64 lo,.int .i64 hi,.int .i64 1,.int .i64 0] 94)) := keptBut g (by simpa using (old (at_set P8.out 8 (.slice lx bd.length lc)) _)) (by have := Z17.out; omega)
   have G9 := hidI (gtr (gr_alloc (gr_ow2 G8.out (by have := Z17.out; omega) _ _) _) g)
   have C9 := hidI CC
   have S9 : Hid (w8.heap.size + 1 ≤ w9.heap.size) := hidI (by have := g.size; first | omega | (simp at this; omega) | (simp at this ⊢; omega))
   have Z18 := hidI (And.intro HR.out (And.intro S1.out (And.intro S2.out (And.intro S3.out (And.intro S4.out (And.intro S5.out (And.intro S6.out (And.intro S7.out (And.intro S8.out S9.out)))))))))
   have L9 := hidI ((Li.g (Li.al (Li.g L8.out (gr_set (World.grownBy.refl _ _) _ _) (fun b hb => by obtain ⟨h1,h2⟩ := hb; have := Z17.out; omega)) _) g (fun b hb => by obtain ⟨h1,h2⟩ := hb; have := Z17.out; omega)))
   clear g CC h ap aq ar af ag ah bp bq br bf bg bh pp pq pr pf pg ph
   obtain ⟨ap,aq,ar,af,ag,ah⟩ := facts A9.out
   obtain ⟨bp,bq,br,bf,bg,bh⟩ := facts B9.out
   obtain ⟨pp,pq,pr,pf,pg,ph⟩ := facts P9.out
   go_wp2_with fail
   have hP : forP F (lisP F (s.size + 2) d) t = .ok (.mk 5 0 k.x false [] [] [] [] bd lo hi 1 0) (t9) := by rw [forP]; (first | rw [r1] | exact r1); try rw [bindOk]; (first | rw [r2] | exact r2); try rw [bindOk]; (first | rw [r3] | exact r3); try rw [bindOk]; (first | rw [r4] | exact r4); try rw [bindOk]; (first | rw [r5] | exact r5); try rw [bindOk]; (first | rw [r6] | exact r6); try rw [bindOk]; rw [if_neg (by simp)]; try rw [bindOk]; (first | rw [r7] | exact r7); try rw [bindOk]; (first | rw [r8] | exact r8); try rw [bindOk]; (first | rw [r9] | exact r9); try rw [bindOk]
   refine bodyPost_ret (resBox rfl _ _ (w.heap.size + 1) _ rfl (ld94 (box13 B9.out))) rfl (Out.ok hP ?_ ?_ ?_)
   · exact ⟨⟨_,_,_,_,.slice lx bd.length lc⟩,rfl,⟨Xs.nil _ _,Li.nil _ _⟩,ms0 _ _,ss0 _ _,Li.ss (Li.imp2 (Li.g L9.out (gr13 (World.grownBy.refl _ _)) (fun b hb => by obtain ⟨h1,h2⟩ := hb; have := Z18.out; omega)) (fun b _ hb => (by obtain ⟨h1,h2⟩ := hb; have := Z18.out; omega : w.heap.size ≤ b)))⟩
   · exact C9.out.gq (gr13 (World.grownBy.refl _ _)) (by have := Z18.out; omega) (by have := Z18.out; omega)
   · exact gr13o G9.out (by have := Z18.out; omega)
 · go_wp2_with fail
   refine (const_any C6.out 84 #[] timB enters84 (times_fits _ _)).mono ?_
   intro e w7 h
   rcases h.get with ⟨st,t7,v7,r7,rfl,rfl,CC,g⟩ | ⟨cc,aa,r7,rfl,g⟩
   rotate_left
   · exact ⟨rfl,Out.bad (by rw [forP]; (first | rw [r1] | exact r1); try rw [bindOk]; (first | rw [r2] | exact r2); try rw [bindOk]; (first | rw [r3] | exact r3); try rw [bindOk]; (first | rw [r4] | exact r4); try rw [bindOk]; (first | rw [r5] | exact r5); try rw [bindOk]; (first | rw [r6] | exact r6); try rw [bindOk]; rw [if_pos rfl]; (first | (rw [r7]; done) | (rw [r7]; rfl) | exact r7)) (gtr G6.out g)⟩
   have A7 : Hid (w7.heap[w.heap.size]? = some (.cells #[pR R] 46)) := keptBut g A6.out (by have := Z15.out; omega)
   have B7 : Hid (w7.heap[w.heap.size + 1]? = some (.cells #[.int .i64 0,.int .i64 0,.string ⟨#[]⟩,.bool false,.slice none 0 0,.slice none 0 0,.slice none 0 0,.slice none 0 0,.slice none 0 0,.int .i64 0,.int .i64 0,.int .i64 0,.int .i64 0] 94)) := keptBut g B6.out (by have := Z15.out; omega)
   have P7 : Hid (w7.heap[w1.heap.size]? = some (.cells #[.int .i64 5,.int .i64 0,.string k.x,.bool false,.slice none 0 0,.slice none 0 0,.slice none 0 0,.slice none 0 0,.slice none 0 0,.int .i64 lo,.int .i64 hi,.int .i64 1,.int .i64 0] 94)) := keptBut g P6.out (by have := Z15.out; omega)
   have G7 := hidI (gtr G6.out g)
   have C7 := hidI CC
   have S7 : Hid (w6.heap.size + 0 ≤ w7.heap.size) := hidI (by have := g.size; first | omega | (simp at this; omega) | (simp at this ⊢; omega))
   have Z19 := hidI (And.intro HR.out (And.intro S1.out (And.intro S2.out (And.intro S3.out (And.intro S4.out (And.intro S5.out (And.intro S6.out S7.out)))))))
   clear g CC h ap aq ar af ag ah bp bq br bf bg bh pp pq pr pf pg ph
   obtain ⟨ap,aq,ar,af,ag,ah⟩ := facts A7.out
   obtain ⟨bp,bq,br,bf,bg,bh⟩ := facts B7.out
   obtain ⟨pp,pq,pr,pf,pg,ph⟩ := facts P7.out
   go_wp2_with fail
   refine (needW (C7.out.set (by have := Z19.out; omega) (by have := Z19.out; omega) _ _) _ [⟨#[100,111]⟩] _ _ _ (by simp) rfl rfl (by decide)).mono ?_
   intro e w8 h
   rcases h.get with ⟨_,t8,v8,r8,rfl,rfl,CC,g⟩ | ⟨cc,aa,r8,rfl,g⟩
   rotate_left
   · exact ⟨rfl,Out.bad (by rw [forP]; (first | rw [r1] | exact r1); try rw [bindOk]; (first | rw [r2] | exact r2); try rw [bindOk]; (first | rw [r3] | exact r3); try rw [bindOk]; (first | rw [r4] | exact r4); try rw [bindOk]; (first | rw [r5] | exact r5); try rw [bindOk]; (first | rw [r6] | exact r6); try rw [bindOk]; rw [if_pos rfl]; (first | rw [r7] | exact r7); try rw [bindOk]; (first | (rw [r8]; done) | (rw [r8]; rfl) | exact r8)) (gtr (gr_alloc (gr_ow2 G7.out (by have := Z19.out; omega) _ _) _) g)⟩
   have A8 : Hid (w8.heap[w.heap.size]? = some (.cells #[pR R] 46)) := keptBut g (old (keepS A7.out (by have := Z19.out; omega)) _) (by have := Z19.out; omega)
   have B8 : Hid (w8.heap[w.heap.size + 1]? = some (.cells #[.int .i64 0,.int .i64 0,.string ⟨#[]⟩,.bool false,.slice none 0 0,.slice none 0 0,.slice none 0 0,.slice none 0 0,.slice none 0 0,.int .i64 0,.int .i64 0,.int .i64 0,.int .i64 0] 94)) := keptBut g (old (keepS B7.out (by have := Z19.out; omega)) _) (by have := Z19.out; omega)
   have P8 : Hid (w8.heap[w1.heap.size]? = some (.cells #[.int .i64 5,.int .i64 0,.string k.x,.bool false,.slice none 0 0,.slice none 0 0,.slice none 0 0,.slice none 0 0,.slice none 0 0,.int .i64 lo,.int .i64 hi,.int .i64 st,.int .i64 0] 94)) := keptBut g (by simpa using (old (at_set P7.out 11 (.int .i64 st)) _)) (by have := Z19.out; omega)
   have G8 := hidI (gtr (gr_alloc (gr_ow2 G7.out (by have := Z19.out; omega) _ _) _) g)
   have C8 := hidI CC
   have S8 : Hid (w7.heap.size + 1 ≤ w8.heap.size) := hidI (by have := g.size; first | omega | (simp at this; omega) | (simp at this ⊢; omega))
   have Z20 := hidI (And.intro HR.out (And.intro S1.out (And.intro S2.out (And.intro S3.out (And.intro S4.out (And.intro S5.out (And.intro S6.out (And.intro S7.out S8.out))))))))
   clear g CC h ap aq ar af ag ah bp bq br bf bg bh pp pq pr pf pg ph
   obtain ⟨ap,aq,ar,af,ag,ah⟩ := facts A8.out
   obtain ⟨bp,bq,br,bf,bg,bh⟩ := facts B8.out
   obtain ⟨pp,pq,pr,pf,pg,ph⟩ := facts P8.out
   go_wp2_with fail
   refine (HL.out _ _ dp HD.out C8.out).mono ?_
   intro e w9 h
   rcases h.get with ⟨bd,t9,v9,r9,rfl,hv,CC,g⟩ | ⟨cc,aa,r9,rfl,g⟩
   rotate_left
   · exact ⟨rfl,Out.bad (by rw [forP]; (first | rw [r1] | exact r1); try rw [bindOk]; (first | rw [r2] | exact r2); try rw [bindOk]; (first | rw [r3] | exact r3); try rw [bindOk]; (first | rw [r4] | exact r4); try rw [bindOk]; (first | rw [r5] | exact r5); try rw [bindOk]; (first | rw [r6] | exact r6); try rw [bindOk]; rw [if_pos rfl]; (first | rw [r7] | exact r7); try rw [bindOk]; (first | rw [r8] | exact r8); try rw [bindOk]; (first | (rw [r9]; done) | (rw [r9]; rfl) | exact r9)) (gtr G8.out g)⟩
   obtain ⟨lx,lc,rfl⟩ := hv.sl
   have L9 := hidI (hv.tag (w8.heap.size + 0) (by simp))
   clear hv
   have A9 : Hid (w9.heap[w.heap.size]? = some (.cells #[pR R] 46)) := keptBut g A8.out (by have := Z20.out; omega)
   have B9 : Hid (w9.heap[w.heap.size + 1]? = some (.cells #[.int .i64 0,.int .i64 0,.string ⟨#[]⟩,.bool false,.slice none 0 0,.slice none 0 0,.slice none 0 0,.slice none 0 0,.slice none 0 0,.int .i64 0,.int .i64 0,.int .i64 0,.int .i64 0] 94)) := keptBut g B8.out (by have := Z20.out; omega)
   have P9 : Hid (w9.heap[w1.heap.size]? = some (.cells #[.int .i64 5,.int .i64 0,.string k.x,.bool false,.slice none 0 0,.slice none 0 0,.slice none 0 0,.slice none 0 0,.slice none 0 0,.int .i64 lo,.int .i64 hi,.int .i64 st,.int .i64 0] 94)) := keptBut g P8.out (by have := Z20.out; omega)
   have G9 := hidI (gtr G8.out g)
   have C9 := hidI CC
   have S9 : Hid (w8.heap.size + 0 ≤ w9.heap.size) := hidI (by have := g.size; first | omega | (simp at this; omega) | (simp at this ⊢; omega))
   have Z21 := hidI (And.intro HR.out (And.intro S1.out (And.intro S2.out (And.intro S3.out (And.intro S4.out (And.intro S5.out (And.intro S6.out (And.intro S7.out (And.intro S8.out S9.out)))))))))
   clear g CC h ap aq ar af ag ah bp bq br bf bg bh pp pq pr pf pg ph
   obtain ⟨ap,aq,ar,af,ag,ah⟩ := facts A9.out
   obtain ⟨bp,bq,br,bf,bg,bh⟩ := facts B9.out
   obtain ⟨pp,pq,pr,pf,pg,ph⟩ := facts P9.out
   go_wp2_with fail
   refine (needW (C9.out.set (by have := Z21.out; omega) (by have := Z21.out; omega) _ _) _ [⟨#[101,110,100,95,102,111,114]⟩] _ _ _ (by simp) rfl rfl (by decide)).mono ?_
   intro e w10 h
   rcases h.get with ⟨_,t10,v10,r10,rfl,rfl,CC,g⟩ | ⟨cc,aa,r10,rfl,g⟩
   rotate_left
   · exact ⟨rfl,Out.bad (by rw [forP]; (first | rw [r1] | exact r1); try rw [bindOk]; (first | rw [r2] | exact r2); try rw [bindOk]; (first | rw [r3] | exact r3); try rw [bindOk]; (first | rw [r4] | exact r4); try rw [bindOk]; (first | rw [r5] | exact r5); try rw [bindOk]; (first | rw [r6] | exact r6); try rw [bindOk]; rw [if_pos rfl]; (first | rw [r7] | exact r7); try rw [bindOk]; (first | rw [r8] | exact r8); try rw [bindOk]; (first | rw [r9] | exact r9); try rw [bindOk]; (first | (rw [r10]; done) | (rw [r10]; rfl) | exact r10)) (gtr (gr_alloc (gr_ow2 G9.out (by have := Z21.out; omega) _ _) _) g)⟩
   have A10 : Hid (w10.heap[w.heap.size]? = some (.cells #[pR R] 46)) := keptBut g (old (keepS A9.out (by have := Z21.out; omega)) _) (by have := Z21.out; omega)
   have B10 : Hid (w10.heap[w.heap.size + 1]? = some (.cells #[.int .i64 0,.int .i64 0,.string ⟨#[]⟩,.bool false,.slice none 0 0,.slice none 0 0,.slice none 0 0,.slice none 0 0,.slice none 0 0,.int .i64 0,.int .i64 0,.int .i64 0,.int .i64 0] 94)) := keptBut g (old (keepS B9.out (by have := Z21.out; omega)) _) (by have := Z21.out; omega)
   have P10 : Hid (w10.heap[w1.heap.size]? = some (.cells #[.int .i64 5,.int .i64 0,.string k.x,.bool false,.slice none 0 0,.slice none 0 0,.slice none 0 0,.slice none 0 0,.slice lx bd.length lc,.int .i64 lo,.int .i64 hi,.int .i64 st,.int .i64 0] 94)) := keptBut g (by simpa using (old (at_set P9.out 8 (.slice lx bd.length lc)) _)) (by have := Z21.out; omega)
   have G10 := hidI (gtr (gr_alloc (gr_ow2 G9.out (by have := Z21.out; omega) _ _) _) g)
   have C10 := hidI CC
   have S10 : Hid (w9.heap.size + 1 ≤ w10.heap.size) := hidI (by have := g.size; first | omega | (simp at this; omega) | (simp at this ⊢; omega))
   have Z22 := hidI (And.intro HR.out (And.intro S1.out (And.intro S2.out (And.intro S3.out (And.intro S4.out (And.intro S5.out (And.intro S6.out (And.intro S7.out (And.intro S8.out (And.intro S9.out S10.out))))))))))
   have L10 := hidI ((Li.g (Li.al (Li.g L9.out (gr_set (World.grownBy.refl _ _) _ _) (fun b hb => by obtain ⟨h1,h2⟩ := hb; have := Z21.out; omega)) _) g (fun b hb => by obtain ⟨h1,h2⟩ := hb; have := Z21.out; omega)))
   clear g CC h ap aq ar af ag ah bp bq br bf bg bh pp pq pr pf pg ph
   obtain ⟨ap,aq,ar,af,ag,ah⟩ := facts A10.out
   obtain ⟨bp,bq,br,bf,bg,bh⟩ := facts B10.out
   obtain ⟨pp,pq,pr,pf,pg,ph⟩ := facts P10.out
   go_wp2_with fail
   have hP : forP F (lisP F (s.size + 2) d) t = .ok (.mk 5 0 k.x false [] [] [] [] bd lo hi st 0) (t10) := by rw [forP]; (first | rw [r1] | exact r1); try rw [bindOk]; (first | rw [r2] | exact r2); try rw [bindOk]; (first | rw [r3] | exact r3); try rw [bindOk]; (first | rw [r4] | exact r4); try rw [bindOk]; (first | rw [r5] | exact r5); try rw [bindOk]; (first | rw [r6] | exact r6); try rw [bindOk]; rw [if_pos rfl]; (first | rw [r7] | exact r7); try rw [bindOk]; (first | rw [r8] | exact r8); try rw [bindOk]; (first | rw [r9] | exact r9); try rw [bindOk]; (first | rw [r10] | exact r10); try rw [bindOk]
   refine bodyPost_ret (resBox rfl _ _ (w.heap.size + 1) _ rfl (ld94 (box13 B10.out))) rfl (Out.ok hP ?_ ?_ ?_)
   · exact ⟨⟨_,_,_,_,.slice lx bd.length lc⟩,rfl,⟨Xs.nil _ _,Li.nil _ _⟩,ms0 _ _,ss0 _ _,Li.ss (Li.imp2 (Li.g L10.out (gr13 (World.grownBy.refl _ _)) (fun b hb => by obtain ⟨h1,h2⟩ := hb; have := Z22.out; omega)) (fun b _ hb => (by obtain ⟨h1,h2⟩ := hb; have := Z22.out; omega : w.heap.size ≤ b)))⟩
   · exact C10.out.gq (gr13 (World.grownBy.refl _ _)) (by have := Z22.out; omega) (by have := Z22.out; omega)
   · exact gr13o G10.out (by have := Z22.out; omega)
end
end Go.Proofs.YtdcoidmbainkmaaGreatDoor
