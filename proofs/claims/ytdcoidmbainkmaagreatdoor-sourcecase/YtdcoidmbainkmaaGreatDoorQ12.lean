/- Texts put together: Rf. -/
import Derived.Test.YtdcoidmbainkmaaGreatDoorQ11
namespace Go.Proofs.YtdcoidmbainkmaaGreatDoor
open Go.RowKit
attribute [local go_sem ↓] Go.wp_at_zero Go.wp_at_succ
set_option linter.unusedVariables false
set_option linter.unusedSimpArgs false
def StP (w : World) : World → Value → PS → Prop := fun w' v p => ∃ q,v = .agg (sC p q).toArray ∧ sS w' (nw w) p q
theorem ss0 (w : World) (ok : Nat → Prop) : Sm w ok (.slice none 0 0) (.inl []) := Li.ss (Li.nil _ _)
theorem ms0 (w : World) (ok : Nat → Prop) : Sm w ok (.slice none 0 0) (.inr []) := Li.ms (Li.nil _ _)
theorem Li.tag {α Q : Type} {K : Kd α Q} {T : Nat} {w0 w : World} {v : Value} {l : List α} (h : Li K T w (nw w0) v l) (lo : Nat) (hlo : lo ≤ w0.heap.size) : Li K T w (bt lo w.heap.size) v l := h.imp (fun b hb (h : w0.heap.size ≤ b) => ⟨by omega,hb⟩)
theorem Li.g {α Q : Type} {K : Kd α Q} {T : Nat} {w w' : World} {ok : Nat → Prop} {q : Nat} {v : Value} {l : List α} (h : Li K T w ok v l) (hg : w.grownBy w' (some q)) (hq : ∀ b,ok b → b ≠ q) : Li K T w' ok v l := h.kept (fun b hb hl => hg.block b hl (by have := hq b hb; simp; omega)) hg.size
theorem Li.fin {α Q : Type} {K : Kd α Q} {T : Nat} {w0 w w' : World} {lo hi q : Nat} {v : Value} {l : List α} (h : Li K T w (bt lo hi) v l) (hg : w.grownBy w' (some q)) (hq : q < lo ∨ hi ≤ q) (hl : w0.heap.size ≤ lo) : Li K T w' (nw w0) v l :=
 (h.g hg (fun b hb => by obtain ⟨h1,h2⟩ := hb; omega)).imp (fun b _ hb => (by obtain ⟨h1,h2⟩ := hb; omega : w0.heap.size ≤ b))
theorem Li.st {α Q : Type} {K : Kd α Q} {T : Nat} {w : World} {lo hi q i : Nat} {x v : Value} {l : List α} (h : Li K T w (bt lo hi) v l) (hq : q < lo ∨ hi ≤ q) : Li K T (w.setCell ⟨q,i,none⟩ x) (bt lo hi) v l := h.g (gr_set (World.grownBy.refl _ _) _ _) (fun b hb => by obtain ⟨h1,h2⟩ := hb; omega)
section
variable {V : World} {F : Int → Tok} {R : Nat} {s : ByteArray} {u : Int}
set_option maxRecDepth 10000 in
set_option maxHeartbeats 4000000 in
theorem named_any (d : Nat) (hd : d ≤ 39) (w : World) (t : Tok) (dp : Int) (hdp : dp = 41 - d) (C : Cx V F R s u w t) : Calls Tryz.prog 112 #[rV R,.int .i64 dp] w (Out V F R s u w (namP F (s.size + 2) (exP F (s.size + 2) d) t) (StP w)) := by
 have HE : Hid (ExC V F R s u d) := expr_any d (by omega)
 have HD : Hid (dp = 41 - (d : Int)) := hdp
 clear hdp
 have HC : Hid (Cx V F R s u w t) := C
 have C0 := HC
 have G0 : Hid (w.grownBy w (some R)) := World.grownBy.refl _ _
 have HR : Hid (R < w.heap.size ∧ 15 ≤ w.heap.size ∧ 15 ≤ R) := ⟨C.lt,C.sz,C.r15⟩
 clear C
 go_enter Tryz.func112,Tryz.ntmps112
 go_wp2_with fail
 refine (name_any ((C0.out.al _).al _)).mono ?_
 intro e w1 h
 rcases h.get with ⟨k,t1,v1,r1,rfl,rfl,CC,g⟩ | ⟨cc,aa,r1,rfl,g⟩
 rotate_left
 · exact ⟨rfl,Out.bad (by rw [namP]; (first | (rw [r1]; done) | (rw [r1]; rfl) | exact r1)) (gtr (gr_alloc (gr_alloc G0.out _) _) g)⟩
 have A1 : Hid (w1.heap[w.heap.size]? = some (.cells #[pR R] 46)) := keptBut g (old (hp_new (by first | rfl | simp) _) _) (by have := HR.out; omega)
 have B1 : Hid (w1.heap[w.heap.size + 1]? = some (.cells #[.int .i64 0,.int .i64 0,.string ⟨#[]⟩,.bool false,.slice none 0 0,.slice none 0 0,.slice none 0 0,.slice none 0 0,.slice none 0 0,.int .i64 0,.int .i64 0,.int .i64 0,.int .i64 0] 94)) := keptBut g (hp_new (by first | rfl | simp) _) (by have := HR.out; omega)
 have G1 := hidI (gtr (gr_alloc (gr_alloc G0.out _) _) g)
 have C1 := hidI CC
 have S1 : Hid (w.heap.size + 2 ≤ w1.heap.size) := hidI (by have := g.size; first | omega | (simp at this; omega) | (simp at this ⊢; omega))
 clear g CC h
 obtain ⟨ap,aq,ar,af,ag,ah⟩ := facts A1.out
 obtain ⟨bp,bq,br,bf,bg,bh⟩ := facts B1.out
 go_wp2_with fail
 refine (needW (C1.out.al _) _ [⟨#[58,61]⟩,⟨#[91]⟩,⟨#[40]⟩] _ _ _ (by simp) rfl rfl (by decide)).mono ?_
 intro e w2 h
 rcases h.get with ⟨m,t2,v2,r2,rfl,rfl,CC,g⟩ | ⟨cc,aa,r2,rfl,g⟩
 rotate_left
 · exact ⟨rfl,Out.bad (by rw [namP]; (first | rw [r1] | exact r1); try rw [bindOk]; (first | (rw [r2]; done) | (rw [r2]; rfl) | exact r2)) (gtr (gr_alloc (gr_alloc G1.out _) _) g)⟩
 have A2 : Hid (w2.heap[w.heap.size]? = some (.cells #[pR R] 46)) := keptBut g (old (old A1.out _) _) (by have := HR.out; have := S1.out; omega)
 have B2 : Hid (w2.heap[w.heap.size + 1]? = some (.cells #[.int .i64 0,.int .i64 0,.string ⟨#[]⟩,.bool false,.slice none 0 0,.slice none 0 0,.slice none 0 0,.slice none 0 0,.slice none 0 0,.int .i64 0,.int .i64 0,.int .i64 0,.int .i64 0] 94)) := keptBut g (old (old B1.out _) _) (by have := HR.out; have := S1.out; omega)
 have P2 : Hid (w2.heap[w1.heap.size]? = some (.cells #[.int .i64 1,.int .i64 0,.string k.x,.bool false,.slice none 0 0,.slice none 0 0,.slice none 0 0,.slice none 0 0,.slice none 0 0,.int .i64 0,.int .i64 0,.int .i64 0,.int .i64 0] 94)) := keptBut g (old (hp_new (by first | rfl | simp) _) _) (by have := HR.out; have := S1.out; omega)
 have G2 := hidI (gtr (gr_alloc (gr_alloc G1.out _) _) g)
 have C2 := hidI CC
 have S2 : Hid (w1.heap.size + 2 ≤ w2.heap.size) := hidI (by have := g.size; first | omega | (simp at this; omega) | (simp at this ⊢; omega))
 have Zq1 := hidI (And.intro HR.out (And.intro S1.out S2.out))
 clear g CC h ap aq ar af ag ah bp bq br bf bg bh
 obtain ⟨ap,aq,ar,af,ag,ah⟩ := facts A2.out
 obtain ⟨bp,bq,br,bf,bg,bh⟩ := facts B2.out
 obtain ⟨pp,pq,pr,pf,pg,ph⟩ := facts P2.out
 have nBP : w.heap.size + 1 ≠ w1.heap.size := by have := Zq1.out; omega
 have nPB : w1.heap.size ≠ w.heap.size + 1 := by have := Zq1.out; omega
 have nAP : w.heap.size ≠ w1.heap.size := by have := Zq1.out; omega
 have nPA : w1.heap.size ≠ w.heap.size := by have := Zq1.out; omega
 have nAB : w.heap.size ≠ w.heap.size + 1 := by have := Zq1.out; omega
 have nBA : w.heap.size + 1 ≠ w.heap.size := by have := Zq1.out; omega
 have hX := fldX m
 by_cases h1 : m.x = ⟨#[58,61]⟩
 · have h1' : (m.x.toList == [58,61]) = true := by rw [eqS]; simpa using h1
   have H1 := hidI h1
   clear h1
   go_wp2_with fail
   refine (HE.out _ _ dp HD.out C2.out).mono ?_
   intro e w3 h
   rcases h.get with ⟨e1,t3,v3,r3,rfl,hv,CC,g⟩ | ⟨cc,aa,r3,rfl,g⟩
   rotate_left
   · exact ⟨rfl,Out.bad (by rw [namP]; (first | rw [r1] | exact r1); try rw [bindOk]; (first | rw [r2] | exact r2); try rw [bindOk]; rw [if_pos H1.out]; (first | (rw [r3]; done) | (rw [r3]; rfl) | exact r3)) (gtr G2.out g)⟩
   rcases e1 with ⟨f1,o1,kd1,n1,nm1,pt1,a1,ks1⟩
   obtain ⟨kx1,kc1,rfl,hx⟩ := Xe_sl hv
   have X3 := hidI (hx.tag (w2.heap.size + 0) (by simp))
   clear hx hv
   have A3 : Hid (w3.heap[w.heap.size]? = some (.cells #[pR R] 46)) := keptBut g A2.out (by have := Zq1.out; omega)
   have B3 : Hid (w3.heap[w.heap.size + 1]? = some (.cells #[.int .i64 0,.int .i64 0,.string ⟨#[]⟩,.bool false,.slice none 0 0,.slice none 0 0,.slice none 0 0,.slice none 0 0,.slice none 0 0,.int .i64 0,.int .i64 0,.int .i64 0,.int .i64 0] 94)) := keptBut g B2.out (by have := Zq1.out; omega)
   have P3 : Hid (w3.heap[w1.heap.size]? = some (.cells #[.int .i64 1,.int .i64 0,.string k.x,.bool false,.slice none 0 0,.slice none 0 0,.slice none 0 0,.slice none 0 0,.slice none 0 0,.int .i64 0,.int .i64 0,.int .i64 0,.int .i64 0] 94)) := keptBut g P2.out (by have := Zq1.out; omega)
   have G3 := hidI (gtr G2.out g)
   have C3 := hidI CC
   have S3 : Hid (w2.heap.size + 0 ≤ w3.heap.size) := hidI (by have := g.size; first | omega | (simp at this; omega) | (simp at this ⊢; omega))
   have Zq2 := hidI (And.intro HR.out (And.intro S1.out (And.intro S2.out S3.out)))
   clear g CC h ap aq ar af ag ah bp bq br bf bg bh pp pq pr pf pg ph
   have Y3 := hidI (xs_one (W := w3) (ok := av w.heap.size (w.heap.size + 1) w1.heap.size) (e := .mk f1 o1 kd1 n1 nm1 pt1 a1 ks1) (X3.out.imp (fun b _ hb => (by obtain ⟨h1,h2⟩ := hb; exact ⟨by have := Zq2.out; omega,by have := Zq2.out; omega,by have := Zq2.out; omega⟩))) ⟨by have := Zq2.out; omega,by have := Zq2.out; omega,by have := Zq2.out; omega⟩)
   obtain ⟨ap,aq,ar,af,ag,ah⟩ := facts A3.out
   obtain ⟨bp,bq,br,bf,bg,bh⟩ := facts B3.out
   obtain ⟨pp,pq,pr,pf,pg,ph⟩ := facts P3.out
   go_wp2_with fail
   have hP : namP F (s.size + 2) (exP F (s.size + 2) d) t = .ok (.mk 1 0 k.x false [.mk f1 o1 kd1 n1 nm1 pt1 a1 ks1] [] [] [] [] 0 0 0 0) (t3) := by rw [namP]; (first | rw [r1] | exact r1); try rw [bindOk]; (first | rw [r2] | exact r2); try rw [bindOk]; rw [if_pos H1.out]; (first | rw [r3] | exact r3); try rw [bindOk]
   refine bodyPost_ret (resBox rfl _ _ (w.heap.size + 1) _ rfl (ld94 (box13 (keepS (old B3.out _) (by have := Zq2.out; omega))))) rfl (Out.ok hP ?_ ?_ ?_)
   · exact ⟨⟨.slice (some ⟨w3.heap.size,0,none⟩) 1 1,_,_,_,_⟩,rfl,⟨((Y3.out.g (gr_set (World.grownBy.refl _ _) _ _) (fun b hb => hb.2.2)).g (gr13 (World.grownBy.refl _ _)) (fun b hb => hb.2.1)).imp (fun b _ hb => hb.1),Li.nil _ _⟩,ms0 _ _,ss0 _ _,ss0 _ _⟩
   · exact ((C3.out.al _).set (by have := Zq2.out; omega) (by have := Zq2.out; omega) _ _).gq (gr13 (World.grownBy.refl _ _)) (by have := Zq2.out; omega) (by have := Zq2.out; omega)
   · exact gr13o (gr_ow2 (gr_alloc G3.out _) (by have := Zq2.out; omega) _ _) (by have := Zq2.out; omega)
 have h1' : (m.x.toList == [58,61]) = false := by rw [eqS]; simpa using h1
 by_cases h2 : m.x = ⟨#[91]⟩
 · have h2' : (m.x.toList == [91]) = true := by rw [eqS]; simpa using h2
   have H2 := hidI h2
   have H1 := hidI h1
   clear h2 h1
   go_wp2_with fail
   refine (HE.out _ _ dp HD.out (C2.out.set (by have := Zq1.out; omega) (by have := Zq1.out; omega) _ _)).mono ?_
   intro e w3 h
   rcases h.get with ⟨e1,t3,v3,r3,rfl,hv,CC,g⟩ | ⟨cc,aa,r3,rfl,g⟩
   rotate_left
   · exact ⟨rfl,Out.bad (by rw [namP]; (first | rw [r1] | exact r1); try rw [bindOk]; (first | rw [r2] | exact r2); try rw [bindOk]; rw [if_neg H1.out]; rw [if_pos H2.out]; (first | (rw [r3]; done) | (rw [r3]; rfl) | exact r3)) (gtr (gr_ow2 G2.out (by have := Zq1.out; omega) _ _) g)⟩
   rcases e1 with ⟨f1,o1,kd1,n1,nm1,pt1,a1,ks1⟩
   obtain ⟨kx1,kc1,rfl,hx⟩ := Xe_sl hv
   have X3 := hidI (hx.tag (w2.heap.size + 0) (by simp))
   clear hx hv
   have A3 : Hid (w3.heap[w.heap.size]? = some (.cells #[pR R] 46)) := keptBut g (keepS A2.out (by have := Zq1.out; omega)) (by have := Zq1.out; omega)
   have B3 : Hid (w3.heap[w.heap.size + 1]? = some (.cells #[.int .i64 0,.int .i64 0,.string ⟨#[]⟩,.bool false,.slice none 0 0,.slice none 0 0,.slice none 0 0,.slice none 0 0,.slice none 0 0,.int .i64 0,.int .i64 0,.int .i64 0,.int .i64 0] 94)) := keptBut g (keepS B2.out (by have := Zq1.out; omega)) (by have := Zq1.out; omega)
   have P3 : Hid (w3.heap[w1.heap.size]? = some (.cells #[.int .i64 1,.int .i64 0,.string k.x,.bool true,.slice none 0 0,.slice none 0 0,.slice none 0 0,.slice none 0 0,.slice none 0 0,.int .i64 0,.int .i64 0,.int .i64 0,.int .i64 0] 94)) := keptBut g (by simpa using (at_set P2.out 3 (.bool true))) (by have := Zq1.out; omega)
   have G3 := hidI (gtr (gr_ow2 G2.out (by have := Zq1.out; omega) _ _) g)
   have C3 := hidI CC
   have S3 : Hid (w2.heap.size + 0 ≤ w3.heap.size) := hidI (by have := g.size; first | omega | (simp at this; omega) | (simp at this ⊢; omega))
   have Zq3 := hidI (And.intro HR.out (And.intro S1.out (And.intro S2.out S3.out)))
   clear g CC h ap aq ar af ag ah bp bq br bf bg bh pp pq pr pf pg ph
   obtain ⟨ap,aq,ar,af,ag,ah⟩ := facts A3.out
   obtain ⟨bp,bq,br,bf,bg,bh⟩ := facts B3.out
   obtain ⟨pp,pq,pr,pf,pg,ph⟩ := facts P3.out
   go_wp2_with fail
   refine (needW (C3.out.al _) _ [⟨#[93]⟩] _ _ _ (by simp) rfl rfl (by decide)).mono ?_
   intro e w4 h
   rcases h.get with ⟨_,t4,v4,r4,rfl,rfl,CC,g⟩ | ⟨cc,aa,r4,rfl,g⟩
   rotate_left
   · exact ⟨rfl,Out.bad (by rw [namP]; (first | rw [r1] | exact r1); try rw [bindOk]; (first | rw [r2] | exact r2); try rw [bindOk]; rw [if_neg H1.out]; rw [if_pos H2.out]; (first | rw [r3] | exact r3); try rw [bindOk]; (first | (rw [r4]; done) | (rw [r4]; rfl) | exact r4)) (gtr (gr_alloc (gr_alloc G3.out _) _) g)⟩
   have X4 := hidI (((X3.out.al _).al _).cg g (by have := Zq3.out; omega))
   have A4 : Hid (w4.heap[w.heap.size]? = some (.cells #[pR R] 46)) := keptBut g (old (old A3.out _) _) (by have := Zq3.out; omega)
   have B4 : Hid (w4.heap[w.heap.size + 1]? = some (.cells #[.int .i64 0,.int .i64 0,.string ⟨#[]⟩,.bool false,.slice none 0 0,.slice none 0 0,.slice none 0 0,.slice none 0 0,.slice none 0 0,.int .i64 0,.int .i64 0,.int .i64 0,.int .i64 0] 94)) := keptBut g (old (old B3.out _) _) (by have := Zq3.out; omega)
   have P4 : Hid (w4.heap[w1.heap.size]? = some (.cells #[.int .i64 1,.int .i64 0,.string k.x,.bool true,.slice none 0 0,.slice none 0 0,.slice none 0 0,.slice none 0 0,.slice none 0 0,.int .i64 0,.int .i64 0,.int .i64 0,.int .i64 0] 94)) := keptBut g (old (old P3.out _) _) (by have := Zq3.out; omega)
   have I4 : Hid (w4.heap[w3.heap.size]? = some (.cells #[.int .i64 f1,.int .i64 o1,.int .i64 kd1,.int .i64 n1,.string nm1,.string pt1,.int .i64 a1,.slice kx1 ks1.length kc1] 61)) := keptBut g (old (hp_new (by first | rfl | simp) _) _) (by have := Zq3.out; omega)
   have G4 := hidI (gtr (gr_alloc (gr_alloc G3.out _) _) g)
   have C4 := hidI CC
   have S4 : Hid (w3.heap.size + 2 ≤ w4.heap.size) := hidI (by have := g.size; first | omega | (simp at this; omega) | (simp at this ⊢; omega))
   have Zq4 := hidI (And.intro HR.out (And.intro S1.out (And.intro S2.out (And.intro S3.out S4.out))))
   clear g CC h ap aq ar af ag ah bp bq br bf bg bh pp pq pr pf pg ph
   obtain ⟨ap,aq,ar,af,ag,ah⟩ := facts A4.out
   go_wp2_with fail
   refine (needW C4.out _ [⟨#[58,61]⟩] _ _ _ (by simp) rfl rfl (by decide)).mono ?_
   intro e w5 h
   rcases h.get with ⟨_,t5,v5,r5,rfl,rfl,CC,g⟩ | ⟨cc,aa,r5,rfl,g⟩
   rotate_left
   · exact ⟨rfl,Out.bad (by rw [namP]; (first | rw [r1] | exact r1); try rw [bindOk]; (first | rw [r2] | exact r2); try rw [bindOk]; rw [if_neg H1.out]; rw [if_pos H2.out]; (first | rw [r3] | exact r3); try rw [bindOk]; (first | rw [r4] | exact r4); try rw [bindOk]; (first | (rw [r5]; done) | (rw [r5]; rfl) | exact r5)) (gtr (gr_alloc G4.out _) g)⟩
   have X5 := hidI ((X4.out.al _).cg g (by have := Zq4.out; omega))
   have A5 : Hid (w5.heap[w.heap.size]? = some (.cells #[pR R] 46)) := keptBut g (old A4.out _) (by have := Zq4.out; omega)
   have B5 : Hid (w5.heap[w.heap.size + 1]? = some (.cells #[.int .i64 0,.int .i64 0,.string ⟨#[]⟩,.bool false,.slice none 0 0,.slice none 0 0,.slice none 0 0,.slice none 0 0,.slice none 0 0,.int .i64 0,.int .i64 0,.int .i64 0,.int .i64 0] 94)) := keptBut g (old B4.out _) (by have := Zq4.out; omega)
   have P5 : Hid (w5.heap[w1.heap.size]? = some (.cells #[.int .i64 1,.int .i64 0,.string k.x,.bool true,.slice none 0 0,.slice none 0 0,.slice none 0 0,.slice none 0 0,.slice none 0 0,.int .i64 0,.int .i64 0,.int .i64 0,.int .i64 0] 94)) := keptBut g (old P4.out _) (by have := Zq4.out; omega)
   have I5 : Hid (w5.heap[w3.heap.size]? = some (.cells #[.int .i64 f1,.int .i64 o1,.int .i64 kd1,.int .i64 n1,.string nm1,.string pt1,.int .i64 a1,.slice kx1 ks1.length kc1] 61)) := keptBut g (old I4.out _) (by have := Zq4.out; omega)
   have G5 := hidI (gtr (gr_alloc G4.out _) g)
   have C5 := hidI CC
   have S5 : Hid (w4.heap.size + 1 ≤ w5.heap.size) := hidI (by have := g.size; first | omega | (simp at this; omega) | (simp at this ⊢; omega))
   clear g CC h ap aq ar af ag ah
   obtain ⟨ap,aq,ar,af,ag,ah⟩ := facts A5.out
   go_wp2_with fail
   have C6 := hidI C5.out.drew
   have G6 := hidI (gr_drew G5.out)
   have S6 : Hid (w5.heap.size ≤ w5.drew.heap.size) := Nat.le_refl _
   have Zq5 := hidI (And.intro HR.out (And.intro S1.out (And.intro S2.out (And.intro S3.out (And.intro S4.out (And.intro S5.out S6.out))))))
   have A6 : Hid (w5.drew.heap[w.heap.size]? = some (.cells #[pR R] 46)) := A5.out
   have B6 : Hid (w5.drew.heap[w.heap.size + 1]? = some (.cells #[.int .i64 0,.int .i64 0,.string ⟨#[]⟩,.bool false,.slice none 0 0,.slice none 0 0,.slice none 0 0,.slice none 0 0,.slice none 0 0,.int .i64 0,.int .i64 0,.int .i64 0,.int .i64 0] 94)) := B5.out
   have P6 : Hid (w5.drew.heap[w1.heap.size]? = some (.cells #[.int .i64 1,.int .i64 0,.string k.x,.bool true,.slice none 0 0,.slice none 0 0,.slice none 0 0,.slice none 0 0,.slice none 0 0,.int .i64 0,.int .i64 0,.int .i64 0,.int .i64 0] 94)) := P5.out
   have I6 : Hid (w5.drew.heap[w3.heap.size]? = some (.cells #[.int .i64 f1,.int .i64 o1,.int .i64 kd1,.int .i64 n1,.string nm1,.string pt1,.int .i64 a1,.slice kx1 ks1.length kc1] 61)) := I5.out
   have X6 := hidI (X5.out.gn (w0 := w) (gr_drew (World.grownBy.refl w5 none)))
   clear ap aq ar af ag ah
   have hHeld : (fun w' : World => w'.cell? ⟨w.heap.size,0,none⟩ = some (pR R) ∧ w'.cell? ⟨w3.heap.size,0,none⟩ = some (.int .i64 f1) ∧ w'.cell? ⟨w3.heap.size,1,none⟩ = some (.int .i64 o1) ∧ w'.cell? ⟨w3.heap.size,2,none⟩ = some (.int .i64 kd1) ∧ w'.cell? ⟨w3.heap.size,3,none⟩ = some (.int .i64 n1) ∧ w'.cell? ⟨w3.heap.size,4,none⟩ = some (.string nm1) ∧ w'.cell? ⟨w3.heap.size,5,none⟩ = some (.string pt1) ∧ w'.cell? ⟨w3.heap.size,6,none⟩ = some (.int .i64 a1) ∧ w'.cell? ⟨w3.heap.size,7,none⟩ = some (.slice kx1 ks1.length kc1)) w5.drew := ⟨by simpa using at_cell A6.out 0,by simpa using at_cell I6.out 0,by simpa using at_cell I6.out 1,by simpa using at_cell I6.out 2,by simpa using at_cell I6.out 3,by simpa using at_cell I6.out 4,by simpa using at_cell I6.out 5,by simpa using at_cell I6.out 6,by simpa using at_cell I6.out 7⟩
   refine wp_region_L (L := 6) (S := (fun w' : World => w'.cell? ⟨w.heap.size,0,none⟩ = some (pR R) ∧ w'.cell? ⟨w3.heap.size,0,none⟩ = some (.int .i64 f1) ∧ w'.cell? ⟨w3.heap.size,1,none⟩ = some (.int .i64 o1) ∧ w'.cell? ⟨w3.heap.size,2,none⟩ = some (.int .i64 kd1) ∧ w'.cell? ⟨w3.heap.size,3,none⟩ = some (.int .i64 n1) ∧ w'.cell? ⟨w3.heap.size,4,none⟩ = some (.string nm1) ∧ w'.cell? ⟨w3.heap.size,5,none⟩ = some (.string pt1) ∧ w'.cell? ⟨w3.heap.size,6,none⟩ = some (.int .i64 a1) ∧ w'.cell? ⟨w3.heap.size,7,none⟩ = some (.slice kx1 ks1.length kc1))) (by kernel_rfl) ?_
   refine wpAnyL_take (i := 0) (v := ?_) rfl (by kernel_rfl) (by kernel_rfl) (by kernel_rfl) (fun _ _ _ h => h) (by kernel_rfl) (by kernel_rfl) (Or.inl ⟨by rfl,?_⟩) hHeld ?_
   rotate_left
   · intro w hSw
     try dsimp only at hSw
     go_simp
     try with_reducible rfl
   try simp only [Act.put,List.setIfInBounds_toArray,List.set_cons_zero,List.set_cons_succ]
   refine wpAnyL_take (i := 1) (v := ?_) rfl (by kernel_rfl) (by kernel_rfl) (by kernel_rfl) (fun _ _ _ h => h) (by kernel_rfl) (by kernel_rfl) (Or.inl ⟨by rfl,?_⟩) hHeld ?_
   rotate_left
   · intro w hSw
     try dsimp only at hSw
     go_simp
     try with_reducible rfl
   try simp only [Act.put,List.setIfInBounds_toArray,List.set_cons_zero,List.set_cons_succ]
   refine wpAnyL_take (i := 3) (v := ?_) rfl (by kernel_rfl) (by kernel_rfl) (by kernel_rfl) (fun _ _ _ h => h) (by kernel_rfl) (by kernel_rfl) (Or.inl ⟨by rfl,?_⟩) hHeld ?_
   rotate_left
   · intro w hSw
     try dsimp only at hSw
     go_simp
     try with_reducible rfl
   try simp only [Act.put,List.setIfInBounds_toArray,List.set_cons_zero,List.set_cons_succ]
   refine wpAnyL_one (j := 2) (by kernel_rfl) rfl (fun K hK => ?_)
   go_simp
   refine (HE.out _ _ dp HD.out C6.out).mono ?_
   intro e w7 h
   rcases h.get with ⟨e2,t7,v7,r7,rfl,hv,CC,g⟩ | ⟨cc,aa,r7,rfl,g⟩
   rotate_left
   · exact ⟨rfl,Out.bad (by rw [namP]; (first | rw [r1] | exact r1); try rw [bindOk]; (first | rw [r2] | exact r2); try rw [bindOk]; rw [if_neg H1.out]; rw [if_pos H2.out]; (first | rw [r3] | exact r3); try rw [bindOk]; (first | rw [r4] | exact r4); try rw [bindOk]; (first | rw [r5] | exact r5); try rw [bindOk]; (first | (rw [r7]; done) | (rw [r7]; rfl) | exact r7)) (gtr G6.out g)⟩
   have X7 := hidI (X6.out.cg g (by have := Zq5.out; omega))
   rcases e2 with ⟨f2,o2,kd2,n2,nm2,pt2,a2,ks2⟩
   obtain ⟨kx2,kc2,rfl,hx⟩ := Xe_sl hv
   have Z7 := hidI (hx.tag (w5.drew.heap.size + 0) (by simp))
   clear hx hv
   have A7 : Hid (w7.heap[w.heap.size]? = some (.cells #[pR R] 46)) := keptBut g A6.out (by have := Zq5.out; omega)
   have B7 : Hid (w7.heap[w.heap.size + 1]? = some (.cells #[.int .i64 0,.int .i64 0,.string ⟨#[]⟩,.bool false,.slice none 0 0,.slice none 0 0,.slice none 0 0,.slice none 0 0,.slice none 0 0,.int .i64 0,.int .i64 0,.int .i64 0,.int .i64 0] 94)) := keptBut g B6.out (by have := Zq5.out; omega)
   have P7 : Hid (w7.heap[w1.heap.size]? = some (.cells #[.int .i64 1,.int .i64 0,.string k.x,.bool true,.slice none 0 0,.slice none 0 0,.slice none 0 0,.slice none 0 0,.slice none 0 0,.int .i64 0,.int .i64 0,.int .i64 0,.int .i64 0] 94)) := keptBut g P6.out (by have := Zq5.out; omega)
   have I7 : Hid (w7.heap[w3.heap.size]? = some (.cells #[.int .i64 f1,.int .i64 o1,.int .i64 kd1,.int .i64 n1,.string nm1,.string pt1,.int .i64 a1,.slice kx1 ks1.length kc1] 61)) := keptBut g I6.out (by have := Zq5.out; omega)
   have G7 := hidI (gtr G6.out g)
   have C7 := hidI CC
   have S7 : Hid (w5.drew.heap.size + 0 ≤ w7.heap.size) := hidI (by have := g.size; first | omega | (simp at this; omega) | (simp at this ⊢; omega))
   have Zq6 := hidI (And.intro HR.out (And.intro S1.out (And.intro S2.out (And.intro S3.out (And.intro S4.out (And.intro S5.out (And.intro S6.out S7.out)))))))
   clear g CC h
   have hHeld7 : (fun w' : World => w'.cell? ⟨w.heap.size,0,none⟩ = some (pR R) ∧ w'.cell? ⟨w3.heap.size,0,none⟩ = some (.int .i64 f1) ∧ w'.cell? ⟨w3.heap.size,1,none⟩ = some (.int .i64 o1) ∧ w'.cell? ⟨w3.heap.size,2,none⟩ = some (.int .i64 kd1) ∧ w'.cell? ⟨w3.heap.size,3,none⟩ = some (.int .i64 n1) ∧ w'.cell? ⟨w3.heap.size,4,none⟩ = some (.string nm1) ∧ w'.cell? ⟨w3.heap.size,5,none⟩ = some (.string pt1) ∧ w'.cell? ⟨w3.heap.size,6,none⟩ = some (.int .i64 a1) ∧ w'.cell? ⟨w3.heap.size,7,none⟩ = some (.slice kx1 ks1.length kc1)) w7 := ⟨by simpa using at_cell A7.out 0,by simpa using at_cell I7.out 0,by simpa using at_cell I7.out 1,by simpa using at_cell I7.out 2,by simpa using at_cell I7.out 3,by simpa using at_cell I7.out 4,by simpa using at_cell I7.out 5,by simpa using at_cell I7.out 6,by simpa using at_cell I7.out 7⟩
   have hHeldA : ∀ ob,(fun w' : World => w'.cell? ⟨w.heap.size,0,none⟩ = some (pR R) ∧ w'.cell? ⟨w3.heap.size,0,none⟩ = some (.int .i64 f1) ∧ w'.cell? ⟨w3.heap.size,1,none⟩ = some (.int .i64 o1) ∧ w'.cell? ⟨w3.heap.size,2,none⟩ = some (.int .i64 kd1) ∧ w'.cell? ⟨w3.heap.size,3,none⟩ = some (.int .i64 n1) ∧ w'.cell? ⟨w3.heap.size,4,none⟩ = some (.string nm1) ∧ w'.cell? ⟨w3.heap.size,5,none⟩ = some (.string pt1) ∧ w'.cell? ⟨w3.heap.size,6,none⟩ = some (.int .i64 a1) ∧ w'.cell? ⟨w3.heap.size,7,none⟩ = some (.slice kx1 ks1.length kc1)) (w7.alloc ob) := fun ob => ⟨by simpa using at_cell (old A7.out ob) 0,by simpa using at_cell (old I7.out ob) 0,by simpa using at_cell (old I7.out ob) 1,by simpa using at_cell (old I7.out ob) 2,by simpa using at_cell (old I7.out ob) 3,by simpa using at_cell (old I7.out ob) 4,by simpa using at_cell (old I7.out ob) 5,by simpa using at_cell (old I7.out ob) 6,by simpa using at_cell (old I7.out ob) 7⟩
   go_wp2_with fail
   refine hK.out _ _ (fun _ _ => hHeld7) ?_
   clear hK K
   try simp only [Act.put,List.setIfInBounds_toArray,List.set_cons_zero,List.set_cons_succ]
   refine wpAnyL_one (j := 4) (by kernel_rfl) rfl (fun K hK => ?_)
   go_simp
   refine hK.out _ _ (fun _ _ => hHeldA _) ?_
   clear hK K
   try simp only [Act.put,List.setIfInBounds_toArray,List.set_cons_zero,List.set_cons_succ]
   refine wpAnyL_free (i := 5) (v := ?_) rfl (by kernel_rfl) (by kernel_rfl) (by kernel_rfl) (fun _ _ _ h => h) (by decide) (Or.inl ⟨by rfl,?_⟩) (fun _ => hHeldA _) ?_
   rotate_left
   · intro w hSw
     go_simp
     try with_reducible rfl
   try simp only [Act.put,List.setIfInBounds_toArray,List.set_cons_zero,List.set_cons_succ]
   refine wpAnyL_one (j := 6) (by kernel_rfl) rfl (fun K hK => ?_)
   obtain ⟨sp,sq,sr,sf,sg,sh⟩ := facts P7.out
   go_simp
   refine hK.out _ _ (fun h => absurd rfl h) ?_
   clear hK K
   try simp only [Act.put,List.setIfInBounds_toArray,List.set_cons_zero,List.set_cons_succ]
   refine wpAnyL_done (by kernel_rfl) ?_ _
   obtain ⟨bp,bq,br,bf,bg,bh⟩ := facts B7.out
   obtain ⟨pp,pq,pr,pf,pg,ph⟩ := facts P7.out
   have Y7 := hidI (xs_two (W := w7) (ok := av w.heap.size (w.heap.size + 1) w1.heap.size) (e1 := .mk f2 o2 kd2 n2 nm2 pt2 a2 ks2) (e2 := .mk f1 o1 kd1 n1 nm1 pt1 a1 ks1) (Z7.out.imp (fun b _ hb => (by obtain ⟨h1,h2⟩ := hb; exact ⟨by have := Zq6.out; omega,by have := Zq6.out; omega,by have := Zq6.out; omega⟩))) (X7.out.imp (fun b _ hb => (by obtain ⟨h1,h2⟩ := hb; exact ⟨by have := Zq6.out; omega,by have := Zq6.out; omega,by have := Zq6.out; omega⟩))) ⟨by have := Zq6.out; omega,by have := Zq6.out; omega,by have := Zq6.out; omega⟩)
   go_wp2_with fail
   have hP : namP F (s.size + 2) (exP F (s.size + 2) d) t = .ok (.mk 1 0 k.x true [.mk f2 o2 kd2 n2 nm2 pt2 a2 ks2,.mk f1 o1 kd1 n1 nm1 pt1 a1 ks1] [] [] [] [] 0 0 0 0) (t7) := by rw [namP]; (first | rw [r1] | exact r1); try rw [bindOk]; (first | rw [r2] | exact r2); try rw [bindOk]; rw [if_neg H1.out]; rw [if_pos H2.out]; (first | rw [r3] | exact r3); try rw [bindOk]; (first | rw [r4] | exact r4); try rw [bindOk]; (first | rw [r5] | exact r5); try rw [bindOk]; (first | rw [r7] | exact r7); try rw [bindOk]
   refine bodyPost_ret (resBox rfl _ _ (w.heap.size + 1) _ rfl (ld94 (box13 (keepS (old B7.out _) (by have := Zq6.out; omega))))) rfl (Out.ok hP ?_ ?_ ?_)
   · exact ⟨⟨.slice (some ⟨w7.heap.size,0,none⟩) 2 2,_,_,_,_⟩,rfl,⟨((Y7.out.g (gr_set (World.grownBy.refl _ _) _ _) (fun b hb => hb.2.2)).g (gr13 (World.grownBy.refl _ _)) (fun b hb => hb.2.1)).imp (fun b _ hb => hb.1),Li.nil _ _⟩,ms0 _ _,ss0 _ _,ss0 _ _⟩
   · exact ((C7.out.al _).set (by have := Zq6.out; omega) (by have := Zq6.out; omega) _ _).gq (gr13 (World.grownBy.refl _ _)) (by have := Zq6.out; omega) (by have := Zq6.out; omega)
   · exact gr13o (gr_ow2 (gr_alloc G7.out _) (by have := Zq6.out; omega) _ _) (by have := Zq6.out; omega)
 have h2' : (m.x.toList == [91]) = false := by rw [eqS]; simpa using h2
 have h3 : m.x = ⟨#[40]⟩ := by
  have := (need_val C1.out.G r2).2.2.2
  simp at this
  rcases this with h | h | h
  · exact absurd h h1
  · exact absurd h h2
  · exact h
 have h3' : (m.x.toList == [40]) = true := by rw [eqS]; simpa using h3
 have H1 := hidI h1
 have H2 := hidI h2
 clear h1 h2 h3
 go_wp2_with fail
 refine (args_any d (by omega) _ _ dp HD.out (C2.out.set (by have := Zq1.out; omega) (by have := Zq1.out; omega) _ _)).mono ?_
 intro e w3 h
 rcases h.get with ⟨al1,t3,v3,r3,rfl,hv,CC,g⟩ | ⟨cc,aa,r3,rfl,g⟩
 rotate_left
 · exact ⟨rfl,Out.bad (by rw [namP]; (first | rw [r1] | exact r1); try rw [bindOk]; (first | rw [r2] | exact r2); try rw [bindOk]; rw [if_neg H1.out]; rw [if_neg H2.out]; (first | (rw [r3]; done) | (rw [r3]; rfl) | exact r3)) (gtr (gr_ow2 G2.out (by have := Zq1.out; omega) _ _) g)⟩
 obtain ⟨gx,gc,rfl⟩ := hv.sl
 have X3 := hidI (hv.tag w2.heap.size (by simp))
 clear hv
 have A3 : Hid (w3.heap[w.heap.size]? = some (.cells #[pR R] 46)) := keptBut g (keepS A2.out (by have := Zq1.out; omega)) (by have := Zq1.out; omega)
 have B3 : Hid (w3.heap[w.heap.size + 1]? = some (.cells #[.int .i64 0,.int .i64 0,.string ⟨#[]⟩,.bool false,.slice none 0 0,.slice none 0 0,.slice none 0 0,.slice none 0 0,.slice none 0 0,.int .i64 0,.int .i64 0,.int .i64 0,.int .i64 0] 94)) := keptBut g (keepS B2.out (by have := Zq1.out; omega)) (by have := Zq1.out; omega)
 have P3 : Hid (w3.heap[w1.heap.size]? = some (.cells #[.int .i64 2,.int .i64 0,.string k.x,.bool false,.slice none 0 0,.slice none 0 0,.slice none 0 0,.slice none 0 0,.slice none 0 0,.int .i64 0,.int .i64 0,.int .i64 0,.int .i64 0] 94)) := keptBut g (by simpa using (at_set P2.out 0 (.int .i64 2))) (by have := Zq1.out; omega)
 have G3 := hidI (gtr (gr_ow2 G2.out (by have := Zq1.out; omega) _ _) g)
 have C3 := hidI CC
 have S3 : Hid (w2.heap.size + 0 ≤ w3.heap.size) := hidI (by have := g.size; first | omega | (simp at this; omega) | (simp at this ⊢; omega))
 have Zq7 := hidI (And.intro HR.out (And.intro S1.out (And.intro S2.out S3.out)))
 clear g CC h ap aq ar af ag ah bp bq br bf bg bh pp pq pr pf pg ph
 obtain ⟨ap,aq,ar,af,ag,ah⟩ := facts A3.out
 obtain ⟨bp,bq,br,bf,bg,bh⟩ := facts B3.out
 obtain ⟨pp,pq,pr,pf,pg,ph⟩ := facts P3.out
 go_wp2_with fail
 have hP : namP F (s.size + 2) (exP F (s.size + 2) d) t = .ok (.mk 2 0 k.x false [] al1 [] [] [] 0 0 0 0) (t3) := by rw [namP]; (first | rw [r1] | exact r1); try rw [bindOk]; (first | rw [r2] | exact r2); try rw [bindOk]; rw [if_neg H1.out]; rw [if_neg H2.out]; (first | rw [r3] | exact r3); try rw [bindOk]
 refine bodyPost_ret (resBox rfl _ _ (w.heap.size + 1) _ rfl (ld94 (box13 (keepS B3.out (by have := Zq7.out; omega))))) rfl (Out.ok hP ?_ ?_ ?_)
 · exact ⟨⟨_,.slice gx al1.length gc,_,_,_⟩,rfl,⟨Xs.nil _ _,Li.fin (Li.st X3.out (by have := Zq7.out; omega)) (gr13 (World.grownBy.refl _ _)) (by have := Zq7.out; omega) (by have := Zq7.out; omega)⟩,ms0 _ _,ss0 _ _,ss0 _ _⟩
 · exact (C3.out.set (by have := Zq7.out; omega) (by have := Zq7.out; omega) _ _).gq (gr13 (World.grownBy.refl _ _)) (by have := Zq7.out; omega) (by have := Zq7.out; omega)
 · exact gr13o (gr_ow2 G3.out (by have := Zq7.out; omega) _ _) (by have := Zq7.out; omega)
end
end Go.Proofs.YtdcoidmbainkmaaGreatDoor
