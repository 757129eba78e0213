/- Texts put together: Ra. -/
import Derived.Test.YtdcoidmbainkmaaGreatDoorQ08
namespace Go.Proofs.YtdcoidmbainkmaaGreatDoor
open Go.RowKit
attribute [local go_sem ↓] Go.wp_at_zero Go.wp_at_succ
set_option linter.unusedVariables false
set_option linter.unusedSimpArgs false
section
variable {V : World} {F : Int → Tok} {R : Nat} {s : ByteArray} {u : Int}
set_option maxRecDepth 10000 in
set_option maxHeartbeats 4000000 in
theorem basic_any (d : Nat) (hd : d ≤ 39) (hE : ExC V F R s u d) (w : World) (t : Tok) (dp : Int) (hdp : dp = 40 - d) (C : Cx V F R s u w t) : Calls Tryz.prog 229 #[rV R,.int .i64 dp] w (Out V F R s u w (basP F (s.size + 2) (exP F (s.size + 2) d) t) (XeP w)) := by
 have b1 : 1 ≤ dp := by omega
 have b2 : dp ≤ 40 := by omega
 have HE : Hid (ExC V F R s u d) := hE
 have HD : Hid (dp = 40 - (d : Int)) := hdp
 clear hE hdp
 have HC : Hid (Cx V F R s u w t) := C
 have C0 := HC
 have G0 : Hid (w.grownBy w (some R)) := World.grownBy.refl _ _
 have HR : Hid (R < w.heap.size ∧ 15 ≤ w.heap.size ∧ 15 ≤ R) := ⟨C.lt,C.sz,C.r15⟩
 clear C
 go_enter Tryz.func229,Tryz.ntmps229
 go_wp2_with fail
 refine (takeO ((C0.out.al _).al _)).mono ?_
 intro e w1 h
 rcases h.get with ⟨k,t1,v1,r1,rfl,rfl,CC,g⟩ | ⟨cc,aa,r1,rfl,g⟩
 rotate_left
 · exact ⟨rfl,Out.bad (by rw [basP]; rw [r1]; try rfl) (gtr (gr_alloc (gr_alloc G0.out _) _) g)⟩
 have A1 : Hid (w1.heap[w.heap.size]? = some (.cells #[pR R] 46)) := keptBut g (old (hp_new (by first | rfl | simp) _) _) (by have := HR.out; omega)
 have B1 : Hid (w1.heap[w.heap.size + 1]? = some (.cells #[.int .i64 0,.int .i64 0,.int .i64 0,.int .i64 0,.string ⟨#[]⟩,.string ⟨#[]⟩,.int .i64 0,.slice none 0 0] 61)) := keptBut g (hp_new (by first | rfl | simp) _) (by have := HR.out; omega)
 have G1 := hidI (gtr (gr_alloc (gr_alloc G0.out _) _) g)
 have C1 := hidI CC
 have S1 : Hid (w.heap.size + 2 ≤ w1.heap.size) := hidI (by have := g.size; (try simp at this); omega)
 have Z1 := hidI (And.intro HR.out S1.out)
 clear g CC h
 obtain ⟨ap,aq,ar,af,ag,ah⟩ := facts A1.out
 obtain ⟨bp,bq,br,bf,bg,bh⟩ := facts B1.out
 by_cases hp : k.x = ⟨#[40]⟩
 · have hp' : (k.x.toList == [40]) = true := by rw [eqS]; simpa using hp
   have HP := hidI hp
   clear hp
   go_wp2_with fail
   refine (HE.out _ _ (dp + 1) (by have := HD.out; omega) (C1.out.al _)).mono ?_
   intro e w2 h
   rcases h.get with ⟨e1,t2,v2,r2,rfl,hv,CC,g⟩ | ⟨cc,aa,r2,rfl,g⟩
   rotate_left
   · exact ⟨rfl,Out.bad (by rw [basP]; rw [r1]; try rw [bindOk]; rw [if_pos HP.out]; rw [r2]; try rfl) (gtr (gr_alloc G1.out _) g)⟩
   rcases e1 with ⟨f1,o1,kd1,n1,nm1,pt1,a1,ks1⟩
   obtain ⟨kx1,kc1,rfl,hx⟩ := Xe_sl hv
   have X2 := hidI (hx.tag (w1.heap.size + 1) (by simp))
   clear hx hv
   have A2 : Hid (w2.heap[w.heap.size]? = some (.cells #[pR R] 46)) := keptBut g (old A1.out _) (by have := Z1.out; omega)
   have B2 : Hid (w2.heap[w.heap.size + 1]? = some (.cells #[.int .i64 0,.int .i64 0,.int .i64 0,.int .i64 0,.string ⟨#[]⟩,.string ⟨#[]⟩,.int .i64 0,.slice none 0 0] 61)) := keptBut g (old B1.out _) (by have := Z1.out; omega)
   have T2 : Hid (w2.heap[w1.heap.size]? = some (.cells #[.int .i64 k.c,.string k.x,.int .i64 k.n,.int .i64 k.a,.int .i64 k.e,.int .i64 k.f] 73)) := keptBut g (hp_new (by first | rfl | simp) _) (by have := Z1.out; omega)
   have G2 := hidI (gtr (gr_alloc G1.out _) g)
   have C2 := hidI CC
   have S2 : Hid (w1.heap.size + 1 ≤ w2.heap.size) := hidI (by have := g.size; (try simp at this); omega)
   have Z2 := hidI (And.intro HR.out (And.intro S1.out S2.out))
   clear g CC h ap aq ar af ag ah bp bq br bf bg bh
   obtain ⟨ap,aq,ar,af,ag,ah⟩ := facts A2.out
   go_wp2_with fail
   refine (needW (C2.out.al _) _ [⟨#[41]⟩] _ _ _ (by simp) rfl rfl (by decide)).mono ?_
   intro e w3 h
   rcases h.get with ⟨kk,t3,v3,r3,rfl,rfl,CC,g⟩ | ⟨cc,aa,r3,rfl,g⟩
   rotate_left
   · exact ⟨rfl,Out.bad (by rw [basP]; rw [r1]; try rw [bindOk]; rw [if_pos HP.out]; rw [r2]; try rw [bindOk]; rw [r3]; try rfl) (gtr (gr_alloc (gr_alloc G2.out _) _) g)⟩
   have X3 := hidI (((X2.out.al _).al _).cg g (by have := Z2.out; omega))
   have A3 : Hid (w3.heap[w.heap.size]? = some (.cells #[pR R] 46)) := keptBut g (old (old A2.out _) _) (by have := Z2.out; omega)
   have B3 : Hid (w3.heap[w.heap.size + 1]? = some (.cells #[.int .i64 0,.int .i64 0,.int .i64 0,.int .i64 0,.string ⟨#[]⟩,.string ⟨#[]⟩,.int .i64 0,.slice none 0 0] 61)) := keptBut g (old (old B2.out _) _) (by have := Z2.out; omega)
   have T3 : Hid (w3.heap[w1.heap.size]? = some (.cells #[.int .i64 k.c,.string k.x,.int .i64 k.n,.int .i64 k.a,.int .i64 k.e,.int .i64 k.f] 73)) := keptBut g (old (old T2.out _) _) (by have := Z2.out; omega)
   have E3 : Hid (w3.heap[w2.heap.size]? = some (.cells #[.int .i64 f1,.int .i64 o1,.int .i64 kd1,.int .i64 n1,.string nm1,.string pt1,.int .i64 a1,.slice kx1 ks1.length kc1] 61)) := keptBut g (old (hp_new (by first | rfl | simp) _) _) (by have := Z2.out; omega)
   have G3 := hidI (gtr (gr_alloc (gr_alloc G2.out _) _) g)
   have C3 := hidI CC
   have S3 : Hid (w2.heap.size + 2 ≤ w3.heap.size) := hidI (by have := g.size; (try simp at this); omega)
   have Z3 := hidI (And.intro HR.out (And.intro S1.out (And.intro S2.out S3.out)))
   clear g CC h ap aq ar af ag ah
   obtain ⟨bp,bq,br,bf,bg,bh⟩ := facts B3.out
   obtain ⟨ep,eq,er,ef,eg,eh⟩ := facts E3.out
   have nBE : w.heap.size + 1 ≠ w2.heap.size := by have := Z3.out; omega
   have nEB : w2.heap.size ≠ w.heap.size + 1 := by have := Z3.out; omega
   go_wp2_with fail
   have hP : basP F (s.size + 2) (exP F (s.size + 2) d) t = .ok (.mk f1 o1 kd1 n1 nm1 pt1 a1 ks1) (t3) := by rw [basP]; rw [r1]; try rw [bindOk]; rw [if_pos HP.out]; rw [r2]; try rw [bindOk]; rw [r3]; try rw [bindOk]
   refine bodyPost_ret (resBox rfl _ _ (w.heap.size + 1) _ rfl (ld61 (box8 B3.out))) rfl (Out.ok hP ?_ ?_ ?_)
   · exact Xe_mk.2 ⟨_,rfl,X3.out.fin (gr8 (World.grownBy.refl _ _)) (by have := Z3.out; omega) (by have := Z3.out; omega)⟩
   · exact C3.out.gq (gr8 (World.grownBy.refl _ _)) (by have := Z3.out; omega) (by have := Z3.out; omega)
   · exact gr8o G3.out (by have := Z3.out; omega)
 have hp' : (k.x.toList == [40]) = false := by rw [eqS]; simpa using hp
 go_wp2_with fail
 refine (tookW ((C1.out.al _).al _) _ [⟨#[91]⟩] _ _ _ (by simp) rfl rfl (by decide)).mono ?_
 intro e w2 h
 rcases h.get with ⟨b2,t2,v2,r2,rfl,rfl,CC,g⟩ | ⟨cc,aa,r2,rfl,g⟩
 rotate_left
 · exact ⟨rfl,Out.bad (by rw [basP]; rw [r1]; try rw [bindOk]; rw [if_neg hp]; rw [r2]; try rfl) (gtr (gr_alloc (gr_alloc (gr_alloc G1.out _) _) _) g)⟩
 have A2 : Hid (w2.heap[w.heap.size]? = some (.cells #[pR R] 46)) := keptBut g (old (old (old A1.out _) _) _) (by have := Z1.out; omega)
 have B2 : Hid (w2.heap[w.heap.size + 1]? = some (.cells #[.int .i64 0,.int .i64 0,.int .i64 0,.int .i64 0,.string ⟨#[]⟩,.string ⟨#[]⟩,.int .i64 0,.slice none 0 0] 61)) := keptBut g (old (old (old B1.out _) _) _) (by have := Z1.out; omega)
 have T2 : Hid (w2.heap[w1.heap.size]? = some (.cells #[.int .i64 k.c,.string k.x,.int .i64 k.n,.int .i64 k.a,.int .i64 k.e,.int .i64 k.f] 73)) := keptBut g (old (old (hp_new (by first | rfl | simp) _) _) _) (by have := Z1.out; omega)
 have E2 : Hid (w2.heap[w1.heap.size + 1]? = some (.cells #[.int .i64 2,.int .i64 0,.int .i64 0,.int .i64 0,.string k.x,.string ⟨#[]⟩,.int .i64 k.a,.slice none 0 0] 61)) := keptBut g (old (hp_new (by first | rfl | simp) _) _) (by have := Z1.out; omega)
 have G2 := hidI (gtr (gr_alloc (gr_alloc (gr_alloc G1.out _) _) _) g)
 have C2 := hidI CC
 have S2 : Hid (w1.heap.size + 3 ≤ w2.heap.size) := hidI (by have := g.size; (try simp at this); omega)
 have Z4 := hidI (And.intro HR.out (And.intro S1.out S2.out))
 clear g CC h ap aq ar af ag ah bp bq br bf bg bh
 obtain ⟨ap,aq,ar,af,ag,ah⟩ := facts A2.out
 obtain ⟨bp,bq,br,bf,bg,bh⟩ := facts B2.out
 obtain ⟨ep,eq,er,ef,eg,eh⟩ := facts E2.out
 have nBE : w.heap.size + 1 ≠ w1.heap.size + 1 := by have := Z4.out; omega
 have nEB : w1.heap.size + 1 ≠ w.heap.size + 1 := by have := Z4.out; omega
 have nAE : w.heap.size ≠ w1.heap.size + 1 := by have := Z4.out; omega
 have nEA : w1.heap.size + 1 ≠ w.heap.size := by have := Z4.out; omega
 have nAB : w.heap.size ≠ w.heap.size + 1 := by have := Z4.out; omega
 have nBA : w.heap.size + 1 ≠ w.heap.size := by have := Z4.out; omega
 cases b2
 rotate_left
 · go_wp2_with fail
   refine (HE.out _ _ (dp + 1) (by have := HD.out; omega) (C2.out.set (by have := Z4.out; omega) (by have := Z4.out; omega) _ _)).mono ?_
   intro e w3 h
   rcases h.get with ⟨e1,t3,v3,r3,rfl,hv,CC,g⟩ | ⟨cc,aa,r3,rfl,g⟩
   rotate_left
   · exact ⟨rfl,Out.bad (by rw [basP]; rw [r1]; try rw [bindOk]; rw [if_neg hp]; rw [r2]; try rw [bindOk]; rw [if_pos rfl]; rw [r3]; try rfl) (gtr (gr_ow2 G2.out (by have := Z4.out; omega) _ _) g)⟩
   rcases e1 with ⟨f1,o1,kd1,n1,nm1,pt1,a1,ks1⟩
   obtain ⟨kx1,kc1,rfl,hx⟩ := Xe_sl hv
   have X3 := hidI (hx.tag (w2.heap.size + 0) (by simp))
   clear hx hv
   have A3 : Hid (w3.heap[w.heap.size]? = some (.cells #[pR R] 46)) := keptBut g (keepS A2.out (by have := Z4.out; omega)) (by have := Z4.out; omega)
   have B3 : Hid (w3.heap[w.heap.size + 1]? = some (.cells #[.int .i64 0,.int .i64 0,.int .i64 0,.int .i64 0,.string ⟨#[]⟩,.string ⟨#[]⟩,.int .i64 0,.slice none 0 0] 61)) := keptBut g (keepS B2.out (by have := Z4.out; omega)) (by have := Z4.out; omega)
   have T3 : Hid (w3.heap[w1.heap.size]? = some (.cells #[.int .i64 k.c,.string k.x,.int .i64 k.n,.int .i64 k.a,.int .i64 k.e,.int .i64 k.f] 73)) := keptBut g (keepS T2.out (by have := Z4.out; omega)) (by have := Z4.out; omega)
   have E3 : Hid (w3.heap[w1.heap.size + 1]? = some (.cells #[.int .i64 3,.int .i64 0,.int .i64 0,.int .i64 0,.string k.x,.string ⟨#[]⟩,.int .i64 k.a,.slice none 0 0] 61)) := keptBut g (by simpa using (at_set E2.out 0 (.int .i64 3))) (by have := Z4.out; omega)
   have G3 := hidI (gtr (gr_ow2 G2.out (by have := Z4.out; omega) _ _) g)
   have C3 := hidI CC
   have S3 : Hid (w2.heap.size + 0 ≤ w3.heap.size) := hidI (by have := g.size; (try simp at this); omega)
   have Z5 := hidI (And.intro HR.out (And.intro S1.out (And.intro S2.out S3.out)))
   clear g CC h ap aq ar af ag ah bp bq br bf bg bh ep eq er ef eg eh
   have Y3 := hidI (xs_one (W := w3) (ok := av w.heap.size (w.heap.size + 1) (w1.heap.size + 1)) (e := .mk f1 o1 kd1 n1 nm1 pt1 a1 ks1) (X3.out.imp (fun b _ hb => (by obtain ⟨h1,h2⟩ := hb; exact ⟨by have := Z5.out; omega,by have := Z5.out; omega,by have := Z5.out; omega⟩))) ⟨by have := Z5.out; omega,by have := Z5.out; omega,by have := Z5.out; omega⟩)
   obtain ⟨ap,aq,ar,af,ag,ah⟩ := facts A3.out
   obtain ⟨bp,bq,br,bf,bg,bh⟩ := facts B3.out
   obtain ⟨ep,eq,er,ef,eg,eh⟩ := facts E3.out
   go_wp2_with fail
   refine (needW ((C3.out.al _).set (by have := Z5.out; omega) (by have := Z5.out; omega) _ _) _ [⟨#[93]⟩] _ _ _ (by simp) rfl rfl (by decide)).mono ?_
   intro e w4 h
   rcases h.get with ⟨kk,t4,v4,r4,rfl,rfl,CC,g⟩ | ⟨cc,aa,r4,rfl,g⟩
   rotate_left
   · exact ⟨rfl,Out.bad (by rw [basP]; rw [r1]; try rw [bindOk]; rw [if_neg hp]; rw [r2]; try rw [bindOk]; rw [if_pos rfl]; rw [r3]; try rw [bindOk]; rw [r4]; try rfl) (gtr (gr_alloc (gr_ow2 (gr_alloc G3.out _) (by have := Z5.out; omega) _ _) _) g)⟩
   have Y4 := hidI (((Y3.out.g (gr_set (World.grownBy.refl _ _) _ _) (fun b hb => hb.2.2)).al _).g g (fun b hb => by have := hb.1; have := HR.out; omega))
   have A4 : Hid (w4.heap[w.heap.size]? = some (.cells #[pR R] 46)) := keptBut g (old (keepS (old A3.out _) (by have := Z5.out; omega)) _) (by have := Z5.out; omega)
   have B4 : Hid (w4.heap[w.heap.size + 1]? = some (.cells #[.int .i64 0,.int .i64 0,.int .i64 0,.int .i64 0,.string ⟨#[]⟩,.string ⟨#[]⟩,.int .i64 0,.slice none 0 0] 61)) := keptBut g (old (keepS (old B3.out _) (by have := Z5.out; omega)) _) (by have := Z5.out; omega)
   have T4 : Hid (w4.heap[w1.heap.size]? = some (.cells #[.int .i64 k.c,.string k.x,.int .i64 k.n,.int .i64 k.a,.int .i64 k.e,.int .i64 k.f] 73)) := keptBut g (old (keepS (old T3.out _) (by have := Z5.out; omega)) _) (by have := Z5.out; omega)
   have E4 : Hid (w4.heap[w1.heap.size + 1]? = some (.cells #[.int .i64 3,.int .i64 0,.int .i64 0,.int .i64 0,.string k.x,.string ⟨#[]⟩,.int .i64 k.a,.slice (some ⟨w3.heap.size,0,none⟩) 1 1] 61)) := keptBut g (by simpa using (old (at_set (old E3.out _) 7 (.slice (some ⟨w3.heap.size,0,none⟩) 1 1)) _)) (by have := Z5.out; omega)
   have G4 := hidI (gtr (gr_alloc (gr_ow2 (gr_alloc G3.out _) (by have := Z5.out; omega) _ _) _) g)
   have C4 := hidI CC
   have S4 : Hid (w3.heap.size + 2 ≤ w4.heap.size) := hidI (by have := g.size; (try simp at this); omega)
   have Z6 := hidI (And.intro HR.out (And.intro S1.out (And.intro S2.out (And.intro S3.out S4.out))))
   clear g CC h ap aq ar af ag ah bp bq br bf bg bh ep eq er ef eg eh
   obtain ⟨bp,bq,br,bf,bg,bh⟩ := facts B4.out
   obtain ⟨ep,eq,er,ef,eg,eh⟩ := facts E4.out
   go_wp2_with fail
   have hP : basP F (s.size + 2) (exP F (s.size + 2) d) t = .ok (.mk 3 0 0 0 k.x nob k.a [.mk f1 o1 kd1 n1 nm1 pt1 a1 ks1]) (t4) := by rw [basP]; rw [r1]; try rw [bindOk]; rw [if_neg hp]; rw [r2]; try rw [bindOk]; rw [if_pos rfl]; rw [r3]; try rw [bindOk]; rw [r4]; try rw [bindOk]
   refine bodyPost_ret (resBox rfl _ _ (w.heap.size + 1) _ rfl (ld61 (box8 B4.out))) rfl (Out.ok hP ?_ ?_ ?_)
   · exact Xe_mk.2 ⟨_,rfl,(Y4.out.g (gr8 (World.grownBy.refl _ _)) (fun b hb => hb.2.1)).imp (fun b _ hb => hb.1)⟩
   · exact C4.out.gq (gr8 (World.grownBy.refl _ _)) (by have := Z6.out; omega) (by have := Z6.out; omega)
   · exact gr8o G4.out (by have := Z6.out; omega)
 go_wp2_with fail
 refine (tookW C2.out _ [⟨#[46]⟩] _ _ _ (by simp) rfl rfl (by decide)).mono ?_
 intro e w3 h
 rcases h.get with ⟨b3,t3,v3,r3,rfl,rfl,CC,g⟩ | ⟨cc,aa,r3,rfl,g⟩
 rotate_left
 · exact ⟨rfl,Out.bad (by rw [basP]; rw [r1]; try rw [bindOk]; rw [if_neg hp]; rw [r2]; try rw [bindOk]; rw [if_neg (by simp)]; rw [r3]; try rfl) (gtr (gr_alloc G2.out _) g)⟩
 have A3 : Hid (w3.heap[w.heap.size]? = some (.cells #[pR R] 46)) := keptBut g (old A2.out _) (by have := Z4.out; omega)
 have B3 : Hid (w3.heap[w.heap.size + 1]? = some (.cells #[.int .i64 0,.int .i64 0,.int .i64 0,.int .i64 0,.string ⟨#[]⟩,.string ⟨#[]⟩,.int .i64 0,.slice none 0 0] 61)) := keptBut g (old B2.out _) (by have := Z4.out; omega)
 have T3 : Hid (w3.heap[w1.heap.size]? = some (.cells #[.int .i64 k.c,.string k.x,.int .i64 k.n,.int .i64 k.a,.int .i64 k.e,.int .i64 k.f] 73)) := keptBut g (old T2.out _) (by have := Z4.out; omega)
 have E3 : Hid (w3.heap[w1.heap.size + 1]? = some (.cells #[.int .i64 2,.int .i64 0,.int .i64 0,.int .i64 0,.string k.x,.string ⟨#[]⟩,.int .i64 k.a,.slice none 0 0] 61)) := keptBut g (old E2.out _) (by have := Z4.out; omega)
 have G3 := hidI (gtr (gr_alloc G2.out _) g)
 have C3 := hidI CC
 have S3 : Hid (w2.heap.size + 1 ≤ w3.heap.size) := hidI (by have := g.size; (try simp at this); omega)
 have Z7 := hidI (And.intro HR.out (And.intro S1.out (And.intro S2.out S3.out)))
 clear g CC h ap aq ar af ag ah bp bq br bf bg bh ep eq er ef eg eh
 obtain ⟨ap,aq,ar,af,ag,ah⟩ := facts A3.out
 obtain ⟨bp,bq,br,bf,bg,bh⟩ := facts B3.out
 obtain ⟨ep,eq,er,ef,eg,eh⟩ := facts E3.out
 cases b3
 rotate_left
 · go_wp2_with fail
   refine (name_any (C3.out.set (by have := Z7.out; omega) (by have := Z7.out; omega) _ _)).mono ?_
   intro e w4 h
   rcases h.get with ⟨m,t4,v4,r4,rfl,rfl,CC,g⟩ | ⟨cc,aa,r4,rfl,g⟩
   rotate_left
   · exact ⟨rfl,Out.bad (by rw [basP]; rw [r1]; try rw [bindOk]; rw [if_neg hp]; rw [r2]; try rw [bindOk]; rw [if_neg (by simp)]; rw [r3]; try rw [bindOk]; rw [if_pos rfl]; rw [r4]; try rfl) (gtr (gr_ow2 G3.out (by have := Z7.out; omega) _ _) g)⟩
   have A4 : Hid (w4.heap[w.heap.size]? = some (.cells #[pR R] 46)) := keptBut g (keepS A3.out (by have := Z7.out; omega)) (by have := Z7.out; omega)
   have B4 : Hid (w4.heap[w.heap.size + 1]? = some (.cells #[.int .i64 0,.int .i64 0,.int .i64 0,.int .i64 0,.string ⟨#[]⟩,.string ⟨#[]⟩,.int .i64 0,.slice none 0 0] 61)) := keptBut g (keepS B3.out (by have := Z7.out; omega)) (by have := Z7.out; omega)
   have T4 : Hid (w4.heap[w1.heap.size]? = some (.cells #[.int .i64 k.c,.string k.x,.int .i64 k.n,.int .i64 k.a,.int .i64 k.e,.int .i64 k.f] 73)) := keptBut g (keepS T3.out (by have := Z7.out; omega)) (by have := Z7.out; omega)
   have E4 : Hid (w4.heap[w1.heap.size + 1]? = some (.cells #[.int .i64 4,.int .i64 0,.int .i64 0,.int .i64 0,.string k.x,.string ⟨#[]⟩,.int .i64 k.a,.slice none 0 0] 61)) := keptBut g (by simpa using (at_set E3.out 0 (.int .i64 4))) (by have := Z7.out; omega)
   have G4 := hidI (gtr (gr_ow2 G3.out (by have := Z7.out; omega) _ _) g)
   have C4 := hidI CC
   have S4 : Hid (w3.heap.size + 0 ≤ w4.heap.size) := hidI (by have := g.size; (try simp at this); omega)
   have Z8 := hidI (And.intro HR.out (And.intro S1.out (And.intro S2.out (And.intro S3.out S4.out))))
   clear g CC h ap aq ar af ag ah bp bq br bf bg bh ep eq er ef eg eh
   obtain ⟨bp,bq,br,bf,bg,bh⟩ := facts B4.out
   obtain ⟨ep,eq,er,ef,eg,eh⟩ := facts E4.out
   go_wp2_with fail
   have hP : basP F (s.size + 2) (exP F (s.size + 2) d) t = .ok (.mk 4 0 0 0 k.x m.x k.a []) (t4) := by rw [basP]; rw [r1]; try rw [bindOk]; rw [if_neg hp]; rw [r2]; try rw [bindOk]; rw [if_neg (by simp)]; rw [r3]; try rw [bindOk]; rw [if_pos rfl]; rw [r4]; try rw [bindOk]
   refine bodyPost_ret (resBox rfl _ _ (w.heap.size + 1) _ rfl (ld61 (box8 (keepS B4.out (by have := Z8.out; omega))))) rfl (Out.ok hP ?_ ?_ ?_)
   · exact ⟨_,rfl,Xs.nil _ _⟩
   · exact (C4.out.set (by have := Z8.out; omega) (by have := Z8.out; omega) _ _).gq (gr8 (World.grownBy.refl _ _)) (by have := Z8.out; omega) (by have := Z8.out; omega)
   · exact gr8o (gr_ow2 G4.out (by have := Z8.out; omega) _ _) (by have := Z8.out; omega)
 go_wp2_with fail
 refine (tookW C3.out _ [⟨#[40]⟩] _ _ _ (by simp) rfl rfl (by decide)).mono ?_
 intro e w4 h
 rcases h.get with ⟨b4,t4,v4,r4,rfl,rfl,CC,g⟩ | ⟨cc,aa,r4,rfl,g⟩
 rotate_left
 · exact ⟨rfl,Out.bad (by rw [basP]; rw [r1]; try rw [bindOk]; rw [if_neg hp]; rw [r2]; try rw [bindOk]; rw [if_neg (by simp)]; rw [r3]; try rw [bindOk]; rw [if_neg (by simp)]; rw [r4]; try rfl) (gtr (gr_alloc G3.out _) g)⟩
 have A4 : Hid (w4.heap[w.heap.size]? = some (.cells #[pR R] 46)) := keptBut g (old A3.out _) (by have := Z7.out; omega)
 have B4 : Hid (w4.heap[w.heap.size + 1]? = some (.cells #[.int .i64 0,.int .i64 0,.int .i64 0,.int .i64 0,.string ⟨#[]⟩,.string ⟨#[]⟩,.int .i64 0,.slice none 0 0] 61)) := keptBut g (old B3.out _) (by have := Z7.out; omega)
 have T4 : Hid (w4.heap[w1.heap.size]? = some (.cells #[.int .i64 k.c,.string k.x,.int .i64 k.n,.int .i64 k.a,.int .i64 k.e,.int .i64 k.f] 73)) := keptBut g (old T3.out _) (by have := Z7.out; omega)
 have E4 : Hid (w4.heap[w1.heap.size + 1]? = some (.cells #[.int .i64 2,.int .i64 0,.int .i64 0,.int .i64 0,.string k.x,.string ⟨#[]⟩,.int .i64 k.a,.slice none 0 0] 61)) := keptBut g (old E3.out _) (by have := Z7.out; omega)
 have G4 := hidI (gtr (gr_alloc G3.out _) g)
 have C4 := hidI CC
 have S4 : Hid (w3.heap.size + 1 ≤ w4.heap.size) := hidI (by have := g.size; (try simp at this); omega)
 have Z9 := hidI (And.intro HR.out (And.intro S1.out (And.intro S2.out (And.intro S3.out S4.out))))
 clear g CC h ap aq ar af ag ah bp bq br bf bg bh ep eq er ef eg eh
 obtain ⟨ap,aq,ar,af,ag,ah⟩ := facts A4.out
 obtain ⟨bp,bq,br,bf,bg,bh⟩ := facts B4.out
 obtain ⟨ep,eq,er,ef,eg,eh⟩ := facts E4.out
 cases b4
 rotate_left
 · go_wp2_with fail
   refine (given_any d (by omega) HE.out _ _ (dp + 1) (by have := HD.out; omega) (C4.out.set (by have := Z9.out; omega) (by have := Z9.out; omega) _ _)).mono ?_
   intro e w5 h
   rcases h.get with ⟨es,t5,v5,r5,rfl,hv,CC,g⟩ | ⟨cc,aa,r5,rfl,g⟩
   rotate_left
   · exact ⟨rfl,Out.bad (by rw [basP]; rw [r1]; try rw [bindOk]; rw [if_neg hp]; rw [r2]; try rw [bindOk]; rw [if_neg (by simp)]; rw [r3]; try rw [bindOk]; rw [if_neg (by simp)]; rw [r4]; try rw [bindOk]; rw [if_pos rfl]; rw [r5]; try rfl) (gtr (gr_ow2 G4.out (by have := Z9.out; omega) _ _) g)⟩
   obtain ⟨gx,gc,rfl⟩ := hv.sl
   have X5 := hidI (hv.tag w4.heap.size (by simp))
   clear hv
   have A5 : Hid (w5.heap[w.heap.size]? = some (.cells #[pR R] 46)) := keptBut g (keepS A4.out (by have := Z9.out; omega)) (by have := Z9.out; omega)
   have B5 : Hid (w5.heap[w.heap.size + 1]? = some (.cells #[.int .i64 0,.int .i64 0,.int .i64 0,.int .i64 0,.string ⟨#[]⟩,.string ⟨#[]⟩,.int .i64 0,.slice none 0 0] 61)) := keptBut g (keepS B4.out (by have := Z9.out; omega)) (by have := Z9.out; omega)
   have T5 : Hid (w5.heap[w1.heap.size]? = some (.cells #[.int .i64 k.c,.string k.x,.int .i64 k.n,.int .i64 k.a,.int .i64 k.e,.int .i64 k.f] 73)) := keptBut g (keepS T4.out (by have := Z9.out; omega)) (by have := Z9.out; omega)
   have E5 : Hid (w5.heap[w1.heap.size + 1]? = some (.cells #[.int .i64 7,.int .i64 0,.int .i64 0,.int .i64 0,.string k.x,.string ⟨#[]⟩,.int .i64 k.a,.slice none 0 0] 61)) := keptBut g (by simpa using (at_set E4.out 0 (.int .i64 7))) (by have := Z9.out; omega)
   have G5 := hidI (gtr (gr_ow2 G4.out (by have := Z9.out; omega) _ _) g)
   have C5 := hidI CC
   have S5 : Hid (w4.heap.size + 0 ≤ w5.heap.size) := hidI (by have := g.size; (try simp at this); omega)
   have Z10 := hidI (And.intro HR.out (And.intro S1.out (And.intro S2.out (And.intro S3.out (And.intro S4.out S5.out)))))
   clear g CC h ap aq ar af ag ah bp bq br bf bg bh ep eq er ef eg eh
   obtain ⟨bp,bq,br,bf,bg,bh⟩ := facts B5.out
   obtain ⟨ep,eq,er,ef,eg,eh⟩ := facts E5.out
   go_wp2_with fail
   have hP : basP F (s.size + 2) (exP F (s.size + 2) d) t = .ok (.mk 7 0 0 0 k.x nob k.a es) (t5) := by rw [basP]; rw [r1]; try rw [bindOk]; rw [if_neg hp]; rw [r2]; try rw [bindOk]; rw [if_neg (by simp)]; rw [r3]; try rw [bindOk]; rw [if_neg (by simp)]; rw [r4]; try rw [bindOk]; rw [if_pos rfl]; rw [r5]; try rw [bindOk]
   refine bodyPost_ret (resBox rfl _ _ (w.heap.size + 1) _ rfl (ld61 (box8 (keepS B5.out (by have := Z10.out; omega))))) rfl (Out.ok hP ?_ ?_ ?_)
   · exact Xe_mk.2 ⟨_,rfl,(X5.out.st (by have := Z10.out; omega)).fin (gr8 (World.grownBy.refl _ _)) (by have := Z10.out; omega) (by have := Z10.out; omega)⟩
   · exact (C5.out.set (by have := Z10.out; omega) (by have := Z10.out; omega) _ _).gq (gr8 (World.grownBy.refl _ _)) (by have := Z10.out; omega) (by have := Z10.out; omega)
   · exact gr8o (gr_ow2 G5.out (by have := Z10.out; omega) _ _) (by have := Z10.out; omega)
 go_wp2_with fail
 have hP : basP F (s.size + 2) (exP F (s.size + 2) d) t = .ok (.mk 2 0 0 0 k.x nob k.a []) (t4) := by rw [basP]; rw [r1]; try rw [bindOk]; rw [if_neg hp]; rw [r2]; try rw [bindOk]; rw [if_neg (by simp)]; rw [r3]; try rw [bindOk]; rw [if_neg (by simp)]; rw [r4]; try rw [bindOk]; rw [if_neg (by simp)]
 refine bodyPost_ret (resBox rfl _ _ (w.heap.size + 1) _ rfl (ld61 (box8 B4.out))) rfl (Out.ok hP ?_ ?_ ?_)
 · exact ⟨_,rfl,Xs.nil _ _⟩
 · exact C4.out.gq (gr8 (World.grownBy.refl _ _)) (by have := Z9.out; omega) (by have := Z9.out; omega)
 · exact gr8o G4.out (by have := Z9.out; omega)
end
end Go.Proofs.YtdcoidmbainkmaaGreatDoor
