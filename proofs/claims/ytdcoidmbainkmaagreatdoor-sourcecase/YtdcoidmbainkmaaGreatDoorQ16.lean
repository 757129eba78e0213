/- Texts put together: Rl. -/
import Derived.Test.YtdcoidmbainkmaaGreatDoorQ15
namespace Go.Proofs.YtdcoidmbainkmaaGreatDoor
open Go.RowKit
attribute [local go_sem ↓] Go.wp_at_zero Go.wp_at_succ
set_option linter.unusedVariables false
set_option linter.unusedSimpArgs false
section
variable {V : World} {F : Int → Tok} {R : Nat} {s : ByteArray} {u : Int}
set_option maxRecDepth 10000 in
set_option maxHeartbeats 8000000 in
theorem stmt_any (hS60 : s.size ≤ 60000) (d : Nat) (hd : d ≤ 39) (hL : LsC V F R s u d) (w : World) (t : Tok) (dp : Int) (hdp : dp = 40 - d) (C : Cx V F R s u w t) : Calls Tryz.prog 71 #[rV R,.int .i64 dp] w (Out V F R s u w (stmP F (s.size + 2) (exP F (s.size + 2) d) (lisP F (s.size + 2) d) t) (StP w)) := by
 have hdq : dp + 1 = 41 - (d : Int) := by omega
 have HE := hidI hL
 have HD := hidI hdq
 have HS := hidI hS60
 have b1 : 1 ≤ dp := by omega
 have b2 : dp ≤ 40 := by omega
 have hwd : IntKind.i64.wrap (dp + 1) = dp + 1 := IntWalk.i64_in _ (by omega)
 clear hL hdq hS60 hdp
 have HC : Hid (Cx V F R s u w t) := C
 have C0 := HC
 have G0 : Hid (w.grownBy w (some R)) := World.grownBy.refl _ _
 have HR : Hid (R < w.heap.size ∧ 15 ≤ w.heap.size ∧ 15 ≤ R) := ⟨C.lt,C.sz,C.r15⟩
 clear C
 go_enter Tryz.func71,Tryz.ntmps71
 obtain ⟨_,_,_,_,z4,_,_,_⟩ := (((HC.out.al (.cells #[pR R] 46)).al (.cells #[.int .i64 0,.int .i64 0,.string ⟨#[]⟩,.bool false,.slice none 0 0,.slice none 0 0,.slice none 0 0,.slice none 0 0,.slice none 0 0,.int .i64 0,.int .i64 0,.int .i64 0,.int .i64 0] 94)).al (.cells #[.int .i64 0,.int .i64 0,.string ⟨#[]⟩,.bool false,.slice none 0 0,.slice none 0 0,.slice none 0 0,.slice none 0 0,.slice none 0 0,.int .i64 0,.int .i64 0,.int .i64 0,.int .i64 0] 94)).rd.cells
 by_cases h0 : t.c = 0
 · go_wp2_with fail
   refine (class_bad R s t u _ _ (((C0.out.al _).al _).al _).rd h0).mono ?_
   rintro e w4 ⟨rfl,g0⟩
   exact ⟨rfl,Out.bad (by rw [stmP,if_pos h0]; rfl) (gtr (gr_alloc (gr_alloc (gr_alloc G0.out _) _) _) (gr_none (p := R) g0))⟩
 go_wp2_with fail
 refine (cls_look (((C0.out.al _).al _).al _) h0 2).mono ?_
 rintro e w1 ⟨rfl,g0⟩
 have CC := (((C0.out.al _).al _).al _).gn g0
 have g := gr_none (p := R) g0
 have A1 : Hid (w1.heap[w.heap.size]? = some (.cells #[pR R] 46)) := keptBut g (old (old (hp_new (by first | rfl | simp) _) _) _) (by have := HR.out; omega)
 have B1 : Hid (w1.heap[w.heap.size + 1]? = some (.cells #[.int .i64 0,.int .i64 0,.string ⟨#[]⟩,.bool false,.slice none 0 0,.slice none 0 0,.slice none 0 0,.slice none 0 0,.slice none 0 0,.int .i64 0,.int .i64 0,.int .i64 0,.int .i64 0] 94)) := keptBut g (old (hp_new (by first | rfl | simp) _) _) (by have := HR.out; omega)
 have P1 : Hid (w1.heap[w.heap.size + 1 + 1]? = some (.cells #[.int .i64 0,.int .i64 0,.string ⟨#[]⟩,.bool false,.slice none 0 0,.slice none 0 0,.slice none 0 0,.slice none 0 0,.slice none 0 0,.int .i64 0,.int .i64 0,.int .i64 0,.int .i64 0] 94)) := keptBut g (hp_new (by first | rfl | simp) _) (by have := HR.out; omega)
 have G1 := hidI (gtr (gr_alloc (gr_alloc (gr_alloc G0.out _) _) _) g)
 have C1 := hidI CC
 have S1 : Hid (w.heap.size + 3 ≤ w1.heap.size) := hidI (by have := g.size; first | omega | (simp at this; omega) | (simp at this ⊢; omega))
 have Z1 := hidI (And.intro HR.out S1.out)
 clear g CC g0
 obtain ⟨ap,aq,ar,af,ag,ah⟩ := facts A1.out
 obtain ⟨bp,bq,br,bf,bg,bh⟩ := facts B1.out
 obtain ⟨pp,pq,pr,pf,pg,ph⟩ := facts P1.out
 clear z4
 by_cases h2 : t.c = 2
 · have h2' : decide (t.c = 2) = true := by simpa using h2
   go_wp2_with fail
   refine (named_any d hd _ _ (dp + 1) HD.out C1.out).mono ?_
   intro e w2 h
   rcases h.get with ⟨p1,t2,v2,r2,rfl,⟨q1,rfl,hv⟩,CC,g⟩ | ⟨cc,aa,r2,rfl,g⟩
   rotate_left
   · exact ⟨rfl,Out.bad (by rw [stmP,if_neg h0,if_pos h2]; (first | (rw [r2]; done) | (rw [r2]; rfl) | exact r2)) (gtr G1.out g)⟩
   have A2 : Hid (w2.heap[w.heap.size]? = some (.cells #[pR R] 46)) := keptBut g A1.out (by have := Z1.out; omega)
   have B2 : Hid (w2.heap[w.heap.size + 1]? = some (.cells #[.int .i64 0,.int .i64 0,.string ⟨#[]⟩,.bool false,.slice none 0 0,.slice none 0 0,.slice none 0 0,.slice none 0 0,.slice none 0 0,.int .i64 0,.int .i64 0,.int .i64 0,.int .i64 0] 94)) := keptBut g B1.out (by have := Z1.out; omega)
   have P2 : Hid (w2.heap[w.heap.size + 1 + 1]? = some (.cells #[.int .i64 0,.int .i64 0,.string ⟨#[]⟩,.bool false,.slice none 0 0,.slice none 0 0,.slice none 0 0,.slice none 0 0,.slice none 0 0,.int .i64 0,.int .i64 0,.int .i64 0,.int .i64 0] 94)) := keptBut g P1.out (by have := Z1.out; omega)
   have G2 := hidI (gtr G1.out g)
   have C2 := hidI CC
   have S2 : Hid (w1.heap.size + 0 ≤ w2.heap.size) := hidI (by have := g.size; first | omega | (simp at this; omega) | (simp at this ⊢; omega))
   have Z2 := hidI (And.intro HR.out (And.intro S1.out S2.out))
   clear g CC h ap aq ar af ag ah bp bq br bf bg bh pp pq pr pf pg ph
   obtain ⟨ap,aq,ar,af,ag,ah⟩ := facts A2.out
   obtain ⟨bp,bq,br,bf,bg,bh⟩ := facts B2.out
   obtain ⟨pp,pq,pr,pf,pg,ph⟩ := facts P2.out
   rcases p1 with ⟨v1,a1,n1,i1,es1,as1,ms1,el1,bo1,lo1,hi1,by1,ti1⟩
   obtain ⟨xa1,xc1,xa2,xc2,xa3,xc3,xa4,xc4,xa5,xc5,rfl⟩ := sS_sl hv
   have V2 := hidI hv
   clear hv
   simp only [sC,PS.es,PS.args,PS.arms,PS.els,PS.body]
   go_wp2_with fail
   refine (needW ((((((((((((((C2.out.set (by have := Z2.out; omega) (by have := Z2.out; omega) _ _).set (by have := Z2.out; omega) (by have := Z2.out; omega) _ _).set (by have := Z2.out; omega) (by have := Z2.out; omega) _ _).set (by have := Z2.out; omega) (by have := Z2.out; omega) _ _).set (by have := Z2.out; omega) (by have := Z2.out; omega) _ _).set (by have := Z2.out; omega) (by have := Z2.out; omega) _ _).set (by have := Z2.out; omega) (by have := Z2.out; omega) _ _).set (by have := Z2.out; omega) (by have := Z2.out; omega) _ _).set (by have := Z2.out; omega) (by have := Z2.out; omega) _ _).set (by have := Z2.out; omega) (by have := Z2.out; omega) _ _).set (by have := Z2.out; omega) (by have := Z2.out; omega) _ _).set (by have := Z2.out; omega) (by have := Z2.out; omega) _ _).set (by have := Z2.out; omega) (by have := Z2.out; omega) _ _).set (by have := Z2.out; omega) (by have := Z2.out; omega) _ _) _ [⟨#[59]⟩] _ _ _ (by simp) rfl rfl (by decide)).mono ?_
   intro e w3 h
   rcases h.get with ⟨_,t3,v3,r3,rfl,rfl,CC,g⟩ | ⟨cc,aa,r3,rfl,g⟩
   rotate_left
   · exact ⟨rfl,Out.bad (by rw [stmP,if_neg h0,if_pos h2]; (first | rw [r2] | exact r2); try rw [bindOk]; (first | (rw [r3]; done) | (rw [r3]; rfl) | exact r3)) (gtr (gr_alloc (gr_ow2 (gr_ow2 (gr_ow2 (gr_ow2 (gr_ow2 (gr_ow2 (gr_ow2 (gr_ow2 (gr_ow2 (gr_ow2 (gr_ow2 (gr_ow2 (gr_ow2 (gr_ow2 G2.out (by have := Z2.out; omega) _ _) (by have := Z2.out; omega) _ _) (by have := Z2.out; omega) _ _) (by have := Z2.out; omega) _ _) (by have := Z2.out; omega) _ _) (by have := Z2.out; omega) _ _) (by have := Z2.out; omega) _ _) (by have := Z2.out; omega) _ _) (by have := Z2.out; omega) _ _) (by have := Z2.out; omega) _ _) (by have := Z2.out; omega) _ _) (by have := Z2.out; omega) _ _) (by have := Z2.out; omega) _ _) (by have := Z2.out; omega) _ _) _) g)⟩
   have gP := (gr_alloc (gr_set (gr_set (gr_set (gr_set (gr_set (gr_set (gr_set (gr_set (gr_set (gr_set (gr_set (gr_set (gr_set (gr_set (World.grownBy.refl w2 (some (w.heap.size + 1 + 1))) 0 (.int .i64 v1)) 1 (.int .i64 a1)) 2 (.string n1)) 3 (.bool i1)) 4 (.slice xa1 es1.length xc1)) 5 (.slice xa2 as1.length xc2)) 6 (.slice xa3 ms1.length xc3)) 7 (.slice xa4 el1.length xc4)) 8 (.slice xa5 bo1.length xc5)) 9 (.int .i64 lo1)) 10 (.int .i64 hi1)) 11 (.int .i64 by1)) 12 (.int .i64 ti1)) 1 (.int .i64 t.a)) (.cells #[.string ⟨#[59]⟩] 9))
   have V3 := hidI (kdS.keep (kdS.keep V2.out (fun b (hb : _ ≤ b) hl => gP.block b hl (fun e => by injection e with e; have := Z2.out; omega)) gP.size) (fun b (hb : _ ≤ b) hl => g.block b hl (fun e => by injection e with e; have := Z2.out; omega)) g.size)
   clear gP
   have A3 : Hid (w3.heap[w.heap.size]? = some (.cells #[pR R] 46)) := keptBut g (old (keepS (keepS (keepS (keepS (keepS (keepS (keepS (keepS (keepS (keepS (keepS (keepS (keepS (keepS A2.out (by have := Z2.out; omega)) (by have := Z2.out; omega)) (by have := Z2.out; omega)) (by have := Z2.out; omega)) (by have := Z2.out; omega)) (by have := Z2.out; omega)) (by have := Z2.out; omega)) (by have := Z2.out; omega)) (by have := Z2.out; omega)) (by have := Z2.out; omega)) (by have := Z2.out; omega)) (by have := Z2.out; omega)) (by have := Z2.out; omega)) (by have := Z2.out; omega)) _) (by have := Z2.out; omega)
   have B3 : Hid (w3.heap[w.heap.size + 1]? = some (.cells #[.int .i64 0,.int .i64 0,.string ⟨#[]⟩,.bool false,.slice none 0 0,.slice none 0 0,.slice none 0 0,.slice none 0 0,.slice none 0 0,.int .i64 0,.int .i64 0,.int .i64 0,.int .i64 0] 94)) := keptBut g (old (keepS (keepS (keepS (keepS (keepS (keepS (keepS (keepS (keepS (keepS (keepS (keepS (keepS (keepS B2.out (by have := Z2.out; omega)) (by have := Z2.out; omega)) (by have := Z2.out; omega)) (by have := Z2.out; omega)) (by have := Z2.out; omega)) (by have := Z2.out; omega)) (by have := Z2.out; omega)) (by have := Z2.out; omega)) (by have := Z2.out; omega)) (by have := Z2.out; omega)) (by have := Z2.out; omega)) (by have := Z2.out; omega)) (by have := Z2.out; omega)) (by have := Z2.out; omega)) _) (by have := Z2.out; omega)
   have P3 : Hid (w3.heap[w.heap.size + 1 + 1]? = some (.cells #[.int .i64 v1,.int .i64 t.a,.string n1,.bool i1,.slice xa1 es1.length xc1,.slice xa2 as1.length xc2,.slice xa3 ms1.length xc3,.slice xa4 el1.length xc4,.slice xa5 bo1.length xc5,.int .i64 lo1,.int .i64 hi1,.int .i64 by1,.int .i64 ti1] 94)) := keptBut g (by simpa using (old (at_set (at_set (at_set (at_set (at_set (at_set (at_set (at_set (at_set (at_set (at_set (at_set (at_set (at_set P2.out 0 (.int .i64 v1)) 1 (.int .i64 a1)) 2 (.string n1)) 3 (.bool i1)) 4 (.slice xa1 es1.length xc1)) 5 (.slice xa2 as1.length xc2)) 6 (.slice xa3 ms1.length xc3)) 7 (.slice xa4 el1.length xc4)) 8 (.slice xa5 bo1.length xc5)) 9 (.int .i64 lo1)) 10 (.int .i64 hi1)) 11 (.int .i64 by1)) 12 (.int .i64 ti1)) 1 (.int .i64 t.a)) _)) (by have := Z2.out; omega)
   have G3 := hidI (gtr (gr_alloc (gr_ow2 (gr_ow2 (gr_ow2 (gr_ow2 (gr_ow2 (gr_ow2 (gr_ow2 (gr_ow2 (gr_ow2 (gr_ow2 (gr_ow2 (gr_ow2 (gr_ow2 (gr_ow2 G2.out (by have := Z2.out; omega) _ _) (by have := Z2.out; omega) _ _) (by have := Z2.out; omega) _ _) (by have := Z2.out; omega) _ _) (by have := Z2.out; omega) _ _) (by have := Z2.out; omega) _ _) (by have := Z2.out; omega) _ _) (by have := Z2.out; omega) _ _) (by have := Z2.out; omega) _ _) (by have := Z2.out; omega) _ _) (by have := Z2.out; omega) _ _) (by have := Z2.out; omega) _ _) (by have := Z2.out; omega) _ _) (by have := Z2.out; omega) _ _) _) g)
   have C3 := hidI CC
   have S3 : Hid (w2.heap.size + 1 ≤ w3.heap.size) := hidI (by have := g.size; first | omega | (simp at this; omega) | (simp at this ⊢; omega))
   have Z3 := hidI (And.intro HR.out (And.intro S1.out (And.intro S2.out S3.out)))
   clear g CC h ap aq ar af ag ah bp bq br bf bg bh pp pq pr pf pg ph
   obtain ⟨ap,aq,ar,af,ag,ah⟩ := facts A3.out
   obtain ⟨bp,bq,br,bf,bg,bh⟩ := facts B3.out
   obtain ⟨pp,pq,pr,pf,pg,ph⟩ := facts P3.out
   go_wp2_with fail
   have hP : stmP F (s.size + 2) (exP F (s.size + 2) d) (lisP F (s.size + 2) d) t = .ok (PS.set (.mk v1 a1 n1 i1 es1 as1 ms1 el1 bo1 lo1 hi1 by1 ti1 : PS) t.a) (t3) := by rw [stmP,if_neg h0,if_pos h2]; (first | rw [r2] | exact r2); try rw [bindOk]; (first | rw [r3] | exact r3); try rw [bindOk]
   refine bodyPost_ret (resBox rfl _ _ (w.heap.size + 1) _ rfl (ld94 (box13 B3.out))) rfl (Out.ok hP ?_ ?_ ?_)
   · exact ⟨⟨.slice xa1 es1.length xc1,.slice xa2 as1.length xc2,.slice xa3 ms1.length xc3,.slice xa4 el1.length xc4,.slice xa5 bo1.length xc5⟩,rfl,kdS.imp (kdS.keep V3.out (fun b (hb : _ ≤ b) hl => (gr13 (World.grownBy.refl _ _)).block b hl (fun e => by injection e with e; have := Z3.out; omega)) (gr13 (World.grownBy.refl _ (some (w.heap.size + 1)))).size) (fun b _ (hb : _ ≤ b) => (by have := Z3.out; omega : w.heap.size ≤ b))⟩
   · exact C3.out.gq (gr13 (World.grownBy.refl _ _)) (by have := Z3.out; omega) (by have := Z3.out; omega)
   · exact gr13o G3.out (by have := Z3.out; omega)
 have h2' : decide (t.c = 2) = false := by simpa using h2
 have H2 := hidI h2
 clear h2
 by_cases hm : mem [⟨#[105,102]⟩] t = true
 · have M := hidI hm
   clear hm
   go_wp2_with fail
   refine (tookY C1.out _ [⟨#[105,102]⟩] _ _ _ (by simp) rfl rfl (by decide) h0 M.out).mono ?_
   rintro e w2 ⟨⟨v,rfl,rfl⟩,CC,g⟩
   have A2 : Hid (w2.heap[w.heap.size]? = some (.cells #[pR R] 46)) := keptBut g (old A1.out _) (by have := Z1.out; omega)
   have B2 : Hid (w2.heap[w.heap.size + 1]? = some (.cells #[.int .i64 0,.int .i64 0,.string ⟨#[]⟩,.bool false,.slice none 0 0,.slice none 0 0,.slice none 0 0,.slice none 0 0,.slice none 0 0,.int .i64 0,.int .i64 0,.int .i64 0,.int .i64 0] 94)) := keptBut g (old B1.out _) (by have := Z1.out; omega)
   have P2 : Hid (w2.heap[w.heap.size + 1 + 1]? = some (.cells #[.int .i64 0,.int .i64 0,.string ⟨#[]⟩,.bool false,.slice none 0 0,.slice none 0 0,.slice none 0 0,.slice none 0 0,.slice none 0 0,.int .i64 0,.int .i64 0,.int .i64 0,.int .i64 0] 94)) := keptBut g (old P1.out _) (by have := Z1.out; omega)
   have G2 := hidI (gtr (gr_alloc G1.out _) g)
   have C2 := hidI CC
   have S2 : Hid (w1.heap.size + 1 ≤ w2.heap.size) := hidI (by have := g.size; first | omega | (simp at this; omega) | (simp at this ⊢; omega))
   have Z4 := hidI (And.intro HR.out (And.intro S1.out S2.out))
   clear g CC ap aq ar af ag ah bp bq br bf bg bh pp pq pr pf pg ph
   obtain ⟨ap,aq,ar,af,ag,ah⟩ := facts A2.out
   obtain ⟨bp,bq,br,bf,bg,bh⟩ := facts B2.out
   obtain ⟨pp,pq,pr,pf,pg,ph⟩ := facts P2.out
   go_wp2_with fail
   refine (choice_any HS.out d hd HE.out _ _ (dp + 1) HD.out C2.out).mono ?_
   intro e w3 h
   rcases h.get with ⟨p1,t3,v3,r3,rfl,⟨q1,rfl,hv⟩,CC,g⟩ | ⟨cc,aa,r3,rfl,g⟩
   rotate_left
   · exact ⟨rfl,Out.bad (by rw [stmP,if_neg h0,if_neg H2.out,if_pos M.out]; (first | (rw [r3]; done) | (rw [r3]; rfl) | exact r3)) (gtr G2.out g)⟩
   have A3 : Hid (w3.heap[w.heap.size]? = some (.cells #[pR R] 46)) := keptBut g A2.out (by have := Z4.out; omega)
   have B3 : Hid (w3.heap[w.heap.size + 1]? = some (.cells #[.int .i64 0,.int .i64 0,.string ⟨#[]⟩,.bool false,.slice none 0 0,.slice none 0 0,.slice none 0 0,.slice none 0 0,.slice none 0 0,.int .i64 0,.int .i64 0,.int .i64 0,.int .i64 0] 94)) := keptBut g B2.out (by have := Z4.out; omega)
   have P3 : Hid (w3.heap[w.heap.size + 1 + 1]? = some (.cells #[.int .i64 0,.int .i64 0,.string ⟨#[]⟩,.bool false,.slice none 0 0,.slice none 0 0,.slice none 0 0,.slice none 0 0,.slice none 0 0,.int .i64 0,.int .i64 0,.int .i64 0,.int .i64 0] 94)) := keptBut g P2.out (by have := Z4.out; omega)
   have G3 := hidI (gtr G2.out g)
   have C3 := hidI CC
   have S3 : Hid (w2.heap.size + 0 ≤ w3.heap.size) := hidI (by have := g.size; first | omega | (simp at this; omega) | (simp at this ⊢; omega))
   have Z5 := hidI (And.intro HR.out (And.intro S1.out (And.intro S2.out S3.out)))
   clear g CC h ap aq ar af ag ah bp bq br bf bg bh pp pq pr pf pg ph
   obtain ⟨ap,aq,ar,af,ag,ah⟩ := facts A3.out
   obtain ⟨bp,bq,br,bf,bg,bh⟩ := facts B3.out
   obtain ⟨pp,pq,pr,pf,pg,ph⟩ := facts P3.out
   rcases p1 with ⟨v1,a1,n1,i1,es1,as1,ms1,el1,bo1,lo1,hi1,by1,ti1⟩
   obtain ⟨xa1,xc1,xa2,xc2,xa3,xc3,xa4,xc4,xa5,xc5,rfl⟩ := sS_sl hv
   have V2 := hidI hv
   clear hv
   simp only [sC,PS.es,PS.args,PS.arms,PS.els,PS.body]
   go_wp2_with fail
   refine (needW ((((((((((((((C3.out.set (by have := Z5.out; omega) (by have := Z5.out; omega) _ _).set (by have := Z5.out; omega) (by have := Z5.out; omega) _ _).set (by have := Z5.out; omega) (by have := Z5.out; omega) _ _).set (by have := Z5.out; omega) (by have := Z5.out; omega) _ _).set (by have := Z5.out; omega) (by have := Z5.out; omega) _ _).set (by have := Z5.out; omega) (by have := Z5.out; omega) _ _).set (by have := Z5.out; omega) (by have := Z5.out; omega) _ _).set (by have := Z5.out; omega) (by have := Z5.out; omega) _ _).set (by have := Z5.out; omega) (by have := Z5.out; omega) _ _).set (by have := Z5.out; omega) (by have := Z5.out; omega) _ _).set (by have := Z5.out; omega) (by have := Z5.out; omega) _ _).set (by have := Z5.out; omega) (by have := Z5.out; omega) _ _).set (by have := Z5.out; omega) (by have := Z5.out; omega) _ _).set (by have := Z5.out; omega) (by have := Z5.out; omega) _ _) _ [⟨#[59]⟩] _ _ _ (by simp) rfl rfl (by decide)).mono ?_
   intro e w4 h
   rcases h.get with ⟨_,t4,v4,r4,rfl,rfl,CC,g⟩ | ⟨cc,aa,r4,rfl,g⟩
   rotate_left
   · exact ⟨rfl,Out.bad (by rw [stmP,if_neg h0,if_neg H2.out,if_pos M.out]; (first | rw [r3] | exact r3); try rw [bindOk]; (first | (rw [r4]; done) | (rw [r4]; rfl) | exact r4)) (gtr (gr_alloc (gr_ow2 (gr_ow2 (gr_ow2 (gr_ow2 (gr_ow2 (gr_ow2 (gr_ow2 (gr_ow2 (gr_ow2 (gr_ow2 (gr_ow2 (gr_ow2 (gr_ow2 (gr_ow2 G3.out (by have := Z5.out; omega) _ _) (by have := Z5.out; omega) _ _) (by have := Z5.out; omega) _ _) (by have := Z5.out; omega) _ _) (by have := Z5.out; omega) _ _) (by have := Z5.out; omega) _ _) (by have := Z5.out; omega) _ _) (by have := Z5.out; omega) _ _) (by have := Z5.out; omega) _ _) (by have := Z5.out; omega) _ _) (by have := Z5.out; omega) _ _) (by have := Z5.out; omega) _ _) (by have := Z5.out; omega) _ _) (by have := Z5.out; omega) _ _) _) g)⟩
   have gP := (gr_alloc (gr_set (gr_set (gr_set (gr_set (gr_set (gr_set (gr_set (gr_set (gr_set (gr_set (gr_set (gr_set (gr_set (gr_set (World.grownBy.refl w3 (some (w.heap.size + 1 + 1))) 0 (.int .i64 v1)) 1 (.int .i64 a1)) 2 (.string n1)) 3 (.bool i1)) 4 (.slice xa1 es1.length xc1)) 5 (.slice xa2 as1.length xc2)) 6 (.slice xa3 ms1.length xc3)) 7 (.slice xa4 el1.length xc4)) 8 (.slice xa5 bo1.length xc5)) 9 (.int .i64 lo1)) 10 (.int .i64 hi1)) 11 (.int .i64 by1)) 12 (.int .i64 ti1)) 1 (.int .i64 t.a)) (.cells #[.string ⟨#[59]⟩] 9))
   have V3 := hidI (kdS.keep (kdS.keep V2.out (fun b (hb : _ ≤ b) hl => gP.block b hl (fun e => by injection e with e; have := Z5.out; omega)) gP.size) (fun b (hb : _ ≤ b) hl => g.block b hl (fun e => by injection e with e; have := Z5.out; omega)) g.size)
   clear gP
   have A4 : Hid (w4.heap[w.heap.size]? = some (.cells #[pR R] 46)) := keptBut g (old (keepS (keepS (keepS (keepS (keepS (keepS (keepS (keepS (keepS (keepS (keepS (keepS (keepS (keepS A3.out (by have := Z5.out; omega)) (by have := Z5.out; omega)) (by have := Z5.out; omega)) (by have := Z5.out; omega)) (by have := Z5.out; omega)) (by have := Z5.out; omega)) (by have := Z5.out; omega)) (by have := Z5.out; omega)) (by have := Z5.out; omega)) (by have := Z5.out; omega)) (by have := Z5.out; omega)) (by have := Z5.out; omega)) (by have := Z5.out; omega)) (by have := Z5.out; omega)) _) (by have := Z5.out; omega)
   have B4 : Hid (w4.heap[w.heap.size + 1]? = some (.cells #[.int .i64 0,.int .i64 0,.string ⟨#[]⟩,.bool false,.slice none 0 0,.slice none 0 0,.slice none 0 0,.slice none 0 0,.slice none 0 0,.int .i64 0,.int .i64 0,.int .i64 0,.int .i64 0] 94)) := keptBut g (old (keepS (keepS (keepS (keepS (keepS (keepS (keepS (keepS (keepS (keepS (keepS (keepS (keepS (keepS B3.out (by have := Z5.out; omega)) (by have := Z5.out; omega)) (by have := Z5.out; omega)) (by have := Z5.out; omega)) (by have := Z5.out; omega)) (by have := Z5.out; omega)) (by have := Z5.out; omega)) (by have := Z5.out; omega)) (by have := Z5.out; omega)) (by have := Z5.out; omega)) (by have := Z5.out; omega)) (by have := Z5.out; omega)) (by have := Z5.out; omega)) (by have := Z5.out; omega)) _) (by have := Z5.out; omega)
   have P4 : Hid (w4.heap[w.heap.size + 1 + 1]? = some (.cells #[.int .i64 v1,.int .i64 t.a,.string n1,.bool i1,.slice xa1 es1.length xc1,.slice xa2 as1.length xc2,.slice xa3 ms1.length xc3,.slice xa4 el1.length xc4,.slice xa5 bo1.length xc5,.int .i64 lo1,.int .i64 hi1,.int .i64 by1,.int .i64 ti1] 94)) := keptBut g (by simpa using (old (at_set (at_set (at_set (at_set (at_set (at_set (at_set (at_set (at_set (at_set (at_set (at_set (at_set (at_set P3.out 0 (.int .i64 v1)) 1 (.int .i64 a1)) 2 (.string n1)) 3 (.bool i1)) 4 (.slice xa1 es1.length xc1)) 5 (.slice xa2 as1.length xc2)) 6 (.slice xa3 ms1.length xc3)) 7 (.slice xa4 el1.length xc4)) 8 (.slice xa5 bo1.length xc5)) 9 (.int .i64 lo1)) 10 (.int .i64 hi1)) 11 (.int .i64 by1)) 12 (.int .i64 ti1)) 1 (.int .i64 t.a)) _)) (by have := Z5.out; omega)
   have G4 := hidI (gtr (gr_alloc (gr_ow2 (gr_ow2 (gr_ow2 (gr_ow2 (gr_ow2 (gr_ow2 (gr_ow2 (gr_ow2 (gr_ow2 (gr_ow2 (gr_ow2 (gr_ow2 (gr_ow2 (gr_ow2 G3.out (by have := Z5.out; omega) _ _) (by have := Z5.out; omega) _ _) (by have := Z5.out; omega) _ _) (by have := Z5.out; omega) _ _) (by have := Z5.out; omega) _ _) (by have := Z5.out; omega) _ _) (by have := Z5.out; omega) _ _) (by have := Z5.out; omega) _ _) (by have := Z5.out; omega) _ _) (by have := Z5.out; omega) _ _) (by have := Z5.out; omega) _ _) (by have := Z5.out; omega) _ _) (by have := Z5.out; omega) _ _) (by have := Z5.out; omega) _ _) _) g)
   have C4 := hidI CC
   have S4 : Hid (w3.heap.size + 1 ≤ w4.heap.size) := hidI (by have := g.size; first | omega | (simp at this; omega) | (simp at this ⊢; omega))
   have Z6 := hidI (And.intro HR.out (And.intro S1.out (And.intro S2.out (And.intro S3.out S4.out))))
   clear g CC h ap aq ar af ag ah bp bq br bf bg bh pp pq pr pf pg ph
   obtain ⟨ap,aq,ar,af,ag,ah⟩ := facts A4.out
   obtain ⟨bp,bq,br,bf,bg,bh⟩ := facts B4.out
   obtain ⟨pp,pq,pr,pf,pg,ph⟩ := facts P4.out
   go_wp2_with fail
   have hP : stmP F (s.size + 2) (exP F (s.size + 2) d) (lisP F (s.size + 2) d) t = .ok (PS.set (.mk v1 a1 n1 i1 es1 as1 ms1 el1 bo1 lo1 hi1 by1 ti1 : PS) t.a) (t4) := by rw [stmP,if_neg h0,if_neg H2.out,if_pos M.out]; (first | rw [r3] | exact r3); try rw [bindOk]; (first | rw [r4] | exact r4); try rw [bindOk]
   refine bodyPost_ret (resBox rfl _ _ (w.heap.size + 1) _ rfl (ld94 (box13 B4.out))) rfl (Out.ok hP ?_ ?_ ?_)
   · exact ⟨⟨.slice xa1 es1.length xc1,.slice xa2 as1.length xc2,.slice xa3 ms1.length xc3,.slice xa4 el1.length xc4,.slice xa5 bo1.length xc5⟩,rfl,kdS.imp (kdS.keep V3.out (fun b (hb : _ ≤ b) hl => (gr13 (World.grownBy.refl _ _)).block b hl (fun e => by injection e with e; have := Z6.out; omega)) (gr13 (World.grownBy.refl _ (some (w.heap.size + 1)))).size) (fun b _ (hb : _ ≤ b) => (by have := Z6.out; omega : w.heap.size ≤ b))⟩
   · exact C4.out.gq (gr13 (World.grownBy.refl _ _)) (by have := Z6.out; omega) (by have := Z6.out; omega)
   · exact gr13o G4.out (by have := Z6.out; omega)
 have M0 := hidI hm
 clear hm
 go_wp2_with fail
 refine (tookN C1.out _ [⟨#[105,102]⟩] _ _ _ (by simp) rfl rfl (by decide) h0 M0.out).mono ?_
 rintro e w2 ⟨⟨v,rfl,rfl⟩,CC,g⟩
 have A2 : Hid (w2.heap[w.heap.size]? = some (.cells #[pR R] 46)) := keptBut g (old A1.out _) (by have := Z1.out; omega)
 have B2 : Hid (w2.heap[w.heap.size + 1]? = some (.cells #[.int .i64 0,.int .i64 0,.string ⟨#[]⟩,.bool false,.slice none 0 0,.slice none 0 0,.slice none 0 0,.slice none 0 0,.slice none 0 0,.int .i64 0,.int .i64 0,.int .i64 0,.int .i64 0] 94)) := keptBut g (old B1.out _) (by have := Z1.out; omega)
 have P2 : Hid (w2.heap[w.heap.size + 1 + 1]? = some (.cells #[.int .i64 0,.int .i64 0,.string ⟨#[]⟩,.bool false,.slice none 0 0,.slice none 0 0,.slice none 0 0,.slice none 0 0,.slice none 0 0,.int .i64 0,.int .i64 0,.int .i64 0,.int .i64 0] 94)) := keptBut g (old P1.out _) (by have := Z1.out; omega)
 have G2 := hidI (gtr (gr_alloc G1.out _) g)
 have C2 := hidI CC
 have S2 : Hid (w1.heap.size + 1 ≤ w2.heap.size) := hidI (by have := g.size; first | omega | (simp at this; omega) | (simp at this ⊢; omega))
 have Z7 := hidI (And.intro HR.out (And.intro S1.out S2.out))
 clear g CC ap aq ar af ag ah bp bq br bf bg bh pp pq pr pf pg ph
 obtain ⟨ap,aq,ar,af,ag,ah⟩ := facts A2.out
 obtain ⟨bp,bq,br,bf,bg,bh⟩ := facts B2.out
 obtain ⟨pp,pq,pr,pf,pg,ph⟩ := facts P2.out
 by_cases hm : mem [⟨#[99,97,115,101]⟩] t = true
 · have M := hidI hm
   clear hm
   go_wp2_with fail
   refine (tookY C2.out _ [⟨#[99,97,115,101]⟩] _ _ _ (by simp) rfl rfl (by decide) h0 M.out).mono ?_
   rintro e w3 ⟨⟨v,rfl,rfl⟩,CC,g⟩
   have A3 : Hid (w3.heap[w.heap.size]? = some (.cells #[pR R] 46)) := keptBut g (old A2.out _) (by have := Z7.out; omega)
   have B3 : Hid (w3.heap[w.heap.size + 1]? = some (.cells #[.int .i64 0,.int .i64 0,.string ⟨#[]⟩,.bool false,.slice none 0 0,.slice none 0 0,.slice none 0 0,.slice none 0 0,.slice none 0 0,.int .i64 0,.int .i64 0,.int .i64 0,.int .i64 0] 94)) := keptBut g (old B2.out _) (by have := Z7.out; omega)
   have P3 : Hid (w3.heap[w.heap.size + 1 + 1]? = some (.cells #[.int .i64 0,.int .i64 0,.string ⟨#[]⟩,.bool false,.slice none 0 0,.slice none 0 0,.slice none 0 0,.slice none 0 0,.slice none 0 0,.int .i64 0,.int .i64 0,.int .i64 0,.int .i64 0] 94)) := keptBut g (old P2.out _) (by have := Z7.out; omega)
   have G3 := hidI (gtr (gr_alloc G2.out _) g)
   have C3 := hidI CC
   have S3 : Hid (w2.heap.size + 1 ≤ w3.heap.size) := hidI (by have := g.size; first | omega | (simp at this; omega) | (simp at this ⊢; omega))
   have Z8 := hidI (And.intro HR.out (And.intro S1.out (And.intro S2.out S3.out)))
   clear g CC ap aq ar af ag ah bp bq br bf bg bh pp pq pr pf pg ph
   obtain ⟨ap,aq,ar,af,ag,ah⟩ := facts A3.out
   obtain ⟨bp,bq,br,bf,bg,bh⟩ := facts B3.out
   obtain ⟨pp,pq,pr,pf,pg,ph⟩ := facts P3.out
   go_wp2_with fail
   refine (cases_any HS.out d hd HE.out _ _ (dp + 1) HD.out C3.out).mono ?_
   intro e w4 h
   rcases h.get with ⟨p1,t4,v4,r4,rfl,⟨q1,rfl,hv⟩,CC,g⟩ | ⟨cc,aa,r4,rfl,g⟩
   rotate_left
   · exact ⟨rfl,Out.bad (by rw [stmP,if_neg h0,if_neg H2.out,if_neg M0.out,if_pos M.out]; (first | (rw [r4]; done) | (rw [r4]; rfl) | exact r4)) (gtr G3.out g)⟩
   have A4 : Hid (w4.heap[w.heap.size]? = some (.cells #[pR R] 46)) := keptBut g A3.out (by have := Z8.out; omega)
   have B4 : Hid (w4.heap[w.heap.size + 1]? = some (.cells #[.int .i64 0,.int .i64 0,.string ⟨#[]⟩,.bool false,.slice none 0 0,.slice none 0 0,.slice none 0 0,.slice none 0 0,.slice none 0 0,.int .i64 0,.int .i64 0,.int .i64 0,.int .i64 0] 94)) := keptBut g B3.out (by have := Z8.out; omega)
   have P4 : Hid (w4.heap[w.heap.size + 1 + 1]? = some (.cells #[.int .i64 0,.int .i64 0,.string ⟨#[]⟩,.bool false,.slice none 0 0,.slice none 0 0,.slice none 0 0,.slice none 0 0,.slice none 0 0,.int .i64 0,.int .i64 0,.int .i64 0,.int .i64 0] 94)) := keptBut g P3.out (by have := Z8.out; omega)
   have G4 := hidI (gtr G3.out g)
   have C4 := hidI CC
   have S4 : Hid (w3.heap.size + 0 ≤ w4.heap.size) := hidI (by have := g.size; first | omega | (simp at this; omega) | (simp at this ⊢; omega))
   have Z9 := hidI (And.intro HR.out (And.intro S1.out (And.intro S2.out (And.intro S3.out S4.out))))
   clear g CC h ap aq ar af ag ah bp bq br bf bg bh pp pq pr pf pg ph
   obtain ⟨ap,aq,ar,af,ag,ah⟩ := facts A4.out
   obtain ⟨bp,bq,br,bf,bg,bh⟩ := facts B4.out
   obtain ⟨pp,pq,pr,pf,pg,ph⟩ := facts P4.out
   rcases p1 with ⟨v1,a1,n1,i1,es1,as1,ms1,el1,bo1,lo1,hi1,by1,ti1⟩
   obtain ⟨xa1,xc1,xa2,xc2,xa3,xc3,xa4,xc4,xa5,xc5,rfl⟩ := sS_sl hv
   have V2 := hidI hv
   clear hv
   simp only [sC,PS.es,PS.args,PS.arms,PS.els,PS.body]
   go_wp2_with fail
   refine (needW ((((((((((((((C4.out.set (by have := Z9.out; omega) (by have := Z9.out; omega) _ _).set (by have := Z9.out; omega) (by have := Z9.out; omega) _ _).set (by have := Z9.out; omega) (by have := Z9.out; omega) _ _).set (by have := Z9.out; omega) (by have := Z9.out; omega) _ _).set (by have := Z9.out; omega) (by have := Z9.out; omega) _ _).set (by have := Z9.out; omega) (by have := Z9.out; omega) _ _).set (by have := Z9.out; omega) (by have := Z9.out; omega) _ _).set (by have := Z9.out; omega) (by have := Z9.out; omega) _ _).set (by have := Z9.out; omega) (by have := Z9.out; omega) _ _).set (by have := Z9.out; omega) (by have := Z9.out; omega) _ _).set (by have := Z9.out; omega) (by have := Z9.out; omega) _ _).set (by have := Z9.out; omega) (by have := Z9.out; omega) _ _).set (by have := Z9.out; omega) (by have := Z9.out; omega) _ _).set (by have := Z9.out; omega) (by have := Z9.out; omega) _ _) _ [⟨#[59]⟩] _ _ _ (by simp) rfl rfl (by decide)).mono ?_
   intro e w5 h
   rcases h.get with ⟨_,t5,v5,r5,rfl,rfl,CC,g⟩ | ⟨cc,aa,r5,rfl,g⟩
   rotate_left
   · exact ⟨rfl,Out.bad (by rw [stmP,if_neg h0,if_neg H2.out,if_neg M0.out,if_pos M.out]; (first | rw [r4] | exact r4); try rw [bindOk]; (first | (rw [r5]; done) | (rw [r5]; rfl) | exact r5)) (gtr (gr_alloc (gr_ow2 (gr_ow2 (gr_ow2 (gr_ow2 (gr_ow2 (gr_ow2 (gr_ow2 (gr_ow2 (gr_ow2 (gr_ow2 (gr_ow2 (gr_ow2 (gr_ow2 (gr_ow2 G4.out (by have := Z9.out; omega) _ _) (by have := Z9.out; omega) _ _) (by have := Z9.out; omega) _ _) (by have := Z9.out; omega) _ _) (by have := Z9.out; omega) _ _) (by have := Z9.out; omega) _ _) (by have := Z9.out; omega) _ _) (by have := Z9.out; omega) _ _) (by have := Z9.out; omega) _ _) (by have := Z9.out; omega) _ _) (by have := Z9.out; omega) _ _) (by have := Z9.out; omega) _ _) (by have := Z9.out; omega) _ _) (by have := Z9.out; omega) _ _) _) g)⟩
   have gP := (gr_alloc (gr_set (gr_set (gr_set (gr_set (gr_set (gr_set (gr_set (gr_set (gr_set (gr_set (gr_set (gr_set (gr_set (gr_set (World.grownBy.refl w4 (some (w.heap.size + 1 + 1))) 0 (.int .i64 v1)) 1 (.int .i64 a1)) 2 (.string n1)) 3 (.bool i1)) 4 (.slice xa1 es1.length xc1)) 5 (.slice xa2 as1.length xc2)) 6 (.slice xa3 ms1.length xc3)) 7 (.slice xa4 el1.length xc4)) 8 (.slice xa5 bo1.length xc5)) 9 (.int .i64 lo1)) 10 (.int .i64 hi1)) 11 (.int .i64 by1)) 12 (.int .i64 ti1)) 1 (.int .i64 t.a)) (.cells #[.string ⟨#[59]⟩] 9))
   have V3 := hidI (kdS.keep (kdS.keep V2.out (fun b (hb : _ ≤ b) hl => gP.block b hl (fun e => by injection e with e; have := Z9.out; omega)) gP.size) (fun b (hb : _ ≤ b) hl => g.block b hl (fun e => by injection e with e; have := Z9.out; omega)) g.size)
   clear gP
   have A5 : Hid (w5.heap[w.heap.size]? = some (.cells #[pR R] 46)) := keptBut g (old (keepS (keepS (keepS (keepS (keepS (keepS (keepS (keepS (keepS (keepS (keepS (keepS (keepS (keepS A4.out (by have := Z9.out; omega)) (by have := Z9.out; omega)) (by have := Z9.out; omega)) (by have := Z9.out; omega)) (by have := Z9.out; omega)) (by have := Z9.out; omega)) (by have := Z9.out; omega)) (by have := Z9.out; omega)) (by have := Z9.out; omega)) (by have := Z9.out; omega)) (by have := Z9.out; omega)) (by have := Z9.out; omega)) (by have := Z9.out; omega)) (by have := Z9.out; omega)) _) (by have := Z9.out; omega)
   have B5 : Hid (w5.heap[w.heap.size + 1]? = some (.cells #[.int .i64 0,.int .i64 0,.string ⟨#[]⟩,.bool false,.slice none 0 0,.slice none 0 0,.slice none 0 0,.slice none 0 0,.slice none 0 0,.int .i64 0,.int .i64 0,.int .i64 0,.int .i64 0] 94)) := keptBut g (old (keepS (keepS (keepS (keepS (keepS (keepS (keepS (keepS (keepS (keepS (keepS (keepS (keepS (keepS B4.out (by have := Z9.out; omega)) (by have := Z9.out; omega)) (by have := Z9.out; omega)) (by have := Z9.out; omega)) (by have := Z9.out; omega)) (by have := Z9.out; omega)) (by have := Z9.out; omega)) (by have := Z9.out; omega)) (by have := Z9.out; omega)) (by have := Z9.out; omega)) (by have := Z9.out; omega)) (by have := Z9.out; omega)) (by have := Z9.out; omega)) (by have := Z9.out; omega)) _) (by have := Z9.out; omega)
   have P5 : Hid (w5.heap[w.heap.size + 1 + 1]? = some (.cells #[.int .i64 v1,.int .i64 t.a,.string n1,.bool i1,.slice xa1 es1.length xc1,.slice xa2 as1.length xc2,.slice xa3 ms1.length xc3,.slice xa4 el1.length xc4,.slice xa5 bo1.length xc5,.int .i64 lo1,.int .i64 hi1,.int .i64 by1,.int .i64 ti1] 94)) := keptBut g (by simpa using (old (at_set (at_set (at_set (at_set (at_set (at_set (at_set (at_set (at_set (at_set (at_set (at_set (at_set (at_set P4.out 0 (.int .i64 v1)) 1 (.int .i64 a1)) 2 (.string n1)) 3 (.bool i1)) 4 (.slice xa1 es1.length xc1)) 5 (.slice xa2 as1.length xc2)) 6 (.slice xa3 ms1.length xc3)) 7 (.slice xa4 el1.length xc4)) 8 (.slice xa5 bo1.length xc5)) 9 (.int .i64 lo1)) 10 (.int .i64 hi1)) 11 (.int .i64 by1)) 12 (.int .i64 ti1)) 1 (.int .i64 t.a)) _)) (by have := Z9.out; omega)
   have G5 := hidI (gtr (gr_alloc (gr_ow2 (gr_ow2 (gr_ow2 (gr_ow2 (gr_ow2 (gr_ow2 (gr_ow2 (gr_ow2 (gr_ow2 (gr_ow2 (gr_ow2 (gr_ow2 (gr_ow2 (gr_ow2 G4.out (by have := Z9.out; omega) _ _) (by have := Z9.out; omega) _ _) (by have := Z9.out; omega) _ _) (by have := Z9.out; omega) _ _) (by have := Z9.out; omega) _ _) (by have := Z9.out; omega) _ _) (by have := Z9.out; omega) _ _) (by have := Z9.out; omega) _ _) (by have := Z9.out; omega) _ _) (by have := Z9.out; omega) _ _) (by have := Z9.out; omega) _ _) (by have := Z9.out; omega) _ _) (by have := Z9.out; omega) _ _) (by have := Z9.out; omega) _ _) _) g)
   have C5 := hidI CC
   have S5 : Hid (w4.heap.size + 1 ≤ w5.heap.size) := hidI (by have := g.size; first | omega | (simp at this; omega) | (simp at this ⊢; omega))
   have Z10 := hidI (And.intro HR.out (And.intro S1.out (And.intro S2.out (And.intro S3.out (And.intro S4.out S5.out)))))
   clear g CC h ap aq ar af ag ah bp bq br bf bg bh pp pq pr pf pg ph
   obtain ⟨ap,aq,ar,af,ag,ah⟩ := facts A5.out
   obtain ⟨bp,bq,br,bf,bg,bh⟩ := facts B5.out
   obtain ⟨pp,pq,pr,pf,pg,ph⟩ := facts P5.out
   go_wp2_with fail
   have hP : stmP F (s.size + 2) (exP F (s.size + 2) d) (lisP F (s.size + 2) d) t = .ok (PS.set (.mk v1 a1 n1 i1 es1 as1 ms1 el1 bo1 lo1 hi1 by1 ti1 : PS) t.a) (t5) := by rw [stmP,if_neg h0,if_neg H2.out,if_neg M0.out,if_pos M.out]; (first | rw [r4] | exact r4); try rw [bindOk]; (first | rw [r5] | exact r5); try rw [bindOk]
   refine bodyPost_ret (resBox rfl _ _ (w.heap.size + 1) _ rfl (ld94 (box13 B5.out))) rfl (Out.ok hP ?_ ?_ ?_)
   · exact ⟨⟨.slice xa1 es1.length xc1,.slice xa2 as1.length xc2,.slice xa3 ms1.length xc3,.slice xa4 el1.length xc4,.slice xa5 bo1.length xc5⟩,rfl,kdS.imp (kdS.keep V3.out (fun b (hb : _ ≤ b) hl => (gr13 (World.grownBy.refl _ _)).block b hl (fun e => by injection e with e; have := Z10.out; omega)) (gr13 (World.grownBy.refl _ (some (w.heap.size + 1)))).size) (fun b _ (hb : _ ≤ b) => (by have := Z10.out; omega : w.heap.size ≤ b))⟩
   · exact C5.out.gq (gr13 (World.grownBy.refl _ _)) (by have := Z10.out; omega) (by have := Z10.out; omega)
   · exact gr13o G5.out (by have := Z10.out; omega)
 have M1 := hidI hm
 clear hm
 go_wp2_with fail
 refine (tookN C2.out _ [⟨#[99,97,115,101]⟩] _ _ _ (by simp) rfl rfl (by decide) h0 M1.out).mono ?_
 rintro e w3 ⟨⟨v,rfl,rfl⟩,CC,g⟩
 have A3 : Hid (w3.heap[w.heap.size]? = some (.cells #[pR R] 46)) := keptBut g (old A2.out _) (by have := Z7.out; omega)
 have B3 : Hid (w3.heap[w.heap.size + 1]? = some (.cells #[.int .i64 0,.int .i64 0,.string ⟨#[]⟩,.bool false,.slice none 0 0,.slice none 0 0,.slice none 0 0,.slice none 0 0,.slice none 0 0,.int .i64 0,.int .i64 0,.int .i64 0,.int .i64 0] 94)) := keptBut g (old B2.out _) (by have := Z7.out; omega)
 have P3 : Hid (w3.heap[w.heap.size + 1 + 1]? = some (.cells #[.int .i64 0,.int .i64 0,.string ⟨#[]⟩,.bool false,.slice none 0 0,.slice none 0 0,.slice none 0 0,.slice none 0 0,.slice none 0 0,.int .i64 0,.int .i64 0,.int .i64 0,.int .i64 0] 94)) := keptBut g (old P2.out _) (by have := Z7.out; omega)
 have G3 := hidI (gtr (gr_alloc G2.out _) g)
 have C3 := hidI CC
 have S3 : Hid (w2.heap.size + 1 ≤ w3.heap.size) := hidI (by have := g.size; first | omega | (simp at this; omega) | (simp at this ⊢; omega))
 have Z11 := hidI (And.intro HR.out (And.intro S1.out (And.intro S2.out S3.out)))
 clear g CC ap aq ar af ag ah bp bq br bf bg bh pp pq pr pf pg ph
 obtain ⟨ap,aq,ar,af,ag,ah⟩ := facts A3.out
 obtain ⟨bp,bq,br,bf,bg,bh⟩ := facts B3.out
 obtain ⟨pp,pq,pr,pf,pg,ph⟩ := facts P3.out
 by_cases hm : mem [⟨#[102,111,114]⟩] t = true
 · have M := hidI hm
   clear hm
   go_wp2_with fail
   refine (tookY C3.out _ [⟨#[102,111,114]⟩] _ _ _ (by simp) rfl rfl (by decide) h0 M.out).mono ?_
   rintro e w4 ⟨⟨v,rfl,rfl⟩,CC,g⟩
   have A4 : Hid (w4.heap[w.heap.size]? = some (.cells #[pR R] 46)) := keptBut g (old A3.out _) (by have := Z11.out; omega)
   have B4 : Hid (w4.heap[w.heap.size + 1]? = some (.cells #[.int .i64 0,.int .i64 0,.string ⟨#[]⟩,.bool false,.slice none 0 0,.slice none 0 0,.slice none 0 0,.slice none 0 0,.slice none 0 0,.int .i64 0,.int .i64 0,.int .i64 0,.int .i64 0] 94)) := keptBut g (old B3.out _) (by have := Z11.out; omega)
   have P4 : Hid (w4.heap[w.heap.size + 1 + 1]? = some (.cells #[.int .i64 0,.int .i64 0,.string ⟨#[]⟩,.bool false,.slice none 0 0,.slice none 0 0,.slice none 0 0,.slice none 0 0,.slice none 0 0,.int .i64 0,.int .i64 0,.int .i64 0,.int .i64 0] 94)) := keptBut g (old P3.out _) (by have := Z11.out; omega)
   have G4 := hidI (gtr (gr_alloc G3.out _) g)
   have C4 := hidI CC
   have S4 : Hid (w3.heap.size + 1 ≤ w4.heap.size) := hidI (by have := g.size; first | omega | (simp at this; omega) | (simp at this ⊢; omega))
   have Z12 := hidI (And.intro HR.out (And.intro S1.out (And.intro S2.out (And.intro S3.out S4.out))))
   clear g CC ap aq ar af ag ah bp bq br bf bg bh pp pq pr pf pg ph
   obtain ⟨ap,aq,ar,af,ag,ah⟩ := facts A4.out
   obtain ⟨bp,bq,br,bf,bg,bh⟩ := facts B4.out
   obtain ⟨pp,pq,pr,pf,pg,ph⟩ := facts P4.out
   go_wp2_with fail
   refine (for_any d hd HE.out _ _ (dp + 1) HD.out C4.out).mono ?_
   intro e w5 h
   rcases h.get with ⟨p1,t5,v5,r5,rfl,⟨q1,rfl,hv⟩,CC,g⟩ | ⟨cc,aa,r5,rfl,g⟩
   rotate_left
   · exact ⟨rfl,Out.bad (by rw [stmP,if_neg h0,if_neg H2.out,if_neg M0.out,if_neg M1.out,if_pos M.out]; (first | (rw [r5]; done) | (rw [r5]; rfl) | exact r5)) (gtr G4.out g)⟩
   have A5 : Hid (w5.heap[w.heap.size]? = some (.cells #[pR R] 46)) := keptBut g A4.out (by have := Z12.out; omega)
   have B5 : Hid (w5.heap[w.heap.size + 1]? = some (.cells #[.int .i64 0,.int .i64 0,.string ⟨#[]⟩,.bool false,.slice none 0 0,.slice none 0 0,.slice none 0 0,.slice none 0 0,.slice none 0 0,.int .i64 0,.int .i64 0,.int .i64 0,.int .i64 0] 94)) := keptBut g B4.out (by have := Z12.out; omega)
   have P5 : Hid (w5.heap[w.heap.size + 1 + 1]? = some (.cells #[.int .i64 0,.int .i64 0,.string ⟨#[]⟩,.bool false,.slice none 0 0,.slice none 0 0,.slice none 0 0,.slice none 0 0,.slice none 0 0,.int .i64 0,.int .i64 0,.int .i64 0,.int .i64 0] 94)) := keptBut g P4.out (by have := Z12.out; omega)
   have G5 := hidI (gtr G4.out g)
   have C5 := hidI CC
   have S5 : Hid (w4.heap.size + 0 ≤ w5.heap.size) := hidI (by have := g.size; first | omega | (simp at this; omega) | (simp at this ⊢; omega))
   have Z13 := hidI (And.intro HR.out (And.intro S1.out (And.intro S2.out (And.intro S3.out (And.intro S4.out S5.out)))))
   clear g CC h ap aq ar af ag ah bp bq br bf bg bh pp pq pr pf pg ph
   obtain ⟨ap,aq,ar,af,ag,ah⟩ := facts A5.out
   obtain ⟨bp,bq,br,bf,bg,bh⟩ := facts B5.out
   obtain ⟨pp,pq,pr,pf,pg,ph⟩ := facts P5.out
   rcases p1 with ⟨v1,a1,n1,i1,es1,as1,ms1,el1,bo1,lo1,hi1,by1,ti1⟩
   obtain ⟨xa1,xc1,xa2,xc2,xa3,xc3,xa4,xc4,xa5,xc5,rfl⟩ := sS_sl hv
   have V2 := hidI hv
   clear hv
   simp only [sC,PS.es,PS.args,PS.arms,PS.els,PS.body]
   go_wp2_with fail
   refine (needW ((((((((((((((C5.out.set (by have := Z13.out; omega) (by have := Z13.out; omega) _ _).set (by have := Z13.out; omega) (by have := Z13.out; omega) _ _).set (by have := Z13.out; omega) (by have := Z13.out; omega) _ _).set (by have := Z13.out; omega) (by have := Z13.out; omega) _ _).set (by have := Z13.out; omega) (by have := Z13.out; omega) _ _).set (by have := Z13.out; omega) (by have := Z13.out; omega) _ _).set (by have := Z13.out; omega) (by have := Z13.out; omega) _ _).set (by have := Z13.out; omega) (by have := Z13.out; omega) _ _).set (by have := Z13.out; omega) (by have := Z13.out; omega) _ _).set (by have := Z13.out; omega) (by have := Z13.out; omega) _ _).set (by have := Z13.out; omega) (by have := Z13.out; omega) _ _).set (by have := Z13.out; omega) (by have := Z13.out; omega) _ _).set (by have := Z13.out; omega) (by have := Z13.out; omega) _ _).set (by have := Z13.out; omega) (by have := Z13.out; omega) _ _) _ [⟨#[59]⟩] _ _ _ (by simp) rfl rfl (by decide)).mono ?_
   intro e w6 h
   rcases h.get with ⟨_,t6,v6,r6,rfl,rfl,CC,g⟩ | ⟨cc,aa,r6,rfl,g⟩
   rotate_left
   · exact ⟨rfl,Out.bad (by rw [stmP,if_neg h0,if_neg H2.out,if_neg M0.out,if_neg M1.out,if_pos M.out]; (first | rw [r5] | exact r5); try rw [bindOk]; (first | (rw [r6]; done) | (rw [r6]; rfl) | exact r6)) (gtr (gr_alloc (gr_ow2 (gr_ow2 (gr_ow2 (gr_ow2 (gr_ow2 (gr_ow2 (gr_ow2 (gr_ow2 (gr_ow2 (gr_ow2 (gr_ow2 (gr_ow2 (gr_ow2 (gr_ow2 G5.out (by have := Z13.out; omega) _ _) (by have := Z13.out; omega) _ _) (by have := Z13.out; omega) _ _) (by have := Z13.out; omega) _ _) (by have := Z13.out; omega) _ _) (by have := Z13.out; omega) _ _) (by have := Z13.out; omega) _ _) (by have := Z13.out; omega) _ _) (by have := Z13.out; omega) _ _) (by have := Z13.out; omega) _ _) (by have := Z13.out; omega) _ _) (by have := Z13.out; omega) _ _) (by have := Z13.out; omega) _ _) (by have := Z13.out; omega) _ _) _) g)⟩
   have gP := (gr_alloc (gr_set (gr_set (gr_set (gr_set (gr_set (gr_set (gr_set (gr_set (gr_set (gr_set (gr_set (gr_set (gr_set (gr_set (World.grownBy.refl w5 (some (w.heap.size + 1 + 1))) 0 (.int .i64 v1)) 1 (.int .i64 a1)) 2 (.string n1)) 3 (.bool i1)) 4 (.slice xa1 es1.length xc1)) 5 (.slice xa2 as1.length xc2)) 6 (.slice xa3 ms1.length xc3)) 7 (.slice xa4 el1.length xc4)) 8 (.slice xa5 bo1.length xc5)) 9 (.int .i64 lo1)) 10 (.int .i64 hi1)) 11 (.int .i64 by1)) 12 (.int .i64 ti1)) 1 (.int .i64 t.a)) (.cells #[.string ⟨#[59]⟩] 9))
   have V3 := hidI (kdS.keep (kdS.keep V2.out (fun b (hb : _ ≤ b) hl => gP.block b hl (fun e => by injection e with e; have := Z13.out; omega)) gP.size) (fun b (hb : _ ≤ b) hl => g.block b hl (fun e => by injection e with e; have := Z13.out; omega)) g.size)
   clear gP
   have A6 : Hid (w6.heap[w.heap.size]? = some (.cells #[pR R] 46)) := keptBut g (old (keepS (keepS (keepS (keepS (keepS (keepS (keepS (keepS (keepS (keepS (keepS (keepS (keepS (keepS A5.out (by have := Z13.out; omega)) (by have := Z13.out; omega)) (by have := Z13.out; omega)) (by have := Z13.out; omega)) (by have := Z13.out; omega)) (by have := Z13.out; omega)) (by have := Z13.out; omega)) (by have := Z13.out; omega)) (by have := Z13.out; omega)) (by have := Z13.out; omega)) (by have := Z13.out; omega)) (by have := Z13.out; omega)) (by have := Z13.out; omega)) (by have := Z13.out; omega)) _) (by have := Z13.out; omega)
   have B6 : Hid (w6.heap[w.heap.size + 1]? = some (.cells #[.int .i64 0,.int .i64 0,.string ⟨#[]⟩,.bool false,.slice none 0 0,.slice none 0 0,.slice none 0 0,.slice none 0 0,.slice none 0 0,.int .i64 0,.int .i64 0,.int .i64 0,.int .i64 0] 94)) := keptBut g (old (keepS (keepS (keepS (keepS (keepS (keepS (keepS (keepS (keepS (keepS (keepS (keepS (keepS (keepS B5.out (by have := Z13.out; omega)) (by have := Z13.out; omega)) (by have := Z13.out; omega)) (by have := Z13.out; omega)) (by have := Z13.out; omega)) (by have := Z13.out; omega)) (by have := Z13.out; omega)) (by have := Z13.out; omega)) (by have := Z13.out; omega)) (by have := Z13.out; omega)) (by have := Z13.out; omega)) (by have := Z13.out; omega)) (by have := Z13.out; omega)) (by have := Z13.out; omega)) _) (by have := Z13.out; omega)
   have P6 : Hid (w6.heap[w.heap.size + 1 + 1]? = some (.cells #[.int .i64 v1,.int .i64 t.a,.string n1,.bool i1,.slice xa1 es1.length xc1,.slice xa2 as1.length xc2,.slice xa3 ms1.length xc3,.slice xa4 el1.length xc4,.slice xa5 bo1.length xc5,.int .i64 lo1,.int .i64 hi1,.int .i64 by1,.int .i64 ti1] 94)) := keptBut g (by simpa using (old (at_set (at_set (at_set (at_set (at_set (at_set (at_set (at_set (at_set (at_set (at_set (at_set (at_set (at_set P5.out 0 (.int .i64 v1)) 1 (.int .i64 a1)) 2 (.string n1)) 3 (.bool i1)) 4 (.slice xa1 es1.length xc1)) 5 (.slice xa2 as1.length xc2)) 6 (.slice xa3 ms1.length xc3)) 7 (.slice xa4 el1.length xc4)) 8 (.slice xa5 bo1.length xc5)) 9 (.int .i64 lo1)) 10 (.int .i64 hi1)) 11 (.int .i64 by1)) 12 (.int .i64 ti1)) 1 (.int .i64 t.a)) _)) (by have := Z13.out; omega)
   have G6 := hidI (gtr (gr_alloc (gr_ow2 (gr_ow2 (gr_ow2 (gr_ow2 (gr_ow2 (gr_ow2 (gr_ow2 (gr_ow2 (gr_ow2 (gr_ow2 (gr_ow2 (gr_ow2 (gr_ow2 (gr_ow2 G5.out (by have := Z13.out; omega) _ _) (by have := Z13.out; omega) _ _) (by have := Z13.out; omega) _ _) (by have := Z13.out; omega) _ _) (by have := Z13.out; omega) _ _) (by have := Z13.out; omega) _ _) (by have := Z13.out; omega) _ _) (by have := Z13.out; omega) _ _) (by have := Z13.out; omega) _ _) (by have := Z13.out; omega) _ _) (by have := Z13.out; omega) _ _) (by have := Z13.out; omega) _ _) (by have := Z13.out; omega) _ _) (by have := Z13.out; omega) _ _) _) g)
   have C6 := hidI CC
   have S6 : Hid (w5.heap.size + 1 ≤ w6.heap.size) := hidI (by have := g.size; first | omega | (simp at this; omega) | (simp at this ⊢; omega))
   have Z14 := hidI (And.intro HR.out (And.intro S1.out (And.intro S2.out (And.intro S3.out (And.intro S4.out (And.intro S5.out S6.out))))))
   clear g CC h ap aq ar af ag ah bp bq br bf bg bh pp pq pr pf pg ph
   obtain ⟨ap,aq,ar,af,ag,ah⟩ := facts A6.out
   obtain ⟨bp,bq,br,bf,bg,bh⟩ := facts B6.out
   obtain ⟨pp,pq,pr,pf,pg,ph⟩ := facts P6.out
   go_wp2_with fail
   have hP : stmP F (s.size + 2) (exP F (s.size + 2) d) (lisP F (s.size + 2) d) t = .ok (PS.set (.mk v1 a1 n1 i1 es1 as1 ms1 el1 bo1 lo1 hi1 by1 ti1 : PS) t.a) (t6) := by rw [stmP,if_neg h0,if_neg H2.out,if_neg M0.out,if_neg M1.out,if_pos M.out]; (first | rw [r5] | exact r5); try rw [bindOk]; (first | rw [r6] | exact r6); try rw [bindOk]
   refine bodyPost_ret (resBox rfl _ _ (w.heap.size + 1) _ rfl (ld94 (box13 B6.out))) rfl (Out.ok hP ?_ ?_ ?_)
   · exact ⟨⟨.slice xa1 es1.length xc1,.slice xa2 as1.length xc2,.slice xa3 ms1.length xc3,.slice xa4 el1.length xc4,.slice xa5 bo1.length xc5⟩,rfl,kdS.imp (kdS.keep V3.out (fun b (hb : _ ≤ b) hl => (gr13 (World.grownBy.refl _ _)).block b hl (fun e => by injection e with e; have := Z14.out; omega)) (gr13 (World.grownBy.refl _ (some (w.heap.size + 1)))).size) (fun b _ (hb : _ ≤ b) => (by have := Z14.out; omega : w.heap.size ≤ b))⟩
   · exact C6.out.gq (gr13 (World.grownBy.refl _ _)) (by have := Z14.out; omega) (by have := Z14.out; omega)
   · exact gr13o G6.out (by have := Z14.out; omega)
 have M2 := hidI hm
 clear hm
 go_wp2_with fail
 refine (tookN C3.out _ [⟨#[102,111,114]⟩] _ _ _ (by simp) rfl rfl (by decide) h0 M2.out).mono ?_
 rintro e w4 ⟨⟨v,rfl,rfl⟩,CC,g⟩
 have A4 : Hid (w4.heap[w.heap.size]? = some (.cells #[pR R] 46)) := keptBut g (old A3.out _) (by have := Z11.out; omega)
 have B4 : Hid (w4.heap[w.heap.size + 1]? = some (.cells #[.int .i64 0,.int .i64 0,.string ⟨#[]⟩,.bool false,.slice none 0 0,.slice none 0 0,.slice none 0 0,.slice none 0 0,.slice none 0 0,.int .i64 0,.int .i64 0,.int .i64 0,.int .i64 0] 94)) := keptBut g (old B3.out _) (by have := Z11.out; omega)
 have P4 : Hid (w4.heap[w.heap.size + 1 + 1]? = some (.cells #[.int .i64 0,.int .i64 0,.string ⟨#[]⟩,.bool false,.slice none 0 0,.slice none 0 0,.slice none 0 0,.slice none 0 0,.slice none 0 0,.int .i64 0,.int .i64 0,.int .i64 0,.int .i64 0] 94)) := keptBut g (old P3.out _) (by have := Z11.out; omega)
 have G4 := hidI (gtr (gr_alloc G3.out _) g)
 have C4 := hidI CC
 have S4 : Hid (w3.heap.size + 1 ≤ w4.heap.size) := hidI (by have := g.size; first | omega | (simp at this; omega) | (simp at this ⊢; omega))
 have Z15 := hidI (And.intro HR.out (And.intro S1.out (And.intro S2.out (And.intro S3.out S4.out))))
 clear g CC ap aq ar af ag ah bp bq br bf bg bh pp pq pr pf pg ph
 obtain ⟨ap,aq,ar,af,ag,ah⟩ := facts A4.out
 obtain ⟨bp,bq,br,bf,bg,bh⟩ := facts B4.out
 obtain ⟨pp,pq,pr,pf,pg,ph⟩ := facts P4.out
 by_cases hm : mem [⟨#[119,104,105,108,101]⟩] t = true
 · have M := hidI hm
   clear hm
   go_wp2_with fail
   refine (tookY C4.out _ [⟨#[119,104,105,108,101]⟩] _ _ _ (by simp) rfl rfl (by decide) h0 M.out).mono ?_
   rintro e w5 ⟨⟨v,rfl,rfl⟩,CC,g⟩
   have A5 : Hid (w5.heap[w.heap.size]? = some (.cells #[pR R] 46)) := keptBut g (old A4.out _) (by have := Z15.out; omega)
   have B5 : Hid (w5.heap[w.heap.size + 1]? = some (.cells #[.int .i64 0,.int .i64 0,.string ⟨#[]⟩,.bool false,.slice none 0 0,.slice none 0 0,.slice none 0 0,.slice none 0 0,.slice none 0 0,.int .i64 0,.int .i64 0,.int .i64 0,.int .i64 0] 94)) := keptBut g (old B4.out _) (by have := Z15.out; omega)
   have P5 : Hid (w5.heap[w.heap.size + 1 + 1]? = some (.cells #[.int .i64 0,.int .i64 0,.string ⟨#[]⟩,.bool false,.slice none 0 0,.slice none 0 0,.slice none 0 0,.slice none 0 0,.slice none 0 0,.int .i64 0,.int .i64 0,.int .i64 0,.int .i64 0] 94)) := keptBut g (old P4.out _) (by have := Z15.out; omega)
   have G5 := hidI (gtr (gr_alloc G4.out _) g)
   have C5 := hidI CC
   have S5 : Hid (w4.heap.size + 1 ≤ w5.heap.size) := hidI (by have := g.size; first | omega | (simp at this; omega) | (simp at this ⊢; omega))
   have Z16 := hidI (And.intro HR.out (And.intro S1.out (And.intro S2.out (And.intro S3.out (And.intro S4.out S5.out)))))
   clear g CC ap aq ar af ag ah bp bq br bf bg bh pp pq pr pf pg ph
   obtain ⟨ap,aq,ar,af,ag,ah⟩ := facts A5.out
   obtain ⟨bp,bq,br,bf,bg,bh⟩ := facts B5.out
   obtain ⟨pp,pq,pr,pf,pg,ph⟩ := facts P5.out
   go_wp2_with fail
   refine (while_any d hd HE.out _ _ (dp + 1) HD.out C5.out).mono ?_
   intro e w6 h
   rcases h.get with ⟨p1,t6,v6,r6,rfl,⟨q1,rfl,hv⟩,CC,g⟩ | ⟨cc,aa,r6,rfl,g⟩
   rotate_left
   · exact ⟨rfl,Out.bad (by rw [stmP,if_neg h0,if_neg H2.out,if_neg M0.out,if_neg M1.out,if_neg M2.out,if_pos M.out]; (first | (rw [r6]; done) | (rw [r6]; rfl) | exact r6)) (gtr G5.out g)⟩
   have A6 : Hid (w6.heap[w.heap.size]? = some (.cells #[pR R] 46)) := keptBut g A5.out (by have := Z16.out; omega)
   have B6 : Hid (w6.heap[w.heap.size + 1]? = some (.cells #[.int .i64 0,.int .i64 0,.string ⟨#[]⟩,.bool false,.slice none 0 0,.slice none 0 0,.slice none 0 0,.slice none 0 0,.slice none 0 0,.int .i64 0,.int .i64 0,.int .i64 0,.int .i64 0] 94)) := keptBut g B5.out (by have := Z16.out; omega)
   have P6 : Hid (w6.heap[w.heap.size + 1 + 1]? = some (.cells #[.int .i64 0,.int .i64 0,.string ⟨#[]⟩,.bool false,.slice none 0 0,.slice none 0 0,.slice none 0 0,.slice none 0 0,.slice none 0 0,.int .i64 0,.int .i64 0,.int .i64 0,.int .i64 0] 94)) := keptBut g P5.out (by have := Z16.out; omega)
   have G6 := hidI (gtr G5.out g)
   have C6 := hidI CC
   have S6 : Hid (w5.heap.size + 0 ≤ w6.heap.size) := hidI (by have := g.size; first | omega | (simp at this; omega) | (simp at this ⊢; omega))
   have Z17 := hidI (And.intro HR.out (And.intro S1.out (And.intro S2.out (And.intro S3.out (And.intro S4.out (And.intro S5.out S6.out))))))
   clear g CC h ap aq ar af ag ah bp bq br bf bg bh pp pq pr pf pg ph
   obtain ⟨ap,aq,ar,af,ag,ah⟩ := facts A6.out
   obtain ⟨bp,bq,br,bf,bg,bh⟩ := facts B6.out
   obtain ⟨pp,pq,pr,pf,pg,ph⟩ := facts P6.out
   rcases p1 with ⟨v1,a1,n1,i1,es1,as1,ms1,el1,bo1,lo1,hi1,by1,ti1⟩
   obtain ⟨xa1,xc1,xa2,xc2,xa3,xc3,xa4,xc4,xa5,xc5,rfl⟩ := sS_sl hv
   have V2 := hidI hv
   clear hv
   simp only [sC,PS.es,PS.args,PS.arms,PS.els,PS.body]
   go_wp2_with fail
   refine (needW ((((((((((((((C6.out.set (by have := Z17.out; omega) (by have := Z17.out; omega) _ _).set (by have := Z17.out; omega) (by have := Z17.out; omega) _ _).set (by have := Z17.out; omega) (by have := Z17.out; omega) _ _).set (by have := Z17.out; omega) (by have := Z17.out; omega) _ _).set (by have := Z17.out; omega) (by have := Z17.out; omega) _ _).set (by have := Z17.out; omega) (by have := Z17.out; omega) _ _).set (by have := Z17.out; omega) (by have := Z17.out; omega) _ _).set (by have := Z17.out; omega) (by have := Z17.out; omega) _ _).set (by have := Z17.out; omega) (by have := Z17.out; omega) _ _).set (by have := Z17.out; omega) (by have := Z17.out; omega) _ _).set (by have := Z17.out; omega) (by have := Z17.out; omega) _ _).set (by have := Z17.out; omega) (by have := Z17.out; omega) _ _).set (by have := Z17.out; omega) (by have := Z17.out; omega) _ _).set (by have := Z17.out; omega) (by have := Z17.out; omega) _ _) _ [⟨#[59]⟩] _ _ _ (by simp) rfl rfl (by decide)).mono ?_
   intro e w7 h
   rcases h.get with ⟨_,t7,v7,r7,rfl,rfl,CC,g⟩ | ⟨cc,aa,r7,rfl,g⟩
   rotate_left
   · exact ⟨rfl,Out.bad (by rw [stmP,if_neg h0,if_neg H2.out,if_neg M0.out,if_neg M1.out,if_neg M2.out,if_pos M.out]; (first | rw [r6] | exact r6); try rw [bindOk]; (first | (rw [r7]; done) | (rw [r7]; rfl) | exact r7)) (gtr (gr_alloc (gr_ow2 (gr_ow2 (gr_ow2 (gr_ow2 (gr_ow2 (gr_ow2 (gr_ow2 (gr_ow2 (gr_ow2 (gr_ow2 (gr_ow2 (gr_ow2 (gr_ow2 (gr_ow2 G6.out (by have := Z17.out; omega) _ _) (by have := Z17.out; omega) _ _) (by have := Z17.out; omega) _ _) (by have := Z17.out; omega) _ _) (by have := Z17.out; omega) _ _) (by have := Z17.out; omega) _ _) (by have := Z17.out; omega) _ _) (by have := Z17.out; omega) _ _) (by have := Z17.out; omega) _ _) (by have := Z17.out; omega) _ _) (by have := Z17.out; omega) _ _) (by have := Z17.out; omega) _ _) (by have := Z17.out; omega) _ _) (by have := Z17.out; omega) _ _) _) g)⟩
   have gP := (gr_alloc (gr_set (gr_set (gr_set (gr_set (gr_set (gr_set (gr_set (gr_set (gr_set (gr_set (gr_set (gr_set (gr_set (gr_set (World.grownBy.refl w6 (some (w.heap.size + 1 + 1))) 0 (.int .i64 v1)) 1 (.int .i64 a1)) 2 (.string n1)) 3 (.bool i1)) 4 (.slice xa1 es1.length xc1)) 5 (.slice xa2 as1.length xc2)) 6 (.slice xa3 ms1.length xc3)) 7 (.slice xa4 el1.length xc4)) 8 (.slice xa5 bo1.length xc5)) 9 (.int .i64 lo1)) 10 (.int .i64 hi1)) 11 (.int .i64 by1)) 12 (.int .i64 ti1)) 1 (.int .i64 t.a)) (.cells #[.string ⟨#[59]⟩] 9))
   have V3 := hidI (kdS.keep (kdS.keep V2.out (fun b (hb : _ ≤ b) hl => gP.block b hl (fun e => by injection e with e; have := Z17.out; omega)) gP.size) (fun b (hb : _ ≤ b) hl => g.block b hl (fun e => by injection e with e; have := Z17.out; omega)) g.size)
   clear gP
   have A7 : Hid (w7.heap[w.heap.size]? = some (.cells #[pR R] 46)) := keptBut g (old (keepS (keepS (keepS (keepS (keepS (keepS (keepS (keepS (keepS (keepS (keepS (keepS (keepS (keepS A6.out (by have := Z17.out; omega)) (by have := Z17.out; omega)) (by have := Z17.out; omega)) (by have := Z17.out; omega)) (by have := Z17.out; omega)) (by have := Z17.out; omega)) (by have := Z17.out; omega)) (by have := Z17.out; omega)) (by have := Z17.out; omega)) (by have := Z17.out; omega)) (by have := Z17.out; omega)) (by have := Z17.out; omega)) (by have := Z17.out; omega)) (by have := Z17.out; omega)) _) (by have := Z17.out; omega)
   have B7 : Hid (w7.heap[w.heap.size + 1]? = some (.cells #[.int .i64 0,.int .i64 0,.string ⟨#[]⟩,.bool false,.slice none 0 0,.slice none 0 0,.slice none 0 0,.slice none 0 0,.slice none 0 0,.int .i64 0,.int .i64 0,.int .i64 0,.int .i64 0] 94)) := keptBut g (old (keepS (keepS (keepS (keepS (keepS (keepS (keepS (keepS (keepS (keepS (keepS (keepS (keepS (keepS B6.out (by have := Z17.out; omega)) (by have := Z17.out; omega)) (by have := Z17.out; omega)) (by have := Z17.out; omega)) (by have := Z17.out; omega)) (by have := Z17.out; omega)) (by have := Z17.out; omega)) (by have := Z17.out; omega)) (by have := Z17.out; omega)) (by have := Z17.out; omega)) (by have := Z17.out; omega)) (by have := Z17.out; omega)) (by have := Z17.out; omega)) (by have := Z17.out; omega)) _) (by have := Z17.out; omega)
   have P7 : Hid (w7.heap[w.heap.size + 1 + 1]? = some (.cells #[.int .i64 v1,.int .i64 t.a,.string n1,.bool i1,.slice xa1 es1.length xc1,.slice xa2 as1.length xc2,.slice xa3 ms1.length xc3,.slice xa4 el1.length xc4,.slice xa5 bo1.length xc5,.int .i64 lo1,.int .i64 hi1,.int .i64 by1,.int .i64 ti1] 94)) := keptBut g (by simpa using (old (at_set (at_set (at_set (at_set (at_set (at_set (at_set (at_set (at_set (at_set (at_set (at_set (at_set (at_set P6.out 0 (.int .i64 v1)) 1 (.int .i64 a1)) 2 (.string n1)) 3 (.bool i1)) 4 (.slice xa1 es1.length xc1)) 5 (.slice xa2 as1.length xc2)) 6 (.slice xa3 ms1.length xc3)) 7 (.slice xa4 el1.length xc4)) 8 (.slice xa5 bo1.length xc5)) 9 (.int .i64 lo1)) 10 (.int .i64 hi1)) 11 (.int .i64 by1)) 12 (.int .i64 ti1)) 1 (.int .i64 t.a)) _)) (by have := Z17.out; omega)
   have G7 := hidI (gtr (gr_alloc (gr_ow2 (gr_ow2 (gr_ow2 (gr_ow2 (gr_ow2 (gr_ow2 (gr_ow2 (gr_ow2 (gr_ow2 (gr_ow2 (gr_ow2 (gr_ow2 (gr_ow2 (gr_ow2 G6.out (by have := Z17.out; omega) _ _) (by have := Z17.out; omega) _ _) (by have := Z17.out; omega) _ _) (by have := Z17.out; omega) _ _) (by have := Z17.out; omega) _ _) (by have := Z17.out; omega) _ _) (by have := Z17.out; omega) _ _) (by have := Z17.out; omega) _ _) (by have := Z17.out; omega) _ _) (by have := Z17.out; omega) _ _) (by have := Z17.out; omega) _ _) (by have := Z17.out; omega) _ _) (by have := Z17.out; omega) _ _) (by have := Z17.out; omega) _ _) _) g)
   have C7 := hidI CC
   have S7 : Hid (w6.heap.size + 1 ≤ w7.heap.size) := hidI (by have := g.size; first | omega | (simp at this; omega) | (simp at this ⊢; omega))
   have Z18 := hidI (And.intro HR.out (And.intro S1.out (And.intro S2.out (And.intro S3.out (And.intro S4.out (And.intro S5.out (And.intro S6.out S7.out)))))))
   clear g CC h ap aq ar af ag ah bp bq br bf bg bh pp pq pr pf pg ph
   obtain ⟨ap,aq,ar,af,ag,ah⟩ := facts A7.out
   obtain ⟨bp,bq,br,bf,bg,bh⟩ := facts B7.out
   obtain ⟨pp,pq,pr,pf,pg,ph⟩ := facts P7.out
   go_wp2_with fail
   have hP : stmP F (s.size + 2) (exP F (s.size + 2) d) (lisP F (s.size + 2) d) t = .ok (PS.set (.mk v1 a1 n1 i1 es1 as1 ms1 el1 bo1 lo1 hi1 by1 ti1 : PS) t.a) (t7) := by rw [stmP,if_neg h0,if_neg H2.out,if_neg M0.out,if_neg M1.out,if_neg M2.out,if_pos M.out]; (first | rw [r6] | exact r6); try rw [bindOk]; (first | rw [r7] | exact r7); try rw [bindOk]
   refine bodyPost_ret (resBox rfl _ _ (w.heap.size + 1) _ rfl (ld94 (box13 B7.out))) rfl (Out.ok hP ?_ ?_ ?_)
   · exact ⟨⟨.slice xa1 es1.length xc1,.slice xa2 as1.length xc2,.slice xa3 ms1.length xc3,.slice xa4 el1.length xc4,.slice xa5 bo1.length xc5⟩,rfl,kdS.imp (kdS.keep V3.out (fun b (hb : _ ≤ b) hl => (gr13 (World.grownBy.refl _ _)).block b hl (fun e => by injection e with e; have := Z18.out; omega)) (gr13 (World.grownBy.refl _ (some (w.heap.size + 1)))).size) (fun b _ (hb : _ ≤ b) => (by have := Z18.out; omega : w.heap.size ≤ b))⟩
   · exact C7.out.gq (gr13 (World.grownBy.refl _ _)) (by have := Z18.out; omega) (by have := Z18.out; omega)
   · exact gr13o G7.out (by have := Z18.out; omega)
 have M3 := hidI hm
 clear hm
 go_wp2_with fail
 refine (tookN C4.out _ [⟨#[119,104,105,108,101]⟩] _ _ _ (by simp) rfl rfl (by decide) h0 M3.out).mono ?_
 rintro e w5 ⟨⟨v,rfl,rfl⟩,CC,g⟩
 have A5 : Hid (w5.heap[w.heap.size]? = some (.cells #[pR R] 46)) := keptBut g (old A4.out _) (by have := Z15.out; omega)
 have B5 : Hid (w5.heap[w.heap.size + 1]? = some (.cells #[.int .i64 0,.int .i64 0,.string ⟨#[]⟩,.bool false,.slice none 0 0,.slice none 0 0,.slice none 0 0,.slice none 0 0,.slice none 0 0,.int .i64 0,.int .i64 0,.int .i64 0,.int .i64 0] 94)) := keptBut g (old B4.out _) (by have := Z15.out; omega)
 have P5 : Hid (w5.heap[w.heap.size + 1 + 1]? = some (.cells #[.int .i64 0,.int .i64 0,.string ⟨#[]⟩,.bool false,.slice none 0 0,.slice none 0 0,.slice none 0 0,.slice none 0 0,.slice none 0 0,.int .i64 0,.int .i64 0,.int .i64 0,.int .i64 0] 94)) := keptBut g (old P4.out _) (by have := Z15.out; omega)
 have G5 := hidI (gtr (gr_alloc G4.out _) g)
 have C5 := hidI CC
 have S5 : Hid (w4.heap.size + 1 ≤ w5.heap.size) := hidI (by have := g.size; first | omega | (simp at this; omega) | (simp at this ⊢; omega))
 have Z19 := hidI (And.intro HR.out (And.intro S1.out (And.intro S2.out (And.intro S3.out (And.intro S4.out S5.out)))))
 clear g CC ap aq ar af ag ah bp bq br bf bg bh pp pq pr pf pg ph
 obtain ⟨ap,aq,ar,af,ag,ah⟩ := facts A5.out
 obtain ⟨bp,bq,br,bf,bg,bh⟩ := facts B5.out
 obtain ⟨pp,pq,pr,pf,pg,ph⟩ := facts P5.out
 by_cases hm : mem [⟨#[114,101,112,101,97,116]⟩] t = true
 · have M := hidI hm
   clear hm
   go_wp2_with fail
   refine (tookY C5.out _ [⟨#[114,101,112,101,97,116]⟩] _ _ _ (by simp) rfl rfl (by decide) h0 M.out).mono ?_
   rintro e w6 ⟨⟨v,rfl,rfl⟩,CC,g⟩
   have A6 : Hid (w6.heap[w.heap.size]? = some (.cells #[pR R] 46)) := keptBut g (old A5.out _) (by have := Z19.out; omega)
   have B6 : Hid (w6.heap[w.heap.size + 1]? = some (.cells #[.int .i64 0,.int .i64 0,.string ⟨#[]⟩,.bool false,.slice none 0 0,.slice none 0 0,.slice none 0 0,.slice none 0 0,.slice none 0 0,.int .i64 0,.int .i64 0,.int .i64 0,.int .i64 0] 94)) := keptBut g (old B5.out _) (by have := Z19.out; omega)
   have P6 : Hid (w6.heap[w.heap.size + 1 + 1]? = some (.cells #[.int .i64 0,.int .i64 0,.string ⟨#[]⟩,.bool false,.slice none 0 0,.slice none 0 0,.slice none 0 0,.slice none 0 0,.slice none 0 0,.int .i64 0,.int .i64 0,.int .i64 0,.int .i64 0] 94)) := keptBut g (old P5.out _) (by have := Z19.out; omega)
   have G6 := hidI (gtr (gr_alloc G5.out _) g)
   have C6 := hidI CC
   have S6 : Hid (w5.heap.size + 1 ≤ w6.heap.size) := hidI (by have := g.size; first | omega | (simp at this; omega) | (simp at this ⊢; omega))
   have Z20 := hidI (And.intro HR.out (And.intro S1.out (And.intro S2.out (And.intro S3.out (And.intro S4.out (And.intro S5.out S6.out))))))
   clear g CC ap aq ar af ag ah bp bq br bf bg bh pp pq pr pf pg ph
   obtain ⟨ap,aq,ar,af,ag,ah⟩ := facts A6.out
   obtain ⟨bp,bq,br,bf,bg,bh⟩ := facts B6.out
   obtain ⟨pp,pq,pr,pf,pg,ph⟩ := facts P6.out
   go_wp2_with fail
   refine (repeat_any d hd HE.out _ _ (dp + 1) HD.out C6.out).mono ?_
   intro e w7 h
   rcases h.get with ⟨p1,t7,v7,r7,rfl,⟨q1,rfl,hv⟩,CC,g⟩ | ⟨cc,aa,r7,rfl,g⟩
   rotate_left
   · exact ⟨rfl,Out.bad (by rw [stmP,if_neg h0,if_neg H2.out,if_neg M0.out,if_neg M1.out,if_neg M2.out,if_neg M3.out,if_pos M.out]; (first | (rw [r7]; done) | (rw [r7]; rfl) | exact r7)) (gtr G6.out g)⟩
   have A7 : Hid (w7.heap[w.heap.size]? = some (.cells #[pR R] 46)) := keptBut g A6.out (by have := Z20.out; omega)
   have B7 : Hid (w7.heap[w.heap.size + 1]? = some (.cells #[.int .i64 0,.int .i64 0,.string ⟨#[]⟩,.bool false,.slice none 0 0,.slice none 0 0,.slice none 0 0,.slice none 0 0,.slice none 0 0,.int .i64 0,.int .i64 0,.int .i64 0,.int .i64 0] 94)) := keptBut g B6.out (by have := Z20.out; omega)
   have P7 : Hid (w7.heap[w.heap.size + 1 + 1]? = some (.cells #[.int .i64 0,.int .i64 0,.string ⟨#[]⟩,.bool false,.slice none 0 0,.slice none 0 0,.slice none 0 0,.slice none 0 0,.slice none 0 0,.int .i64 0,.int .i64 0,.int .i64 0,.int .i64 0] 94)) := keptBut g P6.out (by have := Z20.out; omega)
   have G7 := hidI (gtr G6.out g)
   have C7 := hidI CC
   have S7 : Hid (w6.heap.size + 0 ≤ w7.heap.size) := hidI (by have := g.size; first | omega | (simp at this; omega) | (simp at this ⊢; omega))
   have Z21 := hidI (And.intro HR.out (And.intro S1.out (And.intro S2.out (And.intro S3.out (And.intro S4.out (And.intro S5.out (And.intro S6.out S7.out)))))))
   clear g CC h ap aq ar af ag ah bp bq br bf bg bh pp pq pr pf pg ph
   obtain ⟨ap,aq,ar,af,ag,ah⟩ := facts A7.out
   obtain ⟨bp,bq,br,bf,bg,bh⟩ := facts B7.out
   obtain ⟨pp,pq,pr,pf,pg,ph⟩ := facts P7.out
   rcases p1 with ⟨v1,a1,n1,i1,es1,as1,ms1,el1,bo1,lo1,hi1,by1,ti1⟩
   obtain ⟨xa1,xc1,xa2,xc2,xa3,xc3,xa4,xc4,xa5,xc5,rfl⟩ := sS_sl hv
   have V2 := hidI hv
   clear hv
   simp only [sC,PS.es,PS.args,PS.arms,PS.els,PS.body]
   go_wp2_with fail
   refine (needW ((((((((((((((C7.out.set (by have := Z21.out; omega) (by have := Z21.out; omega) _ _).set (by have := Z21.out; omega) (by have := Z21.out; omega) _ _).set (by have := Z21.out; omega) (by have := Z21.out; omega) _ _).set (by have := Z21.out; omega) (by have := Z21.out; omega) _ _).set (by have := Z21.out; omega) (by have := Z21.out; omega) _ _).set (by have := Z21.out; omega) (by have := Z21.out; omega) _ _).set (by have := Z21.out; omega) (by have := Z21.out; omega) _ _).set (by have := Z21.out; omega) (by have := Z21.out; omega) _ _).set (by have := Z21.out; omega) (by have := Z21.out; omega) _ _).set (by have := Z21.out; omega) (by have := Z21.out; omega) _ _).set (by have := Z21.out; omega) (by have := Z21.out; omega) _ _).set (by have := Z21.out; omega) (by have := Z21.out; omega) _ _).set (by have := Z21.out; omega) (by have := Z21.out; omega) _ _).set (by have := Z21.out; omega) (by have := Z21.out; omega) _ _) _ [⟨#[59]⟩] _ _ _ (by simp) rfl rfl (by decide)).mono ?_
   intro e w8 h
   rcases h.get with ⟨_,t8,v8,r8,rfl,rfl,CC,g⟩ | ⟨cc,aa,r8,rfl,g⟩
   rotate_left
   · exact ⟨rfl,Out.bad (by rw [stmP,if_neg h0,if_neg H2.out,if_neg M0.out,if_neg M1.out,if_neg M2.out,if_neg M3.out,if_pos M.out]; (first | rw [r7] | exact r7); try rw [bindOk]; (first | (rw [r8]; done) | (rw [r8]; rfl) | exact r8)) (gtr (gr_alloc (gr_ow2 (gr_ow2 (gr_ow2 (gr_ow2 (gr_ow2 (gr_ow2 (gr_ow2 (gr_ow2 (gr_ow2 (gr_ow2 (gr_ow2 (gr_ow2 (gr_ow2 (gr_ow2 G7.out (by have := Z21.out; omega) _ _) (by have := Z21.out; omega) _ _) (by have := Z21.out; omega) _ _) (by have := Z21.out; omega) _ _) (by have := Z21.out; omega) _ _) (by have := Z21.out; omega) _ _) (by have := Z21.out; omega) _ _) (by have := Z21.out; omega) _ _) (by have := Z21.out; omega) _ _) (by have := Z21.out; omega) _ _) (by have := Z21.out; omega) _ _) (by have := Z21.out; omega) _ _) (by have := Z21.out; omega) _ _) (by have := Z21.out; omega) _ _) _) g)⟩
   have gP := (gr_alloc (gr_set (gr_set (gr_set (gr_set (gr_set (gr_set (gr_set (gr_set (gr_set (gr_set (gr_set (gr_set (gr_set (gr_set (World.grownBy.refl w7 (some (w.heap.size + 1 + 1))) 0 (.int .i64 v1)) 1 (.int .i64 a1)) 2 (.string n1)) 3 (.bool i1)) 4 (.slice xa1 es1.length xc1)) 5 (.slice xa2 as1.length xc2)) 6 (.slice xa3 ms1.length xc3)) 7 (.slice xa4 el1.length xc4)) 8 (.slice xa5 bo1.length xc5)) 9 (.int .i64 lo1)) 10 (.int .i64 hi1)) 11 (.int .i64 by1)) 12 (.int .i64 ti1)) 1 (.int .i64 t.a)) (.cells #[.string ⟨#[59]⟩] 9))
   have V3 := hidI (kdS.keep (kdS.keep V2.out (fun b (hb : _ ≤ b) hl => gP.block b hl (fun e => by injection e with e; have := Z21.out; omega)) gP.size) (fun b (hb : _ ≤ b) hl => g.block b hl (fun e => by injection e with e; have := Z21.out; omega)) g.size)
   clear gP
   have A8 : Hid (w8.heap[w.heap.size]? = some (.cells #[pR R] 46)) := keptBut g (old (keepS (keepS (keepS (keepS (keepS (keepS (keepS (keepS (keepS (keepS (keepS (keepS (keepS (keepS A7.out (by have := Z21.out; omega)) (by have := Z21.out; omega)) (by have := Z21.out; omega)) (by have := Z21.out; omega)) (by have := Z21.out; omega)) (by have := Z21.out; omega)) (by have := Z21.out; omega)) (by have := Z21.out; omega)) (by have := Z21.out; omega)) (by have := Z21.out; omega)) (by have := Z21.out; omega)) (by have := Z21.out; omega)) (by have := Z21.out; omega)) (by have := Z21.out; omega)) _) (by have := Z21.out; omega)
   have B8 : Hid (w8.heap[w.heap.size + 1]? = some (.cells #[.int .i64 0,.int .i64 0,.string ⟨#[]⟩,.bool false,.slice none 0 0,.slice none 0 0,.slice none 0 0,.slice none 0 0,.slice none 0 0,.int .i64 0,.int .i64 0,.int .i64 0,.int .i64 0] 94)) := keptBut g (old (keepS (keepS (keepS (keepS (keepS (keepS (keepS (keepS (keepS (keepS (keepS (keepS (keepS (keepS B7.out (by have := Z21.out; omega)) (by have := Z21.out; omega)) (by have := Z21.out; omega)) (by have := Z21.out; omega)) (by have := Z21.out; omega)) (by have := Z21.out; omega)) (by have := Z21.out; omega)) (by have := Z21.out; omega)) (by have := Z21.out; omega)) (by have := Z21.out; omega)) (by have := Z21.out; omega)) (by have := Z21.out; omega)) (by have := Z21.out; omega)) (by have := Z21.out; omega)) _) (by have := Z21.out; omega)
   have P8 : Hid (w8.heap[w.heap.size + 1 + 1]? = some (.cells #[.int .i64 v1,.int .i64 t.a,.string n1,.bool i1,.slice xa1 es1.length xc1,.slice xa2 as1.length xc2,.slice xa3 ms1.length xc3,.slice xa4 el1.length xc4,.slice xa5 bo1.length xc5,.int .i64 lo1,.int .i64 hi1,.int .i64 by1,.int .i64 ti1] 94)) := keptBut g (by simpa using (old (at_set (at_set (at_set (at_set (at_set (at_set (at_set (at_set (at_set (at_set (at_set (at_set (at_set (at_set P7.out 0 (.int .i64 v1)) 1 (.int .i64 a1)) 2 (.string n1)) 3 (.bool i1)) 4 (.slice xa1 es1.length xc1)) 5 (.slice xa2 as1.length xc2)) 6 (.slice xa3 ms1.length xc3)) 7 (.slice xa4 el1.length xc4)) 8 (.slice xa5 bo1.length xc5)) 9 (.int .i64 lo1)) 10 (.int .i64 hi1)) 11 (.int .i64 by1)) 12 (.int .i64 ti1)) 1 (.int .i64 t.a)) _)) (by have := Z21.out; omega)
   have G8 := hidI (gtr (gr_alloc (gr_ow2 (gr_ow2 (gr_ow2 (gr_ow2 (gr_ow2 (gr_ow2 (gr_ow2 (gr_ow2 (gr_ow2 (gr_ow2 (gr_ow2 (gr_ow2 (gr_ow2 (gr_ow2 G7.out (by have := Z21.out; omega) _ _) (by have := Z21.out; omega) _ _) (by have := Z21.out; omega) _ _) (by have := Z21.out; omega) _ _) (by have := Z21.out; omega) _ _) (by have := Z21.out; omega) _ _) (by have := Z21.out; omega) _ _) (by have := Z21.out; omega) _ _) (by have := Z21.out; omega) _ _) (by have := Z21.out; omega) _ _) (by have := Z21.out; omega) _ _) (by have := Z21.out; omega) _ _) (by have := Z21.out; omega) _ _) (by have := Z21.out; omega) _ _) _) g)
   have C8 := hidI CC
   have S8 : Hid (w7.heap.size + 1 ≤ w8.heap.size) := hidI (by have := g.size; first | omega | (simp at this; omega) | (simp at this ⊢; omega))
   have Z22 := hidI (And.intro HR.out (And.intro S1.out (And.intro S2.out (And.intro S3.out (And.intro S4.out (And.intro S5.out (And.intro S6.out (And.intro S7.out S8.out))))))))
   clear g CC h ap aq ar af ag ah bp bq br bf bg bh pp pq pr pf pg ph
   obtain ⟨ap,aq,ar,af,ag,ah⟩ := facts A8.out
   obtain ⟨bp,bq,br,bf,bg,bh⟩ := facts B8.out
   obtain ⟨pp,pq,pr,pf,pg,ph⟩ := facts P8.out
   go_wp2_with fail
   have hP : stmP F (s.size + 2) (exP F (s.size + 2) d) (lisP F (s.size + 2) d) t = .ok (PS.set (.mk v1 a1 n1 i1 es1 as1 ms1 el1 bo1 lo1 hi1 by1 ti1 : PS) t.a) (t8) := by rw [stmP,if_neg h0,if_neg H2.out,if_neg M0.out,if_neg M1.out,if_neg M2.out,if_neg M3.out,if_pos M.out]; (first | rw [r7] | exact r7); try rw [bindOk]; (first | rw [r8] | exact r8); try rw [bindOk]
   refine bodyPost_ret (resBox rfl _ _ (w.heap.size + 1) _ rfl (ld94 (box13 B8.out))) rfl (Out.ok hP ?_ ?_ ?_)
   · exact ⟨⟨.slice xa1 es1.length xc1,.slice xa2 as1.length xc2,.slice xa3 ms1.length xc3,.slice xa4 el1.length xc4,.slice xa5 bo1.length xc5⟩,rfl,kdS.imp (kdS.keep V3.out (fun b (hb : _ ≤ b) hl => (gr13 (World.grownBy.refl _ _)).block b hl (fun e => by injection e with e; have := Z22.out; omega)) (gr13 (World.grownBy.refl _ (some (w.heap.size + 1)))).size) (fun b _ (hb : _ ≤ b) => (by have := Z22.out; omega : w.heap.size ≤ b))⟩
   · exact C8.out.gq (gr13 (World.grownBy.refl _ _)) (by have := Z22.out; omega) (by have := Z22.out; omega)
   · exact gr13o G8.out (by have := Z22.out; omega)
 have M4 := hidI hm
 clear hm
 go_wp2_with fail
 refine (tookN C5.out _ [⟨#[114,101,112,101,97,116]⟩] _ _ _ (by simp) rfl rfl (by decide) h0 M4.out).mono ?_
 rintro e w6 ⟨⟨v,rfl,rfl⟩,CC,g⟩
 have A6 : Hid (w6.heap[w.heap.size]? = some (.cells #[pR R] 46)) := keptBut g (old A5.out _) (by have := Z19.out; omega)
 have B6 : Hid (w6.heap[w.heap.size + 1]? = some (.cells #[.int .i64 0,.int .i64 0,.string ⟨#[]⟩,.bool false,.slice none 0 0,.slice none 0 0,.slice none 0 0,.slice none 0 0,.slice none 0 0,.int .i64 0,.int .i64 0,.int .i64 0,.int .i64 0] 94)) := keptBut g (old B5.out _) (by have := Z19.out; omega)
 have P6 : Hid (w6.heap[w.heap.size + 1 + 1]? = some (.cells #[.int .i64 0,.int .i64 0,.string ⟨#[]⟩,.bool false,.slice none 0 0,.slice none 0 0,.slice none 0 0,.slice none 0 0,.slice none 0 0,.int .i64 0,.int .i64 0,.int .i64 0,.int .i64 0] 94)) := keptBut g (old P5.out _) (by have := Z19.out; omega)
 have G6 := hidI (gtr (gr_alloc G5.out _) g)
 have C6 := hidI CC
 have S6 : Hid (w5.heap.size + 1 ≤ w6.heap.size) := hidI (by have := g.size; first | omega | (simp at this; omega) | (simp at this ⊢; omega))
 have Z23 := hidI (And.intro HR.out (And.intro S1.out (And.intro S2.out (And.intro S3.out (And.intro S4.out (And.intro S5.out S6.out))))))
 clear g CC ap aq ar af ag ah bp bq br bf bg bh pp pq pr pf pg ph
 obtain ⟨ap,aq,ar,af,ag,ah⟩ := facts A6.out
 obtain ⟨bp,bq,br,bf,bg,bh⟩ := facts B6.out
 obtain ⟨pp,pq,pr,pf,pg,ph⟩ := facts P6.out
 by_cases hm : mem [⟨#[101,120,105,116]⟩] t = true
 · have M := hidI hm
   clear hm
   go_wp2_with fail
   refine (tookY C6.out _ [⟨#[101,120,105,116]⟩] _ _ _ (by simp) rfl rfl (by decide) h0 M.out).mono ?_
   rintro e w7 ⟨⟨v,rfl,rfl⟩,CC,g⟩
   have A7 : Hid (w7.heap[w.heap.size]? = some (.cells #[pR R] 46)) := keptBut g (old A6.out _) (by have := Z23.out; omega)
   have B7 : Hid (w7.heap[w.heap.size + 1]? = some (.cells #[.int .i64 0,.int .i64 0,.string ⟨#[]⟩,.bool false,.slice none 0 0,.slice none 0 0,.slice none 0 0,.slice none 0 0,.slice none 0 0,.int .i64 0,.int .i64 0,.int .i64 0,.int .i64 0] 94)) := keptBut g (old B6.out _) (by have := Z23.out; omega)
   have P7 : Hid (w7.heap[w.heap.size + 1 + 1]? = some (.cells #[.int .i64 0,.int .i64 0,.string ⟨#[]⟩,.bool false,.slice none 0 0,.slice none 0 0,.slice none 0 0,.slice none 0 0,.slice none 0 0,.int .i64 0,.int .i64 0,.int .i64 0,.int .i64 0] 94)) := keptBut g (old P6.out _) (by have := Z23.out; omega)
   have G7 := hidI (gtr (gr_alloc G6.out _) g)
   have C7 := hidI CC
   have S7 : Hid (w6.heap.size + 1 ≤ w7.heap.size) := hidI (by have := g.size; first | omega | (simp at this; omega) | (simp at this ⊢; omega))
   have Z24 := hidI (And.intro HR.out (And.intro S1.out (And.intro S2.out (And.intro S3.out (And.intro S4.out (And.intro S5.out (And.intro S6.out S7.out)))))))
   clear g CC ap aq ar af ag ah bp bq br bf bg bh pp pq pr pf pg ph
   obtain ⟨ap,aq,ar,af,ag,ah⟩ := facts A7.out
   obtain ⟨bp,bq,br,bf,bg,bh⟩ := facts B7.out
   obtain ⟨pp,pq,pr,pf,pg,ph⟩ := facts P7.out
   go_wp2_with fail
   refine (needW ((C7.out.set (by have := Z24.out; omega) (by have := Z24.out; omega) _ _).set (by have := Z24.out; omega) (by have := Z24.out; omega) _ _) _ [⟨#[59]⟩] _ _ _ (by simp) rfl rfl (by decide)).mono ?_
   intro e w8 h
   rcases h.get with ⟨_,t8,v8,r8,rfl,rfl,CC,g⟩ | ⟨cc,aa,r8,rfl,g⟩
   rotate_left
   · exact ⟨rfl,Out.bad (by rw [stmP,if_neg h0,if_neg H2.out,if_neg M0.out,if_neg M1.out,if_neg M2.out,if_neg M3.out,if_neg M4.out,if_pos M.out]; try rw [bindOk]; (first | (rw [r8]; done) | (rw [r8]; rfl) | exact r8)) (gtr (gr_alloc (gr_ow2 (gr_ow2 G7.out (by have := Z24.out; omega) _ _) (by have := Z24.out; omega) _ _) _) g)⟩
   have A8 : Hid (w8.heap[w.heap.size]? = some (.cells #[pR R] 46)) := keptBut g (old (keepS (keepS A7.out (by have := Z24.out; omega)) (by have := Z24.out; omega)) _) (by have := Z24.out; omega)
   have B8 : Hid (w8.heap[w.heap.size + 1]? = some (.cells #[.int .i64 0,.int .i64 0,.string ⟨#[]⟩,.bool false,.slice none 0 0,.slice none 0 0,.slice none 0 0,.slice none 0 0,.slice none 0 0,.int .i64 0,.int .i64 0,.int .i64 0,.int .i64 0] 94)) := keptBut g (old (keepS (keepS B7.out (by have := Z24.out; omega)) (by have := Z24.out; omega)) _) (by have := Z24.out; omega)
   have P8 : Hid (w8.heap[w.heap.size + 1 + 1]? = some (.cells #[.int .i64 8,.int .i64 t.a,.string ⟨#[]⟩,.bool false,.slice none 0 0,.slice none 0 0,.slice none 0 0,.slice none 0 0,.slice none 0 0,.int .i64 0,.int .i64 0,.int .i64 0,.int .i64 0] 94)) := keptBut g (by simpa using (old (at_set (at_set P7.out 0 (.int .i64 8)) 1 (.int .i64 t.a)) _)) (by have := Z24.out; omega)
   have G8 := hidI (gtr (gr_alloc (gr_ow2 (gr_ow2 G7.out (by have := Z24.out; omega) _ _) (by have := Z24.out; omega) _ _) _) g)
   have C8 := hidI CC
   have S8 : Hid (w7.heap.size + 1 ≤ w8.heap.size) := hidI (by have := g.size; first | omega | (simp at this; omega) | (simp at this ⊢; omega))
   have Z25 := hidI (And.intro HR.out (And.intro S1.out (And.intro S2.out (And.intro S3.out (And.intro S4.out (And.intro S5.out (And.intro S6.out (And.intro S7.out S8.out))))))))
   clear g CC h ap aq ar af ag ah bp bq br bf bg bh pp pq pr pf pg ph
   obtain ⟨ap,aq,ar,af,ag,ah⟩ := facts A8.out
   obtain ⟨bp,bq,br,bf,bg,bh⟩ := facts B8.out
   obtain ⟨pp,pq,pr,pf,pg,ph⟩ := facts P8.out
   go_wp2_with fail
   have hP : stmP F (s.size + 2) (exP F (s.size + 2) d) (lisP F (s.size + 2) d) t = .ok (PS.set (ps0 8) t.a) (t8) := by rw [stmP,if_neg h0,if_neg H2.out,if_neg M0.out,if_neg M1.out,if_neg M2.out,if_neg M3.out,if_neg M4.out,if_pos M.out]; try rw [bindOk]; (first | rw [r8] | exact r8); try rw [bindOk]
   refine bodyPost_ret (resBox rfl _ _ (w.heap.size + 1) _ rfl (ld94 (box13 B8.out))) rfl (Out.ok hP ?_ ?_ ?_)
   · exact ⟨⟨.slice none 0 0,.slice none 0 0,.slice none 0 0,.slice none 0 0,.slice none 0 0⟩,rfl,⟨⟨Xs.nil _ _,Li.nil _ _⟩,ms0 _ _,ss0 _ _,ss0 _ _⟩⟩
   · exact C8.out.gq (gr13 (World.grownBy.refl _ _)) (by have := Z25.out; omega) (by have := Z25.out; omega)
   · exact gr13o G8.out (by have := Z25.out; omega)
 have M5 := hidI hm
 clear hm
 go_wp2_with fail
 refine (tookN C6.out _ [⟨#[101,120,105,116]⟩] _ _ _ (by simp) rfl rfl (by decide) h0 M5.out).mono ?_
 rintro e w7 ⟨⟨v,rfl,rfl⟩,CC,g⟩
 have A7 : Hid (w7.heap[w.heap.size]? = some (.cells #[pR R] 46)) := keptBut g (old A6.out _) (by have := Z23.out; omega)
 have B7 : Hid (w7.heap[w.heap.size + 1]? = some (.cells #[.int .i64 0,.int .i64 0,.string ⟨#[]⟩,.bool false,.slice none 0 0,.slice none 0 0,.slice none 0 0,.slice none 0 0,.slice none 0 0,.int .i64 0,.int .i64 0,.int .i64 0,.int .i64 0] 94)) := keptBut g (old B6.out _) (by have := Z23.out; omega)
 have P7 : Hid (w7.heap[w.heap.size + 1 + 1]? = some (.cells #[.int .i64 0,.int .i64 0,.string ⟨#[]⟩,.bool false,.slice none 0 0,.slice none 0 0,.slice none 0 0,.slice none 0 0,.slice none 0 0,.int .i64 0,.int .i64 0,.int .i64 0,.int .i64 0] 94)) := keptBut g (old P6.out _) (by have := Z23.out; omega)
 have G7 := hidI (gtr (gr_alloc G6.out _) g)
 have C7 := hidI CC
 have S7 : Hid (w6.heap.size + 1 ≤ w7.heap.size) := hidI (by have := g.size; first | omega | (simp at this; omega) | (simp at this ⊢; omega))
 have Z26 := hidI (And.intro HR.out (And.intro S1.out (And.intro S2.out (And.intro S3.out (And.intro S4.out (And.intro S5.out (And.intro S6.out S7.out)))))))
 clear g CC ap aq ar af ag ah bp bq br bf bg bh pp pq pr pf pg ph
 obtain ⟨ap,aq,ar,af,ag,ah⟩ := facts A7.out
 obtain ⟨bp,bq,br,bf,bg,bh⟩ := facts B7.out
 obtain ⟨pp,pq,pr,pf,pg,ph⟩ := facts P7.out
 by_cases hm : mem [⟨#[99,111,110,116,105,110,117,101]⟩] t = true
 · have M := hidI hm
   clear hm
   go_wp2_with fail
   refine (tookY C7.out _ [⟨#[99,111,110,116,105,110,117,101]⟩] _ _ _ (by simp) rfl rfl (by decide) h0 M.out).mono ?_
   rintro e w8 ⟨⟨v,rfl,rfl⟩,CC,g⟩
   have A8 : Hid (w8.heap[w.heap.size]? = some (.cells #[pR R] 46)) := keptBut g (old A7.out _) (by have := Z26.out; omega)
   have B8 : Hid (w8.heap[w.heap.size + 1]? = some (.cells #[.int .i64 0,.int .i64 0,.string ⟨#[]⟩,.bool false,.slice none 0 0,.slice none 0 0,.slice none 0 0,.slice none 0 0,.slice none 0 0,.int .i64 0,.int .i64 0,.int .i64 0,.int .i64 0] 94)) := keptBut g (old B7.out _) (by have := Z26.out; omega)
   have P8 : Hid (w8.heap[w.heap.size + 1 + 1]? = some (.cells #[.int .i64 0,.int .i64 0,.string ⟨#[]⟩,.bool false,.slice none 0 0,.slice none 0 0,.slice none 0 0,.slice none 0 0,.slice none 0 0,.int .i64 0,.int .i64 0,.int .i64 0,.int .i64 0] 94)) := keptBut g (old P7.out _) (by have := Z26.out; omega)
   have G8 := hidI (gtr (gr_alloc G7.out _) g)
   have C8 := hidI CC
   have S8 : Hid (w7.heap.size + 1 ≤ w8.heap.size) := hidI (by have := g.size; first | omega | (simp at this; omega) | (simp at this ⊢; omega))
   have Z27 := hidI (And.intro HR.out (And.intro S1.out (And.intro S2.out (And.intro S3.out (And.intro S4.out (And.intro S5.out (And.intro S6.out (And.intro S7.out S8.out))))))))
   clear g CC ap aq ar af ag ah bp bq br bf bg bh pp pq pr pf pg ph
   obtain ⟨ap,aq,ar,af,ag,ah⟩ := facts A8.out
   obtain ⟨bp,bq,br,bf,bg,bh⟩ := facts B8.out
   obtain ⟨pp,pq,pr,pf,pg,ph⟩ := facts P8.out
   go_wp2_with fail
   refine (needW ((C8.out.set (by have := Z27.out; omega) (by have := Z27.out; omega) _ _).set (by have := Z27.out; omega) (by have := Z27.out; omega) _ _) _ [⟨#[59]⟩] _ _ _ (by simp) rfl rfl (by decide)).mono ?_
   intro e w9 h
   rcases h.get with ⟨_,t9,v9,r9,rfl,rfl,CC,g⟩ | ⟨cc,aa,r9,rfl,g⟩
   rotate_left
   · exact ⟨rfl,Out.bad (by rw [stmP,if_neg h0,if_neg H2.out,if_neg M0.out,if_neg M1.out,if_neg M2.out,if_neg M3.out,if_neg M4.out,if_neg M5.out,if_pos M.out]; try rw [bindOk]; (first | (rw [r9]; done) | (rw [r9]; rfl) | exact r9)) (gtr (gr_alloc (gr_ow2 (gr_ow2 G8.out (by have := Z27.out; omega) _ _) (by have := Z27.out; omega) _ _) _) g)⟩
   have A9 : Hid (w9.heap[w.heap.size]? = some (.cells #[pR R] 46)) := keptBut g (old (keepS (keepS A8.out (by have := Z27.out; omega)) (by have := Z27.out; omega)) _) (by have := Z27.out; omega)
   have B9 : Hid (w9.heap[w.heap.size + 1]? = some (.cells #[.int .i64 0,.int .i64 0,.string ⟨#[]⟩,.bool false,.slice none 0 0,.slice none 0 0,.slice none 0 0,.slice none 0 0,.slice none 0 0,.int .i64 0,.int .i64 0,.int .i64 0,.int .i64 0] 94)) := keptBut g (old (keepS (keepS B8.out (by have := Z27.out; omega)) (by have := Z27.out; omega)) _) (by have := Z27.out; omega)
   have P9 : Hid (w9.heap[w.heap.size + 1 + 1]? = some (.cells #[.int .i64 9,.int .i64 t.a,.string ⟨#[]⟩,.bool false,.slice none 0 0,.slice none 0 0,.slice none 0 0,.slice none 0 0,.slice none 0 0,.int .i64 0,.int .i64 0,.int .i64 0,.int .i64 0] 94)) := keptBut g (by simpa using (old (at_set (at_set P8.out 0 (.int .i64 9)) 1 (.int .i64 t.a)) _)) (by have := Z27.out; omega)
   have G9 := hidI (gtr (gr_alloc (gr_ow2 (gr_ow2 G8.out (by have := Z27.out; omega) _ _) (by have := Z27.out; omega) _ _) _) g)
   have C9 := hidI CC
   have S9 : Hid (w8.heap.size + 1 ≤ w9.heap.size) := hidI (by have := g.size; first | omega | (simp at this; omega) | (simp at this ⊢; omega))
   have Z28 := hidI (And.intro HR.out (And.intro S1.out (And.intro S2.out (And.intro S3.out (And.intro S4.out (And.intro S5.out (And.intro S6.out (And.intro S7.out (And.intro S8.out S9.out)))))))))
   clear g CC h ap aq ar af ag ah bp bq br bf bg bh pp pq pr pf pg ph
   obtain ⟨ap,aq,ar,af,ag,ah⟩ := facts A9.out
   obtain ⟨bp,bq,br,bf,bg,bh⟩ := facts B9.out
   obtain ⟨pp,pq,pr,pf,pg,ph⟩ := facts P9.out
   go_wp2_with fail
   have hP : stmP F (s.size + 2) (exP F (s.size + 2) d) (lisP F (s.size + 2) d) t = .ok (PS.set (ps0 9) t.a) (t9) := by rw [stmP,if_neg h0,if_neg H2.out,if_neg M0.out,if_neg M1.out,if_neg M2.out,if_neg M3.out,if_neg M4.out,if_neg M5.out,if_pos M.out]; try rw [bindOk]; (first | rw [r9] | exact r9); try rw [bindOk]
   refine bodyPost_ret (resBox rfl _ _ (w.heap.size + 1) _ rfl (ld94 (box13 B9.out))) rfl (Out.ok hP ?_ ?_ ?_)
   · exact ⟨⟨.slice none 0 0,.slice none 0 0,.slice none 0 0,.slice none 0 0,.slice none 0 0⟩,rfl,⟨⟨Xs.nil _ _,Li.nil _ _⟩,ms0 _ _,ss0 _ _,ss0 _ _⟩⟩
   · exact C9.out.gq (gr13 (World.grownBy.refl _ _)) (by have := Z28.out; omega) (by have := Z28.out; omega)
   · exact gr13o G9.out (by have := Z28.out; omega)
 have M6 := hidI hm
 clear hm
 go_wp2_with fail
 refine (tookN C7.out _ [⟨#[99,111,110,116,105,110,117,101]⟩] _ _ _ (by simp) rfl rfl (by decide) h0 M6.out).mono ?_
 rintro e w8 ⟨⟨v,rfl,rfl⟩,CC,g⟩
 have A8 : Hid (w8.heap[w.heap.size]? = some (.cells #[pR R] 46)) := keptBut g (old A7.out _) (by have := Z26.out; omega)
 have B8 : Hid (w8.heap[w.heap.size + 1]? = some (.cells #[.int .i64 0,.int .i64 0,.string ⟨#[]⟩,.bool false,.slice none 0 0,.slice none 0 0,.slice none 0 0,.slice none 0 0,.slice none 0 0,.int .i64 0,.int .i64 0,.int .i64 0,.int .i64 0] 94)) := keptBut g (old B7.out _) (by have := Z26.out; omega)
 have P8 : Hid (w8.heap[w.heap.size + 1 + 1]? = some (.cells #[.int .i64 0,.int .i64 0,.string ⟨#[]⟩,.bool false,.slice none 0 0,.slice none 0 0,.slice none 0 0,.slice none 0 0,.slice none 0 0,.int .i64 0,.int .i64 0,.int .i64 0,.int .i64 0] 94)) := keptBut g (old P7.out _) (by have := Z26.out; omega)
 have G8 := hidI (gtr (gr_alloc G7.out _) g)
 have C8 := hidI CC
 have S8 : Hid (w7.heap.size + 1 ≤ w8.heap.size) := hidI (by have := g.size; first | omega | (simp at this; omega) | (simp at this ⊢; omega))
 have Z29 := hidI (And.intro HR.out (And.intro S1.out (And.intro S2.out (And.intro S3.out (And.intro S4.out (And.intro S5.out (And.intro S6.out (And.intro S7.out S8.out))))))))
 clear g CC ap aq ar af ag ah bp bq br bf bg bh pp pq pr pf pg ph
 obtain ⟨ap,aq,ar,af,ag,ah⟩ := facts A8.out
 obtain ⟨bp,bq,br,bf,bg,bh⟩ := facts B8.out
 obtain ⟨pp,pq,pr,pf,pg,ph⟩ := facts P8.out
 by_cases hm : mem [⟨#[114,101,116,117,114,110]⟩] t = true
 · have M := hidI hm
   clear hm
   go_wp2_with fail
   refine (tookY C8.out _ [⟨#[114,101,116,117,114,110]⟩] _ _ _ (by simp) rfl rfl (by decide) h0 M.out).mono ?_
   rintro e w9 ⟨⟨v,rfl,rfl⟩,CC,g⟩
   have A9 : Hid (w9.heap[w.heap.size]? = some (.cells #[pR R] 46)) := keptBut g (old A8.out _) (by have := Z29.out; omega)
   have B9 : Hid (w9.heap[w.heap.size + 1]? = some (.cells #[.int .i64 0,.int .i64 0,.string ⟨#[]⟩,.bool false,.slice none 0 0,.slice none 0 0,.slice none 0 0,.slice none 0 0,.slice none 0 0,.int .i64 0,.int .i64 0,.int .i64 0,.int .i64 0] 94)) := keptBut g (old B8.out _) (by have := Z29.out; omega)
   have P9 : Hid (w9.heap[w.heap.size + 1 + 1]? = some (.cells #[.int .i64 0,.int .i64 0,.string ⟨#[]⟩,.bool false,.slice none 0 0,.slice none 0 0,.slice none 0 0,.slice none 0 0,.slice none 0 0,.int .i64 0,.int .i64 0,.int .i64 0,.int .i64 0] 94)) := keptBut g (old P8.out _) (by have := Z29.out; omega)
   have G9 := hidI (gtr (gr_alloc G8.out _) g)
   have C9 := hidI CC
   have S9 : Hid (w8.heap.size + 1 ≤ w9.heap.size) := hidI (by have := g.size; first | omega | (simp at this; omega) | (simp at this ⊢; omega))
   have Z30 := hidI (And.intro HR.out (And.intro S1.out (And.intro S2.out (And.intro S3.out (And.intro S4.out (And.intro S5.out (And.intro S6.out (And.intro S7.out (And.intro S8.out S9.out)))))))))
   clear g CC ap aq ar af ag ah bp bq br bf bg bh pp pq pr pf pg ph
   obtain ⟨ap,aq,ar,af,ag,ah⟩ := facts A9.out
   obtain ⟨bp,bq,br,bf,bg,bh⟩ := facts B9.out
   obtain ⟨pp,pq,pr,pf,pg,ph⟩ := facts P9.out
   go_wp2_with fail
   refine (needW ((C9.out.set (by have := Z30.out; omega) (by have := Z30.out; omega) _ _).set (by have := Z30.out; omega) (by have := Z30.out; omega) _ _) _ [⟨#[59]⟩] _ _ _ (by simp) rfl rfl (by decide)).mono ?_
   intro e w10 h
   rcases h.get with ⟨_,t10,v10,r10,rfl,rfl,CC,g⟩ | ⟨cc,aa,r10,rfl,g⟩
   rotate_left
   · exact ⟨rfl,Out.bad (by rw [stmP,if_neg h0,if_neg H2.out,if_neg M0.out,if_neg M1.out,if_neg M2.out,if_neg M3.out,if_neg M4.out,if_neg M5.out,if_neg M6.out,if_pos M.out]; try rw [bindOk]; (first | (rw [r10]; done) | (rw [r10]; rfl) | exact r10)) (gtr (gr_alloc (gr_ow2 (gr_ow2 G9.out (by have := Z30.out; omega) _ _) (by have := Z30.out; omega) _ _) _) g)⟩
   have A10 : Hid (w10.heap[w.heap.size]? = some (.cells #[pR R] 46)) := keptBut g (old (keepS (keepS A9.out (by have := Z30.out; omega)) (by have := Z30.out; omega)) _) (by have := Z30.out; omega)
   have B10 : Hid (w10.heap[w.heap.size + 1]? = some (.cells #[.int .i64 0,.int .i64 0,.string ⟨#[]⟩,.bool false,.slice none 0 0,.slice none 0 0,.slice none 0 0,.slice none 0 0,.slice none 0 0,.int .i64 0,.int .i64 0,.int .i64 0,.int .i64 0] 94)) := keptBut g (old (keepS (keepS B9.out (by have := Z30.out; omega)) (by have := Z30.out; omega)) _) (by have := Z30.out; omega)
   have P10 : Hid (w10.heap[w.heap.size + 1 + 1]? = some (.cells #[.int .i64 10,.int .i64 t.a,.string ⟨#[]⟩,.bool false,.slice none 0 0,.slice none 0 0,.slice none 0 0,.slice none 0 0,.slice none 0 0,.int .i64 0,.int .i64 0,.int .i64 0,.int .i64 0] 94)) := keptBut g (by simpa using (old (at_set (at_set P9.out 0 (.int .i64 10)) 1 (.int .i64 t.a)) _)) (by have := Z30.out; omega)
   have G10 := hidI (gtr (gr_alloc (gr_ow2 (gr_ow2 G9.out (by have := Z30.out; omega) _ _) (by have := Z30.out; omega) _ _) _) g)
   have C10 := hidI CC
   have S10 : Hid (w9.heap.size + 1 ≤ w10.heap.size) := hidI (by have := g.size; first | omega | (simp at this; omega) | (simp at this ⊢; omega))
   have Z31 := hidI (And.intro HR.out (And.intro S1.out (And.intro S2.out (And.intro S3.out (And.intro S4.out (And.intro S5.out (And.intro S6.out (And.intro S7.out (And.intro S8.out (And.intro S9.out S10.out))))))))))
   clear g CC h ap aq ar af ag ah bp bq br bf bg bh pp pq pr pf pg ph
   obtain ⟨ap,aq,ar,af,ag,ah⟩ := facts A10.out
   obtain ⟨bp,bq,br,bf,bg,bh⟩ := facts B10.out
   obtain ⟨pp,pq,pr,pf,pg,ph⟩ := facts P10.out
   go_wp2_with fail
   have hP : stmP F (s.size + 2) (exP F (s.size + 2) d) (lisP F (s.size + 2) d) t = .ok (PS.set (ps0 10) t.a) (t10) := by rw [stmP,if_neg h0,if_neg H2.out,if_neg M0.out,if_neg M1.out,if_neg M2.out,if_neg M3.out,if_neg M4.out,if_neg M5.out,if_neg M6.out,if_pos M.out]; try rw [bindOk]; (first | rw [r10] | exact r10); try rw [bindOk]
   refine bodyPost_ret (resBox rfl _ _ (w.heap.size + 1) _ rfl (ld94 (box13 B10.out))) rfl (Out.ok hP ?_ ?_ ?_)
   · exact ⟨⟨.slice none 0 0,.slice none 0 0,.slice none 0 0,.slice none 0 0,.slice none 0 0⟩,rfl,⟨⟨Xs.nil _ _,Li.nil _ _⟩,ms0 _ _,ss0 _ _,ss0 _ _⟩⟩
   · exact C10.out.gq (gr13 (World.grownBy.refl _ _)) (by have := Z31.out; omega) (by have := Z31.out; omega)
   · exact gr13o G10.out (by have := Z31.out; omega)
 have M7 := hidI hm
 clear hm
 go_wp2_with fail
 refine (tookN C8.out _ [⟨#[114,101,116,117,114,110]⟩] _ _ _ (by simp) rfl rfl (by decide) h0 M7.out).mono ?_
 rintro e w9 ⟨⟨v,rfl,rfl⟩,CC,g⟩
 have A9 : Hid (w9.heap[w.heap.size]? = some (.cells #[pR R] 46)) := keptBut g (old A8.out _) (by have := Z29.out; omega)
 have B9 : Hid (w9.heap[w.heap.size + 1]? = some (.cells #[.int .i64 0,.int .i64 0,.string ⟨#[]⟩,.bool false,.slice none 0 0,.slice none 0 0,.slice none 0 0,.slice none 0 0,.slice none 0 0,.int .i64 0,.int .i64 0,.int .i64 0,.int .i64 0] 94)) := keptBut g (old B8.out _) (by have := Z29.out; omega)
 have P9 : Hid (w9.heap[w.heap.size + 1 + 1]? = some (.cells #[.int .i64 0,.int .i64 0,.string ⟨#[]⟩,.bool false,.slice none 0 0,.slice none 0 0,.slice none 0 0,.slice none 0 0,.slice none 0 0,.int .i64 0,.int .i64 0,.int .i64 0,.int .i64 0] 94)) := keptBut g (old P8.out _) (by have := Z29.out; omega)
 have G9 := hidI (gtr (gr_alloc G8.out _) g)
 have C9 := hidI CC
 have S9 : Hid (w8.heap.size + 1 ≤ w9.heap.size) := hidI (by have := g.size; first | omega | (simp at this; omega) | (simp at this ⊢; omega))
 have Z32 := hidI (And.intro HR.out (And.intro S1.out (And.intro S2.out (And.intro S3.out (And.intro S4.out (And.intro S5.out (And.intro S6.out (And.intro S7.out (And.intro S8.out S9.out)))))))))
 clear g CC ap aq ar af ag ah bp bq br bf bg bh pp pq pr pf pg ph
 obtain ⟨ap,aq,ar,af,ag,ah⟩ := facts A9.out
 obtain ⟨bp,bq,br,bf,bg,bh⟩ := facts B9.out
 obtain ⟨pp,pq,pr,pf,pg,ph⟩ := facts P9.out
 go_wp2_with fail
 refine (needW (C9.out.set (by have := Z32.out; omega) (by have := Z32.out; omega) _ _) _ [⟨#[59]⟩] _ _ _ (by simp) rfl rfl (by decide)).mono ?_
 intro e w10 h
 rcases h.get with ⟨_,t10,v10,r10,rfl,rfl,CC,g⟩ | ⟨cc,aa,r10,rfl,g⟩
 rotate_left
 · exact ⟨rfl,Out.bad (by rw [stmP,if_neg h0,if_neg H2.out,if_neg M0.out,if_neg M1.out,if_neg M2.out,if_neg M3.out,if_neg M4.out,if_neg M5.out,if_neg M6.out,if_neg M7.out]; try rw [bindOk]; (first | (rw [r10]; done) | (rw [r10]; rfl) | exact r10)) (gtr (gr_alloc (gr_ow2 G9.out (by have := Z32.out; omega) _ _) _) g)⟩
 have A10 : Hid (w10.heap[w.heap.size]? = some (.cells #[pR R] 46)) := keptBut g (old (keepS A9.out (by have := Z32.out; omega)) _) (by have := Z32.out; omega)
 have B10 : Hid (w10.heap[w.heap.size + 1]? = some (.cells #[.int .i64 0,.int .i64 0,.string ⟨#[]⟩,.bool false,.slice none 0 0,.slice none 0 0,.slice none 0 0,.slice none 0 0,.slice none 0 0,.int .i64 0,.int .i64 0,.int .i64 0,.int .i64 0] 94)) := keptBut g (old (keepS B9.out (by have := Z32.out; omega)) _) (by have := Z32.out; omega)
 have P10 : Hid (w10.heap[w.heap.size + 1 + 1]? = some (.cells #[.int .i64 0,.int .i64 t.a,.string ⟨#[]⟩,.bool false,.slice none 0 0,.slice none 0 0,.slice none 0 0,.slice none 0 0,.slice none 0 0,.int .i64 0,.int .i64 0,.int .i64 0,.int .i64 0] 94)) := keptBut g (by simpa using (old (at_set P9.out 1 (.int .i64 t.a)) _)) (by have := Z32.out; omega)
 have G10 := hidI (gtr (gr_alloc (gr_ow2 G9.out (by have := Z32.out; omega) _ _) _) g)
 have C10 := hidI CC
 have S10 : Hid (w9.heap.size + 1 ≤ w10.heap.size) := hidI (by have := g.size; first | omega | (simp at this; omega) | (simp at this ⊢; omega))
 have Z33 := hidI (And.intro HR.out (And.intro S1.out (And.intro S2.out (And.intro S3.out (And.intro S4.out (And.intro S5.out (And.intro S6.out (And.intro S7.out (And.intro S8.out (And.intro S9.out S10.out))))))))))
 clear g CC h ap aq ar af ag ah bp bq br bf bg bh pp pq pr pf pg ph
 obtain ⟨ap,aq,ar,af,ag,ah⟩ := facts A10.out
 obtain ⟨bp,bq,br,bf,bg,bh⟩ := facts B10.out
 obtain ⟨pp,pq,pr,pf,pg,ph⟩ := facts P10.out
 go_wp2_with fail
 have hP : stmP F (s.size + 2) (exP F (s.size + 2) d) (lisP F (s.size + 2) d) t = .ok (PS.set (ps0 0) t.a) (t10) := by rw [stmP,if_neg h0,if_neg H2.out,if_neg M0.out,if_neg M1.out,if_neg M2.out,if_neg M3.out,if_neg M4.out,if_neg M5.out,if_neg M6.out,if_neg M7.out]; try rw [bindOk]; (first | rw [r10] | exact r10); try rw [bindOk]
 refine bodyPost_ret (resBox rfl _ _ (w.heap.size + 1) _ rfl (ld94 (box13 B10.out))) rfl (Out.ok hP ?_ ?_ ?_)
 · exact ⟨⟨.slice none 0 0,.slice none 0 0,.slice none 0 0,.slice none 0 0,.slice none 0 0⟩,rfl,⟨⟨Xs.nil _ _,Li.nil _ _⟩,ms0 _ _,ss0 _ _,ss0 _ _⟩⟩
 · exact C10.out.gq (gr13 (World.grownBy.refl _ _)) (by have := Z33.out; omega) (by have := Z33.out; omega)
 · exact gr13o G10.out (by have := Z33.out; omega)
end
end Go.Proofs.YtdcoidmbainkmaaGreatDoor
