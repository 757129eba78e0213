/- Texts put together: Rb, Rc. -/
import Derived.Test.YtdcoidmbainkmaaGreatDoorQ09
namespace Go.Proofs.YtdcoidmbainkmaaGreatDoor
open Go.RowKit
attribute [local go_sem ↓] Go.wp_at_zero Go.wp_at_succ
set_option linter.unusedVariables false
set_option linter.unusedSimpArgs false
theorem beg_same {F : Int → Tok} {t t' : Tok} {x : Unit} (h : begP F t = .ok x t') : t.c ≠ 0 ∧ t' = t := by
 simp only [begP] at h
 split at h
 · cases h
 · split at h
   · injection h with _ h; exact ⟨by assumption,h.symm⟩
   · cases h
section
variable {V : World} {F : Int → Tok} {R : Nat} {s : ByteArray} {u : Int}
set_option maxRecDepth 10000 in
set_option maxHeartbeats 4000000 in
theorem un_zero : UnC V F R s u 0 := by
 intro w t dp hdp C
 have hl : dp = 41 := by simpa using hdp
 subst hl
 clear hdp
 have HC : Hid (Cx V F R s u w t) := C
 have C0 := HC
 have G0 : Hid (w.grownBy w (some R)) := World.grownBy.refl _ _
 have HR : Hid (R < w.heap.size ∧ 15 ≤ w.heap.size ∧ 15 ≤ R) := ⟨C.lt,C.sz,C.r15⟩
 clear C
 go_enter Tryz.func207,Tryz.ntmps207
 go_wp2_with fail
 refine (beg_any ((C0.out.al _).al _)).mono ?_
 intro e w1 h
 rcases h.get with ⟨_,t1,v1,r1,rfl,rfl,CC,g⟩ | ⟨cc,aa,r1,rfl,g⟩
 rotate_left
 · exact ⟨rfl,Out.bad (by rw [unP]; (first | (rw [r1]; done) | (rw [r1]; rfl) | exact r1)) (gtr (gr_alloc (gr_alloc G0.out _) _) g)⟩
 have A1 : Hid (w1.heap[w.heap.size]? = some (.cells #[pR R] 46)) := keptBut g (old (hp_new (by first | rfl | simp) _) _) (by have := HR.out; omega)
 have B1 : Hid (w1.heap[w.heap.size + 1]? = some (.cells #[.int .i64 0,.int .i64 0,.int .i64 0,.int .i64 0,.string ⟨#[]⟩,.string ⟨#[]⟩,.int .i64 0,.slice none 0 0] 61)) := keptBut g (hp_new (by first | rfl | simp) _) (by have := HR.out; omega)
 have G1 := hidI (gtr (gr_alloc (gr_alloc G0.out _) _) g)
 have C1 := hidI CC
 have S1 : Hid (w.heap.size + 2 ≤ w1.heap.size) := hidI (by have := g.size; first | omega | (simp at this; omega) | (simp at this ⊢; omega))
 clear g CC h
 obtain ⟨ap,aq,ar,af,ag,ah⟩ := facts A1.out
 have adq : ∀ i,w1.drew.cell? ⟨w.heap.size,i,none⟩ = #[pR R][i]? := ap
 obtain ⟨z0,z1,z2,z3,z4,z5,z6,z7⟩ := C1.out.drew.rd.cells
 go_wp2_with fail
 go_region_dies
 all_goals (refine (giveUp_any R s t1 u _ _ _ C1.out.drew.rd).mono ?_; rintro e w3 ⟨rfl,rfl⟩; exact ⟨rfl,Out.bad (by rw [unP]; (first | rw [r1] | exact r1); try rw [bindOk]) (gr_drew G1.out)⟩)
set_option maxRecDepth 10000 in
set_option maxHeartbeats 4000000 in
theorem un_succ (d : Nat) (hd : d ≤ 39) (hU : UnC V F R s u d) (hE : ExC V F R s u d) : UnC V F R s u (d + 1) := by
 intro w t dp hdp C
 have b1 : 1 ≤ dp := by omega
 have b2 : dp ≤ 40 := by omega
 have HU : Hid (UnC V F R s u d) := hU
 have HE : Hid (ExC V F R s u d) := hE
 have HD : Hid (dp = 40 - (d : Int)) := by show dp = _; omega
 clear hU hE hdp
 have HC : Hid (Cx V F R s u w t) := C
 have C0 := HC
 have G0 : Hid (w.grownBy w (some R)) := World.grownBy.refl _ _
 have HR : Hid (R < w.heap.size ∧ 15 ≤ w.heap.size ∧ 15 ≤ R) := ⟨C.lt,C.sz,C.r15⟩
 clear C
 go_enter Tryz.func207,Tryz.ntmps207
 go_wp2_with fail
 refine (beg_any ((C0.out.al _).al _)).mono ?_
 intro e w1 h
 rcases h.get with ⟨_,t1,v1,r1,rfl,rfl,CC,g⟩ | ⟨cc,aa,r1,rfl,g⟩
 rotate_left
 · exact ⟨rfl,Out.bad (by rw [unP]; (first | (rw [r1]; done) | (rw [r1]; rfl) | exact r1)) (gtr (gr_alloc (gr_alloc G0.out _) _) g)⟩
 have A1 : Hid (w1.heap[w.heap.size]? = some (.cells #[pR R] 46)) := keptBut g (old (hp_new (by first | rfl | simp) _) _) (by have := HR.out; omega)
 have B1 : Hid (w1.heap[w.heap.size + 1]? = some (.cells #[.int .i64 0,.int .i64 0,.int .i64 0,.int .i64 0,.string ⟨#[]⟩,.string ⟨#[]⟩,.int .i64 0,.slice none 0 0] 61)) := keptBut g (hp_new (by first | rfl | simp) _) (by have := HR.out; omega)
 have G1 := hidI (gtr (gr_alloc (gr_alloc G0.out _) _) g)
 have C1 := hidI CC
 have S1 : Hid (w.heap.size + 2 ≤ w1.heap.size) := hidI (by have := g.size; first | omega | (simp at this; omega) | (simp at this ⊢; omega))
 clear g CC h
 obtain ⟨h0,ht⟩ := beg_same r1
 subst ht
 obtain ⟨ap,aq,ar,af,ag,ah⟩ := facts A1.out
 go_wp2_with fail
 refine (begL_any C1.out h0).mono ?_
 rintro e w2 ⟨rfl,g0⟩
 have CC := C1.out.gn g0
 have g := gr_none (p := R) g0
 have A2 : Hid (w2.heap[w.heap.size]? = some (.cells #[pR R] 46)) := keptBut g A1.out (by have := HR.out; have := S1.out; omega)
 have B2 : Hid (w2.heap[w.heap.size + 1]? = some (.cells #[.int .i64 0,.int .i64 0,.int .i64 0,.int .i64 0,.string ⟨#[]⟩,.string ⟨#[]⟩,.int .i64 0,.slice none 0 0] 61)) := keptBut g B1.out (by have := HR.out; have := S1.out; omega)
 have G2 := hidI (gtr G1.out g)
 have C2 := hidI CC
 have S2 : Hid (w1.heap.size + 0 ≤ w2.heap.size) := hidI (by have := g.size; first | omega | (simp at this; omega) | (simp at this ⊢; omega))
 have Z1 := hidI (And.intro HR.out (And.intro S1.out S2.out))
 clear g CC g0 ap aq ar af ag ah
 obtain ⟨ap,aq,ar,af,ag,ah⟩ := facts A2.out
 obtain ⟨bp,bq,br,bf,bg,bh⟩ := facts B2.out
 cases hl : litB F t1
 rotate_left
 · go_wp2_with fail
   refine (lit_any C2.out).mono ?_
   intro e w3 h
   rcases h.get with ⟨e1,t3,v3,r3,rfl,hv,CC,g⟩ | ⟨cc,aa,r3,rfl,g⟩
   rotate_left
   · exact ⟨rfl,Out.bad (by rw [unP]; (first | rw [r1] | exact r1); try rw [bindOk]; rw [if_pos hl]; (first | (rw [r3]; done) | (rw [r3]; rfl) | exact r3)) (gtr G2.out g)⟩
   rcases e1 with ⟨f1,o1,kd1,n1,nm1,pt1,a1,ks1⟩
   obtain ⟨kx1,kc1,rfl,hx⟩ := Xe_sl hv
   have X3 := hidI (hx.tag (w2.heap.size + 0) (by simp))
   clear hx hv
   have A3 : Hid (w3.heap[w.heap.size]? = some (.cells #[pR R] 46)) := keptBut g A2.out (by have := Z1.out; omega)
   have B3 : Hid (w3.heap[w.heap.size + 1]? = some (.cells #[.int .i64 0,.int .i64 0,.int .i64 0,.int .i64 0,.string ⟨#[]⟩,.string ⟨#[]⟩,.int .i64 0,.slice none 0 0] 61)) := keptBut g B2.out (by have := Z1.out; omega)
   have G3 := hidI (gtr G2.out g)
   have C3 := hidI CC
   have S3 : Hid (w2.heap.size + 0 ≤ w3.heap.size) := hidI (by have := g.size; first | omega | (simp at this; omega) | (simp at this ⊢; omega))
   have Z2 := hidI (And.intro HR.out (And.intro S1.out (And.intro S2.out S3.out)))
   clear g CC h ap aq ar af ag ah bp bq br bf bg bh
   obtain ⟨bp,bq,br,bf,bg,bh⟩ := facts B3.out
   go_wp2_with fail
   have hP : unP F (s.size + 2) (d + 1) t1 = .ok (.mk f1 o1 kd1 n1 nm1 pt1 a1 ks1) (t3) := by rw [unP]; (first | rw [r1] | exact r1); try rw [bindOk]; rw [if_pos hl]; (first | rw [r3] | exact r3); try rw [bindOk]
   refine bodyPost_ret (resBox rfl _ _ (w.heap.size + 1) _ rfl (ld61 (box8 B3.out))) rfl (Out.ok hP ?_ ?_ ?_)
   · exact Xe_mk.2 ⟨_,rfl,X3.out.fin (gr8 (World.grownBy.refl _ _)) (by have := Z2.out; omega) (by have := Z2.out; omega)⟩
   · exact C3.out.gq (gr8 (World.grownBy.refl _ _)) (by have := Z2.out; omega) (by have := Z2.out; omega)
   · exact gr8o G3.out (by have := Z2.out; omega)
 go_wp2_with fail
 refine (is_look C2.out h0 _ [⟨#[110,111,116]⟩,⟨#[45]⟩] _ _ _ (by simp) rfl rfl (by decide)).mono ?_
 rintro e w3 ⟨rfl,g0⟩
 have CC := (C2.out.al _).gn g0
 have g := gr_none (p := R) g0
 have A3 : Hid (w3.heap[w.heap.size]? = some (.cells #[pR R] 46)) := keptBut g (old A2.out _) (by have := Z1.out; omega)
 have B3 : Hid (w3.heap[w.heap.size + 1]? = some (.cells #[.int .i64 0,.int .i64 0,.int .i64 0,.int .i64 0,.string ⟨#[]⟩,.string ⟨#[]⟩,.int .i64 0,.slice none 0 0] 61)) := keptBut g (old B2.out _) (by have := Z1.out; omega)
 have G3 := hidI (gtr (gr_alloc G2.out _) g)
 have C3 := hidI CC
 have S3 : Hid (w2.heap.size + 1 ≤ w3.heap.size) := hidI (by have := g.size; first | omega | (simp at this; omega) | (simp at this ⊢; omega))
 have Z3 := hidI (And.intro HR.out (And.intro S1.out (And.intro S2.out S3.out)))
 clear g CC g0 ap aq ar af ag ah bp bq br bf bg bh
 obtain ⟨ap,aq,ar,af,ag,ah⟩ := facts A3.out
 obtain ⟨bp,bq,br,bf,bg,bh⟩ := facts B3.out
 cases hm : mem [⟨#[110,111,116]⟩,⟨#[45]⟩] t1
 · go_wp2_with fail
   refine (basic_any d hd HE.out _ _ dp HD.out C3.out).mono ?_
   intro e w4 h
   rcases h.get with ⟨e1,t4,v4,r4,rfl,hv,CC,g⟩ | ⟨cc,aa,r4,rfl,g⟩
   rotate_left
   · exact ⟨rfl,Out.bad (by rw [unP]; (first | rw [r1] | exact r1); try rw [bindOk]; rw [if_neg (by rw [hl]; simp)]; rw [if_neg (by rw [hm]; simp)]; (first | (rw [r4]; done) | (rw [r4]; rfl) | exact r4)) (gtr G3.out g)⟩
   rcases e1 with ⟨f1,o1,kd1,n1,nm1,pt1,a1,ks1⟩
   obtain ⟨kx1,kc1,rfl,hx⟩ := Xe_sl hv
   have X4 := hidI (hx.tag (w3.heap.size + 0) (by simp))
   clear hx hv
   have A4 : Hid (w4.heap[w.heap.size]? = some (.cells #[pR R] 46)) := keptBut g A3.out (by have := Z3.out; omega)
   have B4 : Hid (w4.heap[w.heap.size + 1]? = some (.cells #[.int .i64 0,.int .i64 0,.int .i64 0,.int .i64 0,.string ⟨#[]⟩,.string ⟨#[]⟩,.int .i64 0,.slice none 0 0] 61)) := keptBut g B3.out (by have := Z3.out; omega)
   have G4 := hidI (gtr G3.out g)
   have C4 := hidI CC
   have S4 : Hid (w3.heap.size + 0 ≤ w4.heap.size) := hidI (by have := g.size; first | omega | (simp at this; omega) | (simp at this ⊢; omega))
   have Z4 := hidI (And.intro HR.out (And.intro S1.out (And.intro S2.out (And.intro S3.out S4.out))))
   clear g CC h ap aq ar af ag ah bp bq br bf bg bh
   obtain ⟨bp,bq,br,bf,bg,bh⟩ := facts B4.out
   go_wp2_with fail
   have hP : unP F (s.size + 2) (d + 1) t1 = .ok (.mk f1 o1 kd1 n1 nm1 pt1 a1 ks1) (t4) := by rw [unP]; (first | rw [r1] | exact r1); try rw [bindOk]; rw [if_neg (by rw [hl]; simp)]; rw [if_neg (by rw [hm]; simp)]; (first | rw [r4] | exact r4); try rw [bindOk]
   refine bodyPost_ret (resBox rfl _ _ (w.heap.size + 1) _ rfl (ld61 (box8 B4.out))) rfl (Out.ok hP ?_ ?_ ?_)
   · exact Xe_mk.2 ⟨_,rfl,X4.out.fin (gr8 (World.grownBy.refl _ _)) (by have := Z4.out; omega) (by have := Z4.out; omega)⟩
   · exact C4.out.gq (gr8 (World.grownBy.refl _ _)) (by have := Z4.out; omega) (by have := Z4.out; omega)
   · exact gr8o G4.out (by have := Z4.out; omega)
 go_wp2_with fail
 refine (takeK C3.out h0).mono ?_
 rintro e w4 ⟨⟨v,rfl,rfl⟩,CC,g⟩
 have A4 : Hid (w4.heap[w.heap.size]? = some (.cells #[pR R] 46)) := keptBut g A3.out (by have := Z3.out; omega)
 have B4 : Hid (w4.heap[w.heap.size + 1]? = some (.cells #[.int .i64 0,.int .i64 0,.int .i64 0,.int .i64 0,.string ⟨#[]⟩,.string ⟨#[]⟩,.int .i64 0,.slice none 0 0] 61)) := keptBut g B3.out (by have := Z3.out; omega)
 have G4 := hidI (gtr G3.out g)
 have C4 := hidI CC
 have S4 : Hid (w3.heap.size + 0 ≤ w4.heap.size) := hidI (by have := g.size; first | omega | (simp at this; omega) | (simp at this ⊢; omega))
 clear g CC ap aq ar af ag ah bp bq br bf bg bh
 obtain ⟨ap,aq,ar,af,ag,ah⟩ := facts A4.out
 obtain ⟨bp,bq,br,bf,bg,bh⟩ := facts B4.out
 obtain ⟨op,hop⟩ : ∃ op : Int,(if t1.x = ⟨#[45]⟩ then 22 else 21) = op := ⟨_,rfl⟩
 by_cases hx : t1.x = ⟨#[45]⟩
 · have hx' : (t1.x.toList == [45]) = true := by rw [eqS]; simpa using hx
   have HOP : Hid ((if t1.x = ⟨#[45]⟩ then (22 : Int) else 21) = 22) := if_pos hx
   have HX := hidI hx
   clear hop hx
   go_wp2_with fail
   obtain ⟨wy,hwy⟩ : ∃ wy,w4.alloc (.cells #[.int .i64 t1.c,.string t1.x,.int .i64 t1.n,.int .i64 t1.a,.int .i64 t1.e,.int .i64 t1.f] 73) = wy := ⟨_,rfl⟩
   have A5 : Hid (wy.drew.heap[w.heap.size]? = some (.cells #[pR R] 46)) := (by rw [← hwy]; exact (old A4.out _) : wy.heap[w.heap.size]? = _)
   have B5 : Hid (wy.drew.heap[w.heap.size + 1]? = some (.cells #[.int .i64 0,.int .i64 0,.int .i64 0,.int .i64 0,.string ⟨#[]⟩,.string ⟨#[]⟩,.int .i64 0,.slice none 0 0] 61)) := (by rw [← hwy]; exact (old B4.out _) : wy.heap[w.heap.size + 1]? = _)
   have T5 : Hid (wy.drew.heap[w4.heap.size]? = some (.cells #[.int .i64 t1.c,.string t1.x,.int .i64 t1.n,.int .i64 t1.a,.int .i64 t1.e,.int .i64 t1.f] 73)) := (by rw [← hwy]; exact (hp_new (by first | rfl | simp) _) : wy.heap[w4.heap.size]? = _)
   have C5 : Hid (Cx V F R s u wy.drew (F t1.e)) := (by rw [← hwy]; exact (C4.out.al _) : Cx V F R s u wy (F t1.e)).drew
   have G5 : Hid (w.grownBy wy.drew (some R)) := gr_drew (by rw [← hwy]; exact (gr_alloc G4.out _))
   have S5 : Hid (w4.heap.size + 1 ≤ wy.drew.heap.size) := (by rw [← hwy]; simp : w4.heap.size + 1 ≤ wy.heap.size)
   have Z5 := hidI (And.intro HR.out (And.intro S1.out (And.intro S2.out (And.intro S3.out (And.intro S4.out S5.out)))))
   rw [hwy]
   clear hwy ap aq ar af ag ah bp bq br bf bg bh
   have hwd : IntKind.i64.wrap (dp + 1) = dp + 1 := IntWalk.i64_in _ (by omega)
   have hHeld : (fun w' : World => w'.cell? ⟨w4.heap.size,3,none⟩ = some (.int .i64 t1.a) ∧ w'.cell? ⟨w.heap.size,0,none⟩ = some (pR R)) wy.drew := ⟨by simpa using at_cell T5.out 3,by simpa using at_cell A5.out 0⟩
   refine wp_region_L (L := 9) (S := (fun w' : World => w'.cell? ⟨w4.heap.size,3,none⟩ = some (.int .i64 t1.a) ∧ w'.cell? ⟨w.heap.size,0,none⟩ = some (pR R))) (by kernel_rfl) ?_
   refine wpAnyL_take (i := 0) (oi := { dst := Option.some 40, op := Op.move (.tmp 6), type := 58, pos := "exprs.go:43", after := #[], guard := Option.none }) (v := ?_) rfl (by kernel_rfl) (by kernel_rfl) (by kernel_rfl) (fun _ _ _ h => h) (by kernel_rfl) (by kernel_rfl) (Or.inl ⟨by rfl, ?_⟩) hHeld ?_
   rotate_left
   · intro w hSw
     try dsimp only at hSw
     go_simp
     try with_reducible rfl
   try simp only [Act.put,List.setIfInBounds_toArray,List.set_cons_zero,List.set_cons_succ]
   refine wpAnyL_take (i := 1) (oi := { dst := Option.some 41, op := Op.fieldAddr 73 (.tmp 5) 3, type := 0, pos := "exprs.go:43", after := #[], guard := Option.none }) (v := ?_) rfl (by kernel_rfl) (by kernel_rfl) (by kernel_rfl) (fun _ _ _ h => h) (by kernel_rfl) (by kernel_rfl) (Or.inl ⟨by rfl, ?_⟩) hHeld ?_
   rotate_left
   · intro w hSw
     try dsimp only at hSw
     go_simp
     try with_reducible rfl
   try simp only [Act.put,List.setIfInBounds_toArray,List.set_cons_zero,List.set_cons_succ]
   refine wpAnyL_take (i := 2) (oi := { dst := Option.some 42, op := Op.load 3 (.tmp 41), type := 3, pos := "exprs.go:43", after := #[⟨1, .data⟩], guard := Option.none }) (v := ?_) rfl (by kernel_rfl) (by kernel_rfl) (by kernel_rfl) (fun _ _ _ h => h) (by kernel_rfl) (by kernel_rfl) (Or.inl ⟨by rfl, ?_⟩) hHeld ?_
   rotate_left
   · intro w hSw
     try dsimp only at hSw
     go_simp
     try with_reducible rfl
   try simp only [Act.put,List.setIfInBounds_toArray,List.set_cons_zero,List.set_cons_succ]
   refine wpAnyL_take (i := 3) (oi := { dst := Option.some 43, op := Op.load 46 (.tmp 2), type := 46, pos := "exprs.go:43", after := #[], guard := Option.none }) (v := ?_) rfl (by kernel_rfl) (by kernel_rfl) (by kernel_rfl) (fun _ _ _ h => h) (by kernel_rfl) (by kernel_rfl) (Or.inl ⟨by rfl, ?_⟩) hHeld ?_
   rotate_left
   · intro w hSw
     try dsimp only at hSw
     go_simp
     try with_reducible rfl
   try simp only [Act.put,List.setIfInBounds_toArray,List.set_cons_zero,List.set_cons_succ]
   refine wpAnyL_take (i := 4) (oi := { dst := Option.some 44, op := Op.move (.tmp 1), type := 3, pos := "exprs.go:43", after := #[], guard := Option.none }) (v := ?_) rfl (by kernel_rfl) (by kernel_rfl) (by kernel_rfl) (fun _ _ _ h => h) (by kernel_rfl) (by kernel_rfl) (Or.inl ⟨by rfl, ?_⟩) hHeld ?_
   rotate_left
   · intro w hSw
     try dsimp only at hSw
     go_simp
     try with_reducible rfl
   try simp only [Act.put,List.setIfInBounds_toArray,List.set_cons_zero,List.set_cons_succ]
   refine wpAnyL_take (i := 5) (oi := { dst := Option.some 45, op := Op.binOp BinOp.add 3 (.tmp 44) (Operand.const (Value.int IntKind.i64 1)) 3, type := 3, pos := "exprs.go:43", after := #[⟨4, .data⟩], guard := Option.none }) (v := ?_) rfl (by kernel_rfl) (by kernel_rfl) (by kernel_rfl) (fun _ _ _ h => h) (by kernel_rfl) (by kernel_rfl) (Or.inl ⟨by rfl, ?_⟩) hHeld ?_
   rotate_left
   · intro w hSw
     try dsimp only at hSw
     go_simp
     try with_reducible rfl
   try simp only [Act.put,List.setIfInBounds_toArray,List.set_cons_zero,List.set_cons_succ]
   refine wpAnyL_one (j := 6) (o := { dst := Option.some 46, op := Op.call { callee := Callee.value (Operand.func 207), args := #[Operand.tmp 43, Operand.tmp 45], argTypes := #[46, 3] }, type := 61, pos := "exprs.go:43", after := #[⟨3, .data⟩, ⟨5, .data⟩], guard := Option.none }) (by kernel_rfl) rfl (fun K hK => ?_)
   go_simp
   refine (HU.out _ _ (dp + 1) (by have := HD.out; omega) C5.out).mono ?_
   intro e w6 h
   rcases h.get with ⟨e1,t6,v6,r6,rfl,hv,CC,g⟩ | ⟨cc,aa,r6,rfl,g⟩
   rotate_left
   · exact ⟨rfl,Out.bad (by rw [unP]; (first | rw [r1] | exact r1); try rw [bindOk]; rw [if_neg (by rw [hl]; simp)]; rw [if_pos hm]; (first | (rw [r6]; done) | (rw [r6]; rfl) | exact r6)) (gtr G5.out g)⟩
   rcases e1 with ⟨f1,o1,kd1,n1,nm1,pt1,a1,ks1⟩
   obtain ⟨kx1,kc1,rfl,hx⟩ := Xe_sl hv
   have X6 := hidI (hx.tag (wy.drew.heap.size + 0) (by simp))
   clear hx hv
   have A6 : Hid (w6.heap[w.heap.size]? = some (.cells #[pR R] 46)) := keptBut g A5.out (by have := Z5.out; omega)
   have B6 : Hid (w6.heap[w.heap.size + 1]? = some (.cells #[.int .i64 0,.int .i64 0,.int .i64 0,.int .i64 0,.string ⟨#[]⟩,.string ⟨#[]⟩,.int .i64 0,.slice none 0 0] 61)) := keptBut g B5.out (by have := Z5.out; omega)
   have T6 : Hid (w6.heap[w4.heap.size]? = some (.cells #[.int .i64 t1.c,.string t1.x,.int .i64 t1.n,.int .i64 t1.a,.int .i64 t1.e,.int .i64 t1.f] 73)) := keptBut g T5.out (by have := Z5.out; omega)
   have G6 := hidI (gtr G5.out g)
   have C6 := hidI CC
   have S6 : Hid (wy.drew.heap.size + 0 ≤ w6.heap.size) := hidI (by have := g.size; first | omega | (simp at this; omega) | (simp at this ⊢; omega))
   have Z6 := hidI (And.intro HR.out (And.intro S1.out (And.intro S2.out (And.intro S3.out (And.intro S4.out (And.intro S5.out S6.out))))))
   clear g CC h
   have hHeld6 : (fun w' : World => w'.cell? ⟨w4.heap.size,3,none⟩ = some (.int .i64 t1.a) ∧ w'.cell? ⟨w.heap.size,0,none⟩ = some (pR R)) w6 := ⟨by simpa using at_cell T6.out 3,by simpa using at_cell A6.out 0⟩
   have hHeldA : ∀ ob,(fun w' : World => w'.cell? ⟨w4.heap.size,3,none⟩ = some (.int .i64 t1.a) ∧ w'.cell? ⟨w.heap.size,0,none⟩ = some (pR R)) (w6.alloc ob) := fun ob => ⟨by simpa using at_cell (old T6.out ob) 3,by simpa using at_cell (old A6.out ob) 0⟩
   go_wp2_with fail
   refine hK.out _ _ (fun _ _ => hHeld6) ?_
   clear hK K
   try simp only [Act.put,List.setIfInBounds_toArray,List.set_cons_zero,List.set_cons_succ]
   refine wpAnyL_one (j := 7) (o := { dst := Option.some 47, op := Op.buildSlice 59 1 #[(0, Operand.tmp 46)], type := 59, pos := "exprs.go:43", after := #[⟨6, .data⟩], guard := Option.none }) (by kernel_rfl) rfl (fun K hK => ?_)
   go_simp
   refine hK.out _ _ (fun _ _ => hHeldA _) ?_
   clear hK K
   try simp only [Act.put,List.setIfInBounds_toArray,List.set_cons_zero,List.set_cons_succ]
   refine wpAnyL_free (i := 8) (oi := { dst := Option.some 48, op := Op.build 61 #[(0, Operand.const (Value.int IntKind.i64 5)), (1, Operand.tmp 40), (6, Operand.tmp 42), (7, Operand.tmp 47)], type := 61, pos := "exprs.go:43", after := #[⟨0, .data⟩, ⟨2, .data⟩, ⟨7, .data⟩], guard := Option.none }) (v := ?_) rfl (by kernel_rfl) (by kernel_rfl) (by kernel_rfl) (fun _ _ _ h => h) (by decide) (Or.inl ⟨by rfl, ?_⟩) (fun _ => hHeldA _) ?_
   rotate_left
   · intro w hSw
     go_simp
     try with_reducible rfl
   try simp only [Act.put,List.setIfInBounds_toArray,List.set_cons_zero,List.set_cons_succ]
   refine wpAnyL_one (j := 9) (o := { dst := Option.none, op := Op.store 61 (.tmp 4) (.tmp 48), type := 0, pos := "exprs.go:43", after := #[⟨8, .data⟩, ⟨6, .chain⟩, ⟨0, .phase⟩, ⟨1, .phase⟩, ⟨2, .phase⟩, ⟨3, .phase⟩, ⟨4, .phase⟩, ⟨5, .phase⟩, ⟨6, .phase⟩, ⟨7, .phase⟩, ⟨8, .phase⟩], guard := Option.none }) (by kernel_rfl) rfl (fun K hK => ?_)
   obtain ⟨bp,bq,br,bf,bg,bh⟩ := facts B6.out
   go_simp
   refine hK.out _ _ (fun h => absurd rfl h) ?_
   clear hK K
   try simp only [Act.put,List.setIfInBounds_toArray,List.set_cons_zero,List.set_cons_succ]
   refine wpAnyL_done (by kernel_rfl) ?_ _
   have Y6 := hidI (xs_one (W := w6) (ok := av w.heap.size (w.heap.size + 1) (w.heap.size + 1)) (e := .mk f1 o1 kd1 n1 nm1 pt1 a1 ks1) (X6.out.imp (fun b _ hb => (by obtain ⟨h1,h2⟩ := hb; exact ⟨by have := Z6.out; omega,by have := Z6.out; omega,by have := Z6.out; omega⟩))) ⟨by have := Z6.out; omega,by have := Z6.out; omega,by have := Z6.out; omega⟩)
   go_wp2_with fail
   have hP : unP F (s.size + 2) (d + 1) t1 = .ok (.mk 5 22 0 0 nob nob t1.a [.mk f1 o1 kd1 n1 nm1 pt1 a1 ks1]) (t6) := by rw [unP]; (first | rw [r1] | exact r1); try rw [bindOk]; rw [if_neg (by rw [hl]; simp)]; rw [if_pos hm]; (first | rw [r6] | exact r6); try rw [bindOk]; rw [HOP.out]
   refine bodyPost_ret (resBox rfl _ _ (w.heap.size + 1) _ rfl (ld61 (box8 (old B6.out _)))) rfl (Out.ok hP ?_ ?_ ?_)
   · exact Xe_mk.2 ⟨_,rfl,(Y6.out.g (gr8 (World.grownBy.refl _ _)) (fun b hb => hb.2.1)).imp (fun b _ hb => hb.1)⟩
   · exact (C6.out.al _).gq (gr8 (World.grownBy.refl _ _)) (by have := Z6.out; omega) (by have := Z6.out; omega)
   · exact gr8o (gr_alloc G6.out _) (by have := Z6.out; omega)
 · have hx' : (t1.x.toList == [45]) = false := by rw [eqS]; simpa using hx
   have HOP : Hid ((if t1.x = ⟨#[45]⟩ then (22 : Int) else 21) = 21) := if_neg hx
   have HX := hidI hx
   clear hop hx
   go_wp2_with fail
   obtain ⟨wy,hwy⟩ : ∃ wy,w4.alloc (.cells #[.int .i64 t1.c,.string t1.x,.int .i64 t1.n,.int .i64 t1.a,.int .i64 t1.e,.int .i64 t1.f] 73) = wy := ⟨_,rfl⟩
   have A5 : Hid (wy.drew.heap[w.heap.size]? = some (.cells #[pR R] 46)) := (by rw [← hwy]; exact (old A4.out _) : wy.heap[w.heap.size]? = _)
   have B5 : Hid (wy.drew.heap[w.heap.size + 1]? = some (.cells #[.int .i64 0,.int .i64 0,.int .i64 0,.int .i64 0,.string ⟨#[]⟩,.string ⟨#[]⟩,.int .i64 0,.slice none 0 0] 61)) := (by rw [← hwy]; exact (old B4.out _) : wy.heap[w.heap.size + 1]? = _)
   have T5 : Hid (wy.drew.heap[w4.heap.size]? = some (.cells #[.int .i64 t1.c,.string t1.x,.int .i64 t1.n,.int .i64 t1.a,.int .i64 t1.e,.int .i64 t1.f] 73)) := (by rw [← hwy]; exact (hp_new (by first | rfl | simp) _) : wy.heap[w4.heap.size]? = _)
   have C5 : Hid (Cx V F R s u wy.drew (F t1.e)) := (by rw [← hwy]; exact (C4.out.al _) : Cx V F R s u wy (F t1.e)).drew
   have G5 : Hid (w.grownBy wy.drew (some R)) := gr_drew (by rw [← hwy]; exact (gr_alloc G4.out _))
   have S5 : Hid (w4.heap.size + 1 ≤ wy.drew.heap.size) := (by rw [← hwy]; simp : w4.heap.size + 1 ≤ wy.heap.size)
   have Z7 := hidI (And.intro HR.out (And.intro S1.out (And.intro S2.out (And.intro S3.out (And.intro S4.out S5.out)))))
   rw [hwy]
   clear hwy ap aq ar af ag ah bp bq br bf bg bh
   have hwd : IntKind.i64.wrap (dp + 1) = dp + 1 := IntWalk.i64_in _ (by omega)
   have hHeld : (fun w' : World => w'.cell? ⟨w4.heap.size,3,none⟩ = some (.int .i64 t1.a) ∧ w'.cell? ⟨w.heap.size,0,none⟩ = some (pR R)) wy.drew := ⟨by simpa using at_cell T5.out 3,by simpa using at_cell A5.out 0⟩
   refine wp_region_L (L := 9) (S := (fun w' : World => w'.cell? ⟨w4.heap.size,3,none⟩ = some (.int .i64 t1.a) ∧ w'.cell? ⟨w.heap.size,0,none⟩ = some (pR R))) (by kernel_rfl) ?_
   refine wpAnyL_take (i := 0) (oi := { dst := Option.some 40, op := Op.move (.tmp 6), type := 58, pos := "exprs.go:43", after := #[], guard := Option.none }) (v := ?_) rfl (by kernel_rfl) (by kernel_rfl) (by kernel_rfl) (fun _ _ _ h => h) (by kernel_rfl) (by kernel_rfl) (Or.inl ⟨by rfl, ?_⟩) hHeld ?_
   rotate_left
   · intro w hSw
     try dsimp only at hSw
     go_simp
     try with_reducible rfl
   try simp only [Act.put,List.setIfInBounds_toArray,List.set_cons_zero,List.set_cons_succ]
   refine wpAnyL_take (i := 1) (oi := { dst := Option.some 41, op := Op.fieldAddr 73 (.tmp 5) 3, type := 0, pos := "exprs.go:43", after := #[], guard := Option.none }) (v := ?_) rfl (by kernel_rfl) (by kernel_rfl) (by kernel_rfl) (fun _ _ _ h => h) (by kernel_rfl) (by kernel_rfl) (Or.inl ⟨by rfl, ?_⟩) hHeld ?_
   rotate_left
   · intro w hSw
     try dsimp only at hSw
     go_simp
     try with_reducible rfl
   try simp only [Act.put,List.setIfInBounds_toArray,List.set_cons_zero,List.set_cons_succ]
   refine wpAnyL_take (i := 2) (oi := { dst := Option.some 42, op := Op.load 3 (.tmp 41), type := 3, pos := "exprs.go:43", after := #[⟨1, .data⟩], guard := Option.none }) (v := ?_) rfl (by kernel_rfl) (by kernel_rfl) (by kernel_rfl) (fun _ _ _ h => h) (by kernel_rfl) (by kernel_rfl) (Or.inl ⟨by rfl, ?_⟩) hHeld ?_
   rotate_left
   · intro w hSw
     try dsimp only at hSw
     go_simp
     try with_reducible rfl
   try simp only [Act.put,List.setIfInBounds_toArray,List.set_cons_zero,List.set_cons_succ]
   refine wpAnyL_take (i := 3) (oi := { dst := Option.some 43, op := Op.load 46 (.tmp 2), type := 46, pos := "exprs.go:43", after := #[], guard := Option.none }) (v := ?_) rfl (by kernel_rfl) (by kernel_rfl) (by kernel_rfl) (fun _ _ _ h => h) (by kernel_rfl) (by kernel_rfl) (Or.inl ⟨by rfl, ?_⟩) hHeld ?_
   rotate_left
   · intro w hSw
     try dsimp only at hSw
     go_simp
     try with_reducible rfl
   try simp only [Act.put,List.setIfInBounds_toArray,List.set_cons_zero,List.set_cons_succ]
   refine wpAnyL_take (i := 4) (oi := { dst := Option.some 44, op := Op.move (.tmp 1), type := 3, pos := "exprs.go:43", after := #[], guard := Option.none }) (v := ?_) rfl (by kernel_rfl) (by kernel_rfl) (by kernel_rfl) (fun _ _ _ h => h) (by kernel_rfl) (by kernel_rfl) (Or.inl ⟨by rfl, ?_⟩) hHeld ?_
   rotate_left
   · intro w hSw
     try dsimp only at hSw
     go_simp
     try with_reducible rfl
   try simp only [Act.put,List.setIfInBounds_toArray,List.set_cons_zero,List.set_cons_succ]
   refine wpAnyL_take (i := 5) (oi := { dst := Option.some 45, op := Op.binOp BinOp.add 3 (.tmp 44) (Operand.const (Value.int IntKind.i64 1)) 3, type := 3, pos := "exprs.go:43", after := #[⟨4, .data⟩], guard := Option.none }) (v := ?_) rfl (by kernel_rfl) (by kernel_rfl) (by kernel_rfl) (fun _ _ _ h => h) (by kernel_rfl) (by kernel_rfl) (Or.inl ⟨by rfl, ?_⟩) hHeld ?_
   rotate_left
   · intro w hSw
     try dsimp only at hSw
     go_simp
     try with_reducible rfl
   try simp only [Act.put,List.setIfInBounds_toArray,List.set_cons_zero,List.set_cons_succ]
   refine wpAnyL_one (j := 6) (o := { dst := Option.some 46, op := Op.call { callee := Callee.value (Operand.func 207), args := #[Operand.tmp 43, Operand.tmp 45], argTypes := #[46, 3] }, type := 61, pos := "exprs.go:43", after := #[⟨3, .data⟩, ⟨5, .data⟩], guard := Option.none }) (by kernel_rfl) rfl (fun K hK => ?_)
   go_simp
   refine (HU.out _ _ (dp + 1) (by have := HD.out; omega) C5.out).mono ?_
   intro e w6 h
   rcases h.get with ⟨e1,t6,v6,r6,rfl,hv,CC,g⟩ | ⟨cc,aa,r6,rfl,g⟩
   rotate_left
   · exact ⟨rfl,Out.bad (by rw [unP]; (first | rw [r1] | exact r1); try rw [bindOk]; rw [if_neg (by rw [hl]; simp)]; rw [if_pos hm]; (first | (rw [r6]; done) | (rw [r6]; rfl) | exact r6)) (gtr G5.out g)⟩
   rcases e1 with ⟨f1,o1,kd1,n1,nm1,pt1,a1,ks1⟩
   obtain ⟨kx1,kc1,rfl,hx⟩ := Xe_sl hv
   have X6 := hidI (hx.tag (wy.drew.heap.size + 0) (by simp))
   clear hx hv
   have A6 : Hid (w6.heap[w.heap.size]? = some (.cells #[pR R] 46)) := keptBut g A5.out (by have := Z7.out; omega)
   have B6 : Hid (w6.heap[w.heap.size + 1]? = some (.cells #[.int .i64 0,.int .i64 0,.int .i64 0,.int .i64 0,.string ⟨#[]⟩,.string ⟨#[]⟩,.int .i64 0,.slice none 0 0] 61)) := keptBut g B5.out (by have := Z7.out; omega)
   have T6 : Hid (w6.heap[w4.heap.size]? = some (.cells #[.int .i64 t1.c,.string t1.x,.int .i64 t1.n,.int .i64 t1.a,.int .i64 t1.e,.int .i64 t1.f] 73)) := keptBut g T5.out (by have := Z7.out; omega)
   have G6 := hidI (gtr G5.out g)
   have C6 := hidI CC
   have S6 : Hid (wy.drew.heap.size + 0 ≤ w6.heap.size) := hidI (by have := g.size; first | omega | (simp at this; omega) | (simp at this ⊢; omega))
   have Z8 := hidI (And.intro HR.out (And.intro S1.out (And.intro S2.out (And.intro S3.out (And.intro S4.out (And.intro S5.out S6.out))))))
   clear g CC h
   have hHeld6 : (fun w' : World => w'.cell? ⟨w4.heap.size,3,none⟩ = some (.int .i64 t1.a) ∧ w'.cell? ⟨w.heap.size,0,none⟩ = some (pR R)) w6 := ⟨by simpa using at_cell T6.out 3,by simpa using at_cell A6.out 0⟩
   have hHeldA : ∀ ob,(fun w' : World => w'.cell? ⟨w4.heap.size,3,none⟩ = some (.int .i64 t1.a) ∧ w'.cell? ⟨w.heap.size,0,none⟩ = some (pR R)) (w6.alloc ob) := fun ob => ⟨by simpa using at_cell (old T6.out ob) 3,by simpa using at_cell (old A6.out ob) 0⟩
   go_wp2_with fail
   refine hK.out _ _ (fun _ _ => hHeld6) ?_
   clear hK K
   try simp only [Act.put,List.setIfInBounds_toArray,List.set_cons_zero,List.set_cons_succ]
   refine wpAnyL_one (j := 7) (o := { dst := Option.some 47, op := Op.buildSlice 59 1 #[(0, Operand.tmp 46)], type := 59, pos := "exprs.go:43", after := #[⟨6, .data⟩], guard := Option.none }) (by kernel_rfl) rfl (fun K hK => ?_)
   go_simp
   refine hK.out _ _ (fun _ _ => hHeldA _) ?_
   clear hK K
   try simp only [Act.put,List.setIfInBounds_toArray,List.set_cons_zero,List.set_cons_succ]
   refine wpAnyL_free (i := 8) (oi := { dst := Option.some 48, op := Op.build 61 #[(0, Operand.const (Value.int IntKind.i64 5)), (1, Operand.tmp 40), (6, Operand.tmp 42), (7, Operand.tmp 47)], type := 61, pos := "exprs.go:43", after := #[⟨0, .data⟩, ⟨2, .data⟩, ⟨7, .data⟩], guard := Option.none }) (v := ?_) rfl (by kernel_rfl) (by kernel_rfl) (by kernel_rfl) (fun _ _ _ h => h) (by decide) (Or.inl ⟨by rfl, ?_⟩) (fun _ => hHeldA _) ?_
   rotate_left
   · intro w hSw
     go_simp
     try with_reducible rfl
   try simp only [Act.put,List.setIfInBounds_toArray,List.set_cons_zero,List.set_cons_succ]
   refine wpAnyL_one (j := 9) (o := { dst := Option.none, op := Op.store 61 (.tmp 4) (.tmp 48), type := 0, pos := "exprs.go:43", after := #[⟨8, .data⟩, ⟨6, .chain⟩, ⟨0, .phase⟩, ⟨1, .phase⟩, ⟨2, .phase⟩, ⟨3, .phase⟩, ⟨4, .phase⟩, ⟨5, .phase⟩, ⟨6, .phase⟩, ⟨7, .phase⟩, ⟨8, .phase⟩], guard := Option.none }) (by kernel_rfl) rfl (fun K hK => ?_)
   obtain ⟨bp,bq,br,bf,bg,bh⟩ := facts B6.out
   go_simp
   refine hK.out _ _ (fun h => absurd rfl h) ?_
   clear hK K
   try simp only [Act.put,List.setIfInBounds_toArray,List.set_cons_zero,List.set_cons_succ]
   refine wpAnyL_done (by kernel_rfl) ?_ _
   have Y6 := hidI (xs_one (W := w6) (ok := av w.heap.size (w.heap.size + 1) (w.heap.size + 1)) (e := .mk f1 o1 kd1 n1 nm1 pt1 a1 ks1) (X6.out.imp (fun b _ hb => (by obtain ⟨h1,h2⟩ := hb; exact ⟨by have := Z8.out; omega,by have := Z8.out; omega,by have := Z8.out; omega⟩))) ⟨by have := Z8.out; omega,by have := Z8.out; omega,by have := Z8.out; omega⟩)
   go_wp2_with fail
   have hP : unP F (s.size + 2) (d + 1) t1 = .ok (.mk 5 21 0 0 nob nob t1.a [.mk f1 o1 kd1 n1 nm1 pt1 a1 ks1]) (t6) := by rw [unP]; (first | rw [r1] | exact r1); try rw [bindOk]; rw [if_neg (by rw [hl]; simp)]; rw [if_pos hm]; (first | rw [r6] | exact r6); try rw [bindOk]; rw [HOP.out]
   refine bodyPost_ret (resBox rfl _ _ (w.heap.size + 1) _ rfl (ld61 (box8 (old B6.out _)))) rfl (Out.ok hP ?_ ?_ ?_)
   · exact Xe_mk.2 ⟨_,rfl,(Y6.out.g (gr8 (World.grownBy.refl _ _)) (fun b hb => hb.2.1)).imp (fun b _ hb => hb.1)⟩
   · exact (C6.out.al _).gq (gr8 (World.grownBy.refl _ _)) (by have := Z8.out; omega) (by have := Z8.out; omega)
   · exact gr8o (gr_alloc G6.out _) (by have := Z8.out; omega)
end
end Go.Proofs.YtdcoidmbainkmaaGreatDoor

namespace Go.Proofs.YtdcoidmbainkmaaGreatDoor
open Go.RowKit
attribute [local go_sem ↓] Go.wp_at_zero Go.wp_at_succ
set_option linter.unusedVariables false
set_option linter.unusedSimpArgs false
section
variable {V : World} {F : Int → Tok} {R : Nat} {s : ByteArray} {u : Int}
set_option maxRecDepth 10000 in
theorem ex_of (d : Nat) (hB : BiC V F R s u d 7) : ExC V F R s u d := by
 intro w t dp hdp C
 have HB : Hid (BiC V F R s u d 7) := hB
 have HD : Hid (dp = 41 - (d : Int)) := hdp
 clear hB hdp
 have HC : Hid (Cx V F R s u w t) := C
 have C0 := HC
 have G0 : Hid (w.grownBy w (some R)) := World.grownBy.refl _ _
 have HR : Hid (R < w.heap.size ∧ 15 ≤ w.heap.size ∧ 15 ≤ R) := ⟨C.lt,C.sz,C.r15⟩
 clear C
 go_enter Tryz.func153,Tryz.ntmps153
 go_wp2_with fail
 refine (HB.out _ _ 1 dp (by decide) HD.out ((C0.out.al _).al _)).mono ?_
 intro e w1 h
 rcases h.get with ⟨e1,t1,v1,r1,rfl,hv,CC,g⟩ | ⟨cc,aa,r1,rfl,g⟩
 rotate_left
 · exact ⟨rfl,Out.bad (by rw [exP]; (first | (rw [r1]; done) | (rw [r1]; rfl) | exact r1)) (gtr (gr_alloc (gr_alloc G0.out _) _) g)⟩
 rcases e1 with ⟨f1,o1,kd1,n1,nm1,pt1,a1,ks1⟩
 obtain ⟨kx1,kc1,rfl,hx⟩ := Xe_sl hv
 have X1 := hidI (hx.tag (w.heap.size + 2) (by simp))
 clear hx hv
 have A1 : Hid (w1.heap[w.heap.size]? = some (.cells #[pR R] 46)) := keptBut g (old (hp_new (by first | rfl | simp) _) _) (by have := HR.out; omega)
 have B1 : Hid (w1.heap[w.heap.size + 1]? = some (.cells #[.int .i64 0,.int .i64 0,.int .i64 0,.int .i64 0,.string ⟨#[]⟩,.string ⟨#[]⟩,.int .i64 0,.slice none 0 0] 61)) := keptBut g (hp_new (by first | rfl | simp) _) (by have := HR.out; omega)
 have G1 := hidI (gtr (gr_alloc (gr_alloc G0.out _) _) g)
 have C1 := hidI CC
 have S1 : Hid (w.heap.size + 2 ≤ w1.heap.size) := hidI (by have := g.size; first | omega | (simp at this; omega) | (simp at this ⊢; omega))
 have Z1 := hidI (And.intro HR.out S1.out)
 clear g CC h
 obtain ⟨bp,bq,br,bf,bg,bh⟩ := facts B1.out
 go_wp2_with fail
 have hP : exP F (s.size + 2) d t = .ok (.mk f1 o1 kd1 n1 nm1 pt1 a1 ks1) (t1) := by rw [exP]; (first | rw [r1] | exact r1); try rw [bindOk]
 refine bodyPost_ret (resBox rfl _ _ (w.heap.size + 1) _ rfl (ld61 (box8 B1.out))) rfl (Out.ok hP ?_ ?_ ?_)
 · exact Xe_mk.2 ⟨_,rfl,X1.out.fin (gr8 (World.grownBy.refl _ _)) (by have := Z1.out; omega) (by have := Z1.out; omega)⟩
 · exact C1.out.gq (gr8 (World.grownBy.refl _ _)) (by have := Z1.out; omega) (by have := Z1.out; omega)
 · exact gr8o G1.out (by have := Z1.out; omega)
theorem bi_all (d : Nat) (hd : d ≤ 40) (hU : UnC V F R s u d) : ∀ j,j ≤ 7 → BiC V F R s u d j := by
 intro j
 induction j with
 | zero => intro _; exact bin_zero d hd hU
 | succ j ih => intro hj; exact bin_succ d j hd (by omega) hU (ih (by omega))
theorem un_all : ∀ d,d ≤ 40 → UnC V F R s u d ∧ ExC V F R s u d := by
 intro d
 induction d with
 | zero => intro _; exact ⟨un_zero,ex_of 0 (bi_all 0 (by omega) un_zero 7 (by omega))⟩
 | succ d ih =>
  intro hd
  obtain ⟨h1,h2⟩ := ih (by omega)
  have h3 := un_succ d (by omega) h1 h2
  exact ⟨h3,ex_of (d + 1) (bi_all (d + 1) hd h3 7 (by omega))⟩
theorem expr_any (d : Nat) (hd : d ≤ 40) : ExC V F R s u d := (un_all d hd).2
end
end Go.Proofs.YtdcoidmbainkmaaGreatDoor
