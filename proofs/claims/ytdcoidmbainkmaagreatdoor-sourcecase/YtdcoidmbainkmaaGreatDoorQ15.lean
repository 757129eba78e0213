/- Texts put together: Rj, Rk. -/
import Derived.Test.YtdcoidmbainkmaaGreatDoorQ14
namespace Go.Proofs.YtdcoidmbainkmaaGreatDoor
open Go.RowKit
attribute [local go_sem ↓] Go.wp_at_zero Go.wp_at_succ
set_option linter.unusedVariables false
set_option linter.unusedSimpArgs false
section
variable {V : World} {F : Int → Tok} {R : Nat} {s : ByteArray} {u : Int}
def ay (lo q hi : Nat) : Nat → Prop := fun b => lo ≤ b ∧ b ≠ q ∧ b ≤ hi
def CaL (V : World) (F : Int → Tok) (R : Nat) (s : ByteArray) (u : Int) (w : World) (q1 : Nat) (e1 : PE) (li : Tok → Res (List PS)) (r1 : Res (List PArm)) (gk : Nat) (wx : World) : Prop :=
 ∃ (l : List PArm) (a : Option Addr) (c : Nat) (tk : Tok),gk = s.size + 3 - l.length ∧ Cx V F R s u wx tk ∧ w.grownBy wx (some R) ∧ wx.heap[w.heap.size]? = some (.cells #[pR R] 46) ∧ wx.heap[w.heap.size + 1]? = some (.cells #[.int .i64 0,.int .i64 0,.string ⟨#[]⟩,.bool false,.slice none 0 0,.slice none 0 0,.slice none 0 0,.slice none 0 0,.slice none 0 0,.int .i64 0,.int .i64 0,.int .i64 0,.int .i64 0] 94) ∧
  wx.heap[q1 + 1]? = some (.cells #[.int .i64 4,.int .i64 0,.string ⟨#[]⟩,.bool false,.slice (some ⟨q1,0,none⟩) 1 1,.slice none 0 0,.slice a l.length c,.slice none 0 0,.slice none 0 0,.int .i64 0,.int .i64 0,.int .i64 0,.int .i64 0] 94) ∧ Xs wx (ay w.heap.size (w.heap.size + 1) q1) (.slice (some ⟨q1,0,none⟩) 1 1) [e1] ∧ Gl kdM 100 10 wx (q1 + 2) (.slice a l.length c) l ∧ q1 + 2 ≤ wx.heap.size ∧ (l.length : Int) ≤ tk.a ∧ (l.length = 0 → casL F (s.size + 2) li (s.size + 2) [] tk = r1) ∧ (l.length ≠ 0 → (if tk.c = 0 then .bad tk.f tk.a else if tk.c = 4 ∨ mem [⟨#[45]⟩] tk = true then casL F (s.size + 2) li (s.size + 2 - l.length) l tk else .ok l tk : Res (List PArm)) = r1)
set_option maxRecDepth 10000 in
set_option maxHeartbeats 8000000 in
theorem cases_any (hS60 : s.size ≤ 60000) (d : Nat) (hd : d ≤ 39) (hL : LsC V F R s u d) (w : World) (t : Tok) (dp : Int) (hdp : dp = 41 - d) (C : Cx V F R s u w t) : Calls Tryz.prog 114 #[rV R,.int .i64 dp] w (Out V F R s u w (casP F (s.size + 2) (exP F (s.size + 2) d) (lisP F (s.size + 2) d) t) (StP w)) := by
 have HE : Hid (ExC V F R s u d) := expr_any d (by omega)
 have HL : Hid (LsC V F R s u d) := hL
 have HD : Hid (dp = 41 - (d : Int)) := hdp
 have H60 := hidI hS60
 have hlad : Adv s.size 0 (lisP F (s.size + 2) d) := lis_adv C.G _ _
 have HLad := hidI hlad
 clear hdp hL hlad hS60
 have HC : Hid (Cx V F R s u w t) := C
 have C0 := HC
 have G0 : Hid (w.grownBy w (some R)) := World.grownBy.refl _ _
 have HR : Hid (R < w.heap.size ∧ 15 ≤ w.heap.size ∧ 15 ≤ R) := ⟨C.lt,C.sz,C.r15⟩
 clear C
 go_enter Tryz.func114,Tryz.ntmps114
 obtain ⟨li,hli⟩ : ∃ p,lisP F (s.size + 2) d = p := ⟨_,rfl⟩
 have HI : Hid (lisP F (s.size + 2) d = li) := hli
 rw [hli]
 clear hli
 go_wp2_with fail
 refine (HE.out _ _ dp HD.out ((C0.out.al _).al _)).mono ?_
 intro e w1 h
 rcases h.get with ⟨e1,t1,v1,r1,rfl,hv,CC,g⟩ | ⟨cc,aa,r1,rfl,g⟩
 rotate_left
 · exact ⟨rfl,Out.bad (by rw [casP]; (first | (rw [r1]; done) | (rw [r1]; rfl) | exact r1)) (gtr (gr_alloc (gr_alloc G0.out _) _) g)⟩
 rcases e1 with ⟨f1,o1,kd1,n1,nm1,pt1,a1,ks1⟩
 obtain ⟨kx1,kc1,rfl,hx⟩ := Xe_sl hv
 have X1 := hidI (hx.tag (w.heap.size + 2) (by simp))
 clear hx hv
 have A1 : Hid (w1.heap[w.heap.size]? = some (.cells #[pR R] 46)) := keptBut g (old (hp_new (by first | rfl | simp) _) _) (by have := HR.out; omega)
 have B1 : Hid (w1.heap[w.heap.size + 1]? = some (.cells #[.int .i64 0,.int .i64 0,.string ⟨#[]⟩,.bool false,.slice none 0 0,.slice none 0 0,.slice none 0 0,.slice none 0 0,.slice none 0 0,.int .i64 0,.int .i64 0,.int .i64 0,.int .i64 0] 94)) := keptBut g (hp_new (by first | rfl | simp) _) (by have := HR.out; omega)
 have G1 := hidI (gtr (gr_alloc (gr_alloc G0.out _) _) g)
 have C1 := hidI CC
 have S1 : Hid (w.heap.size + 2 ≤ w1.heap.size) := hidI (by have := g.size; first | omega | (simp at this; omega) | (simp at this ⊢; omega))
 have Z1 := hidI (And.intro HR.out S1.out)
 clear g CC h
 have T1 : Hid (t.a + 1 ≤ t1.a) := (ex_adv HC.out.G _ _ _ _ _ HC.out.ok r1).2
 have Y1 := hidI (xs_one (W := w1) (ok := ay w.heap.size (w.heap.size + 1) w1.heap.size) (e := .mk f1 o1 kd1 n1 nm1 pt1 a1 ks1) (X1.out.imp (fun b _ hb => (by obtain ⟨h1,h2⟩ := hb; exact ⟨by have := Z1.out; omega,by have := Z1.out; omega,by have := Z1.out; omega⟩))) ⟨by have := Z1.out; omega,by have := Z1.out; omega,by have := Z1.out; omega⟩)
 obtain ⟨ap,aq,ar,af,ag,ah⟩ := facts A1.out
 obtain ⟨bp,bq,br,bf,bg,bh⟩ := facts B1.out
 go_wp2_with fail
 refine (needW ((C1.out.al _).al _) _ [⟨#[111,102]⟩] _ _ _ (by simp) rfl rfl (by decide)).mono ?_
 intro e w2 h
 rcases h.get with ⟨_,t2,v2,r2,rfl,rfl,CC,g⟩ | ⟨cc,aa,r2,rfl,g⟩
 rotate_left
 · exact ⟨rfl,Out.bad (by rw [casP]; (first | rw [r1] | exact r1); try rw [bindOk]; (first | (rw [r2]; done) | (rw [r2]; rfl) | exact r2)) (gtr (gr_alloc (gr_alloc (gr_alloc G1.out _) _) _) g)⟩
 have A2 : Hid (w2.heap[w.heap.size]? = some (.cells #[pR R] 46)) := keptBut g (old (old (old A1.out _) _) _) (by have := Z1.out; omega)
 have B2 : Hid (w2.heap[w.heap.size + 1]? = some (.cells #[.int .i64 0,.int .i64 0,.string ⟨#[]⟩,.bool false,.slice none 0 0,.slice none 0 0,.slice none 0 0,.slice none 0 0,.slice none 0 0,.int .i64 0,.int .i64 0,.int .i64 0,.int .i64 0] 94)) := keptBut g (old (old (old B1.out _) _) _) (by have := Z1.out; omega)
 have P2 : Hid (w2.heap[w1.heap.size + 1]? = some (.cells #[.int .i64 4,.int .i64 0,.string ⟨#[]⟩,.bool false,.slice (some ⟨w1.heap.size,0,none⟩) 1 1,.slice none 0 0,.slice none 0 0,.slice none 0 0,.slice none 0 0,.int .i64 0,.int .i64 0,.int .i64 0,.int .i64 0] 94)) := keptBut g (old (hp_new (by first | rfl | simp) _) _) (by have := Z1.out; omega)
 have G2 := hidI (gtr (gr_alloc (gr_alloc (gr_alloc G1.out _) _) _) g)
 have C2 := hidI CC
 have S2 : Hid (w1.heap.size + 3 ≤ w2.heap.size) := hidI (by have := g.size; first | omega | (simp at this; omega) | (simp at this ⊢; omega))
 have Y2 := hidI ((Xs.g (Xs.al (Xs.al Y1.out _) _) g (fun b hb => by obtain ⟨h1,h2,h3⟩ := hb; have := Z1.out; omega)))
 clear g CC h ap aq ar af ag ah bp bq br bf bg bh
 have T2 : Hid (t1.a + 1 ≤ t2.a) := (need_adv C1.out.G _ _ _ _ C1.out.ok r2).2
 have H0 : Hid (0 ≤ t.a) := HC.out.ok.1
 skip
 have LS : Hid (CaL V F R s u w w1.heap.size (.mk f1 o1 kd1 n1 nm1 pt1 a1 ks1) li (casL F (s.size + 2) li (s.size + 2) [] t2) (s.size + 3) w2) :=
  ⟨[],none,0,t2,by simp,C2.out,G2.out,A2.out,B2.out,P2.out,Y2.out,Gl.nil _ _,by have := HR.out; have := S1.out; have := S2.out; omega,by have := T1.out; have := T2.out; have := H0.out; simp; omega,fun _ => rfl,(fun h => absurd rfl h)⟩
 obtain ⟨ap,aq,ar,af,ag,ah⟩ := facts A2.out
 obtain ⟨bp,bq,br,bf,bg,bh⟩ := facts B2.out
 obtain ⟨pp,pq,pr,pf,pg,ph⟩ := facts P2.out
 go_wp2_with fail
 go_loopg [6] (s.size + 3) (fun gk s6 wx => CaL V F R s u w w1.heap.size (.mk f1 o1 kd1 n1 nm1 pt1 a1 ks1) li (casL F (s.size + 2) li (s.size + 2) [] t2) gk wx)
 case atStart => exact LS.out
 case round =>
  obtain ⟨l,a,c,tk,hgk,CC,gg,hA,hB,hP,hY,hX,hq,hk,hm1,hm2⟩ := hrel
  have C3 := hidI CC
  have G3 := hidI gg
  have A3 := hidI hA
  have B3 := hidI hB
  have P3 := hidI hP
  have Y3 := hidI hY
  have L3 := hidI hX
  have S3 := hidI hq
  have Z2 := hidI (And.intro HR.out (And.intro S1.out (And.intro S2.out S3.out)))
  have HK := hidI hk
  have HG := hidI hgk
  have HLn : Hid (l.length ≤ 60000) := by have := CC.ok.2.1; have := H60.out; show l.length ≤ 60000; omega
  have hf : s.size + 2 - l.length = (s.size + 1 - l.length) + 1 := by have := CC.ok.2.1; omega
  have HF := hidI hf
  have HM1 := hidI hm1
  have HM2 := hidI hm2
  clear CC gg hA hB hP hY hX hq hk hgk hf hm1 hm2 ap aq ar af ag ah bp bq br bf bg bh pp pq pr pf pg ph
  by_cases hl0 : l.length = 0
  · have hl0' : ((l.length : Int) == 0) = true := by rw [hl0]; rfl
    have hr : casL F (s.size + 2) li (s.size + 2 - l.length) l tk = casL F (s.size + 2) li (s.size + 2) [] t2 := by
     have e := List.length_eq_zero_iff.mp hl0
     have := HM1.out hl0
     rw [e]; exact this
    have HRr := hidI hr
    clear hr hl0
    obtain ⟨ap,aq,ar,af,ag,ah⟩ := facts A3.out
    obtain ⟨pp,pq,pr,pf,pg,ph⟩ := facts P3.out
    go_wp2_with fail
    have HO := hidI L3.out.lt
    go_wp2_with fail
    refine (labels_any H60.out _ _ C3.out).mono ?_
    intro e w4 h
    rcases h.get with ⟨ls,t4,v4,r4,rfl,hv,CC,g⟩ | ⟨cc,aa,r4,rfl,g⟩
    rotate_left
    · exact ⟨rfl,Out.bad (by rw [casP]; (first | rw [r1] | exact r1); try rw [bindOk]; (first | rw [r2] | exact r2); try rw [bindOk]; rw [← HRr.out,HF.out,casL]; (first | (rw [r4]; done) | (rw [r4]; rfl) | exact r4)) (gtr G3.out g)⟩
    have L4 := hidI (Gl.g L3.out g (by have := Z2.out; omega))
    obtain ⟨bx,bc,rfl⟩ := hv.sl
    have U4 := hidI (hv.tag wr.heap.size (by simp))
    clear hv
    have A4 : Hid (w4.heap[w.heap.size]? = some (.cells #[pR R] 46)) := keptBut g A3.out (by have := Z2.out; omega)
    have B4 : Hid (w4.heap[w.heap.size + 1]? = some (.cells #[.int .i64 0,.int .i64 0,.string ⟨#[]⟩,.bool false,.slice none 0 0,.slice none 0 0,.slice none 0 0,.slice none 0 0,.slice none 0 0,.int .i64 0,.int .i64 0,.int .i64 0,.int .i64 0] 94)) := keptBut g B3.out (by have := Z2.out; omega)
    have P4 : Hid (w4.heap[w1.heap.size + 1]? = some (.cells #[.int .i64 4,.int .i64 0,.string ⟨#[]⟩,.bool false,.slice (some ⟨w1.heap.size,0,none⟩) 1 1,.slice none 0 0,.slice a l.length c,.slice none 0 0,.slice none 0 0,.int .i64 0,.int .i64 0,.int .i64 0,.int .i64 0] 94)) := keptBut g P3.out (by have := Z2.out; omega)
    have G4 := hidI (gtr G3.out g)
    have C4 := hidI CC
    have S4 : Hid (wr.heap.size + 0 ≤ w4.heap.size) := hidI (by have := g.size; first | omega | (simp at this; omega) | (simp at this ⊢; omega))
    have Y4 := hidI ((Xs.g Y3.out g (fun b hb => by obtain ⟨h1,h2,h3⟩ := hb; have := Z2.out; omega)))
    clear g CC h ap aq ar af ag ah pp pq pr pf pg ph
    have TA : Hid (tk.a + 1 ≤ t4.a) := (labL_adv C3.out.G _ _ _ _ _ C3.out.ok r4).2
    obtain ⟨ap,aq,ar,af,ag,ah⟩ := facts A4.out
    go_wp2_with fail
    have C5 := hidI C4.out.drew
    have G5 := hidI (gr_drew G4.out)
    have S5 : Hid (w4.heap.size ≤ w4.drew.heap.size) := Nat.le_refl _
    have Z3 := hidI (And.intro HR.out (And.intro S1.out (And.intro S2.out (And.intro S3.out (And.intro S4.out S5.out)))))
    have A5 : Hid (w4.drew.heap[w.heap.size]? = some (.cells #[pR R] 46)) := A4.out
    have B5 : Hid (w4.drew.heap[w.heap.size + 1]? = some (.cells #[.int .i64 0,.int .i64 0,.string ⟨#[]⟩,.bool false,.slice none 0 0,.slice none 0 0,.slice none 0 0,.slice none 0 0,.slice none 0 0,.int .i64 0,.int .i64 0,.int .i64 0,.int .i64 0] 94)) := B4.out
    have P5 : Hid (w4.drew.heap[w1.heap.size + 1]? = some (.cells #[.int .i64 4,.int .i64 0,.string ⟨#[]⟩,.bool false,.slice (some ⟨w1.heap.size,0,none⟩) 1 1,.slice none 0 0,.slice a l.length c,.slice none 0 0,.slice none 0 0,.int .i64 0,.int .i64 0,.int .i64 0,.int .i64 0] 94)) := P4.out
    have Y5 := hidI (Y4.out.gn (w0 := w) (gr_drew (World.grownBy.refl w4 none)))
    have U5 := hidI (Li.g U4.out (gr_drew (World.grownBy.refl w4 (some R))) (fun b hb => by obtain ⟨h1,h2⟩ := hb; have := HR.out; have := S1.out; have := S2.out; have := S3.out; have := S4.out; omega))
    have L5 := hidI (L4.out.gn (gr_drew (World.grownBy.refl w4 none)))
    clear ap aq ar af ag ah
    have hHeld : (fun w' : World => w'.cell? ⟨w.heap.size,0,none⟩ = some (pR R) ∧ w'.cell? ⟨w1.heap.size + 1,6,none⟩ = some (.slice a l.length c)) w4.drew := ⟨by simpa using at_cell (A5.out) 0,by simpa using at_cell (P5.out) 6⟩
    refine wp_region_L (L := 10) (S := (fun w' : World => w'.cell? ⟨w.heap.size,0,none⟩ = some (pR R) ∧ w'.cell? ⟨w1.heap.size + 1,6,none⟩ = some (.slice a l.length c))) (by kernel_rfl) ?_
    refine wpAnyL_take (i := 0) (v := ?_) rfl (by kernel_rfl) (by kernel_rfl) (by kernel_rfl) (fun _ _ _ h => h) (by kernel_rfl) (by kernel_rfl) (Or.inl ⟨by rfl,?_⟩) hHeld ?_
    rotate_left
    · intro w hSw
      try dsimp only at hSw
      go_simp
      try with_reducible rfl
    try simp only [Act.put,List.setIfInBounds_toArray,List.set_cons_zero,List.set_cons_succ]
    refine wpAnyL_take (i := 1) (v := ?_) rfl (by kernel_rfl) (by kernel_rfl) (by kernel_rfl) (fun _ _ _ h => h) (by kernel_rfl) (by kernel_rfl) (Or.inl ⟨by rfl,?_⟩) hHeld ?_
    rotate_left
    · intro w hSw
      try dsimp only at hSw
      go_simp
      try with_reducible rfl
    try simp only [Act.put,List.setIfInBounds_toArray,List.set_cons_zero,List.set_cons_succ]
    refine wpAnyL_take (i := 2) (v := ?_) rfl (by kernel_rfl) (by kernel_rfl) (by kernel_rfl) (fun _ _ _ h => h) (by kernel_rfl) (by kernel_rfl) (Or.inl ⟨by rfl,?_⟩) hHeld ?_
    rotate_left
    · intro w hSw
      try dsimp only at hSw
      go_simp
      try with_reducible rfl
    try simp only [Act.put,List.setIfInBounds_toArray,List.set_cons_zero,List.set_cons_succ]
    refine wpAnyL_take (i := 3) (v := ?_) rfl (by kernel_rfl) (by kernel_rfl) (by kernel_rfl) (fun _ _ _ h => h) (by kernel_rfl) (by kernel_rfl) (Or.inl ⟨by rfl,?_⟩) hHeld ?_
    rotate_left
    · intro w hSw
      try dsimp only at hSw
      go_simp
      try with_reducible rfl
    try simp only [Act.put,List.setIfInBounds_toArray,List.set_cons_zero,List.set_cons_succ]
    refine wpAnyL_take (i := 4) (v := ?_) rfl (by kernel_rfl) (by kernel_rfl) (by kernel_rfl) (fun _ _ _ h => h) (by kernel_rfl) (by kernel_rfl) (Or.inl ⟨by rfl,?_⟩) hHeld ?_
    rotate_left
    · intro w hSw
      try dsimp only at hSw
      go_simp
      try with_reducible rfl
    try simp only [Act.put,List.setIfInBounds_toArray,List.set_cons_zero,List.set_cons_succ]
    refine wpAnyL_one (j := 5) (by kernel_rfl) rfl (fun K hK => ?_)
    go_simp
    refine (HL.out _ _ dp HD.out C5.out).mono ?_
    intro e w6 h
    rcases h.get with ⟨bd,t6,v6,r6,rfl,hv,CC,g⟩ | ⟨cc,aa,r6,rfl,g⟩
    rotate_left
    · exact ⟨rfl,Out.bad (by rw [casP]; (first | rw [r1] | exact r1); try rw [bindOk]; (first | rw [r2] | exact r2); try rw [bindOk]; rw [← HRr.out,HF.out,casL]; (first | rw [r4] | exact r4); try rw [bindOk]; rw [← HI.out]; (first | (rw [r6]; done) | (rw [r6]; rfl) | exact r6)) (gtr G5.out g)⟩
    have L6 := hidI (L5.out.g g (by have := Z3.out; omega))
    obtain ⟨lx,lc,rfl⟩ := hv.sl
    have Q6 := hidI (hv.tag w4.heap.size (by simp))
    clear hv
    have A6 : Hid (w6.heap[w.heap.size]? = some (.cells #[pR R] 46)) := keptBut g A5.out (by have := Z3.out; omega)
    have B6 : Hid (w6.heap[w.heap.size + 1]? = some (.cells #[.int .i64 0,.int .i64 0,.string ⟨#[]⟩,.bool false,.slice none 0 0,.slice none 0 0,.slice none 0 0,.slice none 0 0,.slice none 0 0,.int .i64 0,.int .i64 0,.int .i64 0,.int .i64 0] 94)) := keptBut g B5.out (by have := Z3.out; omega)
    have P6 : Hid (w6.heap[w1.heap.size + 1]? = some (.cells #[.int .i64 4,.int .i64 0,.string ⟨#[]⟩,.bool false,.slice (some ⟨w1.heap.size,0,none⟩) 1 1,.slice none 0 0,.slice a l.length c,.slice none 0 0,.slice none 0 0,.int .i64 0,.int .i64 0,.int .i64 0,.int .i64 0] 94)) := keptBut g P5.out (by have := Z3.out; omega)
    have G6 := hidI (gtr G5.out g)
    have C6 := hidI CC
    have S6 : Hid (w4.drew.heap.size + 0 ≤ w6.heap.size) := hidI (by have := g.size; first | omega | (simp at this; omega) | (simp at this ⊢; omega))
    have Z4 := hidI (And.intro HR.out (And.intro S1.out (And.intro S2.out (And.intro S3.out (And.intro S4.out (And.intro S5.out S6.out))))))
    have Y6 := hidI ((Xs.g Y5.out g (fun b hb => by obtain ⟨h1,h2,h3⟩ := hb; have := Z3.out; omega)))
    have U6 := hidI ((Li.g U5.out g (fun b hb => by obtain ⟨h1,h2⟩ := hb; have := Z3.out; omega)))
    clear g CC h
    have TB : Hid (t4.a + 0 ≤ t6.a) := (HLad.out _ _ _ C4.out.ok r6).2
    have hHeld5 : (fun w' : World => w'.cell? ⟨w.heap.size,0,none⟩ = some (pR R) ∧ w'.cell? ⟨w1.heap.size + 1,6,none⟩ = some (.slice a l.length c)) w6 := ⟨by simpa using at_cell (A6.out) 0,by simpa using at_cell (P6.out) 6⟩
    have hHeldA : ∀ ob,(fun w' : World => w'.cell? ⟨w.heap.size,0,none⟩ = some (pR R) ∧ w'.cell? ⟨w1.heap.size + 1,6,none⟩ = some (.slice a l.length c)) (w6.alloc ob) := fun ob => ⟨by simpa using at_cell (old (A6.out) ob) 0,by simpa using at_cell (old (P6.out) ob) 6⟩
    go_wp2_with fail
    refine hK.out _ _ (fun _ _ => hHeld5) ?_
    clear hK K
    try simp only [Act.put,List.setIfInBounds_toArray,List.set_cons_zero,List.set_cons_succ]
    refine wpAnyL_free (i := 6) (v := ?_) rfl (by kernel_rfl) (by kernel_rfl) (by kernel_rfl) (fun _ _ _ h => h) (by decide) (Or.inl ⟨by rfl,?_⟩) (fun _ => hHeld5) ?_
    rotate_left
    · intro w hSw
      go_simp
      try with_reducible rfl
    try simp only [Act.put,List.setIfInBounds_toArray,List.set_cons_zero,List.set_cons_succ]
    refine wpAnyL_one (j := 7) (by kernel_rfl) rfl (fun K hK => ?_)
    go_simp
    refine hK.out _ _ (fun _ _ => hHeldA _) ?_
    clear hK K
    try simp only [Act.put,List.setIfInBounds_toArray,List.set_cons_zero,List.set_cons_succ]
    obtain ⟨a2,c2,w7,hrun,L7,g6⟩ := L6.out.add el92 (e := .mk pe0 ls bd) (k := (.slice none 0 0,.slice bx ls.length bc,.slice lx bd.length lc)) (lo := wr.heap.size) (hi := w6.heap.size) ⟨⟨Xs.nil _ _,U6.out.imp (fun b hb h => ⟨h.1,hb⟩)⟩,(Li.ss (Q6.out.imp (fun b hb h => ⟨by have := h.1; have := Z4.out; omega,hb⟩)))⟩ rfl (by intro y hy; simp [kdM,mC,xC,PArm.e,pe0] at hy; rcases hy with rfl | rfl | rfl | rfl | rfl | rfl | rfl | rfl | rfl | rfl <;> rfl) (by have := Z4.out; omega) (fun g hg => (HO.out g hg).2) (by have := HLn.out; omega) (by have := Z4.out; omega)
    have ho := L6.out.lt
    have HRUN : Hid ((Builtin.append_ #[92,92] 92 #[.slice a l.length c,.slice (some ⟨w6.heap.size,0,none⟩) 1 1]).run Tryz.prog (w6.alloc (.cells #[.int .i64 0,.int .i64 0,.int .i64 0,.int .i64 0,.string ⟨#[]⟩,.string ⟨#[]⟩,.int .i64 0,.slice none 0 0,.slice bx ls.length bc,.slice lx bd.length lc] 100)) = .ok (.slice a2 (l.length + 1) c2) w7) := hrun
    have C7 := hidI ((C6.out.al _).ga g6 (fun q hq => by have := ho q hq; have := HR.out; have := S1.out; constructor <;> omega))
    have G7 := hidI (grown_join (gr_alloc G6.out _) g6 (Or.inr (fun q hq => by have := ho q hq; have := S1.out; omega)))
    have A7 := hidI (keptRow g6 (old A6.out _) (fun e => by have := ho _ e; have := S1.out; omega))
    have B7 := hidI (keptRow g6 (old B6.out _) (fun e => by have := ho _ e; have := S1.out; omega))
    have P7 := hidI (keptRow g6 (old P6.out _) (fun e => by have := ho _ e; have := S1.out; omega))
    have Y7 := hidI ((Y6.out.al _).kept (w' := w7) (fun b hb hl => g6.block b hl (fun e => by have := ho _ e.symm; obtain ⟨h1,h2,h3⟩ := hb; omega)) g6.size)
    have S7 : Hid (w6.heap.size + 1 ≤ w7.heap.size) := by have := g6.size; simp at this; exact this
    have Z5 := hidI (And.intro HR.out (And.intro S1.out (And.intro S2.out (And.intro S3.out (And.intro S4.out (And.intro S5.out (And.intro S6.out S7.out)))))))
    have hHeld6 : (fun w' : World => w'.cell? ⟨w.heap.size,0,none⟩ = some (pR R) ∧ w'.cell? ⟨w1.heap.size + 1,6,none⟩ = some (.slice a l.length c)) w7 := ⟨by simpa using at_cell (A7.out) 0,by simpa using at_cell (P7.out) 6⟩
    have LL := hidI L7
    clear hrun L7 g6 ho
    refine wpAnyL_one (j := 8) (by kernel_rfl) rfl (fun K hK => ?_)
    refine step_append_run rfl _ _ 92 rfl _ _ _ w7 rfl rfl HRUN.out ?_
    refine hK.out _ _ (fun _ _ => hHeld6) ?_
    clear hK K
    try simp only [Act.put,List.setIfInBounds_toArray,List.set_cons_zero,List.set_cons_succ]
    refine wpAnyL_free (i := 9) (v := ?_) rfl (by kernel_rfl) (by kernel_rfl) (by kernel_rfl) (fun _ _ _ h => h) (by decide) (Or.inl ⟨by rfl,?_⟩) (fun _ => hHeld6) ?_
    rotate_left
    · intro w hSw
      go_simp
      try with_reducible rfl
    try simp only [Act.put,List.setIfInBounds_toArray,List.set_cons_zero,List.set_cons_succ]
    refine wpAnyL_one (j := 10) (by kernel_rfl) rfl (fun K hK => ?_)
    obtain ⟨sp,sq,sr,sf,sg,sh⟩ := facts P7.out
    go_simp
    refine hK.out _ _ (fun h => absurd rfl h) ?_
    clear hK K
    try simp only [Act.put,List.setIfInBounds_toArray,List.set_cons_zero,List.set_cons_succ]
    refine wpAnyL_done (by kernel_rfl) ?_ _
    obtain ⟨ap,aq,ar,af,ag,ah⟩ := facts A7.out
    obtain ⟨bp,bq,br,bf,bg,bh⟩ := facts B7.out
    obtain ⟨pp,pq,pr,pf,pg,ph⟩ := facts P7.out
    go_wp2_with fail
    have hgl := HG.out
    have hkk := HK.out
    have q1 := TA.out
    have q2 := TB.out
    have qs := HF.out
    go_roundg (s.size + 3 - (l.length + 1))
    case measure => omega
    case rel =>
     refine ⟨l ++ [.mk pe0 ls bd],a2,c2,t6,by simp,(C7.out.set (by have := Z5.out; omega) (by have := Z5.out; omega) _ _),(gr_ow2 G7.out (by have := Z5.out; omega) _ _),(keepS A7.out (by have := Z5.out; omega)),(keepS B7.out (by have := Z5.out; omega)),(by simpa using (at_set P7.out 6 (.slice a2 (l.length + 1) c2))),(Xs.g Y7.out (gr_set (World.grownBy.refl _ _) _ _) (fun b hb => by obtain ⟨h1,h2,h3⟩ := hb; have := Z5.out; omega)),(Gl.g LL.out (gr_set (World.grownBy.refl _ _) _ _) (by have := Z5.out; omega)),by simp; have := Z5.out; omega,by simp; omega,(fun h => absurd h (by simp)),fun _ => ?_⟩
     rw [show s.size + 2 - (l ++ [(.mk pe0 ls bd : PArm)]).length = s.size + 1 - l.length by simp]
     symm; rw [← HRr.out,HF.out,casL]; (first | rw [r4] | exact r4); try rw [bindOk]; rw [← HI.out]; (first | rw [r6] | exact r6); try rw [bindOk]
  have hl0' : ((l.length : Int) == 0) = false := by
   have : (l.length : Int) ≠ 0 := by omega
   simpa using this
  have hr := HM2.out hl0
  have HRa := hidI hr
  clear hr hl0
  obtain ⟨ap,aq,ar,af,ag,ah⟩ := facts A3.out
  obtain ⟨pp,pq,pr,pf,pg,ph⟩ := facts P3.out
  by_cases h0 : tk.c = 0
  · go_wp2_with fail
    refine (class_bad R s tk u _ _ C3.out.rd h0).mono ?_
    rintro e w4 ⟨rfl,g0⟩
    exact ⟨rfl,Out.bad (by rw [casP]; (first | rw [r1] | exact r1); try rw [bindOk]; (first | rw [r2] | exact r2); try rw [bindOk]; rw [← HRa.out,if_pos h0]; rfl) (gtr G3.out (gr_none (p := R) g0))⟩
  have hr := HRa.out
  rw [if_neg h0] at hr
  have HRb := hidI hr
  clear hr
  go_wp2_with fail
  refine (cls_look C3.out h0 4).mono ?_
  rintro e w4 ⟨rfl,g0⟩
  have CC := C3.out.gn g0
  have g := gr_none (p := R) g0
  have L4 := hidI (Gl.g L3.out g (by have := Z2.out; omega))
  have A4 : Hid (w4.heap[w.heap.size]? = some (.cells #[pR R] 46)) := keptBut g A3.out (by have := Z2.out; omega)
  have B4 : Hid (w4.heap[w.heap.size + 1]? = some (.cells #[.int .i64 0,.int .i64 0,.string ⟨#[]⟩,.bool false,.slice none 0 0,.slice none 0 0,.slice none 0 0,.slice none 0 0,.slice none 0 0,.int .i64 0,.int .i64 0,.int .i64 0,.int .i64 0] 94)) := keptBut g B3.out (by have := Z2.out; omega)
  have P4 : Hid (w4.heap[w1.heap.size + 1]? = some (.cells #[.int .i64 4,.int .i64 0,.string ⟨#[]⟩,.bool false,.slice (some ⟨w1.heap.size,0,none⟩) 1 1,.slice none 0 0,.slice a l.length c,.slice none 0 0,.slice none 0 0,.int .i64 0,.int .i64 0,.int .i64 0,.int .i64 0] 94)) := keptBut g P3.out (by have := Z2.out; omega)
  have G4 := hidI (gtr G3.out g)
  have C4 := hidI CC
  have S4 : Hid (wr.heap.size + 0 ≤ w4.heap.size) := hidI (by have := g.size; first | omega | (simp at this; omega) | (simp at this ⊢; omega))
  have Z6 := hidI (And.intro HR.out (And.intro S1.out (And.intro S2.out (And.intro S3.out S4.out))))
  have Y4 := hidI ((Xs.g Y3.out g (fun b hb => by obtain ⟨h1,h2,h3⟩ := hb; have := Z2.out; omega)))
  clear g CC g0 ap aq ar af ag ah pp pq pr pf pg ph
  obtain ⟨ap,aq,ar,af,ag,ah⟩ := facts A4.out
  obtain ⟨pp,pq,pr,pf,pg,ph⟩ := facts P4.out
  by_cases h4 : tk.c = 4
  · have h4' : decide (tk.c = 4) = true := by simpa using h4
    have hr := HRb.out
    rw [if_pos (Or.inl h4)] at hr
    have HRr := hidI hr
    clear hr
    have HO := hidI L4.out.lt
    go_wp2_with fail
    refine (labels_any H60.out _ _ C4.out).mono ?_
    intro e w5 h
    rcases h.get with ⟨ls,t5,v5,r5,rfl,hv,CC,g⟩ | ⟨cc,aa,r5,rfl,g⟩
    rotate_left
    · exact ⟨rfl,Out.bad (by rw [casP]; (first | rw [r1] | exact r1); try rw [bindOk]; (first | rw [r2] | exact r2); try rw [bindOk]; rw [← HRr.out,HF.out,casL]; (first | (rw [r5]; done) | (rw [r5]; rfl) | exact r5)) (gtr G4.out g)⟩
    have L5 := hidI (Gl.g L4.out g (by have := Z6.out; omega))
    obtain ⟨bx,bc,rfl⟩ := hv.sl
    have U5 := hidI (hv.tag w4.heap.size (by simp))
    clear hv
    have A5 : Hid (w5.heap[w.heap.size]? = some (.cells #[pR R] 46)) := keptBut g A4.out (by have := Z6.out; omega)
    have B5 : Hid (w5.heap[w.heap.size + 1]? = some (.cells #[.int .i64 0,.int .i64 0,.string ⟨#[]⟩,.bool false,.slice none 0 0,.slice none 0 0,.slice none 0 0,.slice none 0 0,.slice none 0 0,.int .i64 0,.int .i64 0,.int .i64 0,.int .i64 0] 94)) := keptBut g B4.out (by have := Z6.out; omega)
    have P5 : Hid (w5.heap[w1.heap.size + 1]? = some (.cells #[.int .i64 4,.int .i64 0,.string ⟨#[]⟩,.bool false,.slice (some ⟨w1.heap.size,0,none⟩) 1 1,.slice none 0 0,.slice a l.length c,.slice none 0 0,.slice none 0 0,.int .i64 0,.int .i64 0,.int .i64 0,.int .i64 0] 94)) := keptBut g P4.out (by have := Z6.out; omega)
    have G5 := hidI (gtr G4.out g)
    have C5 := hidI CC
    have S5 : Hid (w4.heap.size + 0 ≤ w5.heap.size) := hidI (by have := g.size; first | omega | (simp at this; omega) | (simp at this ⊢; omega))
    have Y5 := hidI ((Xs.g Y4.out g (fun b hb => by obtain ⟨h1,h2,h3⟩ := hb; have := Z6.out; omega)))
    clear g CC h ap aq ar af ag ah pp pq pr pf pg ph
    have TA : Hid (tk.a + 1 ≤ t5.a) := (labL_adv C3.out.G _ _ _ _ _ C3.out.ok r5).2
    obtain ⟨ap,aq,ar,af,ag,ah⟩ := facts A5.out
    go_wp2_with fail
    have C6 := hidI C5.out.drew
    have G6 := hidI (gr_drew G5.out)
    have S6 : Hid (w5.heap.size ≤ w5.drew.heap.size) := Nat.le_refl _
    have Z7 := hidI (And.intro HR.out (And.intro S1.out (And.intro S2.out (And.intro S3.out (And.intro S4.out (And.intro S5.out S6.out))))))
    have A6 : Hid (w5.drew.heap[w.heap.size]? = some (.cells #[pR R] 46)) := A5.out
    have B6 : Hid (w5.drew.heap[w.heap.size + 1]? = some (.cells #[.int .i64 0,.int .i64 0,.string ⟨#[]⟩,.bool false,.slice none 0 0,.slice none 0 0,.slice none 0 0,.slice none 0 0,.slice none 0 0,.int .i64 0,.int .i64 0,.int .i64 0,.int .i64 0] 94)) := B5.out
    have P6 : Hid (w5.drew.heap[w1.heap.size + 1]? = some (.cells #[.int .i64 4,.int .i64 0,.string ⟨#[]⟩,.bool false,.slice (some ⟨w1.heap.size,0,none⟩) 1 1,.slice none 0 0,.slice a l.length c,.slice none 0 0,.slice none 0 0,.int .i64 0,.int .i64 0,.int .i64 0,.int .i64 0] 94)) := P5.out
    have Y6 := hidI (Y5.out.gn (w0 := w) (gr_drew (World.grownBy.refl w5 none)))
    have U6 := hidI (Li.g U5.out (gr_drew (World.grownBy.refl w5 (some R))) (fun b hb => by obtain ⟨h1,h2⟩ := hb; have := HR.out; have := S1.out; have := S2.out; have := S3.out; have := S4.out; have := S5.out; omega))
    have L6 := hidI (L5.out.gn (gr_drew (World.grownBy.refl w5 none)))
    clear ap aq ar af ag ah
    have hHeld : (fun w' : World => w'.cell? ⟨w.heap.size,0,none⟩ = some (pR R) ∧ w'.cell? ⟨w1.heap.size + 1,6,none⟩ = some (.slice a l.length c)) w5.drew := ⟨by simpa using at_cell (A6.out) 0,by simpa using at_cell (P6.out) 6⟩
    refine wp_region_L (L := 10) (S := (fun w' : World => w'.cell? ⟨w.heap.size,0,none⟩ = some (pR R) ∧ w'.cell? ⟨w1.heap.size + 1,6,none⟩ = some (.slice a l.length c))) (by kernel_rfl) ?_
    refine wpAnyL_take (i := 0) (v := ?_) rfl (by kernel_rfl) (by kernel_rfl) (by kernel_rfl) (fun _ _ _ h => h) (by kernel_rfl) (by kernel_rfl) (Or.inl ⟨by rfl,?_⟩) hHeld ?_
    rotate_left
    · intro w hSw
      try dsimp only at hSw
      go_simp
      try with_reducible rfl
    try simp only [Act.put,List.setIfInBounds_toArray,List.set_cons_zero,List.set_cons_succ]
    refine wpAnyL_take (i := 1) (v := ?_) rfl (by kernel_rfl) (by kernel_rfl) (by kernel_rfl) (fun _ _ _ h => h) (by kernel_rfl) (by kernel_rfl) (Or.inl ⟨by rfl,?_⟩) hHeld ?_
    rotate_left
    · intro w hSw
      try dsimp only at hSw
      go_simp
      try with_reducible rfl
    try simp only [Act.put,List.setIfInBounds_toArray,List.set_cons_zero,List.set_cons_succ]
    refine wpAnyL_take (i := 2) (v := ?_) rfl (by kernel_rfl) (by kernel_rfl) (by kernel_rfl) (fun _ _ _ h => h) (by kernel_rfl) (by kernel_rfl) (Or.inl ⟨by rfl,?_⟩) hHeld ?_
    rotate_left
    · intro w hSw
      try dsimp only at hSw
      go_simp
      try with_reducible rfl
    try simp only [Act.put,List.setIfInBounds_toArray,List.set_cons_zero,List.set_cons_succ]
    refine wpAnyL_take (i := 3) (v := ?_) rfl (by kernel_rfl) (by kernel_rfl) (by kernel_rfl) (fun _ _ _ h => h) (by kernel_rfl) (by kernel_rfl) (Or.inl ⟨by rfl,?_⟩) hHeld ?_
    rotate_left
    · intro w hSw
      try dsimp only at hSw
      go_simp
      try with_reducible rfl
    try simp only [Act.put,List.setIfInBounds_toArray,List.set_cons_zero,List.set_cons_succ]
    refine wpAnyL_take (i := 4) (v := ?_) rfl (by kernel_rfl) (by kernel_rfl) (by kernel_rfl) (fun _ _ _ h => h) (by kernel_rfl) (by kernel_rfl) (Or.inl ⟨by rfl,?_⟩) hHeld ?_
    rotate_left
    · intro w hSw
      try dsimp only at hSw
      go_simp
      try with_reducible rfl
    try simp only [Act.put,List.setIfInBounds_toArray,List.set_cons_zero,List.set_cons_succ]
    refine wpAnyL_one (j := 5) (by kernel_rfl) rfl (fun K hK => ?_)
    go_simp
    refine (HL.out _ _ dp HD.out C6.out).mono ?_
    intro e w7 h
    rcases h.get with ⟨bd,t7,v7,r7,rfl,hv,CC,g⟩ | ⟨cc,aa,r7,rfl,g⟩
    rotate_left
    · exact ⟨rfl,Out.bad (by rw [casP]; (first | rw [r1] | exact r1); try rw [bindOk]; (first | rw [r2] | exact r2); try rw [bindOk]; rw [← HRr.out,HF.out,casL]; (first | rw [r5] | exact r5); try rw [bindOk]; rw [← HI.out]; (first | (rw [r7]; done) | (rw [r7]; rfl) | exact r7)) (gtr G6.out g)⟩
    have L7 := hidI (L6.out.g g (by have := Z7.out; omega))
    obtain ⟨lx,lc,rfl⟩ := hv.sl
    have Q7 := hidI (hv.tag w5.heap.size (by simp))
    clear hv
    have A7 : Hid (w7.heap[w.heap.size]? = some (.cells #[pR R] 46)) := keptBut g A6.out (by have := Z7.out; omega)
    have B7 : Hid (w7.heap[w.heap.size + 1]? = some (.cells #[.int .i64 0,.int .i64 0,.string ⟨#[]⟩,.bool false,.slice none 0 0,.slice none 0 0,.slice none 0 0,.slice none 0 0,.slice none 0 0,.int .i64 0,.int .i64 0,.int .i64 0,.int .i64 0] 94)) := keptBut g B6.out (by have := Z7.out; omega)
    have P7 : Hid (w7.heap[w1.heap.size + 1]? = some (.cells #[.int .i64 4,.int .i64 0,.string ⟨#[]⟩,.bool false,.slice (some ⟨w1.heap.size,0,none⟩) 1 1,.slice none 0 0,.slice a l.length c,.slice none 0 0,.slice none 0 0,.int .i64 0,.int .i64 0,.int .i64 0,.int .i64 0] 94)) := keptBut g P6.out (by have := Z7.out; omega)
    have G7 := hidI (gtr G6.out g)
    have C7 := hidI CC
    have S7 : Hid (w5.drew.heap.size + 0 ≤ w7.heap.size) := hidI (by have := g.size; first | omega | (simp at this; omega) | (simp at this ⊢; omega))
    have Z8 := hidI (And.intro HR.out (And.intro S1.out (And.intro S2.out (And.intro S3.out (And.intro S4.out (And.intro S5.out (And.intro S6.out S7.out)))))))
    have Y7 := hidI ((Xs.g Y6.out g (fun b hb => by obtain ⟨h1,h2,h3⟩ := hb; have := Z7.out; omega)))
    have U7 := hidI ((Li.g U6.out g (fun b hb => by obtain ⟨h1,h2⟩ := hb; have := Z7.out; omega)))
    clear g CC h
    have TB : Hid (t5.a + 0 ≤ t7.a) := (HLad.out _ _ _ C5.out.ok r7).2
    have hHeld5 : (fun w' : World => w'.cell? ⟨w.heap.size,0,none⟩ = some (pR R) ∧ w'.cell? ⟨w1.heap.size + 1,6,none⟩ = some (.slice a l.length c)) w7 := ⟨by simpa using at_cell (A7.out) 0,by simpa using at_cell (P7.out) 6⟩
    have hHeldA : ∀ ob,(fun w' : World => w'.cell? ⟨w.heap.size,0,none⟩ = some (pR R) ∧ w'.cell? ⟨w1.heap.size + 1,6,none⟩ = some (.slice a l.length c)) (w7.alloc ob) := fun ob => ⟨by simpa using at_cell (old (A7.out) ob) 0,by simpa using at_cell (old (P7.out) ob) 6⟩
    go_wp2_with fail
    refine hK.out _ _ (fun _ _ => hHeld5) ?_
    clear hK K
    try simp only [Act.put,List.setIfInBounds_toArray,List.set_cons_zero,List.set_cons_succ]
    refine wpAnyL_free (i := 6) (v := ?_) rfl (by kernel_rfl) (by kernel_rfl) (by kernel_rfl) (fun _ _ _ h => h) (by decide) (Or.inl ⟨by rfl,?_⟩) (fun _ => hHeld5) ?_
    rotate_left
    · intro w hSw
      go_simp
      try with_reducible rfl
    try simp only [Act.put,List.setIfInBounds_toArray,List.set_cons_zero,List.set_cons_succ]
    refine wpAnyL_one (j := 7) (by kernel_rfl) rfl (fun K hK => ?_)
    go_simp
    refine hK.out _ _ (fun _ _ => hHeldA _) ?_
    clear hK K
    try simp only [Act.put,List.setIfInBounds_toArray,List.set_cons_zero,List.set_cons_succ]
    obtain ⟨a2,c2,w8,hrun,L8,g6⟩ := L7.out.add el92 (e := .mk pe0 ls bd) (k := (.slice none 0 0,.slice bx ls.length bc,.slice lx bd.length lc)) (lo := w4.heap.size) (hi := w7.heap.size) ⟨⟨Xs.nil _ _,U7.out.imp (fun b hb h => ⟨h.1,hb⟩)⟩,(Li.ss (Q7.out.imp (fun b hb h => ⟨by have := h.1; have := Z8.out; omega,hb⟩)))⟩ rfl (by intro y hy; simp [kdM,mC,xC,PArm.e,pe0] at hy; rcases hy with rfl | rfl | rfl | rfl | rfl | rfl | rfl | rfl | rfl | rfl <;> rfl) (by have := Z8.out; omega) (fun g hg => (HO.out g hg).2) (by have := HLn.out; omega) (by have := Z8.out; omega)
    have ho := L7.out.lt
    have HRUN : Hid ((Builtin.append_ #[92,92] 92 #[.slice a l.length c,.slice (some ⟨w7.heap.size,0,none⟩) 1 1]).run Tryz.prog (w7.alloc (.cells #[.int .i64 0,.int .i64 0,.int .i64 0,.int .i64 0,.string ⟨#[]⟩,.string ⟨#[]⟩,.int .i64 0,.slice none 0 0,.slice bx ls.length bc,.slice lx bd.length lc] 100)) = .ok (.slice a2 (l.length + 1) c2) w8) := hrun
    have C8 := hidI ((C7.out.al _).ga g6 (fun q hq => by have := ho q hq; have := HR.out; have := S1.out; constructor <;> omega))
    have G8 := hidI (grown_join (gr_alloc G7.out _) g6 (Or.inr (fun q hq => by have := ho q hq; have := S1.out; omega)))
    have A8 := hidI (keptRow g6 (old A7.out _) (fun e => by have := ho _ e; have := S1.out; omega))
    have B8 := hidI (keptRow g6 (old B7.out _) (fun e => by have := ho _ e; have := S1.out; omega))
    have P8 := hidI (keptRow g6 (old P7.out _) (fun e => by have := ho _ e; have := S1.out; omega))
    have Y8 := hidI ((Y7.out.al _).kept (w' := w8) (fun b hb hl => g6.block b hl (fun e => by have := ho _ e.symm; obtain ⟨h1,h2,h3⟩ := hb; omega)) g6.size)
    have S8 : Hid (w7.heap.size + 1 ≤ w8.heap.size) := by have := g6.size; simp at this; exact this
    have Z9 := hidI (And.intro HR.out (And.intro S1.out (And.intro S2.out (And.intro S3.out (And.intro S4.out (And.intro S5.out (And.intro S6.out (And.intro S7.out S8.out))))))))
    have hHeld6 : (fun w' : World => w'.cell? ⟨w.heap.size,0,none⟩ = some (pR R) ∧ w'.cell? ⟨w1.heap.size + 1,6,none⟩ = some (.slice a l.length c)) w8 := ⟨by simpa using at_cell (A8.out) 0,by simpa using at_cell (P8.out) 6⟩
    have LL := hidI L8
    clear hrun L8 g6 ho
    refine wpAnyL_one (j := 8) (by kernel_rfl) rfl (fun K hK => ?_)
    refine step_append_run rfl _ _ 92 rfl _ _ _ w8 rfl rfl HRUN.out ?_
    refine hK.out _ _ (fun _ _ => hHeld6) ?_
    clear hK K
    try simp only [Act.put,List.setIfInBounds_toArray,List.set_cons_zero,List.set_cons_succ]
    refine wpAnyL_free (i := 9) (v := ?_) rfl (by kernel_rfl) (by kernel_rfl) (by kernel_rfl) (fun _ _ _ h => h) (by decide) (Or.inl ⟨by rfl,?_⟩) (fun _ => hHeld6) ?_
    rotate_left
    · intro w hSw
      go_simp
      try with_reducible rfl
    try simp only [Act.put,List.setIfInBounds_toArray,List.set_cons_zero,List.set_cons_succ]
    refine wpAnyL_one (j := 10) (by kernel_rfl) rfl (fun K hK => ?_)
    obtain ⟨sp,sq,sr,sf,sg,sh⟩ := facts P8.out
    go_simp
    refine hK.out _ _ (fun h => absurd rfl h) ?_
    clear hK K
    try simp only [Act.put,List.setIfInBounds_toArray,List.set_cons_zero,List.set_cons_succ]
    refine wpAnyL_done (by kernel_rfl) ?_ _
    obtain ⟨ap,aq,ar,af,ag,ah⟩ := facts A8.out
    obtain ⟨bp,bq,br,bf,bg,bh⟩ := facts B8.out
    obtain ⟨pp,pq,pr,pf,pg,ph⟩ := facts P8.out
    go_wp2_with fail
    have hgl := HG.out
    have hkk := HK.out
    have q1 := TA.out
    have q2 := TB.out
    have qs := HF.out
    go_roundg (s.size + 3 - (l.length + 1))
    case measure => omega
    case rel =>
     refine ⟨l ++ [.mk pe0 ls bd],a2,c2,t7,by simp,(C8.out.set (by have := Z9.out; omega) (by have := Z9.out; omega) _ _),(gr_ow2 G8.out (by have := Z9.out; omega) _ _),(keepS A8.out (by have := Z9.out; omega)),(keepS B8.out (by have := Z9.out; omega)),(by simpa using (at_set P8.out 6 (.slice a2 (l.length + 1) c2))),(Xs.g Y8.out (gr_set (World.grownBy.refl _ _) _ _) (fun b hb => by obtain ⟨h1,h2,h3⟩ := hb; have := Z9.out; omega)),(Gl.g LL.out (gr_set (World.grownBy.refl _ _) _ _) (by have := Z9.out; omega)),by simp; have := Z9.out; omega,by simp; omega,(fun h => absurd h (by simp)),fun _ => ?_⟩
     rw [show s.size + 2 - (l ++ [(.mk pe0 ls bd : PArm)]).length = s.size + 1 - l.length by simp]
     symm; rw [← HRr.out,HF.out,casL]; (first | rw [r5] | exact r5); try rw [bindOk]; rw [← HI.out]; (first | rw [r7] | exact r7); try rw [bindOk]
  have h4' : decide (tk.c = 4) = false := by simpa using h4
  go_wp2_with fail
  refine (is_look C4.out h0 _ [⟨#[45]⟩] _ _ _ (by simp) rfl rfl (by decide)).mono ?_
  rintro e w5 ⟨rfl,g0⟩
  have CC := (C4.out.al _).gn g0
  have g := gr_none (p := R) g0
  have L5 := hidI (Gl.g (Gl.gn L4.out (gr1 _ _)) g (by have := Z6.out; omega))
  have A5 : Hid (w5.heap[w.heap.size]? = some (.cells #[pR R] 46)) := keptBut g (old A4.out _) (by have := Z6.out; omega)
  have B5 : Hid (w5.heap[w.heap.size + 1]? = some (.cells #[.int .i64 0,.int .i64 0,.string ⟨#[]⟩,.bool false,.slice none 0 0,.slice none 0 0,.slice none 0 0,.slice none 0 0,.slice none 0 0,.int .i64 0,.int .i64 0,.int .i64 0,.int .i64 0] 94)) := keptBut g (old B4.out _) (by have := Z6.out; omega)
  have P5 : Hid (w5.heap[w1.heap.size + 1]? = some (.cells #[.int .i64 4,.int .i64 0,.string ⟨#[]⟩,.bool false,.slice (some ⟨w1.heap.size,0,none⟩) 1 1,.slice none 0 0,.slice a l.length c,.slice none 0 0,.slice none 0 0,.int .i64 0,.int .i64 0,.int .i64 0,.int .i64 0] 94)) := keptBut g (old P4.out _) (by have := Z6.out; omega)
  have G5 := hidI (gtr (gr_alloc G4.out _) g)
  have C5 := hidI CC
  have S5 : Hid (w4.heap.size + 1 ≤ w5.heap.size) := hidI (by have := g.size; first | omega | (simp at this; omega) | (simp at this ⊢; omega))
  have Z10 := hidI (And.intro HR.out (And.intro S1.out (And.intro S2.out (And.intro S3.out (And.intro S4.out S5.out)))))
  have Y5 := hidI ((Xs.g (Xs.al Y4.out _) g (fun b hb => by obtain ⟨h1,h2,h3⟩ := hb; have := Z6.out; omega)))
  clear g CC g0 ap aq ar af ag ah pp pq pr pf pg ph
  obtain ⟨ap,aq,ar,af,ag,ah⟩ := facts A5.out
  obtain ⟨pp,pq,pr,pf,pg,ph⟩ := facts P5.out
  cases hm : mem [⟨#[45]⟩] tk
  rotate_left
  · have hr := HRb.out
    rw [if_pos (Or.inr hm)] at hr
    have HRr := hidI hr
    clear hr
    have HO := hidI L5.out.lt
    go_wp2_with fail
    refine (labels_any H60.out _ _ C5.out).mono ?_
    intro e w6 h
    rcases h.get with ⟨ls,t6,v6,r6,rfl,hv,CC,g⟩ | ⟨cc,aa,r6,rfl,g⟩
    rotate_left
    · exact ⟨rfl,Out.bad (by rw [casP]; (first | rw [r1] | exact r1); try rw [bindOk]; (first | rw [r2] | exact r2); try rw [bindOk]; rw [← HRr.out,HF.out,casL]; (first | (rw [r6]; done) | (rw [r6]; rfl) | exact r6)) (gtr G5.out g)⟩
    have L6 := hidI (Gl.g L5.out g (by have := Z10.out; omega))
    obtain ⟨bx,bc,rfl⟩ := hv.sl
    have U6 := hidI (hv.tag w5.heap.size (by simp))
    clear hv
    have A6 : Hid (w6.heap[w.heap.size]? = some (.cells #[pR R] 46)) := keptBut g A5.out (by have := Z10.out; omega)
    have B6 : Hid (w6.heap[w.heap.size + 1]? = some (.cells #[.int .i64 0,.int .i64 0,.string ⟨#[]⟩,.bool false,.slice none 0 0,.slice none 0 0,.slice none 0 0,.slice none 0 0,.slice none 0 0,.int .i64 0,.int .i64 0,.int .i64 0,.int .i64 0] 94)) := keptBut g B5.out (by have := Z10.out; omega)
    have P6 : Hid (w6.heap[w1.heap.size + 1]? = some (.cells #[.int .i64 4,.int .i64 0,.string ⟨#[]⟩,.bool false,.slice (some ⟨w1.heap.size,0,none⟩) 1 1,.slice none 0 0,.slice a l.length c,.slice none 0 0,.slice none 0 0,.int .i64 0,.int .i64 0,.int .i64 0,.int .i64 0] 94)) := keptBut g P5.out (by have := Z10.out; omega)
    have G6 := hidI (gtr G5.out g)
    have C6 := hidI CC
    have S6 : Hid (w5.heap.size + 0 ≤ w6.heap.size) := hidI (by have := g.size; first | omega | (simp at this; omega) | (simp at this ⊢; omega))
    have Y6 := hidI ((Xs.g Y5.out g (fun b hb => by obtain ⟨h1,h2,h3⟩ := hb; have := Z10.out; omega)))
    clear g CC h ap aq ar af ag ah pp pq pr pf pg ph
    have TA : Hid (tk.a + 1 ≤ t6.a) := (labL_adv C3.out.G _ _ _ _ _ C3.out.ok r6).2
    obtain ⟨ap,aq,ar,af,ag,ah⟩ := facts A6.out
    go_wp2_with fail
    have C7 := hidI C6.out.drew
    have G7 := hidI (gr_drew G6.out)
    have S7 : Hid (w6.heap.size ≤ w6.drew.heap.size) := Nat.le_refl _
    have Z11 := hidI (And.intro HR.out (And.intro S1.out (And.intro S2.out (And.intro S3.out (And.intro S4.out (And.intro S5.out (And.intro S6.out S7.out)))))))
    have A7 : Hid (w6.drew.heap[w.heap.size]? = some (.cells #[pR R] 46)) := A6.out
    have B7 : Hid (w6.drew.heap[w.heap.size + 1]? = some (.cells #[.int .i64 0,.int .i64 0,.string ⟨#[]⟩,.bool false,.slice none 0 0,.slice none 0 0,.slice none 0 0,.slice none 0 0,.slice none 0 0,.int .i64 0,.int .i64 0,.int .i64 0,.int .i64 0] 94)) := B6.out
    have P7 : Hid (w6.drew.heap[w1.heap.size + 1]? = some (.cells #[.int .i64 4,.int .i64 0,.string ⟨#[]⟩,.bool false,.slice (some ⟨w1.heap.size,0,none⟩) 1 1,.slice none 0 0,.slice a l.length c,.slice none 0 0,.slice none 0 0,.int .i64 0,.int .i64 0,.int .i64 0,.int .i64 0] 94)) := P6.out
    have Y7 := hidI (Y6.out.gn (w0 := w) (gr_drew (World.grownBy.refl w6 none)))
    have U7 := hidI (Li.g U6.out (gr_drew (World.grownBy.refl w6 (some R))) (fun b hb => by obtain ⟨h1,h2⟩ := hb; have := HR.out; have := S1.out; have := S2.out; have := S3.out; have := S4.out; have := S5.out; have := S6.out; omega))
    have L7 := hidI (L6.out.gn (gr_drew (World.grownBy.refl w6 none)))
    clear ap aq ar af ag ah
    have hHeld : (fun w' : World => w'.cell? ⟨w.heap.size,0,none⟩ = some (pR R) ∧ w'.cell? ⟨w1.heap.size + 1,6,none⟩ = some (.slice a l.length c)) w6.drew := ⟨by simpa using at_cell (A7.out) 0,by simpa using at_cell (P7.out) 6⟩
    refine wp_region_L (L := 10) (S := (fun w' : World => w'.cell? ⟨w.heap.size,0,none⟩ = some (pR R) ∧ w'.cell? ⟨w1.heap.size + 1,6,none⟩ = some (.slice a l.length c))) (by kernel_rfl) ?_
    refine wpAnyL_take (i := 0) (v := ?_) rfl (by kernel_rfl) (by kernel_rfl) (by kernel_rfl) (fun _ _ _ h => h) (by kernel_rfl) (by kernel_rfl) (Or.inl ⟨by rfl,?_⟩) hHeld ?_
    rotate_left
    · intro w hSw
      try dsimp only at hSw
      go_simp
      try with_reducible rfl
    try simp only [Act.put,List.setIfInBounds_toArray,List.set_cons_zero,List.set_cons_succ]
    refine wpAnyL_take (i := 1) (v := ?_) rfl (by kernel_rfl) (by kernel_rfl) (by kernel_rfl) (fun _ _ _ h => h) (by kernel_rfl) (by kernel_rfl) (Or.inl ⟨by rfl,?_⟩) hHeld ?_
    rotate_left
    · intro w hSw
      try dsimp only at hSw
      go_simp
      try with_reducible rfl
    try simp only [Act.put,List.setIfInBounds_toArray,List.set_cons_zero,List.set_cons_succ]
    refine wpAnyL_take (i := 2) (v := ?_) rfl (by kernel_rfl) (by kernel_rfl) (by kernel_rfl) (fun _ _ _ h => h) (by kernel_rfl) (by kernel_rfl) (Or.inl ⟨by rfl,?_⟩) hHeld ?_
    rotate_left
    · intro w hSw
      try dsimp only at hSw
      go_simp
      try with_reducible rfl
    try simp only [Act.put,List.setIfInBounds_toArray,List.set_cons_zero,List.set_cons_succ]
    refine wpAnyL_take (i := 3) (v := ?_) rfl (by kernel_rfl) (by kernel_rfl) (by kernel_rfl) (fun _ _ _ h => h) (by kernel_rfl) (by kernel_rfl) (Or.inl ⟨by rfl,?_⟩) hHeld ?_
    rotate_left
    · intro w hSw
      try dsimp only at hSw
      go_simp
      try with_reducible rfl
    try simp only [Act.put,List.setIfInBounds_toArray,List.set_cons_zero,List.set_cons_succ]
    refine wpAnyL_take (i := 4) (v := ?_) rfl (by kernel_rfl) (by kernel_rfl) (by kernel_rfl) (fun _ _ _ h => h) (by kernel_rfl) (by kernel_rfl) (Or.inl ⟨by rfl,?_⟩) hHeld ?_
    rotate_left
    · intro w hSw
      try dsimp only at hSw
      go_simp
      try with_reducible rfl
    try simp only [Act.put,List.setIfInBounds_toArray,List.set_cons_zero,List.set_cons_succ]
    refine wpAnyL_one (j := 5) (by kernel_rfl) rfl (fun K hK => ?_)
    go_simp
    refine (HL.out _ _ dp HD.out C7.out).mono ?_
    intro e w8 h
    rcases h.get with ⟨bd,t8,v8,r8,rfl,hv,CC,g⟩ | ⟨cc,aa,r8,rfl,g⟩
    rotate_left
    · exact ⟨rfl,Out.bad (by rw [casP]; (first | rw [r1] | exact r1); try rw [bindOk]; (first | rw [r2] | exact r2); try rw [bindOk]; rw [← HRr.out,HF.out,casL]; (first | rw [r6] | exact r6); try rw [bindOk]; rw [← HI.out]; (first | (rw [r8]; done) | (rw [r8]; rfl) | exact r8)) (gtr G7.out g)⟩
    have L8 := hidI (L7.out.g g (by have := Z11.out; omega))
    obtain ⟨lx,lc,rfl⟩ := hv.sl
    have Q8 := hidI (hv.tag w6.heap.size (by simp))
    clear hv
    have A8 : Hid (w8.heap[w.heap.size]? = some (.cells #[pR R] 46)) := keptBut g A7.out (by have := Z11.out; omega)
    have B8 : Hid (w8.heap[w.heap.size + 1]? = some (.cells #[.int .i64 0,.int .i64 0,.string ⟨#[]⟩,.bool false,.slice none 0 0,.slice none 0 0,.slice none 0 0,.slice none 0 0,.slice none 0 0,.int .i64 0,.int .i64 0,.int .i64 0,.int .i64 0] 94)) := keptBut g B7.out (by have := Z11.out; omega)
    have P8 : Hid (w8.heap[w1.heap.size + 1]? = some (.cells #[.int .i64 4,.int .i64 0,.string ⟨#[]⟩,.bool false,.slice (some ⟨w1.heap.size,0,none⟩) 1 1,.slice none 0 0,.slice a l.length c,.slice none 0 0,.slice none 0 0,.int .i64 0,.int .i64 0,.int .i64 0,.int .i64 0] 94)) := keptBut g P7.out (by have := Z11.out; omega)
    have G8 := hidI (gtr G7.out g)
    have C8 := hidI CC
    have S8 : Hid (w6.drew.heap.size + 0 ≤ w8.heap.size) := hidI (by have := g.size; first | omega | (simp at this; omega) | (simp at this ⊢; omega))
    have Z12 := hidI (And.intro HR.out (And.intro S1.out (And.intro S2.out (And.intro S3.out (And.intro S4.out (And.intro S5.out (And.intro S6.out (And.intro S7.out S8.out))))))))
    have Y8 := hidI ((Xs.g Y7.out g (fun b hb => by obtain ⟨h1,h2,h3⟩ := hb; have := Z11.out; omega)))
    have U8 := hidI ((Li.g U7.out g (fun b hb => by obtain ⟨h1,h2⟩ := hb; have := Z11.out; omega)))
    clear g CC h
    have TB : Hid (t6.a + 0 ≤ t8.a) := (HLad.out _ _ _ C6.out.ok r8).2
    have hHeld5 : (fun w' : World => w'.cell? ⟨w.heap.size,0,none⟩ = some (pR R) ∧ w'.cell? ⟨w1.heap.size + 1,6,none⟩ = some (.slice a l.length c)) w8 := ⟨by simpa using at_cell (A8.out) 0,by simpa using at_cell (P8.out) 6⟩
    have hHeldA : ∀ ob,(fun w' : World => w'.cell? ⟨w.heap.size,0,none⟩ = some (pR R) ∧ w'.cell? ⟨w1.heap.size + 1,6,none⟩ = some (.slice a l.length c)) (w8.alloc ob) := fun ob => ⟨by simpa using at_cell (old (A8.out) ob) 0,by simpa using at_cell (old (P8.out) ob) 6⟩
    go_wp2_with fail
    refine hK.out _ _ (fun _ _ => hHeld5) ?_
    clear hK K
    try simp only [Act.put,List.setIfInBounds_toArray,List.set_cons_zero,List.set_cons_succ]
    refine wpAnyL_free (i := 6) (v := ?_) rfl (by kernel_rfl) (by kernel_rfl) (by kernel_rfl) (fun _ _ _ h => h) (by decide) (Or.inl ⟨by rfl,?_⟩) (fun _ => hHeld5) ?_
    rotate_left
    · intro w hSw
      go_simp
      try with_reducible rfl
    try simp only [Act.put,List.setIfInBounds_toArray,List.set_cons_zero,List.set_cons_succ]
    refine wpAnyL_one (j := 7) (by kernel_rfl) rfl (fun K hK => ?_)
    go_simp
    refine hK.out _ _ (fun _ _ => hHeldA _) ?_
    clear hK K
    try simp only [Act.put,List.setIfInBounds_toArray,List.set_cons_zero,List.set_cons_succ]
    obtain ⟨a2,c2,w9,hrun,L9,g6⟩ := L8.out.add el92 (e := .mk pe0 ls bd) (k := (.slice none 0 0,.slice bx ls.length bc,.slice lx bd.length lc)) (lo := w5.heap.size) (hi := w8.heap.size) ⟨⟨Xs.nil _ _,U8.out.imp (fun b hb h => ⟨h.1,hb⟩)⟩,(Li.ss (Q8.out.imp (fun b hb h => ⟨by have := h.1; have := Z12.out; omega,hb⟩)))⟩ rfl (by intro y hy; simp [kdM,mC,xC,PArm.e,pe0] at hy; rcases hy with rfl | rfl | rfl | rfl | rfl | rfl | rfl | rfl | rfl | rfl <;> rfl) (by have := Z12.out; omega) (fun g hg => (HO.out g hg).2) (by have := HLn.out; omega) (by have := Z12.out; omega)
    have ho := L8.out.lt
    have HRUN : Hid ((Builtin.append_ #[92,92] 92 #[.slice a l.length c,.slice (some ⟨w8.heap.size,0,none⟩) 1 1]).run Tryz.prog (w8.alloc (.cells #[.int .i64 0,.int .i64 0,.int .i64 0,.int .i64 0,.string ⟨#[]⟩,.string ⟨#[]⟩,.int .i64 0,.slice none 0 0,.slice bx ls.length bc,.slice lx bd.length lc] 100)) = .ok (.slice a2 (l.length + 1) c2) w9) := hrun
    have C9 := hidI ((C8.out.al _).ga g6 (fun q hq => by have := ho q hq; have := HR.out; have := S1.out; constructor <;> omega))
    have G9 := hidI (grown_join (gr_alloc G8.out _) g6 (Or.inr (fun q hq => by have := ho q hq; have := S1.out; omega)))
    have A9 := hidI (keptRow g6 (old A8.out _) (fun e => by have := ho _ e; have := S1.out; omega))
    have B9 := hidI (keptRow g6 (old B8.out _) (fun e => by have := ho _ e; have := S1.out; omega))
    have P9 := hidI (keptRow g6 (old P8.out _) (fun e => by have := ho _ e; have := S1.out; omega))
    have Y9 := hidI ((Y8.out.al _).kept (w' := w9) (fun b hb hl => g6.block b hl (fun e => by have := ho _ e.symm; obtain ⟨h1,h2,h3⟩ := hb; omega)) g6.size)
    have S9 : Hid (w8.heap.size + 1 ≤ w9.heap.size) := by have := g6.size; simp at this; exact this
    have Z13 := hidI (And.intro HR.out (And.intro S1.out (And.intro S2.out (And.intro S3.out (And.intro S4.out (And.intro S5.out (And.intro S6.out (And.intro S7.out (And.intro S8.out S9.out)))))))))
    have hHeld6 : (fun w' : World => w'.cell? ⟨w.heap.size,0,none⟩ = some (pR R) ∧ w'.cell? ⟨w1.heap.size + 1,6,none⟩ = some (.slice a l.length c)) w9 := ⟨by simpa using at_cell (A9.out) 0,by simpa using at_cell (P9.out) 6⟩
    have LL := hidI L9
    clear hrun L9 g6 ho
    refine wpAnyL_one (j := 8) (by kernel_rfl) rfl (fun K hK => ?_)
    refine step_append_run rfl _ _ 92 rfl _ _ _ w9 rfl rfl HRUN.out ?_
    refine hK.out _ _ (fun _ _ => hHeld6) ?_
    clear hK K
    try simp only [Act.put,List.setIfInBounds_toArray,List.set_cons_zero,List.set_cons_succ]
    refine wpAnyL_free (i := 9) (v := ?_) rfl (by kernel_rfl) (by kernel_rfl) (by kernel_rfl) (fun _ _ _ h => h) (by decide) (Or.inl ⟨by rfl,?_⟩) (fun _ => hHeld6) ?_
    rotate_left
    · intro w hSw
      go_simp
      try with_reducible rfl
    try simp only [Act.put,List.setIfInBounds_toArray,List.set_cons_zero,List.set_cons_succ]
    refine wpAnyL_one (j := 10) (by kernel_rfl) rfl (fun K hK => ?_)
    obtain ⟨sp,sq,sr,sf,sg,sh⟩ := facts P9.out
    go_simp
    refine hK.out _ _ (fun h => absurd rfl h) ?_
    clear hK K
    try simp only [Act.put,List.setIfInBounds_toArray,List.set_cons_zero,List.set_cons_succ]
    refine wpAnyL_done (by kernel_rfl) ?_ _
    obtain ⟨ap,aq,ar,af,ag,ah⟩ := facts A9.out
    obtain ⟨bp,bq,br,bf,bg,bh⟩ := facts B9.out
    obtain ⟨pp,pq,pr,pf,pg,ph⟩ := facts P9.out
    go_wp2_with fail
    have hgl := HG.out
    have hkk := HK.out
    have q1 := TA.out
    have q2 := TB.out
    have qs := HF.out
    go_roundg (s.size + 3 - (l.length + 1))
    case measure => omega
    case rel =>
     refine ⟨l ++ [.mk pe0 ls bd],a2,c2,t8,by simp,(C9.out.set (by have := Z13.out; omega) (by have := Z13.out; omega) _ _),(gr_ow2 G9.out (by have := Z13.out; omega) _ _),(keepS A9.out (by have := Z13.out; omega)),(keepS B9.out (by have := Z13.out; omega)),(by simpa using (at_set P9.out 6 (.slice a2 (l.length + 1) c2))),(Xs.g Y9.out (gr_set (World.grownBy.refl _ _) _ _) (fun b hb => by obtain ⟨h1,h2,h3⟩ := hb; have := Z13.out; omega)),(Gl.g LL.out (gr_set (World.grownBy.refl _ _) _ _) (by have := Z13.out; omega)),by simp; have := Z13.out; omega,by simp; omega,(fun h => absurd h (by simp)),fun _ => ?_⟩
     rw [show s.size + 2 - (l ++ [(.mk pe0 ls bd : PArm)]).length = s.size + 1 - l.length by simp]
     symm; rw [← HRr.out,HF.out,casL]; (first | rw [r6] | exact r6); try rw [bindOk]; rw [← HI.out]; (first | rw [r8] | exact r8); try rw [bindOk]
  have hr := HRb.out
  rw [if_neg (by rw [hm]; simp [h4])] at hr
  have HRr := hidI hr
  clear hr
  have M5 := hidI (L5.out.li (by have := HLn.out; omega))
  go_wp2_with fail
  refine (needW C5.out _ [⟨#[101,108,115,101]⟩,⟨#[101,110,100,95,99,97,115,101]⟩] _ _ _ (by simp) rfl rfl (by decide)).mono ?_
  intro e w6 h
  rcases h.get with ⟨k,t6,v6,r6,rfl,rfl,CC,g⟩ | ⟨cc,aa,r6,rfl,g⟩
  rotate_left
  · exact ⟨rfl,Out.bad (by rw [casP]; (first | rw [r1] | exact r1); try rw [bindOk]; (first | rw [r2] | exact r2); try rw [bindOk]; rw [← HRr.out]; rw [bindOk]; (first | (rw [r6]; done) | (rw [r6]; rfl) | exact r6)) (gtr (gr_alloc G5.out _) g)⟩
  have A6 : Hid (w6.heap[w.heap.size]? = some (.cells #[pR R] 46)) := keptBut g (old A5.out _) (by have := Z10.out; omega)
  have B6 : Hid (w6.heap[w.heap.size + 1]? = some (.cells #[.int .i64 0,.int .i64 0,.string ⟨#[]⟩,.bool false,.slice none 0 0,.slice none 0 0,.slice none 0 0,.slice none 0 0,.slice none 0 0,.int .i64 0,.int .i64 0,.int .i64 0,.int .i64 0] 94)) := keptBut g (old B5.out _) (by have := Z10.out; omega)
  have P6 : Hid (w6.heap[w1.heap.size + 1]? = some (.cells #[.int .i64 4,.int .i64 0,.string ⟨#[]⟩,.bool false,.slice (some ⟨w1.heap.size,0,none⟩) 1 1,.slice none 0 0,.slice a l.length c,.slice none 0 0,.slice none 0 0,.int .i64 0,.int .i64 0,.int .i64 0,.int .i64 0] 94)) := keptBut g (old P5.out _) (by have := Z10.out; omega)
  have G6 := hidI (gtr (gr_alloc G5.out _) g)
  have C6 := hidI CC
  have S6 : Hid (w5.heap.size + 1 ≤ w6.heap.size) := hidI (by have := g.size; first | omega | (simp at this; omega) | (simp at this ⊢; omega))
  have Z14 := hidI (And.intro HR.out (And.intro S1.out (And.intro S2.out (And.intro S3.out (And.intro S4.out (And.intro S5.out S6.out))))))
  have Y6 := hidI ((Xs.g (Xs.al Y5.out _) g (fun b hb => by obtain ⟨h1,h2,h3⟩ := hb; have := Z10.out; omega)))
  have M6 := hidI ((Li.g (Li.al M5.out _) g (fun b (hb : _ ≤ b) => by have := Z10.out; omega)))
  clear g CC h ap aq ar af ag ah pp pq pr pf pg ph
  have hX := fldX k
  obtain ⟨ap,aq,ar,af,ag,ah⟩ := facts A6.out
  obtain ⟨bp,bq,br,bf,bg,bh⟩ := facts B6.out
  obtain ⟨pp,pq,pr,pf,pg,ph⟩ := facts P6.out
  have nBP : w.heap.size + 1 ≠ w1.heap.size + 1 := by have := Z14.out; omega
  have nPB : w1.heap.size + 1 ≠ w.heap.size + 1 := by have := Z14.out; omega
  have nAP : w.heap.size ≠ w1.heap.size + 1 := by have := Z14.out; omega
  have nPA : w1.heap.size + 1 ≠ w.heap.size := by have := Z14.out; omega
  have nAB : w.heap.size ≠ w.heap.size + 1 := by have := Z14.out; omega
  have nBA : w.heap.size + 1 ≠ w.heap.size := by have := Z14.out; omega
  by_cases hl : k.x = ⟨#[101,108,115,101]⟩
  · have hl' : (k.x.toList == [101,108,115,101]) = true := by rw [eqS]; simpa using hl
    have HLs := hidI hl
    clear hl
    go_wp2_with fail
    refine (HL.out _ _ dp HD.out C6.out).mono ?_
    intro e w7 h
    rcases h.get with ⟨bd,t7,v7,r7,rfl,hv,CC,g⟩ | ⟨cc,aa,r7,rfl,g⟩
    rotate_left
    · exact ⟨rfl,Out.bad (by rw [casP]; (first | rw [r1] | exact r1); try rw [bindOk]; (first | rw [r2] | exact r2); try rw [bindOk]; rw [← HRr.out]; rw [bindOk]; (first | rw [r6] | exact r6); try rw [bindOk]; rw [if_pos HLs.out,← HI.out]; (first | (rw [r7]; done) | (rw [r7]; rfl) | exact r7)) (gtr G6.out g)⟩
    obtain ⟨lx,lc,rfl⟩ := hv.sl
    have Q7 := hidI (hv.tag w6.heap.size (by simp))
    clear hv
    have A7 : Hid (w7.heap[w.heap.size]? = some (.cells #[pR R] 46)) := keptBut g A6.out (by have := Z14.out; omega)
    have B7 : Hid (w7.heap[w.heap.size + 1]? = some (.cells #[.int .i64 0,.int .i64 0,.string ⟨#[]⟩,.bool false,.slice none 0 0,.slice none 0 0,.slice none 0 0,.slice none 0 0,.slice none 0 0,.int .i64 0,.int .i64 0,.int .i64 0,.int .i64 0] 94)) := keptBut g B6.out (by have := Z14.out; omega)
    have P7 : Hid (w7.heap[w1.heap.size + 1]? = some (.cells #[.int .i64 4,.int .i64 0,.string ⟨#[]⟩,.bool false,.slice (some ⟨w1.heap.size,0,none⟩) 1 1,.slice none 0 0,.slice a l.length c,.slice none 0 0,.slice none 0 0,.int .i64 0,.int .i64 0,.int .i64 0,.int .i64 0] 94)) := keptBut g P6.out (by have := Z14.out; omega)
    have G7 := hidI (gtr G6.out g)
    have C7 := hidI CC
    have S7 : Hid (w6.heap.size + 0 ≤ w7.heap.size) := hidI (by have := g.size; first | omega | (simp at this; omega) | (simp at this ⊢; omega))
    have Z15 := hidI (And.intro HR.out (And.intro S1.out (And.intro S2.out (And.intro S3.out (And.intro S4.out (And.intro S5.out (And.intro S6.out S7.out)))))))
    have Y7 := hidI ((Xs.g Y6.out g (fun b hb => by obtain ⟨h1,h2,h3⟩ := hb; have := Z14.out; omega)))
    have M7 := hidI ((Li.g M6.out g (fun b (hb : _ ≤ b) => by have := Z14.out; omega)))
    clear g CC h ap aq ar af ag ah bp bq br bf bg bh pp pq pr pf pg ph
    obtain ⟨ap,aq,ar,af,ag,ah⟩ := facts A7.out
    obtain ⟨bp,bq,br,bf,bg,bh⟩ := facts B7.out
    obtain ⟨pp,pq,pr,pf,pg,ph⟩ := facts P7.out
    go_wp2_with fail
    refine (needW (C7.out.set (by have := Z15.out; omega) (by have := Z15.out; omega) _ _) _ [⟨#[101,110,100,95,99,97,115,101]⟩] _ _ _ (by simp) rfl rfl (by decide)).mono ?_
    intro e w8 h
    rcases h.get with ⟨_,t8,v8,r8,rfl,rfl,CC,g⟩ | ⟨cc,aa,r8,rfl,g⟩
    rotate_left
    · exact ⟨rfl,Out.bad (by rw [casP]; (first | rw [r1] | exact r1); try rw [bindOk]; (first | rw [r2] | exact r2); try rw [bindOk]; rw [← HRr.out]; rw [bindOk]; (first | rw [r6] | exact r6); try rw [bindOk]; rw [if_pos HLs.out,← HI.out]; (first | rw [r7] | exact r7); try rw [bindOk]; (first | (rw [r8]; done) | (rw [r8]; rfl) | exact r8)) (gtr (gr_alloc (gr_ow2 G7.out (by have := Z15.out; omega) _ _) _) g)⟩
    have A8 : Hid (w8.heap[w.heap.size]? = some (.cells #[pR R] 46)) := keptBut g (old (keepS A7.out (by have := Z15.out; omega)) _) (by have := Z15.out; omega)
    have B8 : Hid (w8.heap[w.heap.size + 1]? = some (.cells #[.int .i64 0,.int .i64 0,.string ⟨#[]⟩,.bool false,.slice none 0 0,.slice none 0 0,.slice none 0 0,.slice none 0 0,.slice none 0 0,.int .i64 0,.int .i64 0,.int .i64 0,.int .i64 0] 94)) := keptBut g (old (keepS B7.out (by have := Z15.out; omega)) _) (by have := Z15.out; omega)
    have P8 : Hid (w8.heap[w1.heap.size + 1]? = some (.cells #[.int .i64 4,.int .i64 0,.string ⟨#[]⟩,.bool false,.slice (some ⟨w1.heap.size,0,none⟩) 1 1,.slice none 0 0,.slice a l.length c,.slice lx bd.length lc,.slice none 0 0,.int .i64 0,.int .i64 0,.int .i64 0,.int .i64 0] 94)) := keptBut g (by simpa using (old (at_set P7.out 7 (.slice lx bd.length lc)) _)) (by have := Z15.out; omega)
    have G8 := hidI (gtr (gr_alloc (gr_ow2 G7.out (by have := Z15.out; omega) _ _) _) g)
    have C8 := hidI CC
    have S8 : Hid (w7.heap.size + 1 ≤ w8.heap.size) := hidI (by have := g.size; first | omega | (simp at this; omega) | (simp at this ⊢; omega))
    have Z16 := hidI (And.intro HR.out (And.intro S1.out (And.intro S2.out (And.intro S3.out (And.intro S4.out (And.intro S5.out (And.intro S6.out (And.intro S7.out S8.out))))))))
    have Y8 := hidI ((Xs.g (Xs.al (Xs.g Y7.out (gr_set (World.grownBy.refl _ _) _ _) (fun b hb => by obtain ⟨h1,h2,h3⟩ := hb; have := Z15.out; omega)) _) g (fun b hb => by obtain ⟨h1,h2,h3⟩ := hb; have := Z15.out; omega)))
    have M8 := hidI ((Li.g (Li.al (Li.g M7.out (gr_set (World.grownBy.refl _ _) _ _) (fun b (hb : _ ≤ b) => by have := Z15.out; omega)) _) g (fun b (hb : _ ≤ b) => by have := Z15.out; omega)))
    have Q8 := hidI ((Li.g (Li.al (Li.g Q7.out (gr_set (World.grownBy.refl _ _) _ _) (fun b hb => by obtain ⟨h1,h2⟩ := hb; have := Z15.out; omega)) _) g (fun b hb => by obtain ⟨h1,h2⟩ := hb; have := Z15.out; omega)))
    clear g CC h ap aq ar af ag ah bp bq br bf bg bh pp pq pr pf pg ph
    obtain ⟨ap,aq,ar,af,ag,ah⟩ := facts A8.out
    obtain ⟨bp,bq,br,bf,bg,bh⟩ := facts B8.out
    obtain ⟨pp,pq,pr,pf,pg,ph⟩ := facts P8.out
    go_wp2_with fail
    have hP : casP F (s.size + 2) (exP F (s.size + 2) d) li t = .ok (.mk 4 0 nob false [.mk f1 o1 kd1 n1 nm1 pt1 a1 ks1] [] l bd [] 0 0 0 0) (t8) := by rw [casP]; (first | rw [r1] | exact r1); try rw [bindOk]; (first | rw [r2] | exact r2); try rw [bindOk]; rw [← HRr.out]; rw [bindOk]; (first | rw [r6] | exact r6); try rw [bindOk]; rw [if_pos HLs.out,← HI.out]; (first | rw [r7] | exact r7); try rw [bindOk]; (first | rw [r8] | exact r8); try rw [bindOk]
    refine bodyPost_ret (resBox rfl _ _ (w.heap.size + 1) _ rfl (ld94 (box13 B8.out))) rfl (Out.ok hP ?_ ?_ ?_)
    · exact ⟨⟨.slice (some ⟨w1.heap.size,0,none⟩) 1 1,_,.slice a l.length c,.slice lx bd.length lc,_⟩,rfl,⟨(Xs.imp2 (Xs.g Y8.out (gr13 (World.grownBy.refl _ _)) (fun b hb => by obtain ⟨h1,h2,h3⟩ := hb; have := Z16.out; omega)) (fun b _ hb => (by obtain ⟨h1,h2,h3⟩ := hb; have := Z16.out; omega : w.heap.size ≤ b))),Li.nil _ _⟩,Li.ms (Li.imp2 (Li.g M8.out (gr13 (World.grownBy.refl _ _)) (fun b (hb : _ ≤ b) => by have := Z16.out; omega)) (fun b _ (hb : _ ≤ b) => (by have := Z16.out; omega : w.heap.size ≤ b))),Li.ss (Li.imp2 (Li.g Q8.out (gr13 (World.grownBy.refl _ _)) (fun b hb => by obtain ⟨h1,h2⟩ := hb; have := Z16.out; omega)) (fun b _ hb => (by obtain ⟨h1,h2⟩ := hb; have := Z16.out; omega : w.heap.size ≤ b))),ss0 _ _⟩
    · exact C8.out.gq (gr13 (World.grownBy.refl _ _)) (by have := Z16.out; omega) (by have := Z16.out; omega)
    · exact gr13o G8.out (by have := Z16.out; omega)
  · have hl' : (k.x.toList == [101,108,115,101]) = false := by rw [eqS]; simpa using hl
    go_wp2_with fail
    have hP : casP F (s.size + 2) (exP F (s.size + 2) d) li t = .ok (.mk 4 0 nob false [.mk f1 o1 kd1 n1 nm1 pt1 a1 ks1] [] l [] [] 0 0 0 0) (t6) := by rw [casP]; (first | rw [r1] | exact r1); try rw [bindOk]; (first | rw [r2] | exact r2); try rw [bindOk]; rw [← HRr.out]; rw [bindOk]; (first | rw [r6] | exact r6); try rw [bindOk]; rw [if_neg hl]
    refine bodyPost_ret (resBox rfl _ _ (w.heap.size + 1) _ rfl (ld94 (box13 B6.out))) rfl (Out.ok hP ?_ ?_ ?_)
    · exact ⟨⟨.slice (some ⟨w1.heap.size,0,none⟩) 1 1,_,.slice a l.length c,_,_⟩,rfl,⟨(Xs.imp2 (Xs.g Y6.out (gr13 (World.grownBy.refl _ _)) (fun b hb => by obtain ⟨h1,h2,h3⟩ := hb; have := Z14.out; omega)) (fun b _ hb => (by obtain ⟨h1,h2,h3⟩ := hb; have := Z14.out; omega : w.heap.size ≤ b))),Li.nil _ _⟩,Li.ms (Li.imp2 (Li.g M6.out (gr13 (World.grownBy.refl _ _)) (fun b (hb : _ ≤ b) => by have := Z14.out; omega)) (fun b _ (hb : _ ≤ b) => (by have := Z14.out; omega : w.heap.size ≤ b))),ss0 _ _,ss0 _ _⟩
    · exact C6.out.gq (gr13 (World.grownBy.refl _ _)) (by have := Z14.out; omega) (by have := Z14.out; omega)
    · exact gr13o G6.out (by have := Z14.out; omega)
end
end Go.Proofs.YtdcoidmbainkmaaGreatDoor

namespace Go.Proofs.YtdcoidmbainkmaaGreatDoor
open Go.RowKit
attribute [local go_sem ↓] Go.wp_at_zero Go.wp_at_succ
set_option linter.unusedVariables false
set_option linter.unusedSimpArgs false
section
variable {V : World} {F : Int → Tok} {R : Nat} {s : ByteArray} {u : Int}
set_option maxHeartbeats 1000000 in
theorem begS_bad {w : World} {t : Tok} (C : Cx V F R s u w t) (h0 : t.c = 0) : Calls Tryz.prog 70 #[rV R] w fun e w' => e = flt t.f u t.a ∧ w.grownBy w' none := by
 have HC : Hid (Cx V F R s u w t) := C
 clear C
 have c4 := class_bad R s t u 2 _ (HC.out.al (rO R)).rd h0
 go_enter Tryz.func70,Tryz.ntmps70
 go_wp2_with fail
 refine c4.mono ?_
 rintro e w1 ⟨rfl,g1⟩
 exact ⟨rfl,rfl,gtn (gr1 w _) g1⟩
set_option maxHeartbeats 1000000 in
theorem begS_look {w : World} {t : Tok} (C : Cx V F R s u w t) (h0 : t.c ≠ 0) : Calls Tryz.prog 70 #[rV R] w fun e w' => e = .returned (.bool (begS t)) ∧ w.grownBy w' none := by
 have HC : Hid (Cx V F R s u w t) := C
 clear C
 have nR : w.heap.size ≠ R := by have := HC.out.lt; omega
 have c4 := cls_look (HC.out.al (rO R)) h0 2
 go_enter Tryz.func70,Tryz.ntmps70
 go_wp2_with fail
 refine c4.mono ?_
 rintro e w1 ⟨rfl,g1⟩
 obtain ⟨x0,x1,x2,_,_,_⟩ := facts (kept g1 (new w (rO R)))
 have X1 := hidI (kept g1 (new w (rO R)))
 have G1 := gtn (gr1 w _) g1
 clear g1
 cases h4 : decide (t.c = 2)
 rotate_left
 · go_wp2_with fail
   go_ret
   exact ⟨ret_bool (by simp [begS,h4]),G1⟩
 go_wp2_with fail
 refine (is_look (HC.out.gn G1) h0 _ [⟨#[105,102]⟩,⟨#[99,97,115,101]⟩,⟨#[102,111,114]⟩,⟨#[119,104,105,108,101]⟩,⟨#[114,101,112,101,97,116]⟩,⟨#[101,120,105,116]⟩,⟨#[99,111,110,116,105,110,117,101]⟩,⟨#[114,101,116,117,114,110]⟩] _ _ _ (by simp) rfl rfl (by decide)).mono ?_
 rintro e w3 ⟨rfl,g3⟩
 have G3 := gtn (gr_alloc G1 _) g3
 clear G1 g3
 cases hm : mem [⟨#[105,102]⟩,⟨#[99,97,115,101]⟩,⟨#[102,111,114]⟩,⟨#[119,104,105,108,101]⟩,⟨#[114,101,112,101,97,116]⟩,⟨#[101,120,105,116]⟩,⟨#[99,111,110,116,105,110,117,101]⟩,⟨#[114,101,116,117,114,110]⟩] t
 all_goals go_wp2_with fail
 all_goals go_ret
 all_goals exact ⟨ret_bool (by simp [begS,h4,hm]),G3⟩
theorem Sm.slS {w : World} {ok : Nat → Prop} {v : Value} {l : List PS} (h : Sm w ok v (.inl l)) : ∃ a c,v = .slice a l.length c := by
 cases h with
 | stmts v l qs hl hr => obtain ⟨a,c,hv,_⟩ := hr; exact ⟨a,c,hv⟩
theorem Sm.slM {w : World} {ok : Nat → Prop} {v : Value} {l : List PArm} (h : Sm w ok v (.inr l)) : ∃ a c,v = .slice a l.length c := by
 cases h; rename_i hr; first | (obtain ⟨a,c,hv,_⟩ := hr; exact ⟨a,c,hv⟩) | (rename Row _ _ _ _ _ _ => hq; obtain ⟨a,c,hv,_⟩ := hq; exact ⟨a,c,hv⟩)
theorem sS_sl {w : World} {ok : Nat → Prop} {p : PS} {q : Sq} (h : sS w ok p q) : ∃ a1 c1 a2 c2 a3 c3 a4 c4 a5 c5,q = ⟨.slice a1 p.es.length c1,.slice a2 p.args.length c2,.slice a3 p.arms.length c3,.slice a4 p.els.length c4,.slice a5 p.body.length c5⟩ := by
 obtain ⟨q1,q2,q3,q4,q5⟩ := q
 obtain ⟨⟨h1,h2⟩,h3,h4,h5⟩ := h
 obtain ⟨a1,c1,e1⟩ := h1.sl
 obtain ⟨a2,c2,e2⟩ := h2.sl
 obtain ⟨a3,c3,e3⟩ := h3.slM
 obtain ⟨a4,c4,e4⟩ := h4.slS
 obtain ⟨a5,c5,e5⟩ := h5.slS
 exact ⟨a1,c1,a2,c2,a3,c3,a4,c4,a5,c5,by rw [Sq.mk.injEq]; exact ⟨e1,e2,e3,e4,e5⟩⟩
theorem tookY {w : World} {t : Tok} (C : Cx V F R s u w t) (b : Nat) (ws : List ByteArray) (cs : Array Value) (n c : Nat) (hb : b = w.heap.size) (hcs : cs = (ws.map Value.string).toArray) (hn : n = ws.length) (hl : ws.length ≤ 100) (h0 : t.c ≠ 0) (hm : mem ws t = true) :
 Calls Tryz.prog 109 #[pR R,.slice (some ⟨b,0,none⟩) n c] (w.alloc (.cells cs 9)) (Out V F R s u (w.alloc (.cells cs 9)) (.ok true (F t.e)) (isV .bool)) := by
 have h := tookW C b ws cs n c hb hcs hn hl
 rwa [tookP,if_neg h0,if_pos hm] at h
theorem tookN {w : World} {t : Tok} (C : Cx V F R s u w t) (b : Nat) (ws : List ByteArray) (cs : Array Value) (n c : Nat) (hb : b = w.heap.size) (hcs : cs = (ws.map Value.string).toArray) (hn : n = ws.length) (hl : ws.length ≤ 100) (h0 : t.c ≠ 0) (hm : ¬ mem ws t = true) :
 Calls Tryz.prog 109 #[pR R,.slice (some ⟨b,0,none⟩) n c] (w.alloc (.cells cs 9)) (Out V F R s u (w.alloc (.cells cs 9)) (.ok false t) (isV .bool)) := by
 have h := tookW C b ws cs n c hb hcs hn hl
 rwa [tookP,if_neg h0,if_neg hm] at h
end
end Go.Proofs.YtdcoidmbainkmaaGreatDoor
