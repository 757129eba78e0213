/- Texts put together: R8. -/
import Derived.Test.YtdcoidmbainkmaaGreatDoorQ05
import Derived.Test.YtdcoidmbainkmaaGreatDoorQ06
namespace Go.Proofs.YtdcoidmbainkmaaGreatDoor
open Go.RowKit
attribute [local go_sem ↓] Go.wp_at_zero Go.wp_at_succ
set_option linter.unusedVariables false
set_option linter.unusedSimpArgs false
def XeP (w : World) : World → Value → PE → Prop := fun w' v e => Xe w' (nw w) v e
section
variable {V : World} {F : Int → Tok} {R : Nat} {s : ByteArray} {u : Int}
def UnC (V : World) (F : Int → Tok) (R : Nat) (s : ByteArray) (u : Int) (d : Nat) : Prop := ∀ (w : World) (t : Tok) (dp : Int),dp = 41 - d → Cx V F R s u w t → Calls Tryz.prog 207 #[rV R,.int .i64 dp] w (Out V F R s u w (unP F (s.size + 2) d t) (XeP w))
def BiC (V : World) (F : Int → Tok) (R : Nat) (s : ByteArray) (u : Int) (d j : Nat) : Prop := ∀ (w : World) (t : Tok) (lv dp : Int),lv = 8 - j → dp = 41 - d → Cx V F R s u w t → Calls Tryz.prog 185 #[rV R,.int .i64 lv,.int .i64 dp] w (Out V F R s u w (binP F (s.size + 2) (unP F (s.size + 2) d) j t) (XeP w))
set_option maxHeartbeats 2000000 in
theorem bin_zero (d : Nat) (hd : d ≤ 40) (hU : UnC V F R s u d) : BiC V F R s u d 0 := by
 intro w t lv dp hlv hdp C
 have hl : lv = 8 := by simpa using hlv
 subst hl
 have HU : Hid (UnC V F R s u d) := hU
 have HD : Hid (dp = 41 - (d : Int)) := hdp
 clear hU hdp hlv
 have HC : Hid (Cx V F R s u w t) := C
 have C0 := HC
 have G0 : Hid (w.grownBy w (some R)) := World.grownBy.refl _ _
 have HR : Hid (R < w.heap.size ∧ 15 ≤ w.heap.size ∧ 15 ≤ R) := ⟨C.lt,C.sz,C.r15⟩
 clear C
 go_enter Tryz.func185,Tryz.ntmps185
 go_wp2_with fail
 refine (HU.out _ _ dp HD.out ((C0.out.al _).al _)).mono ?_
 intro e w1 h
 rcases h.get with ⟨e1,t1,v1,r1,rfl,hv,CC,g⟩ | ⟨cc,aa,r1,rfl,g⟩
 rotate_left
 · exact ⟨rfl,Out.bad (by rw [binP]; rw [r1]; try rfl) (gtr (gr_alloc (gr_alloc G0.out _) _) g)⟩
 have A1 : Hid (w1.heap[w.heap.size]? = some (.cells #[pR R] 46)) := keptBut g (old (hp_new (by simp) _) _) (by have := HR.out; omega)
 have B1 : Hid (w1.heap[w.heap.size + 1]? = some (.cells #[.int .i64 0,.int .i64 0,.int .i64 0,.int .i64 0,.string ⟨#[]⟩,.string ⟨#[]⟩,.int .i64 0,.slice none 0 0] 61)) := keptBut g (hp_new (by simp) _) (by have := HR.out; omega)
 have G1 := hidI (gtr (gr_alloc (gr_alloc G0.out _) _) g)
 have C1 := hidI CC
 have S1 : Hid (w.heap.size + 2 ≤ w1.heap.size) := hidI (by have := g.size; (try simp at this); omega)
 have Zq1 := hidI (And.intro HR.out S1.out)
 clear g CC h
 rcases e1 with ⟨f1,o1,kd1,n1,nm1,pt1,a1,ks1⟩
 obtain ⟨kx,kc,rfl,hx⟩ := Xe_sl hv
 have X1 := hidI (hx.tag (w.heap.size + 2) (by simp))
 clear hx hv
 obtain ⟨ap,aq,ar,af,ag,ah⟩ := facts A1.out
 obtain ⟨bp,bq,br,bf,bg,bh⟩ := facts B1.out
 go_wp2_with fail
 have hP : binP F (s.size + 2) (unP F (s.size + 2) d) 0 t = .ok (.mk f1 o1 kd1 n1 nm1 pt1 a1 ks1) (t1) := by rw [binP]; rw [r1]; try dsimp only [Res.bind]
 refine bodyPost_ret (resBox rfl _ _ (w.heap.size + 1) _ rfl (ld61 (box8 B1.out))) rfl (Out.ok hP ?_ ?_ ?_)
 · exact Xe_mk.2 ⟨_,rfl,X1.out.fin (gr8 (World.grownBy.refl _ _)) (by have := Zq1.out; omega) (by have := Zq1.out; omega)⟩
 · exact C1.out.gq (gr8 (World.grownBy.refl _ _)) (by have := Zq1.out; omega) (by have := Zq1.out; omega)
 · exact gr8o G1.out (by have := Zq1.out; omega)
theorem hdw {W : World} {q : Nat} {o : Obj} (h : W.heap[q]? = some o) : W.drew.heap[q]? = some o := h
theorem hds {W : World} {n : Nat} (h : n < W.heap.size) : n < W.drew.heap.size := h
def BiL (V : World) (F : Int → Tok) (R : Nat) (s : ByteArray) (u : Int) (w : World) (qE : Nat) (sub : Tok → Res PE) (lv : Int) (r0 : Res PE) (gk : Nat) (wx : World) : Prop :=
 ∃ (k : Nat) (f o kd n : Int) (nm pt : ByteArray) (a : Int) (ks : List PE) (kx : Option Addr) (kc : Nat) (tk : Tok),gk = s.size + 2 - k ∧ (k : Int) ≤ tk.a ∧ Cx V F R s u wx tk ∧ w.grownBy wx (some R) ∧
  wx.heap[w.heap.size]? = some (.cells #[pR R] 46) ∧ wx.heap[w.heap.size + 1]? = some (.cells #[.int .i64 0,.int .i64 0,.int .i64 0,.int .i64 0,.string ⟨#[]⟩,.string ⟨#[]⟩,.int .i64 0,.slice none 0 0] 61) ∧ wx.heap[qE]? = some (.cells #[.int .i64 f,.int .i64 o,.int .i64 kd,.int .i64 n,.string nm,.string pt,.int .i64 a,.slice kx ks.length kc] 61) ∧
  Xs wx (av w.heap.size (w.heap.size + 1) qE) (.slice kx ks.length kc) ks ∧ qE < wx.heap.size ∧ binL F sub lv (s.size + 2 - k) (.mk f o kd n nm pt a ks) tk = r0
set_option maxRecDepth 10000 in
set_option maxHeartbeats 4000000 in
theorem bin_succ (d j : Nat) (hd : d ≤ 40) (hj : j < 7) (hU : UnC V F R s u d) (hB : BiC V F R s u d j) : BiC V F R s u d (j + 1) := by
 intro w t lv dp hlv hdp C
 have l1 : 1 ≤ lv := by omega
 have l7 : lv ≤ 7 := by omega
 have HB : Hid (BiC V F R s u d j) := hB
 have HL : Hid (lv = 8 - ((j + 1 : Nat) : Int)) := hlv
 have HD : Hid (dp = 41 - (d : Int)) := hdp
 have hadv : Adv s.size 1 (binP F (s.size + 2) (unP F (s.size + 2) d) j) := binP_adv C.G _ (un_adv C.G _ _) j
 have HAdv := hidI hadv
 clear hU hdp hlv hB hadv
 have HC : Hid (Cx V F R s u w t) := C
 have C0 := HC
 have G0 : Hid (w.grownBy w (some R)) := World.grownBy.refl _ _
 have HR : Hid (R < w.heap.size ∧ 15 ≤ w.heap.size ∧ 15 ≤ R) := ⟨C.lt,C.sz,C.r15⟩
 clear C
 go_enter Tryz.func185,Tryz.ntmps185
 go_wp2_with fail
 refine (HB.out _ _ (lv + 1) dp (by have := HL.out; omega) HD.out ((C0.out.al _).al _)).mono ?_
 intro e w1 h
 rcases h.get with ⟨e1,t1,v1,r1,rfl,hv,CC,g⟩ | ⟨cc,aa,r1,rfl,g⟩
 rotate_left
 · exact ⟨rfl,Out.bad (by rw [binP]; rw [r1]; try rfl) (gtr (gr_alloc (gr_alloc G0.out _) _) g)⟩
 have A1 : Hid (w1.heap[w.heap.size]? = some (.cells #[pR R] 46)) := keptBut g (old (hp_new (by simp) _) _) (by have := HR.out; omega)
 have B1 : Hid (w1.heap[w.heap.size + 1]? = some (.cells #[.int .i64 0,.int .i64 0,.int .i64 0,.int .i64 0,.string ⟨#[]⟩,.string ⟨#[]⟩,.int .i64 0,.slice none 0 0] 61)) := keptBut g (hp_new (by simp) _) (by have := HR.out; omega)
 have G1 := hidI (gtr (gr_alloc (gr_alloc G0.out _) _) g)
 have C1 := hidI CC
 have S1 : Hid (w.heap.size + 2 ≤ w1.heap.size) := hidI (by have := g.size; (try simp at this); omega)
 clear g CC h
 rcases e1 with ⟨f1,o1,kd1,n1,nm1,pt1,a1,ks1⟩
 obtain ⟨kx1,kc1,rfl,hx⟩ := Xe_sl hv
 have X1 := hidI (hx.tag (w.heap.size + 2) (by simp))
 clear hx hv
 obtain ⟨sub,hsub⟩ : ∃ p,binP F (s.size + 2) (unP F (s.size + 2) d) j = p := ⟨_,rfl⟩
 have HT : Hid (binP F (s.size + 2) (unP F (s.size + 2) d) (j + 1) t = binL F sub lv (s.size + 2) (.mk f1 o1 kd1 n1 nm1 pt1 a1 ks1) t1) := by
  show binP F (s.size + 2) (unP F (s.size + 2) d) (j + 1) t = _
  rw [binP,r1]; simp only [Res.bind]; rw [hsub,show (7 - (j : Int)) = lv by have := HL.out; omega]
 have HS : Hid (binP F (s.size + 2) (unP F (s.size + 2) d) j = sub) := hsub
 have HTA : Hid (t.a + 1 ≤ t1.a) := (HAdv.out _ _ _ HC.out.ok r1).2
 have H0 : Hid (0 ≤ t.a) := HC.out.ok.1
 rw [hsub] at r1
 clear hsub
 have LS : BiL V F R s u w w1.heap.size sub lv (binP F (s.size + 2) (unP F (s.size + 2) d) (j + 1) t) (s.size + 2) (w1.alloc (.cells #[.int .i64 f1,.int .i64 o1,.int .i64 kd1,.int .i64 n1,.string nm1,.string pt1,.int .i64 a1,.slice kx1 ks1.length kc1] 61)) :=
  ⟨0,f1,o1,kd1,n1,nm1,pt1,a1,ks1,_,_,t1,rfl,by have := HTA.out; have := H0.out; omega,(C1.out.al _),(gr_alloc G1.out _),(old A1.out _),(old B1.out _),new _ _,(X1.out.al _).imp (fun b hb h => (by obtain ⟨h1,h2⟩ := h; refine ⟨?_,?_,?_⟩ <;> omega)),by simp,HT.out.symm⟩
 have LS := hidI LS
 go_wp2_with fail
 go_loopg [8] (s.size + 2) (fun gk s8 wx => BiL V F R s u w w1.heap.size sub lv (binP F (s.size + 2) (unP F (s.size + 2) d) (j + 1) t) gk wx)
 case atStart => exact LS.out
 case round =>
  obtain ⟨k,f,o,kd,n,nm,pt,a,ks,kx,kc,tk,hgk,hk,CC,gg,hA,hB,hE,hX,hq,hr⟩ := hrel
  have C2 := hidI CC
  have G2 := hidI gg
  have A2 := hidI hA
  have B2 := hidI hB
  have E2 := hidI hE
  have X2 := hidI hX
  have S2 := hidI hq
  have Zq2 := hidI (And.intro HR.out (And.intro S1.out S2.out))
  have HRr := hidI hr
  have HG := hidI hgk
  have HK := hidI hk
  have hf : s.size + 2 - k = (s.size + 1 - k) + 1 := by have := CC.ok.2.1; omega
  have HF := hidI hf
  clear CC gg hA hB hE hX hq hr hgk hk hf
  by_cases h0 : tk.c = 0
  · obtain ⟨ap,aq,ar,af,ag,ah⟩ := facts A2.out
    go_wp2_with fail
    refine (class_bad R s tk u _ _ C2.out.rd h0).mono ?_
    rintro e w3 ⟨rfl,g0⟩
    exact ⟨rfl,Out.bad (by rw [← HRr.out,HF.out,binL]; rw [if_pos h0]) (gtn G2.out g0)⟩
  obtain ⟨ap,aq,ar,af,ag,ah⟩ := facts A2.out
  go_wp2_with fail
  refine (cls_look C2.out h0 3).mono ?_
  rintro e w3 ⟨rfl,g0⟩
  have CC := C2.out.gn g0
  have g := gr_none (p := R) g0
  have X3 := hidI (X2.out.g g (fun b hb => by obtain ⟨h1,h2,h3⟩ := hb; have := HR.out; omega))
  have A3 : Hid (w3.heap[w.heap.size]? = some (.cells #[pR R] 46)) := keptBut g A2.out (by have := Zq2.out; omega)
  have B3 : Hid (w3.heap[w.heap.size + 1]? = some (.cells #[.int .i64 0,.int .i64 0,.int .i64 0,.int .i64 0,.string ⟨#[]⟩,.string ⟨#[]⟩,.int .i64 0,.slice none 0 0] 61)) := keptBut g B2.out (by have := Zq2.out; omega)
  have E3 : Hid (w3.heap[w1.heap.size]? = some (.cells #[.int .i64 f,.int .i64 o,.int .i64 kd,.int .i64 n,.string nm,.string pt,.int .i64 a,.slice kx ks.length kc] 61)) := keptBut g E2.out (by have := Zq2.out; omega)
  have G3 := hidI (gtr G2.out g)
  have C3 := hidI CC
  have S3 : Hid (wr.heap.size + 0 ≤ w3.heap.size) := hidI (by have := g.size; (try simp at this); omega)
  have Zq3 := hidI (And.intro HR.out (And.intro S1.out (And.intro S2.out S3.out)))
  clear g CC g0 ap aq ar af ag ah
  cases h3 : decide (tk.c = 3)
  · obtain ⟨ap,aq,ar,af,ag,ah⟩ := facts A3.out
    obtain ⟨bp,bq,br,bf,bg,bh⟩ := facts B3.out
    obtain ⟨ep,eq,er,ef,eg,eh⟩ := facts E3.out
    have nBE : w.heap.size + 1 ≠ w1.heap.size := by have := Zq3.out; omega
    have nEB : w1.heap.size ≠ w.heap.size + 1 := by have := Zq3.out; omega
    have nAB : w.heap.size ≠ w.heap.size + 1 := by have := Zq3.out; omega
    have nBA : w.heap.size + 1 ≠ w.heap.size := by have := Zq3.out; omega
    have nAE : w.heap.size ≠ w1.heap.size := by have := Zq3.out; omega
    have nEA : w1.heap.size ≠ w.heap.size := by have := Zq3.out; omega
    go_wp2_with fail
    have hP : binP F (s.size + 2) (unP F (s.size + 2) d) (j + 1) t = .ok (.mk f o kd n nm pt a ks) (tk) := by rw [← HRr.out,HF.out,binL]; rw [if_neg h0]; rw [if_neg (fun hh => by simp [hh.1] at h3)]
    refine bodyPost_ret (resBox rfl _ _ (w.heap.size + 1) _ rfl (ld61 (box8 B3.out))) rfl (Out.ok hP ?_ ?_ ?_)
    · exact Xe_mk.2 ⟨_,rfl,(X3.out.g (gr8 (World.grownBy.refl _ _)) (fun b hb => hb.2.1)).imp (fun b _ hb => hb.1)⟩
    · exact C3.out.gq (gr8 (World.grownBy.refl _ _)) (by have := Zq3.out; omega) (by have := Zq3.out; omega)
    · exact gr8o G3.out (by have := Zq3.out; omega)
  obtain ⟨z0,z1,z2,z3,z4,z5,z6,z7⟩ := C3.out.rd.cells
  obtain ⟨ap,aq,ar,af,ag,ah⟩ := facts A3.out
  go_wp2_with fail
  refine (op_any C3.out.tb C3.out.vs tk.x).mono ?_
  rintro e w4 ⟨rfl,rfl⟩
  go_wp2_with fail
  refine (level_any C3.out.tb C3.out.vs _ (opS_bd tk.x).1 (opS_bd tk.x).2).mono ?_
  rintro e w4 ⟨rfl,rfl⟩
  by_cases hlev : lvS (opS tk.x) = lv
  rotate_left
  · have hlev' : (lvS (opS tk.x) == lv) = false := by simpa using hlev
    obtain ⟨ap,aq,ar,af,ag,ah⟩ := facts A3.out
    obtain ⟨bp,bq,br,bf,bg,bh⟩ := facts B3.out
    obtain ⟨ep,eq,er,ef,eg,eh⟩ := facts E3.out
    have nBE : w.heap.size + 1 ≠ w1.heap.size := by have := Zq3.out; omega
    have nEB : w1.heap.size ≠ w.heap.size + 1 := by have := Zq3.out; omega
    have nAB : w.heap.size ≠ w.heap.size + 1 := by have := Zq3.out; omega
    have nBA : w.heap.size + 1 ≠ w.heap.size := by have := Zq3.out; omega
    have nAE : w.heap.size ≠ w1.heap.size := by have := Zq3.out; omega
    have nEA : w1.heap.size ≠ w.heap.size := by have := Zq3.out; omega
    go_wp2_with fail
    have hP : binP F (s.size + 2) (unP F (s.size + 2) d) (j + 1) t = .ok (.mk f o kd n nm pt a ks) (tk) := by rw [← HRr.out,HF.out,binL]; rw [if_neg h0]; rw [if_neg (fun hh => hlev hh.2)]
    refine bodyPost_ret (resBox rfl _ _ (w.heap.size + 1) _ rfl (ld61 (box8 B3.out))) rfl (Out.ok hP ?_ ?_ ?_)
    · exact Xe_mk.2 ⟨_,rfl,(X3.out.g (gr8 (World.grownBy.refl _ _)) (fun b hb => hb.2.1)).imp (fun b _ hb => hb.1)⟩
    · exact C3.out.gq (gr8 (World.grownBy.refl _ _)) (by have := Zq3.out; omega) (by have := Zq3.out; omega)
    · exact gr8o G3.out (by have := Zq3.out; omega)
  have hlev' : (lvS (opS tk.x) == lv) = true := by simpa using hlev
  go_wp2_with fail
  refine (takeK C3.out h0).mono ?_
  rintro e w4 ⟨⟨v,rfl,rfl⟩,CC,g⟩
  have X4 := hidI (X3.out.g g (fun b hb => by obtain ⟨h1,h2,h3⟩ := hb; have := HR.out; omega))
  have A4 : Hid (w4.heap[w.heap.size]? = some (.cells #[pR R] 46)) := keptBut g A3.out (by have := Zq3.out; omega)
  have B4 : Hid (w4.heap[w.heap.size + 1]? = some (.cells #[.int .i64 0,.int .i64 0,.int .i64 0,.int .i64 0,.string ⟨#[]⟩,.string ⟨#[]⟩,.int .i64 0,.slice none 0 0] 61)) := keptBut g B3.out (by have := Zq3.out; omega)
  have E4 : Hid (w4.heap[w1.heap.size]? = some (.cells #[.int .i64 f,.int .i64 o,.int .i64 kd,.int .i64 n,.string nm,.string pt,.int .i64 a,.slice kx ks.length kc] 61)) := keptBut g E3.out (by have := Zq3.out; omega)
  have G4 := hidI (gtr G3.out g)
  have C4 := hidI CC
  have S4 : Hid (w3.heap.size + 0 ≤ w4.heap.size) := hidI (by have := g.size; (try simp at this); omega)
  have Zq4 := hidI (And.intro HR.out (And.intro S1.out (And.intro S2.out (And.intro S3.out S4.out))))
  clear g CC ap aq ar af ag ah
  obtain ⟨ap,aq,ar,af,ag,ah⟩ := facts A4.out
  go_wp2_with fail
  refine (HB.out _ _ (lv + 1) dp (by have := HL.out; omega) HD.out (C4.out.al _)).mono ?_
  intro e w5 h
  rcases h.get with ⟨e2,t5,v5,r5,rfl,hv,CC,g⟩ | ⟨cc,aa,r5,rfl,g⟩
  rotate_left
  · exact ⟨rfl,Out.bad (by rw [← HRr.out,HF.out,binL]; rw [if_neg h0]; rw [if_pos ⟨by simpa using h3,hlev⟩]; rw [← HS.out,r5]; rfl) (gtr (gr_alloc G4.out _) g)⟩
  have X5 := hidI ((X4.out.al _).g g (fun b hb => by obtain ⟨h1,h2,h3⟩ := hb; have := HR.out; omega))
  rcases e2 with ⟨f2,o2,kd2,n2,nm2,pt2,a2,ks2⟩
  obtain ⟨kx2,kc2,rfl,hx⟩ := Xe_sl hv
  have Z5 := hidI (hx.tag (w4.heap.size + 1) (by simp))
  clear hx hv
  have A5 : Hid (w5.heap[w.heap.size]? = some (.cells #[pR R] 46)) := keptBut g (old A4.out _) (by have := Zq4.out; omega)
  have B5 : Hid (w5.heap[w.heap.size + 1]? = some (.cells #[.int .i64 0,.int .i64 0,.int .i64 0,.int .i64 0,.string ⟨#[]⟩,.string ⟨#[]⟩,.int .i64 0,.slice none 0 0] 61)) := keptBut g (old B4.out _) (by have := Zq4.out; omega)
  have E5 : Hid (w5.heap[w1.heap.size]? = some (.cells #[.int .i64 f,.int .i64 o,.int .i64 kd,.int .i64 n,.string nm,.string pt,.int .i64 a,.slice kx ks.length kc] 61)) := keptBut g (old E4.out _) (by have := Zq4.out; omega)
  have T5 : Hid (w5.heap[w4.heap.size]? = some (.cells #[.int .i64 tk.c,.string tk.x,.int .i64 tk.n,.int .i64 tk.a,.int .i64 tk.e,.int .i64 tk.f] 73)) := keptBut g (hp_new (by simp) _) (by have := Zq4.out; omega)
  have G5 := hidI (gtr (gr_alloc G4.out _) g)
  have C5 := hidI CC
  have S5 : Hid (w4.heap.size + 1 ≤ w5.heap.size) := hidI (by have := g.size; (try simp at this); omega)
  clear g CC h ap aq ar af ag ah
  obtain ⟨ap,aq,ar,af,ag,ah⟩ := facts A5.out
  obtain ⟨tp,tq,tr,tf,tg,th⟩ := facts T5.out
  obtain ⟨ep,eq,er,ef,eg,eh⟩ := facts E5.out
  go_wp2_with fail
  obtain ⟨wy,hwy⟩ : ∃ wy,w5.alloc (.cells #[.int .i64 f2,.int .i64 o2,.int .i64 kd2,.int .i64 n2,.string nm2,.string pt2,.int .i64 a2,.slice kx2 ks2.length kc2] 61) = wy := ⟨_,rfl⟩
  have A6 : Hid (wy.drew.heap[w.heap.size]? = some (.cells #[pR R] 46)) := (by rw [← hwy]; exact (old A5.out _) : wy.heap[w.heap.size]? = _)
  have B6 : Hid (wy.drew.heap[w.heap.size + 1]? = some (.cells #[.int .i64 0,.int .i64 0,.int .i64 0,.int .i64 0,.string ⟨#[]⟩,.string ⟨#[]⟩,.int .i64 0,.slice none 0 0] 61)) := (by rw [← hwy]; exact (old B5.out _) : wy.heap[w.heap.size + 1]? = _)
  have E6 : Hid (wy.drew.heap[w1.heap.size]? = some (.cells #[.int .i64 f,.int .i64 o,.int .i64 kd,.int .i64 n,.string nm,.string pt,.int .i64 a,.slice kx ks.length kc] 61)) := (by rw [← hwy]; exact (old E5.out _) : wy.heap[w1.heap.size]? = _)
  have T6 : Hid (wy.drew.heap[w4.heap.size]? = some (.cells #[.int .i64 tk.c,.string tk.x,.int .i64 tk.n,.int .i64 tk.a,.int .i64 tk.e,.int .i64 tk.f] 73)) := (by rw [← hwy]; exact (old T5.out _) : wy.heap[w4.heap.size]? = _)
  have Y6 : Hid (wy.drew.heap[w5.heap.size]? = some (.cells #[.int .i64 f2,.int .i64 o2,.int .i64 kd2,.int .i64 n2,.string nm2,.string pt2,.int .i64 a2,.slice kx2 ks2.length kc2] 61)) := (by rw [← hwy]; exact (hp_new (by simp) _) : wy.heap[w5.heap.size]? = _)
  have C6 : Hid (Cx V F R s u wy.drew t5) := (by rw [← hwy]; exact (C5.out.al _) : Cx V F R s u wy t5).drew
  have G6 : Hid (w.grownBy wy.drew (some R)) := gr_drew (by rw [← hwy]; exact (gr_alloc G5.out _))
  have S6 : Hid (w5.heap.size + 1 = wy.drew.heap.size) := (by rw [← hwy]; simp : w5.heap.size + 1 = wy.heap.size)
  have X6 : Hid (Xs wy.drew (av w.heap.size (w.heap.size + 1) w1.heap.size) (.slice kx ks.length kc) ks) := (by rw [← hwy]; exact X5.out.al _ : Xs wy (av w.heap.size (w.heap.size + 1) w1.heap.size) (.slice kx ks.length kc) ks).gn (w0 := w) (gr_drew (World.grownBy.refl _ _))
  have Z6 : Hid (Xs wy.drew (bt (w4.heap.size + 1) w5.heap.size) (.slice kx2 ks2.length kc2) ks2) := (by rw [← hwy]; exact Z5.out.al _ : Xs wy (bt (w4.heap.size + 1) w5.heap.size) (.slice kx2 ks2.length kc2) ks2).gn (w0 := w) (gr_drew (World.grownBy.refl _ _))
  have C7 : Hid (Cx V F R s u wy t5) := (by rw [← hwy]; exact (C5.out.al _) : Cx V F R s u wy t5)
  have G7 : Hid (w.grownBy wy (some R)) := (by rw [← hwy]; exact (gr_alloc G5.out _) : w.grownBy wy (some R))
  have S7 : Hid (w5.heap.size + 1 = wy.heap.size) := S6.out
  have Zq5 := hidI (And.intro HR.out (And.intro S1.out (And.intro S2.out (And.intro S3.out (And.intro S4.out (And.intro S5.out S7.out))))))
  have A7 : Hid (wy.heap[w.heap.size]? = some (.cells #[pR R] 46)) := A6.out
  have B7 : Hid (wy.heap[w.heap.size + 1]? = some (.cells #[.int .i64 0,.int .i64 0,.int .i64 0,.int .i64 0,.string ⟨#[]⟩,.string ⟨#[]⟩,.int .i64 0,.slice none 0 0] 61)) := B6.out
  have E7 : Hid (wy.heap[w1.heap.size]? = some (.cells #[.int .i64 f,.int .i64 o,.int .i64 kd,.int .i64 n,.string nm,.string pt,.int .i64 a,.slice kx ks.length kc] 61)) := E6.out
  have X7 : Hid (Xs wy (av w.heap.size (w.heap.size + 1) w1.heap.size) (.slice kx ks.length kc) ks) := (by rw [← hwy]; exact X5.out.al _ : Xs wy (av w.heap.size (w.heap.size + 1) w1.heap.size) (.slice kx ks.length kc) ks)
  have Z7 : Hid (Xs wy (bt (w4.heap.size + 1) w5.heap.size) (.slice kx2 ks2.length kc2) ks2) := (by rw [← hwy]; exact Z5.out.al _ : Xs wy (bt (w4.heap.size + 1) w5.heap.size) (.slice kx2 ks2.length kc2) ks2)
  rw [hwy]
  clear hwy ap aq ar af ag ah tp tq tr tf tg th ep eq er ef eg eh
  obtain ⟨tp,tq,tr,tf,tg,th⟩ := facts T6.out
  obtain ⟨ep,eq,er,ef,eg,eh⟩ := facts E6.out
  obtain ⟨yp,yq,yr,yf,yg,yh⟩ := facts Y6.out
  obtain ⟨tp1,tq1,tr1,tf1,tg1,th1⟩ := facts (W := wy) T6.out
  obtain ⟨ep1,eq1,er1,ef1,eg1,eh1⟩ := facts (W := wy) E6.out
  obtain ⟨yp1,yq1,yr1,yf1,yg1,yh1⟩ := facts (W := wy) Y6.out
  obtain ⟨hD,hhD⟩ : ∃ q,wy.drew.heap.size = q := ⟨_,rfl⟩
  have hV1 := C6.out.vs
  have hV2 : ∀ o,Vs V (wy.drew.alloc o) := fun o => (C6.out.al o).vs
  have hHeld : (fun w' : World => w'.cell? ⟨w4.heap.size,1,none⟩ = some (.string tk.x) ∧ w'.cell? ⟨w4.heap.size,3,none⟩ = some (.int .i64 tk.a) ∧ w'.cell? ⟨w1.heap.size,0,none⟩ = some (.int .i64 f) ∧ w'.cell? ⟨w1.heap.size,1,none⟩ = some (.int .i64 o) ∧ w'.cell? ⟨w1.heap.size,2,none⟩ = some (.int .i64 kd) ∧ w'.cell? ⟨w1.heap.size,3,none⟩ = some (.int .i64 n) ∧ w'.cell? ⟨w1.heap.size,4,none⟩ = some (.string nm) ∧ w'.cell? ⟨w1.heap.size,5,none⟩ = some (.string pt) ∧ w'.cell? ⟨w1.heap.size,6,none⟩ = some (.int .i64 a) ∧ w'.cell? ⟨w1.heap.size,7,none⟩ = some (.slice kx ks.length kc) ∧ w'.cell? ⟨w5.heap.size,0,none⟩ = some (.int .i64 f2) ∧ w'.cell? ⟨w5.heap.size,1,none⟩ = some (.int .i64 o2) ∧ w'.cell? ⟨w5.heap.size,2,none⟩ = some (.int .i64 kd2) ∧ w'.cell? ⟨w5.heap.size,3,none⟩ = some (.int .i64 n2) ∧ w'.cell? ⟨w5.heap.size,4,none⟩ = some (.string nm2) ∧ w'.cell? ⟨w5.heap.size,5,none⟩ = some (.string pt2) ∧ w'.cell? ⟨w5.heap.size,6,none⟩ = some (.int .i64 a2) ∧ w'.cell? ⟨w5.heap.size,7,none⟩ = some (.slice kx2 ks2.length kc2)) wy.drew := ⟨by simpa using at_cell T6.out 1,by simpa using at_cell T6.out 3,by simpa using at_cell E6.out 0,by simpa using at_cell E6.out 1,by simpa using at_cell E6.out 2,by simpa using at_cell E6.out 3,by simpa using at_cell E6.out 4,by simpa using at_cell E6.out 5,by simpa using at_cell E6.out 6,by simpa using at_cell E6.out 7,by simpa using at_cell Y6.out 0,by simpa using at_cell Y6.out 1,by simpa using at_cell Y6.out 2,by simpa using at_cell Y6.out 3,by simpa using at_cell Y6.out 4,by simpa using at_cell Y6.out 5,by simpa using at_cell Y6.out 6,by simpa using at_cell Y6.out 7⟩
  have hHeldA : ∀ ob,(fun w' : World => w'.cell? ⟨w4.heap.size,1,none⟩ = some (.string tk.x) ∧ w'.cell? ⟨w4.heap.size,3,none⟩ = some (.int .i64 tk.a) ∧ w'.cell? ⟨w1.heap.size,0,none⟩ = some (.int .i64 f) ∧ w'.cell? ⟨w1.heap.size,1,none⟩ = some (.int .i64 o) ∧ w'.cell? ⟨w1.heap.size,2,none⟩ = some (.int .i64 kd) ∧ w'.cell? ⟨w1.heap.size,3,none⟩ = some (.int .i64 n) ∧ w'.cell? ⟨w1.heap.size,4,none⟩ = some (.string nm) ∧ w'.cell? ⟨w1.heap.size,5,none⟩ = some (.string pt) ∧ w'.cell? ⟨w1.heap.size,6,none⟩ = some (.int .i64 a) ∧ w'.cell? ⟨w1.heap.size,7,none⟩ = some (.slice kx ks.length kc) ∧ w'.cell? ⟨w5.heap.size,0,none⟩ = some (.int .i64 f2) ∧ w'.cell? ⟨w5.heap.size,1,none⟩ = some (.int .i64 o2) ∧ w'.cell? ⟨w5.heap.size,2,none⟩ = some (.int .i64 kd2) ∧ w'.cell? ⟨w5.heap.size,3,none⟩ = some (.int .i64 n2) ∧ w'.cell? ⟨w5.heap.size,4,none⟩ = some (.string nm2) ∧ w'.cell? ⟨w5.heap.size,5,none⟩ = some (.string pt2) ∧ w'.cell? ⟨w5.heap.size,6,none⟩ = some (.int .i64 a2) ∧ w'.cell? ⟨w5.heap.size,7,none⟩ = some (.slice kx2 ks2.length kc2)) (wy.drew.alloc ob) := fun ob => ⟨by simpa using at_cell (old T6.out ob) 1,by simpa using at_cell (old T6.out ob) 3,by simpa using at_cell (old E6.out ob) 0,by simpa using at_cell (old E6.out ob) 1,by simpa using at_cell (old E6.out ob) 2,by simpa using at_cell (old E6.out ob) 3,by simpa using at_cell (old E6.out ob) 4,by simpa using at_cell (old E6.out ob) 5,by simpa using at_cell (old E6.out ob) 6,by simpa using at_cell (old E6.out ob) 7,by simpa using at_cell (old Y6.out ob) 0,by simpa using at_cell (old Y6.out ob) 1,by simpa using at_cell (old Y6.out ob) 2,by simpa using at_cell (old Y6.out ob) 3,by simpa using at_cell (old Y6.out ob) 4,by simpa using at_cell (old Y6.out ob) 5,by simpa using at_cell (old Y6.out ob) 6,by simpa using at_cell (old Y6.out ob) 7⟩
  clear tp tq tr tf tg th tp1 tq1 tr1 tf1 tg1 th1 ep eq er ef eg eh ep1 eq1 er1 ef1 eg1 eh1 yp yq yr yf yg yh yp1 yq1 yr1 yf1 yg1 yh1
  refine wp_region_L (L := 9) (S := (fun w' : World => w'.cell? ⟨w4.heap.size,1,none⟩ = some (.string tk.x) ∧ w'.cell? ⟨w4.heap.size,3,none⟩ = some (.int .i64 tk.a) ∧ w'.cell? ⟨w1.heap.size,0,none⟩ = some (.int .i64 f) ∧ w'.cell? ⟨w1.heap.size,1,none⟩ = some (.int .i64 o) ∧ w'.cell? ⟨w1.heap.size,2,none⟩ = some (.int .i64 kd) ∧ w'.cell? ⟨w1.heap.size,3,none⟩ = some (.int .i64 n) ∧ w'.cell? ⟨w1.heap.size,4,none⟩ = some (.string nm) ∧ w'.cell? ⟨w1.heap.size,5,none⟩ = some (.string pt) ∧ w'.cell? ⟨w1.heap.size,6,none⟩ = some (.int .i64 a) ∧ w'.cell? ⟨w1.heap.size,7,none⟩ = some (.slice kx ks.length kc) ∧ w'.cell? ⟨w5.heap.size,0,none⟩ = some (.int .i64 f2) ∧ w'.cell? ⟨w5.heap.size,1,none⟩ = some (.int .i64 o2) ∧ w'.cell? ⟨w5.heap.size,2,none⟩ = some (.int .i64 kd2) ∧ w'.cell? ⟨w5.heap.size,3,none⟩ = some (.int .i64 n2) ∧ w'.cell? ⟨w5.heap.size,4,none⟩ = some (.string nm2) ∧ w'.cell? ⟨w5.heap.size,5,none⟩ = some (.string pt2) ∧ w'.cell? ⟨w5.heap.size,6,none⟩ = some (.int .i64 a2) ∧ w'.cell? ⟨w5.heap.size,7,none⟩ = some (.slice kx2 ks2.length kc2))) (by kernel_rfl) ?_
  refine wpAnyL_take (i := 0) (oi := { dst := Option.some 43, op := Op.fieldAddr 73 (.tmp 8) 1, type := 0, pos := "exprs.go:22", after := #[], guard := Option.none }) (v := ?_) rfl (by kernel_rfl) (by kernel_rfl) (by kernel_rfl) (fun _ _ _ h => h) (by kernel_rfl) (by kernel_rfl) (Or.inl ⟨by rfl, ?_⟩) hHeld ?_
  rotate_left
  · intro w hSw
    try dsimp only at hSw
    go_simp
    try with_reducible rfl
  try simp only [Act.put,List.setIfInBounds_toArray,List.set_cons_zero,List.set_cons_succ]
  refine wpAnyL_take (i := 1) (oi := { dst := Option.some 44, op := Op.load 9 (.tmp 43), type := 9, pos := "exprs.go:22", after := #[⟨0, .data⟩], guard := Option.none }) (v := ?_) rfl (by kernel_rfl) (by kernel_rfl) (by kernel_rfl) (fun _ _ _ h => h) (by kernel_rfl) (by kernel_rfl) (Or.inl ⟨by rfl, ?_⟩) hHeld ?_
  rotate_left
  · intro w hSw
    try dsimp only at hSw
    go_simp
    try with_reducible rfl
  try simp only [Act.put,List.setIfInBounds_toArray,List.set_cons_zero,List.set_cons_succ]
  refine wpAnyL_take (i := 3) (oi := { dst := Option.some 46, op := Op.fieldAddr 73 (.tmp 8) 3, type := 0, pos := "exprs.go:22", after := #[], guard := Option.none }) (v := ?_) rfl (by kernel_rfl) (by kernel_rfl) (by kernel_rfl) (fun _ _ _ h => h) (by kernel_rfl) (by kernel_rfl) (Or.inl ⟨by rfl, ?_⟩) hHeld ?_
  rotate_left
  · intro w hSw
    try dsimp only at hSw
    go_simp
    try with_reducible rfl
  try simp only [Act.put,List.setIfInBounds_toArray,List.set_cons_zero,List.set_cons_succ]
  refine wpAnyL_take (i := 4) (oi := { dst := Option.some 47, op := Op.load 3 (.tmp 46), type := 3, pos := "exprs.go:22", after := #[⟨3, .data⟩], guard := Option.none }) (v := ?_) rfl (by kernel_rfl) (by kernel_rfl) (by kernel_rfl) (fun _ _ _ h => h) (by kernel_rfl) (by kernel_rfl) (Or.inl ⟨by rfl, ?_⟩) hHeld ?_
  rotate_left
  · intro w hSw
    try dsimp only at hSw
    go_simp
    try with_reducible rfl
  try simp only [Act.put,List.setIfInBounds_toArray,List.set_cons_zero,List.set_cons_succ]
  refine wpAnyL_take (i := 5) (oi := { dst := Option.some 48, op := Op.load 61 (.tmp 7), type := 61, pos := "exprs.go:22", after := #[], guard := Option.none }) (v := ?_) rfl (by kernel_rfl) (by kernel_rfl) (by kernel_rfl) (fun _ _ _ h => h) (by kernel_rfl) (by kernel_rfl) (Or.inl ⟨by rfl, ?_⟩) hHeld ?_
  rotate_left
  · intro w hSw
    try dsimp only at hSw
    go_simp
    try with_reducible rfl
  try simp only [Act.put,List.setIfInBounds_toArray,List.set_cons_zero,List.set_cons_succ]
  refine wpAnyL_take (i := 6) (oi := { dst := Option.some 49, op := Op.load 61 (.tmp 9), type := 61, pos := "exprs.go:22", after := #[], guard := Option.none }) (v := ?_) rfl (by kernel_rfl) (by kernel_rfl) (by kernel_rfl) (fun _ _ _ h => h) (by kernel_rfl) (by kernel_rfl) (Or.inl ⟨by rfl, ?_⟩) hHeld ?_
  rotate_left
  · intro w hSw
    try dsimp only at hSw
    go_simp
    try with_reducible rfl
  try simp only [Act.put,List.setIfInBounds_toArray,List.set_cons_zero,List.set_cons_succ]
  refine wpAnyL_two (i := 2) (j := 7) (oi := { dst := Option.some 45, op := Op.call { callee := Callee.value (Operand.func 208), args := #[Operand.tmp 44], argTypes := #[9] }, type := 58, pos := "exprs.go:22", after := #[⟨1, .data⟩], guard := Option.none }) (oj := { dst := Option.some 50, op := Op.buildSlice 59 2 #[(0, Operand.tmp 48), (1, Operand.tmp 49)], type := 59, pos := "exprs.go:22", after := #[⟨5, .data⟩, ⟨6, .data⟩], guard := Option.none }) (by kernel_rfl) rfl rfl (fun K hK => ?_) (fun K hK => ?_)
  · go_simp
    refine (op_any C6.out.tb (hV1) tk.x).mono ?_
    rintro e w7 ⟨rfl,rfl⟩
    go_wp2_with fail
    refine hK.out _ _ (fun _ _ => hHeld) ?_
    clear hK K
    try simp only [Act.put,List.setIfInBounds_toArray,List.set_cons_zero,List.set_cons_succ]
    refine wpAnyL_one (j := 7) (o := { dst := Option.some 50, op := Op.buildSlice 59 2 #[(0, Operand.tmp 48), (1, Operand.tmp 49)], type := 59, pos := "exprs.go:22", after := #[⟨5, .data⟩, ⟨6, .data⟩], guard := Option.none }) (by kernel_rfl) rfl (fun K hK => ?_)
    go_simp
    refine hK.out _ _ (fun _ _ => hHeldA _) ?_
    clear hK K
    try simp only [Act.put,List.setIfInBounds_toArray,List.set_cons_zero,List.set_cons_succ]
    refine wpAnyL_free (i := 8) (oi := { dst := Option.some 51, op := Op.build 61 #[(0, Operand.const (Value.int IntKind.i64 6)), (1, Operand.tmp 45), (6, Operand.tmp 47), (7, Operand.tmp 50)], type := 61, pos := "exprs.go:22", after := #[⟨2, .data⟩, ⟨4, .data⟩, ⟨7, .data⟩], guard := Option.none }) (v := ?_) rfl (by kernel_rfl) (by kernel_rfl) (by kernel_rfl) (fun _ _ _ h => h) (by decide) (Or.inl ⟨by rfl, ?_⟩) (fun _ => hHeldA _) ?_
    rotate_left
    · intro w hSw
      go_simp
      try with_reducible rfl
    try simp only [Act.put,List.setIfInBounds_toArray,List.set_cons_zero,List.set_cons_succ]
    refine wpAnyL_one (j := 9) (o := { dst := Option.none, op := Op.store 61 (.tmp 7) (.tmp 51), type := 0, pos := "exprs.go:22", after := #[⟨8, .data⟩, ⟨2, .chain⟩, ⟨0, .phase⟩, ⟨1, .phase⟩, ⟨2, .phase⟩, ⟨3, .phase⟩, ⟨4, .phase⟩, ⟨5, .phase⟩, ⟨6, .phase⟩, ⟨7, .phase⟩, ⟨8, .phase⟩], guard := Option.none }) (by kernel_rfl) rfl (fun K hK => ?_)
    obtain ⟨ep,eq,er,ef,eg,eh⟩ := facts (W := wy) E6.out
    go_simp
    refine hK.out _ _ (fun h => absurd rfl h) ?_
    clear hK K
    try simp only [Act.put,List.setIfInBounds_toArray,List.set_cons_zero,List.set_cons_succ]
    refine wpAnyL_done (by kernel_rfl) ?_ _
    go_wp2_with fail
    have hgl := HG.out
    have hhf := HF.out
    go_roundg (s.size + 2 - (k + 1))
    case measure => omega
    case rel =>
     subst hhD
     refine ⟨k + 1,6,opS tk.x,0,0,nob,nob,tk.a,[.mk f o kd n nm pt a ks,.mk f2 o2 kd2 n2 nm2 pt2 a2 ks2],some ⟨wy.heap.size,0,none⟩,2,t5,rfl,?_,?_,?_,?_,?_,?_,?_,?_,?_⟩
     · have p1 := (HAdv.out _ _ _ (next_ok C2.out.G C2.out.ok h0).1 r5).2
       have p2 := (next_ok C2.out.G C2.out.ok h0).2.1
       have p3 := HK.out
       omega
     · exact ((C7.out.al _).gq (gr8 (World.grownBy.refl _ _)) (by have := Zq5.out; omega) (by have := Zq5.out; omega)).drew
     · exact gr_drew (gr8o (gr_alloc G7.out _) (by have := Zq5.out; omega))
     · refine hdw ?_
       exact keptBut (gr8 (World.grownBy.refl _ _)) (old A7.out _) (by have := Zq5.out; omega)
     · refine hdw ?_
       exact keptBut (gr8 (World.grownBy.refl _ _)) (old B7.out _) (by have := Zq5.out; omega)
     · refine hdw ?_
       exact box8 (old E7.out _)
     · refine ((xs_two (W := wy) (ok := av w.heap.size (w.heap.size + 1) w1.heap.size) (e1 := .mk f o kd n nm pt a ks) (e2 := .mk f2 o2 kd2 n2 nm2 pt2 a2 ks2) X7.out (Z7.out.imp (fun b _ hb => ?_)) ?_).g (gr8 (World.grownBy.refl _ _)) (fun b hb => hb.2.2)).gn (w0 := w) (gr_drew (World.grownBy.refl _ _))
       · obtain ⟨h1,h2⟩ := hb; exact ⟨by have := Zq5.out; omega,by have := Zq5.out; omega,by have := Zq5.out; omega⟩
       · exact ⟨by have := Zq5.out; omega,by have := Zq5.out; omega,by have := Zq5.out; omega⟩
     · refine hds ?_
       simp
       have := Zq5.out; omega
     · rw [show s.size + 2 - (k + 1) = s.size + 1 - k by omega,← HRr.out,HF.out,binL,if_neg h0,if_pos ⟨by simpa using h3,hlev⟩,← HS.out,r5]
       rfl
  · go_simp
    refine hK.out _ _ (fun _ _ => hHeldA _) ?_
    clear hK K
    try simp only [Act.put,List.setIfInBounds_toArray,List.set_cons_zero,List.set_cons_succ]
    refine wpAnyL_one (j := 2) (o := { dst := Option.some 45, op := Op.call { callee := Callee.value (Operand.func 208), args := #[Operand.tmp 44], argTypes := #[9] }, type := 58, pos := "exprs.go:22", after := #[⟨1, .data⟩], guard := Option.none }) (by kernel_rfl) rfl (fun K hK => ?_)
    go_simp
    refine (op_any C6.out.tb (hV2 _) tk.x).mono ?_
    rintro e w7 ⟨rfl,rfl⟩
    go_wp2_with fail
    refine hK.out _ _ (fun _ _ => hHeldA _) ?_
    clear hK K
    try simp only [Act.put,List.setIfInBounds_toArray,List.set_cons_zero,List.set_cons_succ]
    refine wpAnyL_free (i := 8) (oi := { dst := Option.some 51, op := Op.build 61 #[(0, Operand.const (Value.int IntKind.i64 6)), (1, Operand.tmp 45), (6, Operand.tmp 47), (7, Operand.tmp 50)], type := 61, pos := "exprs.go:22", after := #[⟨2, .data⟩, ⟨4, .data⟩, ⟨7, .data⟩], guard := Option.none }) (v := ?_) rfl (by kernel_rfl) (by kernel_rfl) (by kernel_rfl) (fun _ _ _ h => h) (by decide) (Or.inl ⟨by rfl, ?_⟩) (fun _ => hHeldA _) ?_
    rotate_left
    · intro w hSw
      go_simp
      try with_reducible rfl
    try simp only [Act.put,List.setIfInBounds_toArray,List.set_cons_zero,List.set_cons_succ]
    refine wpAnyL_one (j := 9) (o := { dst := Option.none, op := Op.store 61 (.tmp 7) (.tmp 51), type := 0, pos := "exprs.go:22", after := #[⟨8, .data⟩, ⟨2, .chain⟩, ⟨0, .phase⟩, ⟨1, .phase⟩, ⟨2, .phase⟩, ⟨3, .phase⟩, ⟨4, .phase⟩, ⟨5, .phase⟩, ⟨6, .phase⟩, ⟨7, .phase⟩, ⟨8, .phase⟩], guard := Option.none }) (by kernel_rfl) rfl (fun K hK => ?_)
    obtain ⟨ep,eq,er,ef,eg,eh⟩ := facts (W := wy) E6.out
    go_simp
    refine hK.out _ _ (fun h => absurd rfl h) ?_
    clear hK K
    try simp only [Act.put,List.setIfInBounds_toArray,List.set_cons_zero,List.set_cons_succ]
    refine wpAnyL_done (by kernel_rfl) ?_ _
    go_wp2_with fail
    have hgl := HG.out
    have hhf := HF.out
    go_roundg (s.size + 2 - (k + 1))
    case measure => omega
    case rel =>
     subst hhD
     refine ⟨k + 1,6,opS tk.x,0,0,nob,nob,tk.a,[.mk f o kd n nm pt a ks,.mk f2 o2 kd2 n2 nm2 pt2 a2 ks2],some ⟨wy.heap.size,0,none⟩,2,t5,rfl,?_,?_,?_,?_,?_,?_,?_,?_,?_⟩
     · have p1 := (HAdv.out _ _ _ (next_ok C2.out.G C2.out.ok h0).1 r5).2
       have p2 := (next_ok C2.out.G C2.out.ok h0).2.1
       have p3 := HK.out
       omega
     · exact ((C7.out.al _).gq (gr8 (World.grownBy.refl _ _)) (by have := Zq5.out; omega) (by have := Zq5.out; omega)).drew
     · exact gr_drew (gr8o (gr_alloc G7.out _) (by have := Zq5.out; omega))
     · refine hdw ?_
       exact keptBut (gr8 (World.grownBy.refl _ _)) (old A7.out _) (by have := Zq5.out; omega)
     · refine hdw ?_
       exact keptBut (gr8 (World.grownBy.refl _ _)) (old B7.out _) (by have := Zq5.out; omega)
     · refine hdw ?_
       exact box8 (old E7.out _)
     · refine ((xs_two (W := wy) (ok := av w.heap.size (w.heap.size + 1) w1.heap.size) (e1 := .mk f o kd n nm pt a ks) (e2 := .mk f2 o2 kd2 n2 nm2 pt2 a2 ks2) X7.out (Z7.out.imp (fun b _ hb => ?_)) ?_).g (gr8 (World.grownBy.refl _ _)) (fun b hb => hb.2.2)).gn (w0 := w) (gr_drew (World.grownBy.refl _ _))
       · obtain ⟨h1,h2⟩ := hb; exact ⟨by have := Zq5.out; omega,by have := Zq5.out; omega,by have := Zq5.out; omega⟩
       · exact ⟨by have := Zq5.out; omega,by have := Zq5.out; omega,by have := Zq5.out; omega⟩
     · refine hds ?_
       simp
       have := Zq5.out; omega
     · rw [show s.size + 2 - (k + 1) = s.size + 1 - k by omega,← HRr.out,HF.out,binL,if_neg h0,if_pos ⟨by simpa using h3,hlev⟩,← HS.out,r5]
       rfl
end
end Go.Proofs.YtdcoidmbainkmaaGreatDoor
