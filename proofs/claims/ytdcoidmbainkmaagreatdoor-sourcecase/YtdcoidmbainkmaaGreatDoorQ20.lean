/- Texts put together: Rr. -/
import Derived.Test.YtdcoidmbainkmaaGreatDoorQ19
namespace Go.Proofs.YtdcoidmbainkmaaGreatDoor
open Go.RowKit
attribute [local go_sem ↓] Go.wp_at_zero Go.wp_at_succ
set_option linter.unusedVariables false
set_option linter.unusedSimpArgs false
section
variable {V : World} {F : Int → Tok} {R : Nat} {s : ByteArray} {u : Int}
def DeL (V : World) (F : Int → Tok) (R : Nat) (s : ByteArray) (u : Int) (w0 w : World) (B b : Nat) (role : Int) (r0 : Res (List PV)) (gk : Nat) (s1 s8 : Value) (wx : World) : Prop :=
 ∃ (l : List PV) (a : Option Addr) (c : Nat) (tk : Tok) (m : Bool),s1 = .slice a l.length c ∧ s8 = .bool m ∧ Cx V F R s u wx tk ∧ w0.grownBy wx (some R) ∧ wx.heap[w.heap.size]? = some (.cells #[pR R] 46) ∧
  Gl kdV 63 15 wx B (.slice a l.length c) l ∧ (w.heap.size + 1 ≤ wx.heap.size ∧ b ≤ l.length ∧ l.length ≤ 200) ∧ (∀ g,(Value.slice a l.length c).ownBlock = some g → g ≠ w.heap.size) ∧ ((l.length : Int) - b ≤ tk.a) ∧
  (m = true → gk = s.size + 3 - (l.length - b) ∧ decL F role (s.size + 2 - (l.length - b)) l tk = r0) ∧ (m = false → gk = 0 ∧ r0 = .ok l tk)
def DwL (V : World) (F : Int → Tok) (R : Nat) (s : ByteArray) (u : Int) (w0 : World) (B b Y : Nat) (tk : Tok) (l : List PV) (y : PV) (a : Option Addr) (c : Nat) (ys : Array Value) (gk : Nat) (s11 : Value) (wx : World) : Prop :=
 ∃ (i : Nat),s11 = .int .i64 (i : Int) ∧ (b ≤ i ∧ i ≤ l.length ∧ gk = l.length + 1 - i) ∧ Cx V F R s u wx tk ∧ w0.grownBy wx (some R) ∧ wx.heap[Y]? = some (.cells ys 63) ∧ Gl kdV 63 15 wx B (.slice a l.length c) (mid l b i y)
theorem drew_heap (w : World) : w.drew.heap = w.heap := rfl
theorem dw_next {w0 wr : World} {B b Y i g c : Nat} {tk : Tok} {l : List PV} {y : PV} {ys : Array Value} {kv : Value} {fo op kd nn : Int} {nm pt : ByteArray} {ia x2 x4 x5 : Int} {x3 : ByteArray} (h2 : y.kind = x2) (h3 : y.of = x3) (h4 : y.low = x4) (h5 : y.len = x5) (hy : y.init = .mk fo op kd nn nm pt ia []) (hk : ∃ a c,kv = .slice a 0 c)
 (CZ : Cx V F R s u wr tk) (GZ : w0.grownBy wr (some R)) (YZ : wr.heap[Y]? = some (.cells ys 63)) (LZ : Gl kdV 63 15 wr B (.slice (some ⟨g,0,none⟩) l.length c) (mid l b i y)) (hi1 : b ≤ i) (hi : i < l.length) (hgY : Y ≠ g) (hgR : g ≠ R) (hg15 : 15 ≤ g) (hg0 : w0.heap.size ≤ g) :
 DwL V F R s u w0 B b Y tk l y (some ⟨g,0,none⟩) c ys (l.length + 1 - (i + 1)) (.int .i64 ((i : Int) + 1)) ((((((((((((wr.setCell ⟨g,i * 15 + 2,none⟩ (.int .i64 x2)).setCell ⟨g,i * 15 + 3,none⟩ (.string x3)).setCell ⟨g,i * 15 + 4,none⟩ (.int .i64 x4)).setCell ⟨g,i * 15 + 5,none⟩ (.int .i64 x5)).setCell ⟨g,i * 15 + 6,none⟩ (.int .i64 fo)).setCell ⟨g,i * 15 + 6 + 1,none⟩ (.int .i64 op)).setCell ⟨g,i * 15 + 6 + 2,none⟩ (.int .i64 kd)).setCell ⟨g,i * 15 + 6 + 3,none⟩ (.int .i64 nn)).setCell ⟨g,i * 15 + 6 + 4,none⟩ (.string nm)).setCell ⟨g,i * 15 + 6 + 5,none⟩ (.string pt)).setCell ⟨g,i * 15 + 6 + 6,none⟩ (.int .i64 ia)).setCell ⟨g,i * 15 + 6 + 7,none⟩ (kv)).drew := by
 subst h2 h3 h4 h5
 have f1 : Cx V F R s u ((((((((((((wr.setCell ⟨g,i * 15 + 2,none⟩ (.int .i64 y.kind)).setCell ⟨g,i * 15 + 3,none⟩ (.string y.of)).setCell ⟨g,i * 15 + 4,none⟩ (.int .i64 y.low)).setCell ⟨g,i * 15 + 5,none⟩ (.int .i64 y.len)).setCell ⟨g,i * 15 + 6,none⟩ (.int .i64 fo)).setCell ⟨g,i * 15 + 6 + 1,none⟩ (.int .i64 op)).setCell ⟨g,i * 15 + 6 + 2,none⟩ (.int .i64 kd)).setCell ⟨g,i * 15 + 6 + 3,none⟩ (.int .i64 nn)).setCell ⟨g,i * 15 + 6 + 4,none⟩ (.string nm)).setCell ⟨g,i * 15 + 6 + 5,none⟩ (.string pt)).setCell ⟨g,i * 15 + 6 + 6,none⟩ (.int .i64 ia)).setCell ⟨g,i * 15 + 6 + 7,none⟩ (kv)) tk := ((((((((((((CZ.set hgR hg15 (i * 15 + 2) (.int .i64 y.kind)).set hgR hg15 (i * 15 + 3) (.string y.of)).set hgR hg15 (i * 15 + 4) (.int .i64 y.low)).set hgR hg15 (i * 15 + 5) (.int .i64 y.len)).set hgR hg15 (i * 15 + 6) (.int .i64 fo)).set hgR hg15 (i * 15 + 6 + 1) (.int .i64 op)).set hgR hg15 (i * 15 + 6 + 2) (.int .i64 kd)).set hgR hg15 (i * 15 + 6 + 3) (.int .i64 nn)).set hgR hg15 (i * 15 + 6 + 4) (.string nm)).set hgR hg15 (i * 15 + 6 + 5) (.string pt)).set hgR hg15 (i * 15 + 6 + 6) (.int .i64 ia)).set hgR hg15 (i * 15 + 6 + 7) (kv))
 have f2 : w0.grownBy ((((((((((((wr.setCell ⟨g,i * 15 + 2,none⟩ (.int .i64 y.kind)).setCell ⟨g,i * 15 + 3,none⟩ (.string y.of)).setCell ⟨g,i * 15 + 4,none⟩ (.int .i64 y.low)).setCell ⟨g,i * 15 + 5,none⟩ (.int .i64 y.len)).setCell ⟨g,i * 15 + 6,none⟩ (.int .i64 fo)).setCell ⟨g,i * 15 + 6 + 1,none⟩ (.int .i64 op)).setCell ⟨g,i * 15 + 6 + 2,none⟩ (.int .i64 kd)).setCell ⟨g,i * 15 + 6 + 3,none⟩ (.int .i64 nn)).setCell ⟨g,i * 15 + 6 + 4,none⟩ (.string nm)).setCell ⟨g,i * 15 + 6 + 5,none⟩ (.string pt)).setCell ⟨g,i * 15 + 6 + 6,none⟩ (.int .i64 ia)).setCell ⟨g,i * 15 + 6 + 7,none⟩ (kv)) (some R) := (gr_ow2 (gr_ow2 (gr_ow2 (gr_ow2 (gr_ow2 (gr_ow2 (gr_ow2 (gr_ow2 (gr_ow2 (gr_ow2 (gr_ow2 (gr_ow2 GZ hg0 (i * 15 + 2) (.int .i64 y.kind)) hg0 (i * 15 + 3) (.string y.of)) hg0 (i * 15 + 4) (.int .i64 y.low)) hg0 (i * 15 + 5) (.int .i64 y.len)) hg0 (i * 15 + 6) (.int .i64 fo)) hg0 (i * 15 + 6 + 1) (.int .i64 op)) hg0 (i * 15 + 6 + 2) (.int .i64 kd)) hg0 (i * 15 + 6 + 3) (.int .i64 nn)) hg0 (i * 15 + 6 + 4) (.string nm)) hg0 (i * 15 + 6 + 5) (.string pt)) hg0 (i * 15 + 6 + 6) (.int .i64 ia)) hg0 (i * 15 + 6 + 7) (kv))
 have f3 : ((((((((((((wr.setCell ⟨g,i * 15 + 2,none⟩ (.int .i64 y.kind)).setCell ⟨g,i * 15 + 3,none⟩ (.string y.of)).setCell ⟨g,i * 15 + 4,none⟩ (.int .i64 y.low)).setCell ⟨g,i * 15 + 5,none⟩ (.int .i64 y.len)).setCell ⟨g,i * 15 + 6,none⟩ (.int .i64 fo)).setCell ⟨g,i * 15 + 6 + 1,none⟩ (.int .i64 op)).setCell ⟨g,i * 15 + 6 + 2,none⟩ (.int .i64 kd)).setCell ⟨g,i * 15 + 6 + 3,none⟩ (.int .i64 nn)).setCell ⟨g,i * 15 + 6 + 4,none⟩ (.string nm)).setCell ⟨g,i * 15 + 6 + 5,none⟩ (.string pt)).setCell ⟨g,i * 15 + 6 + 6,none⟩ (.int .i64 ia)).setCell ⟨g,i * 15 + 6 + 7,none⟩ (kv)).heap[Y]? = some (.cells ys 63) := (keepS (p := g) (i := i * 15 + 6 + 7) (v := kv) (keepS (p := g) (i := i * 15 + 6 + 6) (v := .int .i64 ia) (keepS (p := g) (i := i * 15 + 6 + 5) (v := .string pt) (keepS (p := g) (i := i * 15 + 6 + 4) (v := .string nm) (keepS (p := g) (i := i * 15 + 6 + 3) (v := .int .i64 nn) (keepS (p := g) (i := i * 15 + 6 + 2) (v := .int .i64 kd) (keepS (p := g) (i := i * 15 + 6 + 1) (v := .int .i64 op) (keepS (p := g) (i := i * 15 + 6) (v := .int .i64 fo) (keepS (p := g) (i := i * 15 + 5) (v := .int .i64 y.len) (keepS (p := g) (i := i * 15 + 4) (v := .int .i64 y.low) (keepS (p := g) (i := i * 15 + 3) (v := .string y.of) (keepS (p := g) (i := i * 15 + 2) (v := .int .i64 y.kind) YZ hgY) hgY) hgY) hgY) hgY) hgY) hgY) hgY) hgY) hgY) hgY) hgY)
 have f4 := Gv.put (k := kv) LZ (mid_len _ _ _ _ hi1 (Nat.le_of_lt hi)).symm (mid_at _ _ _ _ hi1 hi) (Nat.mul_comm i 15) hy hk
 rw [mid_set _ _ _ _ hi1 hi] at f4
 exact ⟨i + 1,by simp,⟨by omega,by omega,rfl⟩,f1.drew,gr_drew f2,by rw [drew_heap]; exact f3,f4.gn (gr_drew (World.grownBy.refl _ none))⟩
set_option maxRecDepth 10000 in
set_option maxHeartbeats 8000000 in
theorem dec_any (w0 w : World) (t : Tok) (C : Cx V F R s u w t) (hG : w0.grownBy w (some R)) (hR0 : R < w0.heap.size) (B : Nat) (hB0 : w0.heap.size ≤ B) (hB : B ≤ w.heap.size) (vs : List PV) (va : Option Addr) (vc : Nat) (hv : Gl kdV 63 15 w B (.slice va vs.length vc) vs) (hn : vs.length ≤ 200) (role : Int) :
 Calls Tryz.prog 69 #[rV R,.slice va vs.length vc,.int .i64 role] w (Out V F R s u w0 (decP F (s.size + 2) vs role t) (fun w' v l => Gl kdV 63 15 w' B v l ∧ l.length ≤ 200)) := by
 have HC : Hid (Cx V F R s u w t) := C
 have C0 := HC
 have G0 := hidI hG
 have HR : Hid (R < w.heap.size ∧ 15 ≤ w.heap.size ∧ 15 ≤ R ∧ R < w0.heap.size) := ⟨C.lt,C.sz,C.r15,hR0⟩
 have HB : Hid (w0.heap.size ≤ B ∧ B ≤ w.heap.size) := ⟨hB0,hB⟩
 have HV := hidI hv
 have HL := hidI hn
 clear C hG hR0 hB0 hB hv hn
 go_enter Tryz.func69,Tryz.ntmps69
 have LS : Hid (DeL V F R s u w0 w B vs.length role (decL F role (s.size + 2) vs t) (s.size + 3) (.slice va vs.length vc) (.bool true) (w.alloc (.cells #[pR R] 46))) :=
  ⟨vs,va,vc,t,true,rfl,rfl,HC.out.al _,gr_alloc G0.out _,new _ _,HV.out.gn (gr1 _ _),⟨by simp,Nat.le_refl _,HL.out⟩,fun g hg => by have := HV.out.lt g hg; omega,by have := HC.out.ok.1; omega,fun _ => ⟨by omega,by rw [Nat.sub_self]; rfl⟩,(fun h => by cases h)⟩
 go_wp2_with fail
 go_loopg [1,8] (s.size + 3) (fun gk s1 s8 wx => DeL V F R s u w0 w B vs.length role (decL F role (s.size + 2) vs t) gk s1 s8 wx)
 case atStart => exact LS.out
 case round =>
  obtain ⟨l,a,c,tk,m,rfl,rfl,CC,gg,hA,hX,⟨hq,hbl,hl2⟩,hne,hk,hm1,hm2⟩ := hrel
  have C1 := hidI CC
  have G1 := hidI gg
  have A1 := hidI hA
  have L1 := hidI hX
  have S1 := hidI (And.intro hq (And.intro hbl hl2))
  have Z1 := hidI (And.intro HR.out (And.intro HB.out (And.intro HL.out S1.out)))
  have NE := hidI hne
  have HK := hidI hk
  have HM1 := hidI hm1
  have HM2 := hidI hm2
  clear CC gg hA hX hq hbl hl2 hne hk hm1 hm2
  cases m with
  | false =>
   obtain ⟨_,hr⟩ := HM2.out rfl
   have HRr := hidI hr
   clear hr HM1 HM2
   obtain ⟨ap,aq,ar,af,ag,ah⟩ := facts A1.out
   go_wp2_with fail
   refine (needW C1.out _ [⟨#[58]⟩] _ _ _ (by simp) rfl rfl (by decide)).mono ?_
   intro e w2 h
   rcases h.get with ⟨_,t2,v2,r2,rfl,rfl,CC,g⟩ | ⟨cc,aa,r2,rfl,g⟩
   rotate_left
   · exact ⟨rfl,Out.bad (by rw [decP,HRr.out,bindOk]; (first | (rw [r2]; done) | (rw [r2]; rfl) | exact r2)) (gtr (gr_alloc G1.out _) g)⟩
   have L2 := hidI ((L1.out.gn (gr1 _ _)).g g (by have := Z1.out; omega))
   have A2 : Hid (w2.heap[w.heap.size]? = some (.cells #[pR R] 46)) := keptBut g (old A1.out _) (by have := Z1.out; omega)
   have G2 := hidI (gtr (gr_alloc G1.out _) g)
   have C2 := hidI CC
   have S2 : Hid (wr.heap.size + 1 ≤ w2.heap.size) := hidI (by have := g.size; first | omega | (simp at this; omega) | (simp at this ⊢; omega))
   have Z2 := hidI (And.intro HR.out (And.intro HB.out (And.intro HL.out (And.intro S1.out S2.out))))
   clear g CC h ap aq ar af ag ah
   obtain ⟨ap,aq,ar,af,ag,ah⟩ := facts A2.out
   go_wp2_with fail
   refine (typed_any C2.out).mono ?_
   intro e w3 h
   rcases h.get with ⟨yv,t3,v3,r3,rfl,⟨hv1,hv2⟩,CC,g⟩ | ⟨cc,aa,r3,rfl,g⟩
   rotate_left
   · exact ⟨rfl,Out.bad (by rw [decP,HRr.out,bindOk]; (first | rw [r2] | exact r2); try rw [bindOk]; (first | (rw [r3]; done) | (rw [r3]; rfl) | exact r3)) (gtr G2.out g)⟩
   have L3 := hidI ((L2.out).g g (by have := Z2.out; omega))
   have A3 : Hid (w3.heap[w.heap.size]? = some (.cells #[pR R] 46)) := keptBut g A2.out (by have := Z2.out; omega)
   have G3 := hidI (gtr G2.out g)
   have C3 := hidI CC
   have S3 : Hid (w2.heap.size + 0 ≤ w3.heap.size) := hidI (by have := g.size; first | omega | (simp at this; omega) | (simp at this ⊢; omega))
   have Z3 := hidI (And.intro HR.out (And.intro HB.out (And.intro HL.out (And.intro S1.out (And.intro S2.out S3.out)))))
   clear g CC h ap aq ar af ag ah
   obtain ⟨y1,y2,y3,y4,y5,y6,y7,y8⟩ := yv
   simp only at hv2
   subst hv2 hv1
   have HO := hidI L3.out.lt
   simp only [vC,xC,pe0,nob,List.cons_append,List.nil_append]
   obtain ⟨ap,aq,ar,af,ag,ah⟩ := facts A3.out
   go_wp2_with fail
   refine (tookW (C3.out.al _) _ [⟨#[58,61]⟩] _ _ _ (by simp) rfl rfl (by decide)).mono ?_
   intro e w4 h
   rcases h.get with ⟨b4,t4,v4,r4,rfl,rfl,CC,g⟩ | ⟨cc,aa,r4,rfl,g⟩
   rotate_left
   · exact ⟨rfl,Out.bad (by rw [decP,HRr.out,bindOk]; (first | rw [r2] | exact r2); try rw [bindOk]; (first | rw [r3] | exact r3); try rw [bindOk]; (first | (rw [r4]; done) | (rw [r4]; rfl) | exact r4)) (gtr (gr_alloc (gr_alloc G3.out _) _) g)⟩
   have L4 := hidI (((L3.out.gn (gr1 _ _)).gn (gr1 _ _)).g g (by have := Z3.out; omega))
   have A4 : Hid (w4.heap[w.heap.size]? = some (.cells #[pR R] 46)) := keptBut g (old (old A3.out _) _) (by have := Z3.out; omega)
   have Y4 : Hid (w4.heap[w3.heap.size]? = some (.cells #[.string y1,.int .i64 y2,.int .i64 y3,.string y4,.int .i64 y5,.int .i64 y6,.int .i64 0,.int .i64 0,.int .i64 0,.int .i64 0,.string ⟨#[]⟩,.string ⟨#[]⟩,.int .i64 0,.slice none 0 0,.int .i64 y8] 63)) := keptBut g (old (hp_new (by first | rfl | simp) _) _) (by have := Z3.out; omega)
   have G4 := hidI (gtr (gr_alloc (gr_alloc G3.out _) _) g)
   have C4 := hidI CC
   have S4 : Hid (w3.heap.size + 2 ≤ w4.heap.size) := hidI (by have := g.size; first | omega | (simp at this; omega) | (simp at this ⊢; omega))
   have Z4 := hidI (And.intro HR.out (And.intro HB.out (And.intro HL.out (And.intro S1.out (And.intro S2.out (And.intro S3.out S4.out))))))
   clear g CC h ap aq ar af ag ah
   cases b4
   · obtain ⟨ap,aq,ar,af,ag,ah⟩ := facts A4.out
     go_wp2_with fail
     refine (needW C4.out _ [⟨#[59]⟩] _ _ _ (by simp) rfl rfl (by decide)).mono ?_
     intro e w5 h
     rcases h.get with ⟨_,t5,v5,r5,rfl,rfl,CC,g⟩ | ⟨cc,aa,r5,rfl,g⟩
     rotate_left
     · exact ⟨rfl,Out.bad (by rw [decP,HRr.out,bindOk]; (first | rw [r2] | exact r2); try rw [bindOk]; (first | rw [r3] | exact r3); try rw [bindOk]; (first | rw [r4] | exact r4); try rw [bindOk]; rw [if_neg (by simp)]; rw [bindOk]; (first | (rw [r5]; done) | (rw [r5]; rfl) | exact r5)) (gtr (gr_alloc G4.out _) g)⟩
     have L5 := hidI ((Gl.gn L4.out (gr1 _ _)).g g (by have := Z4.out; omega))
     have A5 : Hid (w5.heap[w.heap.size]? = some (.cells #[pR R] 46)) := keptBut g (old A4.out _) (by have := Z4.out; omega)
     have Y5 : Hid (w5.heap[w3.heap.size]? = some (.cells #[.string y1,.int .i64 y2,.int .i64 y3,.string y4,.int .i64 y5,.int .i64 y6,.int .i64 0,.int .i64 0,.int .i64 0,.int .i64 0,.string ⟨#[]⟩,.string ⟨#[]⟩,.int .i64 0,.slice none 0 0,.int .i64 y8] 63)) := keptBut g (old Y4.out _) (by have := Z4.out; omega)
     have G5 := hidI (gtr (gr_alloc G4.out _) g)
     have C5 := hidI CC
     have S5 : Hid (w4.heap.size + 1 ≤ w5.heap.size) := hidI (by have := g.size; first | omega | (simp at this; omega) | (simp at this ⊢; omega))
     clear g CC h ap aq ar af ag ah
     obtain ⟨yy,hyy⟩ : ∃ y : PV,y = (⟨y1,y2,y3,y4,y5,y6,pe0,y8⟩ : PV) := ⟨_,rfl⟩
     have HP : Hid (decP F (s.size + 2) vs role t = .ok (l.take vs.length ++ (l.drop vs.length).map (·.like yy)) t5) := by
      show _ = _
      rw [hyy]
      rw [decP,HRr.out,bindOk]
      (first | rw [r2] | exact r2)
      try rw [bindOk]
      (first | rw [r3] | exact r3)
      try rw [bindOk]
      (first | rw [r4] | exact r4)
      try rw [bindOk]
      rw [if_neg (by simp)]
      rw [bindOk]
      (first | rw [r5] | exact r5)
      try rw [bindOk]
      first | done | rfl
     have LW : Hid (DwL V F R s u w0 B vs.length (w3.heap.size) t5 l yy a c #[.string y1,.int .i64 y2,.int .i64 y3,.string y4,.int .i64 y5,.int .i64 y6,.int .i64 0,.int .i64 0,.int .i64 0,.int .i64 0,.string ⟨#[]⟩,.string ⟨#[]⟩,.int .i64 0,.slice none 0 0,.int .i64 y8] (l.length + 1 - vs.length) (.int .i64 (vs.length : Int)) w5) :=
      ⟨vs.length,rfl,⟨Nat.le_refl _,S1.out.2.1,rfl⟩,C5.out,G5.out,by simpa using Y5.out,by rw [mid_0]; exact L5.out⟩
     have HYB : Hid (∀ g,(Value.slice a l.length c).ownBlock = some g → B ≤ g ∧ g < w3.heap.size) := fun g hg => HO.out g hg
     have YSZ : Hid (w3.heap.size < w5.heap.size) := at_lt Y5.out
     skip
     go_wp2_with fail
     go_loopg [11] (l.length + 1 - vs.length) (fun gk s11 wx => DwL V F R s u w0 B vs.length (w3.heap.size) t5 l yy a c #[.string y1,.int .i64 y2,.int .i64 y3,.string y4,.int .i64 y5,.int .i64 y6,.int .i64 0,.int .i64 0,.int .i64 0,.int .i64 0,.string ⟨#[]⟩,.string ⟨#[]⟩,.int .i64 0,.slice none 0 0,.int .i64 y8] gk s11 wx)
     case atStart => exact LW.out
     case round =>
      obtain ⟨i,rfl,⟨hi1,hi2,hgk⟩,CC,gg,hY,hX⟩ := hrel
      by_cases hi : i < l.length
      rotate_left
      · have hie : i = l.length := by omega
        have hlt : ¬ ((i : Int) < (l.length : Int)) := by omega
        subst hie
        have HH := hidI (And.intro CC (And.intro gg hX))
        clear CC gg hX hY
        go_wp2_with fail
        go_ret
        obtain ⟨CC,gg,hX⟩ := HH.out
        rw [mid_end _ _ _ S1.out.2.1] at hX
        refine Out.ok HP.out ⟨?_,by simp; have := S1.out; omega⟩ CC gg
        exact hX
      have hlt : ((i : Int) < (l.length : Int)) := by omega
      obtain ⟨g,rfl⟩ : ∃ g,a = some ⟨g,0,none⟩ := by
       obtain ⟨ks,_,⟨_,⟨hz,hz2⟩ | ⟨g,cap,cur,hz,_⟩⟩,_⟩ := hX
       · rw [mid_len _ _ _ _ hi1 hi2] at hz2; omega
       · injection hz with hz _ _; exact ⟨g,hz⟩
      have CZ := hidI CC
      have GZ := hidI gg
      have YZ := hidI hY
      have LZ := hidI hX
      have HGB := HYB.out g rfl
      have HGZ := hidI HGB
      clear CC gg hX HGB
      have CD := hidI CZ.out.drew
      have GD := hidI (gr_drew GZ.out)
      have YD : Hid (wr.drew.heap[w3.heap.size]? = some (.cells #[.string y1,.int .i64 y2,.int .i64 y3,.string y4,.int .i64 y5,.int .i64 y6,.int .i64 0,.int .i64 0,.int .i64 0,.int .i64 0,.string ⟨#[]⟩,.string ⟨#[]⟩,.int .i64 0,.slice none 0 0,.int .i64 y8] 63)) := YZ.out
      have LD := hidI (LZ.out.gn (gr_drew (World.grownBy.refl wr none)))
      go_wp2_with fail
      have hHeld : (fun w' : World => w'.cell? ⟨w3.heap.size,2,none⟩ = some (.int .i64 y3) ∧ w'.cell? ⟨w3.heap.size,3,none⟩ = some (.string y4) ∧ w'.cell? ⟨w3.heap.size,4,none⟩ = some (.int .i64 y5) ∧ w'.cell? ⟨w3.heap.size,5,none⟩ = some (.int .i64 y6) ∧ w'.cell? ⟨w3.heap.size,6,none⟩ = some (.int .i64 0) ∧ w'.cell? ⟨w3.heap.size,7,none⟩ = some (.int .i64 0) ∧ w'.cell? ⟨w3.heap.size,8,none⟩ = some (.int .i64 0) ∧ w'.cell? ⟨w3.heap.size,9,none⟩ = some (.int .i64 0) ∧ w'.cell? ⟨w3.heap.size,10,none⟩ = some (.string ⟨#[]⟩) ∧ w'.cell? ⟨w3.heap.size,11,none⟩ = some (.string ⟨#[]⟩) ∧ w'.cell? ⟨w3.heap.size,12,none⟩ = some (.int .i64 0) ∧ w'.cell? ⟨w3.heap.size,13,none⟩ = some (.slice none 0 0)) wr.drew := ⟨by simpa using at_cell (YD.out) 2,by simpa using at_cell (YD.out) 3,by simpa using at_cell (YD.out) 4,by simpa using at_cell (YD.out) 5,by simpa using at_cell (YD.out) 6,by simpa using at_cell (YD.out) 7,by simpa using at_cell (YD.out) 8,by simpa using at_cell (YD.out) 9,by simpa using at_cell (YD.out) 10,by simpa using at_cell (YD.out) 11,by simpa using at_cell (YD.out) 12,by simpa using at_cell (YD.out) 13⟩
      refine wp_region_L (L := 34) (S := (fun w' : World => w'.cell? ⟨w3.heap.size,2,none⟩ = some (.int .i64 y3) ∧ w'.cell? ⟨w3.heap.size,3,none⟩ = some (.string y4) ∧ w'.cell? ⟨w3.heap.size,4,none⟩ = some (.int .i64 y5) ∧ w'.cell? ⟨w3.heap.size,5,none⟩ = some (.int .i64 y6) ∧ w'.cell? ⟨w3.heap.size,6,none⟩ = some (.int .i64 0) ∧ w'.cell? ⟨w3.heap.size,7,none⟩ = some (.int .i64 0) ∧ w'.cell? ⟨w3.heap.size,8,none⟩ = some (.int .i64 0) ∧ w'.cell? ⟨w3.heap.size,9,none⟩ = some (.int .i64 0) ∧ w'.cell? ⟨w3.heap.size,10,none⟩ = some (.string ⟨#[]⟩) ∧ w'.cell? ⟨w3.heap.size,11,none⟩ = some (.string ⟨#[]⟩) ∧ w'.cell? ⟨w3.heap.size,12,none⟩ = some (.int .i64 0) ∧ w'.cell? ⟨w3.heap.size,13,none⟩ = some (.slice none 0 0))) (by kernel_rfl) ?_
      refine wpAnyL_free (i := 0) (oi := { dst := Option.some 63, op := Op.move (.tmp 1), type := 30, pos := "units.go:74", after := #[], guard := Option.none }) (v := ?_) rfl (by kernel_rfl) (by kernel_rfl) (by kernel_rfl) (fun _ _ _ h => h) (by decide) (Or.inl ⟨by rfl, ?_⟩) (fun _ => hHeld) ?_
      rotate_left
      · intro w hSw
        go_simp
        try with_reducible rfl
      try simp only [Act.put,List.setIfInBounds_toArray,List.set_cons_zero,List.set_cons_succ]
      refine wpAnyL_free (i := 1) (oi := { dst := Option.some 64, op := Op.move (.tmp 11), type := 3, pos := "units.go:74", after := #[], guard := Option.none }) (v := ?_) rfl (by kernel_rfl) (by kernel_rfl) (by kernel_rfl) (fun _ _ _ h => h) (by decide) (Or.inl ⟨by rfl, ?_⟩) (fun _ => hHeld) ?_
      rotate_left
      · intro w hSw
        go_simp
        try with_reducible rfl
      try simp only [Act.put,List.setIfInBounds_toArray,List.set_cons_zero,List.set_cons_succ]
      refine wpAnyL_free (i := 2) (oi := { dst := Option.some 65, op := Op.move (.tmp 1), type := 30, pos := "units.go:74", after := #[{ on := 22, ground := Ground.gcOnly Departure.lateStores }], guard := Option.none }) (v := ?_) rfl (by kernel_rfl) (by kernel_rfl) (by kernel_rfl) (fun _ _ _ h => h) (by decide) (Or.inl ⟨by rfl, ?_⟩) (fun _ => hHeld) ?_
      rotate_left
      · intro w hSw
        go_simp
        try with_reducible rfl
      try simp only [Act.put,List.setIfInBounds_toArray,List.set_cons_zero,List.set_cons_succ]
      refine wpAnyL_free (i := 3) (oi := { dst := Option.some 66, op := Op.move (.tmp 11), type := 3, pos := "units.go:74", after := #[{ on := 22, ground := Ground.gcOnly Departure.lateStores }], guard := Option.none }) (v := ?_) rfl (by kernel_rfl) (by kernel_rfl) (by kernel_rfl) (fun _ _ _ h => h) (by decide) (Or.inl ⟨by rfl, ?_⟩) (fun _ => hHeld) ?_
      rotate_left
      · intro w hSw
        go_simp
        try with_reducible rfl
      try simp only [Act.put,List.setIfInBounds_toArray,List.set_cons_zero,List.set_cons_succ]
      refine wpAnyL_free (i := 4) (oi := { dst := Option.some 67, op := Op.move (.tmp 1), type := 30, pos := "units.go:74", after := #[{ on := 25, ground := Ground.gcOnly Departure.lateStores }], guard := Option.none }) (v := ?_) rfl (by kernel_rfl) (by kernel_rfl) (by kernel_rfl) (fun _ _ _ h => h) (by decide) (Or.inl ⟨by rfl, ?_⟩) (fun _ => hHeld) ?_
      rotate_left
      · intro w hSw
        go_simp
        try with_reducible rfl
      try simp only [Act.put,List.setIfInBounds_toArray,List.set_cons_zero,List.set_cons_succ]
      refine wpAnyL_free (i := 5) (oi := { dst := Option.some 68, op := Op.move (.tmp 11), type := 3, pos := "units.go:74", after := #[{ on := 25, ground := Ground.gcOnly Departure.lateStores }], guard := Option.none }) (v := ?_) rfl (by kernel_rfl) (by kernel_rfl) (by kernel_rfl) (fun _ _ _ h => h) (by decide) (Or.inl ⟨by rfl, ?_⟩) (fun _ => hHeld) ?_
      rotate_left
      · intro w hSw
        go_simp
        try with_reducible rfl
      try simp only [Act.put,List.setIfInBounds_toArray,List.set_cons_zero,List.set_cons_succ]
      refine wpAnyL_free (i := 6) (oi := { dst := Option.some 69, op := Op.move (.tmp 1), type := 30, pos := "units.go:74", after := #[{ on := 28, ground := Ground.gcOnly Departure.lateStores }], guard := Option.none }) (v := ?_) rfl (by kernel_rfl) (by kernel_rfl) (by kernel_rfl) (fun _ _ _ h => h) (by decide) (Or.inl ⟨by rfl, ?_⟩) (fun _ => hHeld) ?_
      rotate_left
      · intro w hSw
        go_simp
        try with_reducible rfl
      try simp only [Act.put,List.setIfInBounds_toArray,List.set_cons_zero,List.set_cons_succ]
      refine wpAnyL_free (i := 7) (oi := { dst := Option.some 70, op := Op.move (.tmp 11), type := 3, pos := "units.go:74", after := #[{ on := 28, ground := Ground.gcOnly Departure.lateStores }], guard := Option.none }) (v := ?_) rfl (by kernel_rfl) (by kernel_rfl) (by kernel_rfl) (fun _ _ _ h => h) (by decide) (Or.inl ⟨by rfl, ?_⟩) (fun _ => hHeld) ?_
      rotate_left
      · intro w hSw
        go_simp
        try with_reducible rfl
      try simp only [Act.put,List.setIfInBounds_toArray,List.set_cons_zero,List.set_cons_succ]
      refine wpAnyL_free (i := 8) (oi := { dst := Option.some 71, op := Op.move (.tmp 1), type := 30, pos := "units.go:74", after := #[{ on := 31, ground := Ground.gcOnly Departure.lateStores }], guard := Option.none }) (v := ?_) rfl (by kernel_rfl) (by kernel_rfl) (by kernel_rfl) (fun _ _ _ h => h) (by decide) (Or.inl ⟨by rfl, ?_⟩) (fun _ => hHeld) ?_
      rotate_left
      · intro w hSw
        go_simp
        try with_reducible rfl
      try simp only [Act.put,List.setIfInBounds_toArray,List.set_cons_zero,List.set_cons_succ]
      refine wpAnyL_free (i := 9) (oi := { dst := Option.some 72, op := Op.move (.tmp 11), type := 3, pos := "units.go:74", after := #[{ on := 31, ground := Ground.gcOnly Departure.lateStores }], guard := Option.none }) (v := ?_) rfl (by kernel_rfl) (by kernel_rfl) (by kernel_rfl) (fun _ _ _ h => h) (by decide) (Or.inl ⟨by rfl, ?_⟩) (fun _ => hHeld) ?_
      rotate_left
      · intro w hSw
        go_simp
        try with_reducible rfl
      try simp only [Act.put,List.setIfInBounds_toArray,List.set_cons_zero,List.set_cons_succ]
      refine wpAnyL_free (i := 10) (oi := { dst := Option.some 73, op := Op.fieldAddr 63 (.tmp 10) 2, type := 0, pos := "units.go:74", after := #[], guard := Option.none }) (v := ?_) rfl (by kernel_rfl) (by kernel_rfl) (by kernel_rfl) (fun _ _ _ h => h) (by decide) (Or.inl ⟨by rfl, ?_⟩) (fun _ => hHeld) ?_
      rotate_left
      · intro w hSw
        go_simp
        try with_reducible rfl
      try simp only [Act.put,List.setIfInBounds_toArray,List.set_cons_zero,List.set_cons_succ]
      refine wpAnyL_take (i := 11) (oi := { dst := Option.some 74, op := Op.load 29 (.tmp 73), type := 29, pos := "units.go:74", after := #[⟨10, .data⟩], guard := Option.none }) (v := ?_) rfl (by kernel_rfl) (by kernel_rfl) (by kernel_rfl) (fun _ _ _ h => h) (by kernel_rfl) (by kernel_rfl) (Or.inl ⟨by rfl, ?_⟩) hHeld ?_
      rotate_left
      · intro w hSw
        try dsimp only at hSw
        go_simp
        try with_reducible rfl
      try simp only [Act.put,List.setIfInBounds_toArray,List.set_cons_zero,List.set_cons_succ]
      refine wpAnyL_free (i := 12) (oi := { dst := Option.some 75, op := Op.fieldAddr 63 (.tmp 10) 3, type := 0, pos := "units.go:74", after := #[{ on := 22, ground := Ground.gcOnly Departure.lateStores }], guard := Option.none }) (v := ?_) rfl (by kernel_rfl) (by kernel_rfl) (by kernel_rfl) (fun _ _ _ h => h) (by decide) (Or.inl ⟨by rfl, ?_⟩) (fun _ => hHeld) ?_
      rotate_left
      · intro w hSw
        go_simp
        try with_reducible rfl
      try simp only [Act.put,List.setIfInBounds_toArray,List.set_cons_zero,List.set_cons_succ]
      refine wpAnyL_take (i := 13) (oi := { dst := Option.some 76, op := Op.load 9 (.tmp 75), type := 9, pos := "units.go:74", after := #[⟨12, .data⟩, { on := 22, ground := Ground.gcOnly Departure.lateStores }], guard := Option.none }) (v := ?_) rfl (by kernel_rfl) (by kernel_rfl) (by kernel_rfl) (fun _ _ _ h => h) (by kernel_rfl) (by kernel_rfl) (Or.inl ⟨by rfl, ?_⟩) hHeld ?_
      rotate_left
      · intro w hSw
        try dsimp only at hSw
        go_simp
        try with_reducible rfl
      try simp only [Act.put,List.setIfInBounds_toArray,List.set_cons_zero,List.set_cons_succ]
      refine wpAnyL_free (i := 14) (oi := { dst := Option.some 77, op := Op.fieldAddr 63 (.tmp 10) 4, type := 0, pos := "units.go:74", after := #[{ on := 25, ground := Ground.gcOnly Departure.lateStores }], guard := Option.none }) (v := ?_) rfl (by kernel_rfl) (by kernel_rfl) (by kernel_rfl) (fun _ _ _ h => h) (by decide) (Or.inl ⟨by rfl, ?_⟩) (fun _ => hHeld) ?_
      rotate_left
      · intro w hSw
        go_simp
        try with_reducible rfl
      try simp only [Act.put,List.setIfInBounds_toArray,List.set_cons_zero,List.set_cons_succ]
      refine wpAnyL_take (i := 15) (oi := { dst := Option.some 78, op := Op.load 3 (.tmp 77), type := 3, pos := "units.go:74", after := #[⟨14, .data⟩, { on := 25, ground := Ground.gcOnly Departure.lateStores }], guard := Option.none }) (v := ?_) rfl (by kernel_rfl) (by kernel_rfl) (by kernel_rfl) (fun _ _ _ h => h) (by kernel_rfl) (by kernel_rfl) (Or.inl ⟨by rfl, ?_⟩) hHeld ?_
      rotate_left
      · intro w hSw
        try dsimp only at hSw
        go_simp
        try with_reducible rfl
      try simp only [Act.put,List.setIfInBounds_toArray,List.set_cons_zero,List.set_cons_succ]
      refine wpAnyL_free (i := 16) (oi := { dst := Option.some 79, op := Op.fieldAddr 63 (.tmp 10) 5, type := 0, pos := "units.go:74", after := #[{ on := 28, ground := Ground.gcOnly Departure.lateStores }], guard := Option.none }) (v := ?_) rfl (by kernel_rfl) (by kernel_rfl) (by kernel_rfl) (fun _ _ _ h => h) (by decide) (Or.inl ⟨by rfl, ?_⟩) (fun _ => hHeld) ?_
      rotate_left
      · intro w hSw
        go_simp
        try with_reducible rfl
      try simp only [Act.put,List.setIfInBounds_toArray,List.set_cons_zero,List.set_cons_succ]
      refine wpAnyL_take (i := 17) (oi := { dst := Option.some 80, op := Op.load 3 (.tmp 79), type := 3, pos := "units.go:74", after := #[⟨16, .data⟩, { on := 28, ground := Ground.gcOnly Departure.lateStores }], guard := Option.none }) (v := ?_) rfl (by kernel_rfl) (by kernel_rfl) (by kernel_rfl) (fun _ _ _ h => h) (by kernel_rfl) (by kernel_rfl) (Or.inl ⟨by rfl, ?_⟩) hHeld ?_
      rotate_left
      · intro w hSw
        try dsimp only at hSw
        go_simp
        try with_reducible rfl
      try simp only [Act.put,List.setIfInBounds_toArray,List.set_cons_zero,List.set_cons_succ]
      refine wpAnyL_free (i := 18) (oi := { dst := Option.some 81, op := Op.fieldAddr 63 (.tmp 10) 6, type := 0, pos := "units.go:74", after := #[{ on := 31, ground := Ground.gcOnly Departure.lateStores }], guard := Option.none }) (v := ?_) rfl (by kernel_rfl) (by kernel_rfl) (by kernel_rfl) (fun _ _ _ h => h) (by decide) (Or.inl ⟨by rfl, ?_⟩) (fun _ => hHeld) ?_
      rotate_left
      · intro w hSw
        go_simp
        try with_reducible rfl
      try simp only [Act.put,List.setIfInBounds_toArray,List.set_cons_zero,List.set_cons_succ]
      refine wpAnyL_take (i := 19) (oi := { dst := Option.some 82, op := Op.load 61 (.tmp 81), type := 61, pos := "units.go:74", after := #[⟨18, .data⟩, { on := 31, ground := Ground.gcOnly Departure.lateStores }], guard := Option.none }) (v := ?_) rfl (by kernel_rfl) (by kernel_rfl) (by kernel_rfl) (fun _ _ _ h => h) (by kernel_rfl) (by kernel_rfl) (Or.inl ⟨by rfl, ?_⟩) hHeld ?_
      rotate_left
      · intro w hSw
        try dsimp only at hSw
        go_simp
        try with_reducible rfl
      try simp only [Act.put,List.setIfInBounds_toArray,List.set_cons_zero,List.set_cons_succ]
      obtain ⟨cur,hcur,hcs⟩ : ∃ cur : Array Value,wr.heap[g]? = some (.cells cur 63) ∧ l.length * 15 ≤ cur.size := by
       obtain ⟨ks,_,⟨_,⟨hz,_⟩ | ⟨g2,cap,cur,hz,_,hh,hcap,_,hsz,_⟩⟩,_⟩ := LZ.out
       · cases hz
       · injection hz with hz hz1 hz2; injection hz with hz; injection hz with hz; subst hz
         rw [mid_len _ _ _ _ hi1 hi2] at hcap
         exact ⟨cur,hh,by rw [hsz]; exact Nat.mul_le_mul_right 15 hcap⟩
      have HW0 : Hid (wr.drew.heap[g]? = some (.cells cur 63)) := hcur
      have hz0 := at_frozen hcur
      have hc2 : wr.cell? ⟨g,i * 15 + 2,none⟩ = some (cur[i * 15 + 2]'(by omega)) := by rw [at_cell hcur]; exact Array.getElem?_eq_getElem _
      have hc3 : wr.cell? ⟨g,i * 15 + 3,none⟩ = some (cur[i * 15 + 3]'(by omega)) := by rw [at_cell hcur]; exact Array.getElem?_eq_getElem _
      have hc4 : wr.cell? ⟨g,i * 15 + 4,none⟩ = some (cur[i * 15 + 4]'(by omega)) := by rw [at_cell hcur]; exact Array.getElem?_eq_getElem _
      have hc5 : wr.cell? ⟨g,i * 15 + 5,none⟩ = some (cur[i * 15 + 5]'(by omega)) := by rw [at_cell hcur]; exact Array.getElem?_eq_getElem _
      have hc6 : wr.cell? ⟨g,i * 15 + 6,none⟩ = some (cur[i * 15 + 6]'(by omega)) := by rw [at_cell hcur]; exact Array.getElem?_eq_getElem _
      have hc7 : wr.cell? ⟨g,i * 15 + 7,none⟩ = some (cur[i * 15 + 7]'(by omega)) := by rw [at_cell hcur]; exact Array.getElem?_eq_getElem _
      have hc8 : wr.cell? ⟨g,i * 15 + 8,none⟩ = some (cur[i * 15 + 8]'(by omega)) := by rw [at_cell hcur]; exact Array.getElem?_eq_getElem _
      have hc9 : wr.cell? ⟨g,i * 15 + 9,none⟩ = some (cur[i * 15 + 9]'(by omega)) := by rw [at_cell hcur]; exact Array.getElem?_eq_getElem _
      have hc10 : wr.cell? ⟨g,i * 15 + 10,none⟩ = some (cur[i * 15 + 10]'(by omega)) := by rw [at_cell hcur]; exact Array.getElem?_eq_getElem _
      have hc11 : wr.cell? ⟨g,i * 15 + 11,none⟩ = some (cur[i * 15 + 11]'(by omega)) := by rw [at_cell hcur]; exact Array.getElem?_eq_getElem _
      have hc12 : wr.cell? ⟨g,i * 15 + 12,none⟩ = some (cur[i * 15 + 12]'(by omega)) := by rw [at_cell hcur]; exact Array.getElem?_eq_getElem _
      have hc13 : wr.cell? ⟨g,i * 15 + 13,none⟩ = some (cur[i * 15 + 13]'(by omega)) := by rw [at_cell hcur]; exact Array.getElem?_eq_getElem _
      refine wpAnyL_free (i := 20) (oi := { dst := Option.some 83, op := Op.indexAddr 30 (.tmp 63) (.tmp 64), type := 0, pos := "units.go:74", after := #[⟨0, .data⟩, ⟨1, .data⟩, ⟨0, .phase⟩, ⟨1, .phase⟩, { on := 2, ground := Ground.textOnly Departure.lateStores }, { on := 3, ground := Ground.textOnly Departure.lateStores }, { on := 4, ground := Ground.textOnly Departure.lateStores }, { on := 5, ground := Ground.textOnly Departure.lateStores }, { on := 6, ground := Ground.textOnly Departure.lateStores }, { on := 7, ground := Ground.textOnly Departure.lateStores }, { on := 8, ground := Ground.textOnly Departure.lateStores }, { on := 9, ground := Ground.textOnly Departure.lateStores }, ⟨10, .phase⟩, ⟨11, .phase⟩, { on := 12, ground := Ground.textOnly Departure.lateStores }, { on := 13, ground := Ground.textOnly Departure.lateStores }, { on := 14, ground := Ground.textOnly Departure.lateStores }, { on := 15, ground := Ground.textOnly Departure.lateStores }, { on := 16, ground := Ground.textOnly Departure.lateStores }, { on := 17, ground := Ground.textOnly Departure.lateStores }, { on := 18, ground := Ground.textOnly Departure.lateStores }, { on := 19, ground := Ground.textOnly Departure.lateStores }], guard := Option.none }) (v := ?_) rfl (by kernel_rfl) (by kernel_rfl) (by kernel_rfl) (fun _ _ _ h => h) (by decide) (Or.inl ⟨by rfl, ?_⟩) (fun _ => hHeld) ?_
      rotate_left
      · intro w hSw
        go_simp
        try with_reducible rfl
      try simp only [Act.put,List.setIfInBounds_toArray,List.set_cons_zero,List.set_cons_succ]
      refine wpAnyL_free (i := 21) (oi := { dst := Option.some 84, op := Op.fieldAddr 63 (.tmp 83) 2, type := 0, pos := "units.go:74", after := #[⟨20, .data⟩, ⟨0, .phase⟩, ⟨1, .phase⟩, { on := 2, ground := Ground.textOnly Departure.lateStores }, { on := 3, ground := Ground.textOnly Departure.lateStores }, { on := 4, ground := Ground.textOnly Departure.lateStores }, { on := 5, ground := Ground.textOnly Departure.lateStores }, { on := 6, ground := Ground.textOnly Departure.lateStores }, { on := 7, ground := Ground.textOnly Departure.lateStores }, { on := 8, ground := Ground.textOnly Departure.lateStores }, { on := 9, ground := Ground.textOnly Departure.lateStores }, ⟨10, .phase⟩, ⟨11, .phase⟩, { on := 12, ground := Ground.textOnly Departure.lateStores }, { on := 13, ground := Ground.textOnly Departure.lateStores }, { on := 14, ground := Ground.textOnly Departure.lateStores }, { on := 15, ground := Ground.textOnly Departure.lateStores }, { on := 16, ground := Ground.textOnly Departure.lateStores }, { on := 17, ground := Ground.textOnly Departure.lateStores }, { on := 18, ground := Ground.textOnly Departure.lateStores }, { on := 19, ground := Ground.textOnly Departure.lateStores }], guard := Option.none }) (v := ?_) rfl (by kernel_rfl) (by kernel_rfl) (by kernel_rfl) (fun _ _ _ h => h) (by decide) (Or.inl ⟨by rfl, ?_⟩) (fun _ => hHeld) ?_
      rotate_left
      · intro w hSw
        go_simp
        try with_reducible rfl
      try simp only [Act.put,List.setIfInBounds_toArray,List.set_cons_zero,List.set_cons_succ]
      have hgY : w3.heap.size ≠ g := by have := HGZ.out; omega
      have hgR : g ≠ R := by have := HGZ.out; have := HB.out; have := HR.out; omega
      have hg15 : 15 ≤ g := by have := HGZ.out; have := HB.out; have := HR.out; omega
      have hg0 : w0.heap.size ≤ g := by have := HGZ.out; have := HB.out; omega
      have HGS := hidI (And.intro hgY (And.intro hgR (And.intro hg15 hg0)))
      clear hgY hgR hg15 hg0
      have hHeld0 : (fun w' : World => w'.cell? ⟨w3.heap.size,2,none⟩ = some (.int .i64 y3) ∧ w'.cell? ⟨w3.heap.size,3,none⟩ = some (.string y4) ∧ w'.cell? ⟨w3.heap.size,4,none⟩ = some (.int .i64 y5) ∧ w'.cell? ⟨w3.heap.size,5,none⟩ = some (.int .i64 y6) ∧ w'.cell? ⟨w3.heap.size,6,none⟩ = some (.int .i64 0) ∧ w'.cell? ⟨w3.heap.size,7,none⟩ = some (.int .i64 0) ∧ w'.cell? ⟨w3.heap.size,8,none⟩ = some (.int .i64 0) ∧ w'.cell? ⟨w3.heap.size,9,none⟩ = some (.int .i64 0) ∧ w'.cell? ⟨w3.heap.size,10,none⟩ = some (.string ⟨#[]⟩) ∧ w'.cell? ⟨w3.heap.size,11,none⟩ = some (.string ⟨#[]⟩) ∧ w'.cell? ⟨w3.heap.size,12,none⟩ = some (.int .i64 0) ∧ w'.cell? ⟨w3.heap.size,13,none⟩ = some (.slice none 0 0)) (wr.setCell ⟨g,i * 15 + 2,none⟩ (.int .i64 y3)).drew := by
       obtain ⟨hgY,_,_,_⟩ := HGS.out
       have hy2 : (wr.setCell ⟨g,i * 15 + 2,none⟩ (.int .i64 y3)).drew.heap[w3.heap.size]? = some (.cells #[.string y1,.int .i64 y2,.int .i64 y3,.string y4,.int .i64 y5,.int .i64 y6,.int .i64 0,.int .i64 0,.int .i64 0,.int .i64 0,.string ⟨#[]⟩,.string ⟨#[]⟩,.int .i64 0,.slice none 0 0,.int .i64 y8] 63) := (keepS (p := g) (i := i * 15 + 2) (v := .int .i64 y3) YZ.out hgY)
       exact ⟨by simpa using at_cell (hy2) 2,by simpa using at_cell (hy2) 3,by simpa using at_cell (hy2) 4,by simpa using at_cell (hy2) 5,by simpa using at_cell (hy2) 6,by simpa using at_cell (hy2) 7,by simpa using at_cell (hy2) 8,by simpa using at_cell (hy2) 9,by simpa using at_cell (hy2) 10,by simpa using at_cell (hy2) 11,by simpa using at_cell (hy2) 12,by simpa using at_cell (hy2) 13⟩
      refine wpAnyL_one (j := 22) (o := { dst := Option.none, op := Op.store 29 (.tmp 84) (.tmp 74), type := 0, pos := "units.go:74", after := #[⟨21, .data⟩, ⟨11, .data⟩, ⟨0, .phase⟩, ⟨1, .phase⟩, { on := 2, ground := Ground.textOnly Departure.lateStores }, { on := 3, ground := Ground.textOnly Departure.lateStores }, { on := 4, ground := Ground.textOnly Departure.lateStores }, { on := 5, ground := Ground.textOnly Departure.lateStores }, { on := 6, ground := Ground.textOnly Departure.lateStores }, { on := 7, ground := Ground.textOnly Departure.lateStores }, { on := 8, ground := Ground.textOnly Departure.lateStores }, { on := 9, ground := Ground.textOnly Departure.lateStores }, ⟨10, .phase⟩, ⟨11, .phase⟩, { on := 12, ground := Ground.textOnly Departure.lateStores }, { on := 13, ground := Ground.textOnly Departure.lateStores }, { on := 14, ground := Ground.textOnly Departure.lateStores }, { on := 15, ground := Ground.textOnly Departure.lateStores }, { on := 16, ground := Ground.textOnly Departure.lateStores }, { on := 17, ground := Ground.textOnly Departure.lateStores }, { on := 18, ground := Ground.textOnly Departure.lateStores }, { on := 19, ground := Ground.textOnly Departure.lateStores }], guard := Option.none }) (by kernel_rfl) rfl (fun K hK => ?_)
      go_simp
      refine hK.out _ _ (fun _ _ => hHeld0) ?_
      clear hK K
      try simp only [Act.put,List.setIfInBounds_toArray,List.set_cons_zero,List.set_cons_succ]
      refine wpAnyL_free (i := 23) (oi := { dst := Option.some 85, op := Op.indexAddr 30 (.tmp 65) (.tmp 66), type := 0, pos := "units.go:74", after := #[⟨2, .data⟩, ⟨3, .data⟩, ⟨0, .phase⟩, ⟨1, .phase⟩, ⟨2, .phase⟩, ⟨3, .phase⟩, { on := 4, ground := Ground.textOnly Departure.lateStores }, { on := 5, ground := Ground.textOnly Departure.lateStores }, { on := 6, ground := Ground.textOnly Departure.lateStores }, { on := 7, ground := Ground.textOnly Departure.lateStores }, { on := 8, ground := Ground.textOnly Departure.lateStores }, { on := 9, ground := Ground.textOnly Departure.lateStores }, ⟨10, .phase⟩, ⟨11, .phase⟩, ⟨12, .phase⟩, ⟨13, .phase⟩, { on := 14, ground := Ground.textOnly Departure.lateStores }, { on := 15, ground := Ground.textOnly Departure.lateStores }, { on := 16, ground := Ground.textOnly Departure.lateStores }, { on := 17, ground := Ground.textOnly Departure.lateStores }, { on := 18, ground := Ground.textOnly Departure.lateStores }, { on := 19, ground := Ground.textOnly Departure.lateStores }, ⟨20, .phase⟩, ⟨21, .phase⟩, ⟨22, .phase⟩], guard := Option.none }) (v := ?_) rfl (by kernel_rfl) (by kernel_rfl) (by kernel_rfl) (fun _ _ _ h => h) (by decide) (Or.inl ⟨by rfl, ?_⟩) (fun _ => hHeld0) ?_
      rotate_left
      · intro w hSw
        go_simp
        try with_reducible rfl
      try simp only [Act.put,List.setIfInBounds_toArray,List.set_cons_zero,List.set_cons_succ]
      refine wpAnyL_free (i := 24) (oi := { dst := Option.some 86, op := Op.fieldAddr 63 (.tmp 85) 3, type := 0, pos := "units.go:74", after := #[⟨23, .data⟩, ⟨0, .phase⟩, ⟨1, .phase⟩, ⟨2, .phase⟩, ⟨3, .phase⟩, { on := 4, ground := Ground.textOnly Departure.lateStores }, { on := 5, ground := Ground.textOnly Departure.lateStores }, { on := 6, ground := Ground.textOnly Departure.lateStores }, { on := 7, ground := Ground.textOnly Departure.lateStores }, { on := 8, ground := Ground.textOnly Departure.lateStores }, { on := 9, ground := Ground.textOnly Departure.lateStores }, ⟨10, .phase⟩, ⟨11, .phase⟩, ⟨12, .phase⟩, ⟨13, .phase⟩, { on := 14, ground := Ground.textOnly Departure.lateStores }, { on := 15, ground := Ground.textOnly Departure.lateStores }, { on := 16, ground := Ground.textOnly Departure.lateStores }, { on := 17, ground := Ground.textOnly Departure.lateStores }, { on := 18, ground := Ground.textOnly Departure.lateStores }, { on := 19, ground := Ground.textOnly Departure.lateStores }, ⟨20, .phase⟩, ⟨21, .phase⟩, ⟨22, .phase⟩], guard := Option.none }) (v := ?_) rfl (by kernel_rfl) (by kernel_rfl) (by kernel_rfl) (fun _ _ _ h => h) (by decide) (Or.inl ⟨by rfl, ?_⟩) (fun _ => hHeld0) ?_
      rotate_left
      · intro w hSw
        go_simp
        try with_reducible rfl
      try simp only [Act.put,List.setIfInBounds_toArray,List.set_cons_zero,List.set_cons_succ]
      have hHeld1 : (fun w' : World => w'.cell? ⟨w3.heap.size,2,none⟩ = some (.int .i64 y3) ∧ w'.cell? ⟨w3.heap.size,3,none⟩ = some (.string y4) ∧ w'.cell? ⟨w3.heap.size,4,none⟩ = some (.int .i64 y5) ∧ w'.cell? ⟨w3.heap.size,5,none⟩ = some (.int .i64 y6) ∧ w'.cell? ⟨w3.heap.size,6,none⟩ = some (.int .i64 0) ∧ w'.cell? ⟨w3.heap.size,7,none⟩ = some (.int .i64 0) ∧ w'.cell? ⟨w3.heap.size,8,none⟩ = some (.int .i64 0) ∧ w'.cell? ⟨w3.heap.size,9,none⟩ = some (.int .i64 0) ∧ w'.cell? ⟨w3.heap.size,10,none⟩ = some (.string ⟨#[]⟩) ∧ w'.cell? ⟨w3.heap.size,11,none⟩ = some (.string ⟨#[]⟩) ∧ w'.cell? ⟨w3.heap.size,12,none⟩ = some (.int .i64 0) ∧ w'.cell? ⟨w3.heap.size,13,none⟩ = some (.slice none 0 0)) ((wr.setCell ⟨g,i * 15 + 2,none⟩ (.int .i64 y3)).setCell ⟨g,i * 15 + 3,none⟩ (.string y4)).drew := by
       obtain ⟨hgY,_,_,_⟩ := HGS.out
       have hy2 : ((wr.setCell ⟨g,i * 15 + 2,none⟩ (.int .i64 y3)).setCell ⟨g,i * 15 + 3,none⟩ (.string y4)).drew.heap[w3.heap.size]? = some (.cells #[.string y1,.int .i64 y2,.int .i64 y3,.string y4,.int .i64 y5,.int .i64 y6,.int .i64 0,.int .i64 0,.int .i64 0,.int .i64 0,.string ⟨#[]⟩,.string ⟨#[]⟩,.int .i64 0,.slice none 0 0,.int .i64 y8] 63) := (keepS (p := g) (i := i * 15 + 3) (v := .string y4) (keepS (p := g) (i := i * 15 + 2) (v := .int .i64 y3) YZ.out hgY) hgY)
       exact ⟨by simpa using at_cell (hy2) 2,by simpa using at_cell (hy2) 3,by simpa using at_cell (hy2) 4,by simpa using at_cell (hy2) 5,by simpa using at_cell (hy2) 6,by simpa using at_cell (hy2) 7,by simpa using at_cell (hy2) 8,by simpa using at_cell (hy2) 9,by simpa using at_cell (hy2) 10,by simpa using at_cell (hy2) 11,by simpa using at_cell (hy2) 12,by simpa using at_cell (hy2) 13⟩
      refine wpAnyL_one (j := 25) (o := { dst := Option.none, op := Op.store 9 (.tmp 86) (.tmp 76), type := 0, pos := "units.go:74", after := #[⟨24, .data⟩, ⟨13, .data⟩, ⟨22, .chain⟩, ⟨0, .phase⟩, ⟨1, .phase⟩, ⟨2, .phase⟩, ⟨3, .phase⟩, { on := 4, ground := Ground.textOnly Departure.lateStores }, { on := 5, ground := Ground.textOnly Departure.lateStores }, { on := 6, ground := Ground.textOnly Departure.lateStores }, { on := 7, ground := Ground.textOnly Departure.lateStores }, { on := 8, ground := Ground.textOnly Departure.lateStores }, { on := 9, ground := Ground.textOnly Departure.lateStores }, ⟨10, .phase⟩, ⟨11, .phase⟩, ⟨12, .phase⟩, ⟨13, .phase⟩, { on := 14, ground := Ground.textOnly Departure.lateStores }, { on := 15, ground := Ground.textOnly Departure.lateStores }, { on := 16, ground := Ground.textOnly Departure.lateStores }, { on := 17, ground := Ground.textOnly Departure.lateStores }, { on := 18, ground := Ground.textOnly Departure.lateStores }, { on := 19, ground := Ground.textOnly Departure.lateStores }, ⟨20, .phase⟩, ⟨21, .phase⟩, ⟨22, .phase⟩], guard := Option.none }) (by kernel_rfl) rfl (fun K hK => ?_)
      go_simp
      refine hK.out _ _ (fun _ _ => hHeld1) ?_
      clear hK K
      try simp only [Act.put,List.setIfInBounds_toArray,List.set_cons_zero,List.set_cons_succ]
      refine wpAnyL_free (i := 26) (oi := { dst := Option.some 87, op := Op.indexAddr 30 (.tmp 67) (.tmp 68), type := 0, pos := "units.go:74", after := #[⟨4, .data⟩, ⟨5, .data⟩, ⟨0, .phase⟩, ⟨1, .phase⟩, ⟨2, .phase⟩, ⟨3, .phase⟩, ⟨4, .phase⟩, ⟨5, .phase⟩, { on := 6, ground := Ground.textOnly Departure.lateStores }, { on := 7, ground := Ground.textOnly Departure.lateStores }, { on := 8, ground := Ground.textOnly Departure.lateStores }, { on := 9, ground := Ground.textOnly Departure.lateStores }, ⟨10, .phase⟩, ⟨11, .phase⟩, ⟨12, .phase⟩, ⟨13, .phase⟩, ⟨14, .phase⟩, ⟨15, .phase⟩, { on := 16, ground := Ground.textOnly Departure.lateStores }, { on := 17, ground := Ground.textOnly Departure.lateStores }, { on := 18, ground := Ground.textOnly Departure.lateStores }, { on := 19, ground := Ground.textOnly Departure.lateStores }, ⟨20, .phase⟩, ⟨21, .phase⟩, ⟨22, .phase⟩, ⟨23, .phase⟩, ⟨24, .phase⟩, ⟨25, .phase⟩], guard := Option.none }) (v := ?_) rfl (by kernel_rfl) (by kernel_rfl) (by kernel_rfl) (fun _ _ _ h => h) (by decide) (Or.inl ⟨by rfl, ?_⟩) (fun _ => hHeld1) ?_
      rotate_left
      · intro w hSw
        go_simp
        try with_reducible rfl
      try simp only [Act.put,List.setIfInBounds_toArray,List.set_cons_zero,List.set_cons_succ]
      refine wpAnyL_free (i := 27) (oi := { dst := Option.some 88, op := Op.fieldAddr 63 (.tmp 87) 4, type := 0, pos := "units.go:74", after := #[⟨26, .data⟩, ⟨0, .phase⟩, ⟨1, .phase⟩, ⟨2, .phase⟩, ⟨3, .phase⟩, ⟨4, .phase⟩, ⟨5, .phase⟩, { on := 6, ground := Ground.textOnly Departure.lateStores }, { on := 7, ground := Ground.textOnly Departure.lateStores }, { on := 8, ground := Ground.textOnly Departure.lateStores }, { on := 9, ground := Ground.textOnly Departure.lateStores }, ⟨10, .phase⟩, ⟨11, .phase⟩, ⟨12, .phase⟩, ⟨13, .phase⟩, ⟨14, .phase⟩, ⟨15, .phase⟩, { on := 16, ground := Ground.textOnly Departure.lateStores }, { on := 17, ground := Ground.textOnly Departure.lateStores }, { on := 18, ground := Ground.textOnly Departure.lateStores }, { on := 19, ground := Ground.textOnly Departure.lateStores }, ⟨20, .phase⟩, ⟨21, .phase⟩, ⟨22, .phase⟩, ⟨23, .phase⟩, ⟨24, .phase⟩, ⟨25, .phase⟩], guard := Option.none }) (v := ?_) rfl (by kernel_rfl) (by kernel_rfl) (by kernel_rfl) (fun _ _ _ h => h) (by decide) (Or.inl ⟨by rfl, ?_⟩) (fun _ => hHeld1) ?_
      rotate_left
      · intro w hSw
        go_simp
        try with_reducible rfl
      try simp only [Act.put,List.setIfInBounds_toArray,List.set_cons_zero,List.set_cons_succ]
      have hHeld2 : (fun w' : World => w'.cell? ⟨w3.heap.size,2,none⟩ = some (.int .i64 y3) ∧ w'.cell? ⟨w3.heap.size,3,none⟩ = some (.string y4) ∧ w'.cell? ⟨w3.heap.size,4,none⟩ = some (.int .i64 y5) ∧ w'.cell? ⟨w3.heap.size,5,none⟩ = some (.int .i64 y6) ∧ w'.cell? ⟨w3.heap.size,6,none⟩ = some (.int .i64 0) ∧ w'.cell? ⟨w3.heap.size,7,none⟩ = some (.int .i64 0) ∧ w'.cell? ⟨w3.heap.size,8,none⟩ = some (.int .i64 0) ∧ w'.cell? ⟨w3.heap.size,9,none⟩ = some (.int .i64 0) ∧ w'.cell? ⟨w3.heap.size,10,none⟩ = some (.string ⟨#[]⟩) ∧ w'.cell? ⟨w3.heap.size,11,none⟩ = some (.string ⟨#[]⟩) ∧ w'.cell? ⟨w3.heap.size,12,none⟩ = some (.int .i64 0) ∧ w'.cell? ⟨w3.heap.size,13,none⟩ = some (.slice none 0 0)) (((wr.setCell ⟨g,i * 15 + 2,none⟩ (.int .i64 y3)).setCell ⟨g,i * 15 + 3,none⟩ (.string y4)).setCell ⟨g,i * 15 + 4,none⟩ (.int .i64 y5)).drew := by
       obtain ⟨hgY,_,_,_⟩ := HGS.out
       have hy2 : (((wr.setCell ⟨g,i * 15 + 2,none⟩ (.int .i64 y3)).setCell ⟨g,i * 15 + 3,none⟩ (.string y4)).setCell ⟨g,i * 15 + 4,none⟩ (.int .i64 y5)).drew.heap[w3.heap.size]? = some (.cells #[.string y1,.int .i64 y2,.int .i64 y3,.string y4,.int .i64 y5,.int .i64 y6,.int .i64 0,.int .i64 0,.int .i64 0,.int .i64 0,.string ⟨#[]⟩,.string ⟨#[]⟩,.int .i64 0,.slice none 0 0,.int .i64 y8] 63) := (keepS (p := g) (i := i * 15 + 4) (v := .int .i64 y5) (keepS (p := g) (i := i * 15 + 3) (v := .string y4) (keepS (p := g) (i := i * 15 + 2) (v := .int .i64 y3) YZ.out hgY) hgY) hgY)
       exact ⟨by simpa using at_cell (hy2) 2,by simpa using at_cell (hy2) 3,by simpa using at_cell (hy2) 4,by simpa using at_cell (hy2) 5,by simpa using at_cell (hy2) 6,by simpa using at_cell (hy2) 7,by simpa using at_cell (hy2) 8,by simpa using at_cell (hy2) 9,by simpa using at_cell (hy2) 10,by simpa using at_cell (hy2) 11,by simpa using at_cell (hy2) 12,by simpa using at_cell (hy2) 13⟩
      refine wpAnyL_one (j := 28) (o := { dst := Option.none, op := Op.store 3 (.tmp 88) (.tmp 78), type := 0, pos := "units.go:74", after := #[⟨27, .data⟩, ⟨15, .data⟩, ⟨25, .chain⟩, ⟨0, .phase⟩, ⟨1, .phase⟩, ⟨2, .phase⟩, ⟨3, .phase⟩, ⟨4, .phase⟩, ⟨5, .phase⟩, { on := 6, ground := Ground.textOnly Departure.lateStores }, { on := 7, ground := Ground.textOnly Departure.lateStores }, { on := 8, ground := Ground.textOnly Departure.lateStores }, { on := 9, ground := Ground.textOnly Departure.lateStores }, ⟨10, .phase⟩, ⟨11, .phase⟩, ⟨12, .phase⟩, ⟨13, .phase⟩, ⟨14, .phase⟩, ⟨15, .phase⟩, { on := 16, ground := Ground.textOnly Departure.lateStores }, { on := 17, ground := Ground.textOnly Departure.lateStores }, { on := 18, ground := Ground.textOnly Departure.lateStores }, { on := 19, ground := Ground.textOnly Departure.lateStores }, ⟨20, .phase⟩, ⟨21, .phase⟩, ⟨22, .phase⟩, ⟨23, .phase⟩, ⟨24, .phase⟩, ⟨25, .phase⟩], guard := Option.none }) (by kernel_rfl) rfl (fun K hK => ?_)
      go_simp
      refine hK.out _ _ (fun _ _ => hHeld2) ?_
      clear hK K
      try simp only [Act.put,List.setIfInBounds_toArray,List.set_cons_zero,List.set_cons_succ]
      refine wpAnyL_free (i := 29) (oi := { dst := Option.some 89, op := Op.indexAddr 30 (.tmp 69) (.tmp 70), type := 0, pos := "units.go:74", after := #[⟨6, .data⟩, ⟨7, .data⟩, ⟨0, .phase⟩, ⟨1, .phase⟩, ⟨2, .phase⟩, ⟨3, .phase⟩, ⟨4, .phase⟩, ⟨5, .phase⟩, ⟨6, .phase⟩, ⟨7, .phase⟩, { on := 8, ground := Ground.textOnly Departure.lateStores }, { on := 9, ground := Ground.textOnly Departure.lateStores }, ⟨10, .phase⟩, ⟨11, .phase⟩, ⟨12, .phase⟩, ⟨13, .phase⟩, ⟨14, .phase⟩, ⟨15, .phase⟩, ⟨16, .phase⟩, ⟨17, .phase⟩, { on := 18, ground := Ground.textOnly Departure.lateStores }, { on := 19, ground := Ground.textOnly Departure.lateStores }, ⟨20, .phase⟩, ⟨21, .phase⟩, ⟨22, .phase⟩, ⟨23, .phase⟩, ⟨24, .phase⟩, ⟨25, .phase⟩, ⟨26, .phase⟩, ⟨27, .phase⟩, ⟨28, .phase⟩], guard := Option.none }) (v := ?_) rfl (by kernel_rfl) (by kernel_rfl) (by kernel_rfl) (fun _ _ _ h => h) (by decide) (Or.inl ⟨by rfl, ?_⟩) (fun _ => hHeld2) ?_
      rotate_left
      · intro w hSw
        go_simp
        try with_reducible rfl
      try simp only [Act.put,List.setIfInBounds_toArray,List.set_cons_zero,List.set_cons_succ]
      refine wpAnyL_free (i := 30) (oi := { dst := Option.some 90, op := Op.fieldAddr 63 (.tmp 89) 5, type := 0, pos := "units.go:74", after := #[⟨29, .data⟩, ⟨0, .phase⟩, ⟨1, .phase⟩, ⟨2, .phase⟩, ⟨3, .phase⟩, ⟨4, .phase⟩, ⟨5, .phase⟩, ⟨6, .phase⟩, ⟨7, .phase⟩, { on := 8, ground := Ground.textOnly Departure.lateStores }, { on := 9, ground := Ground.textOnly Departure.lateStores }, ⟨10, .phase⟩, ⟨11, .phase⟩, ⟨12, .phase⟩, ⟨13, .phase⟩, ⟨14, .phase⟩, ⟨15, .phase⟩, ⟨16, .phase⟩, ⟨17, .phase⟩, { on := 18, ground := Ground.textOnly Departure.lateStores }, { on := 19, ground := Ground.textOnly Departure.lateStores }, ⟨20, .phase⟩, ⟨21, .phase⟩, ⟨22, .phase⟩, ⟨23, .phase⟩, ⟨24, .phase⟩, ⟨25, .phase⟩, ⟨26, .phase⟩, ⟨27, .phase⟩, ⟨28, .phase⟩], guard := Option.none }) (v := ?_) rfl (by kernel_rfl) (by kernel_rfl) (by kernel_rfl) (fun _ _ _ h => h) (by decide) (Or.inl ⟨by rfl, ?_⟩) (fun _ => hHeld2) ?_
      rotate_left
      · intro w hSw
        go_simp
        try with_reducible rfl
      try simp only [Act.put,List.setIfInBounds_toArray,List.set_cons_zero,List.set_cons_succ]
      have hHeld3 : (fun w' : World => w'.cell? ⟨w3.heap.size,2,none⟩ = some (.int .i64 y3) ∧ w'.cell? ⟨w3.heap.size,3,none⟩ = some (.string y4) ∧ w'.cell? ⟨w3.heap.size,4,none⟩ = some (.int .i64 y5) ∧ w'.cell? ⟨w3.heap.size,5,none⟩ = some (.int .i64 y6) ∧ w'.cell? ⟨w3.heap.size,6,none⟩ = some (.int .i64 0) ∧ w'.cell? ⟨w3.heap.size,7,none⟩ = some (.int .i64 0) ∧ w'.cell? ⟨w3.heap.size,8,none⟩ = some (.int .i64 0) ∧ w'.cell? ⟨w3.heap.size,9,none⟩ = some (.int .i64 0) ∧ w'.cell? ⟨w3.heap.size,10,none⟩ = some (.string ⟨#[]⟩) ∧ w'.cell? ⟨w3.heap.size,11,none⟩ = some (.string ⟨#[]⟩) ∧ w'.cell? ⟨w3.heap.size,12,none⟩ = some (.int .i64 0) ∧ w'.cell? ⟨w3.heap.size,13,none⟩ = some (.slice none 0 0)) ((((wr.setCell ⟨g,i * 15 + 2,none⟩ (.int .i64 y3)).setCell ⟨g,i * 15 + 3,none⟩ (.string y4)).setCell ⟨g,i * 15 + 4,none⟩ (.int .i64 y5)).setCell ⟨g,i * 15 + 5,none⟩ (.int .i64 y6)).drew := by
       obtain ⟨hgY,_,_,_⟩ := HGS.out
       have hy2 : ((((wr.setCell ⟨g,i * 15 + 2,none⟩ (.int .i64 y3)).setCell ⟨g,i * 15 + 3,none⟩ (.string y4)).setCell ⟨g,i * 15 + 4,none⟩ (.int .i64 y5)).setCell ⟨g,i * 15 + 5,none⟩ (.int .i64 y6)).drew.heap[w3.heap.size]? = some (.cells #[.string y1,.int .i64 y2,.int .i64 y3,.string y4,.int .i64 y5,.int .i64 y6,.int .i64 0,.int .i64 0,.int .i64 0,.int .i64 0,.string ⟨#[]⟩,.string ⟨#[]⟩,.int .i64 0,.slice none 0 0,.int .i64 y8] 63) := (keepS (p := g) (i := i * 15 + 5) (v := .int .i64 y6) (keepS (p := g) (i := i * 15 + 4) (v := .int .i64 y5) (keepS (p := g) (i := i * 15 + 3) (v := .string y4) (keepS (p := g) (i := i * 15 + 2) (v := .int .i64 y3) YZ.out hgY) hgY) hgY) hgY)
       exact ⟨by simpa using at_cell (hy2) 2,by simpa using at_cell (hy2) 3,by simpa using at_cell (hy2) 4,by simpa using at_cell (hy2) 5,by simpa using at_cell (hy2) 6,by simpa using at_cell (hy2) 7,by simpa using at_cell (hy2) 8,by simpa using at_cell (hy2) 9,by simpa using at_cell (hy2) 10,by simpa using at_cell (hy2) 11,by simpa using at_cell (hy2) 12,by simpa using at_cell (hy2) 13⟩
      refine wpAnyL_one (j := 31) (o := { dst := Option.none, op := Op.store 3 (.tmp 90) (.tmp 80), type := 0, pos := "units.go:74", after := #[⟨30, .data⟩, ⟨17, .data⟩, ⟨28, .chain⟩, ⟨0, .phase⟩, ⟨1, .phase⟩, ⟨2, .phase⟩, ⟨3, .phase⟩, ⟨4, .phase⟩, ⟨5, .phase⟩, ⟨6, .phase⟩, ⟨7, .phase⟩, { on := 8, ground := Ground.textOnly Departure.lateStores }, { on := 9, ground := Ground.textOnly Departure.lateStores }, ⟨10, .phase⟩, ⟨11, .phase⟩, ⟨12, .phase⟩, ⟨13, .phase⟩, ⟨14, .phase⟩, ⟨15, .phase⟩, ⟨16, .phase⟩, ⟨17, .phase⟩, { on := 18, ground := Ground.textOnly Departure.lateStores }, { on := 19, ground := Ground.textOnly Departure.lateStores }, ⟨20, .phase⟩, ⟨21, .phase⟩, ⟨22, .phase⟩, ⟨23, .phase⟩, ⟨24, .phase⟩, ⟨25, .phase⟩, ⟨26, .phase⟩, ⟨27, .phase⟩, ⟨28, .phase⟩], guard := Option.none }) (by kernel_rfl) rfl (fun K hK => ?_)
      go_simp
      refine hK.out _ _ (fun _ _ => hHeld3) ?_
      clear hK K
      try simp only [Act.put,List.setIfInBounds_toArray,List.set_cons_zero,List.set_cons_succ]
      refine wpAnyL_free (i := 32) (oi := { dst := Option.some 91, op := Op.indexAddr 30 (.tmp 71) (.tmp 72), type := 0, pos := "units.go:74", after := #[⟨8, .data⟩, ⟨9, .data⟩, ⟨0, .phase⟩, ⟨1, .phase⟩, ⟨2, .phase⟩, ⟨3, .phase⟩, ⟨4, .phase⟩, ⟨5, .phase⟩, ⟨6, .phase⟩, ⟨7, .phase⟩, ⟨8, .phase⟩, ⟨9, .phase⟩, ⟨10, .phase⟩, ⟨11, .phase⟩, ⟨12, .phase⟩, ⟨13, .phase⟩, ⟨14, .phase⟩, ⟨15, .phase⟩, ⟨16, .phase⟩, ⟨17, .phase⟩, ⟨18, .phase⟩, ⟨19, .phase⟩, ⟨20, .phase⟩, ⟨21, .phase⟩, ⟨22, .phase⟩, ⟨23, .phase⟩, ⟨24, .phase⟩, ⟨25, .phase⟩, ⟨26, .phase⟩, ⟨27, .phase⟩, ⟨28, .phase⟩, ⟨29, .phase⟩, ⟨30, .phase⟩, ⟨31, .phase⟩], guard := Option.none }) (v := ?_) rfl (by kernel_rfl) (by kernel_rfl) (by kernel_rfl) (fun _ _ _ h => h) (by decide) (Or.inl ⟨by rfl, ?_⟩) (fun _ => hHeld3) ?_
      rotate_left
      · intro w hSw
        go_simp
        try with_reducible rfl
      try simp only [Act.put,List.setIfInBounds_toArray,List.set_cons_zero,List.set_cons_succ]
      refine wpAnyL_free (i := 33) (oi := { dst := Option.some 92, op := Op.fieldAddr 63 (.tmp 91) 6, type := 0, pos := "units.go:74", after := #[⟨32, .data⟩, ⟨0, .phase⟩, ⟨1, .phase⟩, ⟨2, .phase⟩, ⟨3, .phase⟩, ⟨4, .phase⟩, ⟨5, .phase⟩, ⟨6, .phase⟩, ⟨7, .phase⟩, ⟨8, .phase⟩, ⟨9, .phase⟩, ⟨10, .phase⟩, ⟨11, .phase⟩, ⟨12, .phase⟩, ⟨13, .phase⟩, ⟨14, .phase⟩, ⟨15, .phase⟩, ⟨16, .phase⟩, ⟨17, .phase⟩, ⟨18, .phase⟩, ⟨19, .phase⟩, ⟨20, .phase⟩, ⟨21, .phase⟩, ⟨22, .phase⟩, ⟨23, .phase⟩, ⟨24, .phase⟩, ⟨25, .phase⟩, ⟨26, .phase⟩, ⟨27, .phase⟩, ⟨28, .phase⟩, ⟨29, .phase⟩, ⟨30, .phase⟩, ⟨31, .phase⟩], guard := Option.none }) (v := ?_) rfl (by kernel_rfl) (by kernel_rfl) (by kernel_rfl) (fun _ _ _ h => h) (by decide) (Or.inl ⟨by rfl, ?_⟩) (fun _ => hHeld3) ?_
      rotate_left
      · intro w hSw
        go_simp
        try with_reducible rfl
      try simp only [Act.put,List.setIfInBounds_toArray,List.set_cons_zero,List.set_cons_succ]
      refine wpAnyL_one (j := 34) (o := { dst := Option.none, op := Op.store 61 (.tmp 92) (.tmp 82), type := 0, pos := "units.go:74", after := #[⟨33, .data⟩, ⟨19, .data⟩, ⟨31, .chain⟩, ⟨0, .phase⟩, ⟨1, .phase⟩, ⟨2, .phase⟩, ⟨3, .phase⟩, ⟨4, .phase⟩, ⟨5, .phase⟩, ⟨6, .phase⟩, ⟨7, .phase⟩, ⟨8, .phase⟩, ⟨9, .phase⟩, ⟨10, .phase⟩, ⟨11, .phase⟩, ⟨12, .phase⟩, ⟨13, .phase⟩, ⟨14, .phase⟩, ⟨15, .phase⟩, ⟨16, .phase⟩, ⟨17, .phase⟩, ⟨18, .phase⟩, ⟨19, .phase⟩, ⟨20, .phase⟩, ⟨21, .phase⟩, ⟨22, .phase⟩, ⟨23, .phase⟩, ⟨24, .phase⟩, ⟨25, .phase⟩, ⟨26, .phase⟩, ⟨27, .phase⟩, ⟨28, .phase⟩, ⟨29, .phase⟩, ⟨30, .phase⟩, ⟨31, .phase⟩], guard := Option.none }) (by kernel_rfl) rfl (fun K hK => ?_)
      go_simp
      refine hK.out _ _ (fun h => absurd rfl h) ?_
      clear hK K
      try simp only [Act.put,List.setIfInBounds_toArray,List.set_cons_zero,List.set_cons_succ]
      refine wpAnyL_done (by kernel_rfl) ?_ _
      have hwi : IntKind.i64.wrap ((i : Int) + 1) = i + 1 := IntWalk.i64_in _ (by have := S1.out; omega)
      clear hc2 hc3 hc4 hc5 hc6 hc7 hc8 hc9 hc10 hc11 hc12 hc13 hz0 hcur hcs HW0
      go_wp2_with fail
      go_roundg (l.length + 1 - (i + 1))
      case measure => omega
      case rel =>
       obtain ⟨hgY,hgR,hg15,hg0⟩ := HGS.out
       exact dw_next (by rw [hyy]) (by rw [hyy]) (by rw [hyy]) (by rw [hyy]) (by rw [hyy]; rfl) ⟨_,_,rfl⟩ CZ.out GZ.out YZ.out LZ.out hi1 hi hgY hgR hg15 hg0
   · obtain ⟨ap,aq,ar,af,ag,ah⟩ := facts A4.out
     obtain ⟨yp,yq,yr,yf,yg,yh⟩ := facts Y4.out
     go_wp2_with fail
     refine (lit_any C4.out).mono ?_
     intro e w5 h
     rcases h.get with ⟨e1,t5,v5,r5,rfl,hv,CC,g⟩ | ⟨cc,aa,r5,rfl,g⟩
     rotate_left
     · exact ⟨rfl,Out.bad (by rw [decP,HRr.out,bindOk]; (first | rw [r2] | exact r2); try rw [bindOk]; (first | rw [r3] | exact r3); try rw [bindOk]; (first | rw [r4] | exact r4); try rw [bindOk]; rw [if_pos rfl]; (first | (rw [r5]; done) | (rw [r5]; rfl) | exact r5)) (gtr G4.out g)⟩
     have L5 := hidI ((L4.out).g g (by have := Z4.out; omega))
     rcases e1 with ⟨f1,o1,kd1,n1,nm1,pt1,a1,ks1⟩
     have hk0 := lit_kids r5
     simp only [PE.kids] at hk0
     subst hk0
     obtain ⟨kx1,kc1,rfl,hx⟩ := Xe_sl hv
     clear hx hv
     simp only [List.length_nil]
     have A5 : Hid (w5.heap[w.heap.size]? = some (.cells #[pR R] 46)) := keptBut g A4.out (by have := Z4.out; omega)
     have Y5 : Hid (w5.heap[w3.heap.size]? = some (.cells #[.string y1,.int .i64 y2,.int .i64 y3,.string y4,.int .i64 y5,.int .i64 y6,.int .i64 0,.int .i64 0,.int .i64 0,.int .i64 0,.string ⟨#[]⟩,.string ⟨#[]⟩,.int .i64 0,.slice none 0 0,.int .i64 y8] 63)) := keptBut g Y4.out (by have := Z4.out; omega)
     have G5 := hidI (gtr G4.out g)
     have C5 := hidI CC
     have S5 : Hid (w4.heap.size + 0 ≤ w5.heap.size) := hidI (by have := g.size; first | omega | (simp at this; omega) | (simp at this ⊢; omega))
     have Z5 := hidI (And.intro HR.out (And.intro HB.out (And.intro HL.out (And.intro S1.out (And.intro S2.out (And.intro S3.out (And.intro S4.out S5.out)))))))
     clear g CC h ap aq ar af ag ah yp yq yr yf yg yh
     obtain ⟨ap,aq,ar,af,ag,ah⟩ := facts A5.out
     obtain ⟨yp,yq,yr,yf,yg,yh⟩ := facts Y5.out
     go_wp2_with fail
     refine (needW ((((((((C5.out.set (by have := Z5.out; omega) (by have := Z5.out; omega) _ _).set (by have := Z5.out; omega) (by have := Z5.out; omega) _ _).set (by have := Z5.out; omega) (by have := Z5.out; omega) _ _).set (by have := Z5.out; omega) (by have := Z5.out; omega) _ _).set (by have := Z5.out; omega) (by have := Z5.out; omega) _ _).set (by have := Z5.out; omega) (by have := Z5.out; omega) _ _).set (by have := Z5.out; omega) (by have := Z5.out; omega) _ _).set (by have := Z5.out; omega) (by have := Z5.out; omega) _ _) _ [⟨#[59]⟩] _ _ _ (by simp) rfl rfl (by decide)).mono ?_
     intro e w6 h
     rcases h.get with ⟨_,t6,v6,r6,rfl,rfl,CC,g⟩ | ⟨cc,aa,r6,rfl,g⟩
     rotate_left
     · exact ⟨rfl,Out.bad (by rw [decP,HRr.out,bindOk]; (first | rw [r2] | exact r2); try rw [bindOk]; (first | rw [r3] | exact r3); try rw [bindOk]; (first | rw [r4] | exact r4); try rw [bindOk]; rw [if_pos rfl]; (first | rw [r5] | exact r5); try rw [bindOk]; try rw [bindOk]; (first | (rw [r6]; done) | (rw [r6]; rfl) | exact r6)) (gtr (gr_alloc (gr_ow2 (gr_ow2 (gr_ow2 (gr_ow2 (gr_ow2 (gr_ow2 (gr_ow2 (gr_ow2 G5.out (by have := Z5.out; omega) _ _) (by have := Z5.out; omega) _ _) (by have := Z5.out; omega) _ _) (by have := Z5.out; omega) _ _) (by have := Z5.out; omega) _ _) (by have := Z5.out; omega) _ _) (by have := Z5.out; omega) _ _) (by have := Z5.out; omega) _ _) _) g)⟩
     have L6 := hidI ((Gl.gn (Gv.g (Gv.g (Gv.g (Gv.g (Gv.g (Gv.g (Gv.g (Gv.g L5.out (gr_set (World.grownBy.refl _ _) _ _) (fun e => by have := HO.out _ e; omega)) (gr_set (World.grownBy.refl _ _) _ _) (fun e => by have := HO.out _ e; omega)) (gr_set (World.grownBy.refl _ _) _ _) (fun e => by have := HO.out _ e; omega)) (gr_set (World.grownBy.refl _ _) _ _) (fun e => by have := HO.out _ e; omega)) (gr_set (World.grownBy.refl _ _) _ _) (fun e => by have := HO.out _ e; omega)) (gr_set (World.grownBy.refl _ _) _ _) (fun e => by have := HO.out _ e; omega)) (gr_set (World.grownBy.refl _ _) _ _) (fun e => by have := HO.out _ e; omega)) (gr_set (World.grownBy.refl _ _) _ _) (fun e => by have := HO.out _ e; omega)) (gr1 _ _)).g g (by have := Z5.out; omega))
     have A6 : Hid (w6.heap[w.heap.size]? = some (.cells #[pR R] 46)) := keptBut g (old (keepS (keepS (keepS (keepS (keepS (keepS (keepS (keepS A5.out (by have := Z5.out; omega)) (by have := Z5.out; omega)) (by have := Z5.out; omega)) (by have := Z5.out; omega)) (by have := Z5.out; omega)) (by have := Z5.out; omega)) (by have := Z5.out; omega)) (by have := Z5.out; omega)) _) (by have := Z5.out; omega)
     have Y6 : Hid (w6.heap[w3.heap.size]? = some (.cells #[.string y1,.int .i64 y2,.int .i64 y3,.string y4,.int .i64 y5,.int .i64 y6,.int .i64 f1,.int .i64 o1,.int .i64 kd1,.int .i64 n1,.string nm1,.string pt1,.int .i64 a1,.slice kx1 0 kc1,.int .i64 y8] 63)) := keptBut g (by simpa using (old (at_set (at_set (at_set (at_set (at_set (at_set (at_set (at_set Y5.out 6 (.int .i64 f1)) 7 (.int .i64 o1)) 8 (.int .i64 kd1)) 9 (.int .i64 n1)) 10 (.string nm1)) 11 (.string pt1)) 12 (.int .i64 a1)) 13 (.slice kx1 0 kc1)) _)) (by have := Z5.out; omega)
     have G6 := hidI (gtr (gr_alloc (gr_ow2 (gr_ow2 (gr_ow2 (gr_ow2 (gr_ow2 (gr_ow2 (gr_ow2 (gr_ow2 G5.out (by have := Z5.out; omega) _ _) (by have := Z5.out; omega) _ _) (by have := Z5.out; omega) _ _) (by have := Z5.out; omega) _ _) (by have := Z5.out; omega) _ _) (by have := Z5.out; omega) _ _) (by have := Z5.out; omega) _ _) (by have := Z5.out; omega) _ _) _) g)
     have C6 := hidI CC
     have S6 : Hid (w5.heap.size + 1 ≤ w6.heap.size) := hidI (by have := g.size; first | omega | (simp at this; omega) | (simp at this ⊢; omega))
     clear g CC h ap aq ar af ag ah yp yq yr yf yg yh
     obtain ⟨yy,hyy⟩ : ∃ y : PV,y = (⟨y1,y2,y3,y4,y5,y6,.mk f1 o1 kd1 n1 nm1 pt1 a1 [],y8⟩ : PV) := ⟨_,rfl⟩
     have HP : Hid (decP F (s.size + 2) vs role t = .ok (l.take vs.length ++ (l.drop vs.length).map (·.like yy)) t6) := by
      show _ = _
      rw [hyy]
      rw [decP,HRr.out,bindOk]
      (first | rw [r2] | exact r2)
      try rw [bindOk]
      (first | rw [r3] | exact r3)
      try rw [bindOk]
      (first | rw [r4] | exact r4)
      try rw [bindOk]
      rw [if_pos rfl]
      (first | rw [r5] | exact r5)
      try rw [bindOk]
      try rw [bindOk]
      (first | rw [r6] | exact r6)
      try rw [bindOk]
      first | done | rfl
     have LW : Hid (DwL V F R s u w0 B vs.length (w3.heap.size) t6 l yy a c #[.string y1,.int .i64 y2,.int .i64 y3,.string y4,.int .i64 y5,.int .i64 y6,.int .i64 f1,.int .i64 o1,.int .i64 kd1,.int .i64 n1,.string nm1,.string pt1,.int .i64 a1,.slice kx1 0 kc1,.int .i64 y8] (l.length + 1 - vs.length) (.int .i64 (vs.length : Int)) w6) :=
      ⟨vs.length,rfl,⟨Nat.le_refl _,S1.out.2.1,rfl⟩,C6.out,G6.out,by simpa using Y6.out,by rw [mid_0]; exact L6.out⟩
     have HYB : Hid (∀ g,(Value.slice a l.length c).ownBlock = some g → B ≤ g ∧ g < w3.heap.size) := fun g hg => HO.out g hg
     have YSZ : Hid (w3.heap.size < w6.heap.size) := at_lt Y6.out
     skip
     go_wp2_with fail
     go_loopg [11] (l.length + 1 - vs.length) (fun gk s11 wx => DwL V F R s u w0 B vs.length (w3.heap.size) t6 l yy a c #[.string y1,.int .i64 y2,.int .i64 y3,.string y4,.int .i64 y5,.int .i64 y6,.int .i64 f1,.int .i64 o1,.int .i64 kd1,.int .i64 n1,.string nm1,.string pt1,.int .i64 a1,.slice kx1 0 kc1,.int .i64 y8] gk s11 wx)
     case atStart => exact LW.out
     case round =>
      obtain ⟨i,rfl,⟨hi1,hi2,hgk⟩,CC,gg,hY,hX⟩ := hrel
      by_cases hi : i < l.length
      rotate_left
      · have hie : i = l.length := by omega
        have hlt : ¬ ((i : Int) < (l.length : Int)) := by omega
        subst hie
        have HH := hidI (And.intro CC (And.intro gg hX))
        clear CC gg hX hY
        go_wp2_with fail
        go_ret
        obtain ⟨CC,gg,hX⟩ := HH.out
        rw [mid_end _ _ _ S1.out.2.1] at hX
        refine Out.ok HP.out ⟨?_,by simp; have := S1.out; omega⟩ CC gg
        exact hX
      have hlt : ((i : Int) < (l.length : Int)) := by omega
      obtain ⟨g,rfl⟩ : ∃ g,a = some ⟨g,0,none⟩ := by
       obtain ⟨ks,_,⟨_,⟨hz,hz2⟩ | ⟨g,cap,cur,hz,_⟩⟩,_⟩ := hX
       · rw [mid_len _ _ _ _ hi1 hi2] at hz2; omega
       · injection hz with hz _ _; exact ⟨g,hz⟩
      have CZ := hidI CC
      have GZ := hidI gg
      have YZ := hidI hY
      have LZ := hidI hX
      have HGB := HYB.out g rfl
      have HGZ := hidI HGB
      clear CC gg hX HGB
      have CD := hidI CZ.out.drew
      have GD := hidI (gr_drew GZ.out)
      have YD : Hid (wr.drew.heap[w3.heap.size]? = some (.cells #[.string y1,.int .i64 y2,.int .i64 y3,.string y4,.int .i64 y5,.int .i64 y6,.int .i64 f1,.int .i64 o1,.int .i64 kd1,.int .i64 n1,.string nm1,.string pt1,.int .i64 a1,.slice kx1 0 kc1,.int .i64 y8] 63)) := YZ.out
      have LD := hidI (LZ.out.gn (gr_drew (World.grownBy.refl wr none)))
      go_wp2_with fail
      have hHeld : (fun w' : World => w'.cell? ⟨w3.heap.size,2,none⟩ = some (.int .i64 y3) ∧ w'.cell? ⟨w3.heap.size,3,none⟩ = some (.string y4) ∧ w'.cell? ⟨w3.heap.size,4,none⟩ = some (.int .i64 y5) ∧ w'.cell? ⟨w3.heap.size,5,none⟩ = some (.int .i64 y6) ∧ w'.cell? ⟨w3.heap.size,6,none⟩ = some (.int .i64 f1) ∧ w'.cell? ⟨w3.heap.size,7,none⟩ = some (.int .i64 o1) ∧ w'.cell? ⟨w3.heap.size,8,none⟩ = some (.int .i64 kd1) ∧ w'.cell? ⟨w3.heap.size,9,none⟩ = some (.int .i64 n1) ∧ w'.cell? ⟨w3.heap.size,10,none⟩ = some (.string nm1) ∧ w'.cell? ⟨w3.heap.size,11,none⟩ = some (.string pt1) ∧ w'.cell? ⟨w3.heap.size,12,none⟩ = some (.int .i64 a1) ∧ w'.cell? ⟨w3.heap.size,13,none⟩ = some (.slice kx1 0 kc1)) wr.drew := ⟨by simpa using at_cell (YD.out) 2,by simpa using at_cell (YD.out) 3,by simpa using at_cell (YD.out) 4,by simpa using at_cell (YD.out) 5,by simpa using at_cell (YD.out) 6,by simpa using at_cell (YD.out) 7,by simpa using at_cell (YD.out) 8,by simpa using at_cell (YD.out) 9,by simpa using at_cell (YD.out) 10,by simpa using at_cell (YD.out) 11,by simpa using at_cell (YD.out) 12,by simpa using at_cell (YD.out) 13⟩
      refine wp_region_L (L := 34) (S := (fun w' : World => w'.cell? ⟨w3.heap.size,2,none⟩ = some (.int .i64 y3) ∧ w'.cell? ⟨w3.heap.size,3,none⟩ = some (.string y4) ∧ w'.cell? ⟨w3.heap.size,4,none⟩ = some (.int .i64 y5) ∧ w'.cell? ⟨w3.heap.size,5,none⟩ = some (.int .i64 y6) ∧ w'.cell? ⟨w3.heap.size,6,none⟩ = some (.int .i64 f1) ∧ w'.cell? ⟨w3.heap.size,7,none⟩ = some (.int .i64 o1) ∧ w'.cell? ⟨w3.heap.size,8,none⟩ = some (.int .i64 kd1) ∧ w'.cell? ⟨w3.heap.size,9,none⟩ = some (.int .i64 n1) ∧ w'.cell? ⟨w3.heap.size,10,none⟩ = some (.string nm1) ∧ w'.cell? ⟨w3.heap.size,11,none⟩ = some (.string pt1) ∧ w'.cell? ⟨w3.heap.size,12,none⟩ = some (.int .i64 a1) ∧ w'.cell? ⟨w3.heap.size,13,none⟩ = some (.slice kx1 0 kc1))) (by kernel_rfl) ?_
      refine wpAnyL_free (i := 0) (oi := { dst := Option.some 63, op := Op.move (.tmp 1), type := 30, pos := "units.go:74", after := #[], guard := Option.none }) (v := ?_) rfl (by kernel_rfl) (by kernel_rfl) (by kernel_rfl) (fun _ _ _ h => h) (by decide) (Or.inl ⟨by rfl, ?_⟩) (fun _ => hHeld) ?_
      rotate_left
      · intro w hSw
        go_simp
        try with_reducible rfl
      try simp only [Act.put,List.setIfInBounds_toArray,List.set_cons_zero,List.set_cons_succ]
      refine wpAnyL_free (i := 1) (oi := { dst := Option.some 64, op := Op.move (.tmp 11), type := 3, pos := "units.go:74", after := #[], guard := Option.none }) (v := ?_) rfl (by kernel_rfl) (by kernel_rfl) (by kernel_rfl) (fun _ _ _ h => h) (by decide) (Or.inl ⟨by rfl, ?_⟩) (fun _ => hHeld) ?_
      rotate_left
      · intro w hSw
        go_simp
        try with_reducible rfl
      try simp only [Act.put,List.setIfInBounds_toArray,List.set_cons_zero,List.set_cons_succ]
      refine wpAnyL_free (i := 2) (oi := { dst := Option.some 65, op := Op.move (.tmp 1), type := 30, pos := "units.go:74", after := #[{ on := 22, ground := Ground.gcOnly Departure.lateStores }], guard := Option.none }) (v := ?_) rfl (by kernel_rfl) (by kernel_rfl) (by kernel_rfl) (fun _ _ _ h => h) (by decide) (Or.inl ⟨by rfl, ?_⟩) (fun _ => hHeld) ?_
      rotate_left
      · intro w hSw
        go_simp
        try with_reducible rfl
      try simp only [Act.put,List.setIfInBounds_toArray,List.set_cons_zero,List.set_cons_succ]
      refine wpAnyL_free (i := 3) (oi := { dst := Option.some 66, op := Op.move (.tmp 11), type := 3, pos := "units.go:74", after := #[{ on := 22, ground := Ground.gcOnly Departure.lateStores }], guard := Option.none }) (v := ?_) rfl (by kernel_rfl) (by kernel_rfl) (by kernel_rfl) (fun _ _ _ h => h) (by decide) (Or.inl ⟨by rfl, ?_⟩) (fun _ => hHeld) ?_
      rotate_left
      · intro w hSw
        go_simp
        try with_reducible rfl
      try simp only [Act.put,List.setIfInBounds_toArray,List.set_cons_zero,List.set_cons_succ]
      refine wpAnyL_free (i := 4) (oi := { dst := Option.some 67, op := Op.move (.tmp 1), type := 30, pos := "units.go:74", after := #[{ on := 25, ground := Ground.gcOnly Departure.lateStores }], guard := Option.none }) (v := ?_) rfl (by kernel_rfl) (by kernel_rfl) (by kernel_rfl) (fun _ _ _ h => h) (by decide) (Or.inl ⟨by rfl, ?_⟩) (fun _ => hHeld) ?_
      rotate_left
      · intro w hSw
        go_simp
        try with_reducible rfl
      try simp only [Act.put,List.setIfInBounds_toArray,List.set_cons_zero,List.set_cons_succ]
      refine wpAnyL_free (i := 5) (oi := { dst := Option.some 68, op := Op.move (.tmp 11), type := 3, pos := "units.go:74", after := #[{ on := 25, ground := Ground.gcOnly Departure.lateStores }], guard := Option.none }) (v := ?_) rfl (by kernel_rfl) (by kernel_rfl) (by kernel_rfl) (fun _ _ _ h => h) (by decide) (Or.inl ⟨by rfl, ?_⟩) (fun _ => hHeld) ?_
      rotate_left
      · intro w hSw
        go_simp
        try with_reducible rfl
      try simp only [Act.put,List.setIfInBounds_toArray,List.set_cons_zero,List.set_cons_succ]
      refine wpAnyL_free (i := 6) (oi := { dst := Option.some 69, op := Op.move (.tmp 1), type := 30, pos := "units.go:74", after := #[{ on := 28, ground := Ground.gcOnly Departure.lateStores }], guard := Option.none }) (v := ?_) rfl (by kernel_rfl) (by kernel_rfl) (by kernel_rfl) (fun _ _ _ h => h) (by decide) (Or.inl ⟨by rfl, ?_⟩) (fun _ => hHeld) ?_
      rotate_left
      · intro w hSw
        go_simp
        try with_reducible rfl
      try simp only [Act.put,List.setIfInBounds_toArray,List.set_cons_zero,List.set_cons_succ]
      refine wpAnyL_free (i := 7) (oi := { dst := Option.some 70, op := Op.move (.tmp 11), type := 3, pos := "units.go:74", after := #[{ on := 28, ground := Ground.gcOnly Departure.lateStores }], guard := Option.none }) (v := ?_) rfl (by kernel_rfl) (by kernel_rfl) (by kernel_rfl) (fun _ _ _ h => h) (by decide) (Or.inl ⟨by rfl, ?_⟩) (fun _ => hHeld) ?_
      rotate_left
      · intro w hSw
        go_simp
        try with_reducible rfl
      try simp only [Act.put,List.setIfInBounds_toArray,List.set_cons_zero,List.set_cons_succ]
      refine wpAnyL_free (i := 8) (oi := { dst := Option.some 71, op := Op.move (.tmp 1), type := 30, pos := "units.go:74", after := #[{ on := 31, ground := Ground.gcOnly Departure.lateStores }], guard := Option.none }) (v := ?_) rfl (by kernel_rfl) (by kernel_rfl) (by kernel_rfl) (fun _ _ _ h => h) (by decide) (Or.inl ⟨by rfl, ?_⟩) (fun _ => hHeld) ?_
      rotate_left
      · intro w hSw
        go_simp
        try with_reducible rfl
      try simp only [Act.put,List.setIfInBounds_toArray,List.set_cons_zero,List.set_cons_succ]
      refine wpAnyL_free (i := 9) (oi := { dst := Option.some 72, op := Op.move (.tmp 11), type := 3, pos := "units.go:74", after := #[{ on := 31, ground := Ground.gcOnly Departure.lateStores }], guard := Option.none }) (v := ?_) rfl (by kernel_rfl) (by kernel_rfl) (by kernel_rfl) (fun _ _ _ h => h) (by decide) (Or.inl ⟨by rfl, ?_⟩) (fun _ => hHeld) ?_
      rotate_left
      · intro w hSw
        go_simp
        try with_reducible rfl
      try simp only [Act.put,List.setIfInBounds_toArray,List.set_cons_zero,List.set_cons_succ]
      refine wpAnyL_free (i := 10) (oi := { dst := Option.some 73, op := Op.fieldAddr 63 (.tmp 10) 2, type := 0, pos := "units.go:74", after := #[], guard := Option.none }) (v := ?_) rfl (by kernel_rfl) (by kernel_rfl) (by kernel_rfl) (fun _ _ _ h => h) (by decide) (Or.inl ⟨by rfl, ?_⟩) (fun _ => hHeld) ?_
      rotate_left
      · intro w hSw
        go_simp
        try with_reducible rfl
      try simp only [Act.put,List.setIfInBounds_toArray,List.set_cons_zero,List.set_cons_succ]
      refine wpAnyL_take (i := 11) (oi := { dst := Option.some 74, op := Op.load 29 (.tmp 73), type := 29, pos := "units.go:74", after := #[⟨10, .data⟩], guard := Option.none }) (v := ?_) rfl (by kernel_rfl) (by kernel_rfl) (by kernel_rfl) (fun _ _ _ h => h) (by kernel_rfl) (by kernel_rfl) (Or.inl ⟨by rfl, ?_⟩) hHeld ?_
      rotate_left
      · intro w hSw
        try dsimp only at hSw
        go_simp
        try with_reducible rfl
      try simp only [Act.put,List.setIfInBounds_toArray,List.set_cons_zero,List.set_cons_succ]
      refine wpAnyL_free (i := 12) (oi := { dst := Option.some 75, op := Op.fieldAddr 63 (.tmp 10) 3, type := 0, pos := "units.go:74", after := #[{ on := 22, ground := Ground.gcOnly Departure.lateStores }], guard := Option.none }) (v := ?_) rfl (by kernel_rfl) (by kernel_rfl) (by kernel_rfl) (fun _ _ _ h => h) (by decide) (Or.inl ⟨by rfl, ?_⟩) (fun _ => hHeld) ?_
      rotate_left
      · intro w hSw
        go_simp
        try with_reducible rfl
      try simp only [Act.put,List.setIfInBounds_toArray,List.set_cons_zero,List.set_cons_succ]
      refine wpAnyL_take (i := 13) (oi := { dst := Option.some 76, op := Op.load 9 (.tmp 75), type := 9, pos := "units.go:74", after := #[⟨12, .data⟩, { on := 22, ground := Ground.gcOnly Departure.lateStores }], guard := Option.none }) (v := ?_) rfl (by kernel_rfl) (by kernel_rfl) (by kernel_rfl) (fun _ _ _ h => h) (by kernel_rfl) (by kernel_rfl) (Or.inl ⟨by rfl, ?_⟩) hHeld ?_
      rotate_left
      · intro w hSw
        try dsimp only at hSw
        go_simp
        try with_reducible rfl
      try simp only [Act.put,List.setIfInBounds_toArray,List.set_cons_zero,List.set_cons_succ]
      refine wpAnyL_free (i := 14) (oi := { dst := Option.some 77, op := Op.fieldAddr 63 (.tmp 10) 4, type := 0, pos := "units.go:74", after := #[{ on := 25, ground := Ground.gcOnly Departure.lateStores }], guard := Option.none }) (v := ?_) rfl (by kernel_rfl) (by kernel_rfl) (by kernel_rfl) (fun _ _ _ h => h) (by decide) (Or.inl ⟨by rfl, ?_⟩) (fun _ => hHeld) ?_
      rotate_left
      · intro w hSw
        go_simp
        try with_reducible rfl
      try simp only [Act.put,List.setIfInBounds_toArray,List.set_cons_zero,List.set_cons_succ]
      refine wpAnyL_take (i := 15) (oi := { dst := Option.some 78, op := Op.load 3 (.tmp 77), type := 3, pos := "units.go:74", after := #[⟨14, .data⟩, { on := 25, ground := Ground.gcOnly Departure.lateStores }], guard := Option.none }) (v := ?_) rfl (by kernel_rfl) (by kernel_rfl) (by kernel_rfl) (fun _ _ _ h => h) (by kernel_rfl) (by kernel_rfl) (Or.inl ⟨by rfl, ?_⟩) hHeld ?_
      rotate_left
      · intro w hSw
        try dsimp only at hSw
        go_simp
        try with_reducible rfl
      try simp only [Act.put,List.setIfInBounds_toArray,List.set_cons_zero,List.set_cons_succ]
      refine wpAnyL_free (i := 16) (oi := { dst := Option.some 79, op := Op.fieldAddr 63 (.tmp 10) 5, type := 0, pos := "units.go:74", after := #[{ on := 28, ground := Ground.gcOnly Departure.lateStores }], guard := Option.none }) (v := ?_) rfl (by kernel_rfl) (by kernel_rfl) (by kernel_rfl) (fun _ _ _ h => h) (by decide) (Or.inl ⟨by rfl, ?_⟩) (fun _ => hHeld) ?_
      rotate_left
      · intro w hSw
        go_simp
        try with_reducible rfl
      try simp only [Act.put,List.setIfInBounds_toArray,List.set_cons_zero,List.set_cons_succ]
      refine wpAnyL_take (i := 17) (oi := { dst := Option.some 80, op := Op.load 3 (.tmp 79), type := 3, pos := "units.go:74", after := #[⟨16, .data⟩, { on := 28, ground := Ground.gcOnly Departure.lateStores }], guard := Option.none }) (v := ?_) rfl (by kernel_rfl) (by kernel_rfl) (by kernel_rfl) (fun _ _ _ h => h) (by kernel_rfl) (by kernel_rfl) (Or.inl ⟨by rfl, ?_⟩) hHeld ?_
      rotate_left
      · intro w hSw
        try dsimp only at hSw
        go_simp
        try with_reducible rfl
      try simp only [Act.put,List.setIfInBounds_toArray,List.set_cons_zero,List.set_cons_succ]
      refine wpAnyL_free (i := 18) (oi := { dst := Option.some 81, op := Op.fieldAddr 63 (.tmp 10) 6, type := 0, pos := "units.go:74", after := #[{ on := 31, ground := Ground.gcOnly Departure.lateStores }], guard := Option.none }) (v := ?_) rfl (by kernel_rfl) (by kernel_rfl) (by kernel_rfl) (fun _ _ _ h => h) (by decide) (Or.inl ⟨by rfl, ?_⟩) (fun _ => hHeld) ?_
      rotate_left
      · intro w hSw
        go_simp
        try with_reducible rfl
      try simp only [Act.put,List.setIfInBounds_toArray,List.set_cons_zero,List.set_cons_succ]
      refine wpAnyL_take (i := 19) (oi := { dst := Option.some 82, op := Op.load 61 (.tmp 81), type := 61, pos := "units.go:74", after := #[⟨18, .data⟩, { on := 31, ground := Ground.gcOnly Departure.lateStores }], guard := Option.none }) (v := ?_) rfl (by kernel_rfl) (by kernel_rfl) (by kernel_rfl) (fun _ _ _ h => h) (by kernel_rfl) (by kernel_rfl) (Or.inl ⟨by rfl, ?_⟩) hHeld ?_
      rotate_left
      · intro w hSw
        try dsimp only at hSw
        go_simp
        try with_reducible rfl
      try simp only [Act.put,List.setIfInBounds_toArray,List.set_cons_zero,List.set_cons_succ]
      obtain ⟨cur,hcur,hcs⟩ : ∃ cur : Array Value,wr.heap[g]? = some (.cells cur 63) ∧ l.length * 15 ≤ cur.size := by
       obtain ⟨ks,_,⟨_,⟨hz,_⟩ | ⟨g2,cap,cur,hz,_,hh,hcap,_,hsz,_⟩⟩,_⟩ := LZ.out
       · cases hz
       · injection hz with hz hz1 hz2; injection hz with hz; injection hz with hz; subst hz
         rw [mid_len _ _ _ _ hi1 hi2] at hcap
         exact ⟨cur,hh,by rw [hsz]; exact Nat.mul_le_mul_right 15 hcap⟩
      have HW0 : Hid (wr.drew.heap[g]? = some (.cells cur 63)) := hcur
      have hz0 := at_frozen hcur
      have hc2 : wr.cell? ⟨g,i * 15 + 2,none⟩ = some (cur[i * 15 + 2]'(by omega)) := by rw [at_cell hcur]; exact Array.getElem?_eq_getElem _
      have hc3 : wr.cell? ⟨g,i * 15 + 3,none⟩ = some (cur[i * 15 + 3]'(by omega)) := by rw [at_cell hcur]; exact Array.getElem?_eq_getElem _
      have hc4 : wr.cell? ⟨g,i * 15 + 4,none⟩ = some (cur[i * 15 + 4]'(by omega)) := by rw [at_cell hcur]; exact Array.getElem?_eq_getElem _
      have hc5 : wr.cell? ⟨g,i * 15 + 5,none⟩ = some (cur[i * 15 + 5]'(by omega)) := by rw [at_cell hcur]; exact Array.getElem?_eq_getElem _
      have hc6 : wr.cell? ⟨g,i * 15 + 6,none⟩ = some (cur[i * 15 + 6]'(by omega)) := by rw [at_cell hcur]; exact Array.getElem?_eq_getElem _
      have hc7 : wr.cell? ⟨g,i * 15 + 7,none⟩ = some (cur[i * 15 + 7]'(by omega)) := by rw [at_cell hcur]; exact Array.getElem?_eq_getElem _
      have hc8 : wr.cell? ⟨g,i * 15 + 8,none⟩ = some (cur[i * 15 + 8]'(by omega)) := by rw [at_cell hcur]; exact Array.getElem?_eq_getElem _
      have hc9 : wr.cell? ⟨g,i * 15 + 9,none⟩ = some (cur[i * 15 + 9]'(by omega)) := by rw [at_cell hcur]; exact Array.getElem?_eq_getElem _
      have hc10 : wr.cell? ⟨g,i * 15 + 10,none⟩ = some (cur[i * 15 + 10]'(by omega)) := by rw [at_cell hcur]; exact Array.getElem?_eq_getElem _
      have hc11 : wr.cell? ⟨g,i * 15 + 11,none⟩ = some (cur[i * 15 + 11]'(by omega)) := by rw [at_cell hcur]; exact Array.getElem?_eq_getElem _
      have hc12 : wr.cell? ⟨g,i * 15 + 12,none⟩ = some (cur[i * 15 + 12]'(by omega)) := by rw [at_cell hcur]; exact Array.getElem?_eq_getElem _
      have hc13 : wr.cell? ⟨g,i * 15 + 13,none⟩ = some (cur[i * 15 + 13]'(by omega)) := by rw [at_cell hcur]; exact Array.getElem?_eq_getElem _
      refine wpAnyL_free (i := 20) (oi := { dst := Option.some 83, op := Op.indexAddr 30 (.tmp 63) (.tmp 64), type := 0, pos := "units.go:74", after := #[⟨0, .data⟩, ⟨1, .data⟩, ⟨0, .phase⟩, ⟨1, .phase⟩, { on := 2, ground := Ground.textOnly Departure.lateStores }, { on := 3, ground := Ground.textOnly Departure.lateStores }, { on := 4, ground := Ground.textOnly Departure.lateStores }, { on := 5, ground := Ground.textOnly Departure.lateStores }, { on := 6, ground := Ground.textOnly Departure.lateStores }, { on := 7, ground := Ground.textOnly Departure.lateStores }, { on := 8, ground := Ground.textOnly Departure.lateStores }, { on := 9, ground := Ground.textOnly Departure.lateStores }, ⟨10, .phase⟩, ⟨11, .phase⟩, { on := 12, ground := Ground.textOnly Departure.lateStores }, { on := 13, ground := Ground.textOnly Departure.lateStores }, { on := 14, ground := Ground.textOnly Departure.lateStores }, { on := 15, ground := Ground.textOnly Departure.lateStores }, { on := 16, ground := Ground.textOnly Departure.lateStores }, { on := 17, ground := Ground.textOnly Departure.lateStores }, { on := 18, ground := Ground.textOnly Departure.lateStores }, { on := 19, ground := Ground.textOnly Departure.lateStores }], guard := Option.none }) (v := ?_) rfl (by kernel_rfl) (by kernel_rfl) (by kernel_rfl) (fun _ _ _ h => h) (by decide) (Or.inl ⟨by rfl, ?_⟩) (fun _ => hHeld) ?_
      rotate_left
      · intro w hSw
        go_simp
        try with_reducible rfl
      try simp only [Act.put,List.setIfInBounds_toArray,List.set_cons_zero,List.set_cons_succ]
      refine wpAnyL_free (i := 21) (oi := { dst := Option.some 84, op := Op.fieldAddr 63 (.tmp 83) 2, type := 0, pos := "units.go:74", after := #[⟨20, .data⟩, ⟨0, .phase⟩, ⟨1, .phase⟩, { on := 2, ground := Ground.textOnly Departure.lateStores }, { on := 3, ground := Ground.textOnly Departure.lateStores }, { on := 4, ground := Ground.textOnly Departure.lateStores }, { on := 5, ground := Ground.textOnly Departure.lateStores }, { on := 6, ground := Ground.textOnly Departure.lateStores }, { on := 7, ground := Ground.textOnly Departure.lateStores }, { on := 8, ground := Ground.textOnly Departure.lateStores }, { on := 9, ground := Ground.textOnly Departure.lateStores }, ⟨10, .phase⟩, ⟨11, .phase⟩, { on := 12, ground := Ground.textOnly Departure.lateStores }, { on := 13, ground := Ground.textOnly Departure.lateStores }, { on := 14, ground := Ground.textOnly Departure.lateStores }, { on := 15, ground := Ground.textOnly Departure.lateStores }, { on := 16, ground := Ground.textOnly Departure.lateStores }, { on := 17, ground := Ground.textOnly Departure.lateStores }, { on := 18, ground := Ground.textOnly Departure.lateStores }, { on := 19, ground := Ground.textOnly Departure.lateStores }], guard := Option.none }) (v := ?_) rfl (by kernel_rfl) (by kernel_rfl) (by kernel_rfl) (fun _ _ _ h => h) (by decide) (Or.inl ⟨by rfl, ?_⟩) (fun _ => hHeld) ?_
      rotate_left
      · intro w hSw
        go_simp
        try with_reducible rfl
      try simp only [Act.put,List.setIfInBounds_toArray,List.set_cons_zero,List.set_cons_succ]
      have hgY : w3.heap.size ≠ g := by have := HGZ.out; omega
      have hgR : g ≠ R := by have := HGZ.out; have := HB.out; have := HR.out; omega
      have hg15 : 15 ≤ g := by have := HGZ.out; have := HB.out; have := HR.out; omega
      have hg0 : w0.heap.size ≤ g := by have := HGZ.out; have := HB.out; omega
      have HGS := hidI (And.intro hgY (And.intro hgR (And.intro hg15 hg0)))
      clear hgY hgR hg15 hg0
      have hHeld0 : (fun w' : World => w'.cell? ⟨w3.heap.size,2,none⟩ = some (.int .i64 y3) ∧ w'.cell? ⟨w3.heap.size,3,none⟩ = some (.string y4) ∧ w'.cell? ⟨w3.heap.size,4,none⟩ = some (.int .i64 y5) ∧ w'.cell? ⟨w3.heap.size,5,none⟩ = some (.int .i64 y6) ∧ w'.cell? ⟨w3.heap.size,6,none⟩ = some (.int .i64 f1) ∧ w'.cell? ⟨w3.heap.size,7,none⟩ = some (.int .i64 o1) ∧ w'.cell? ⟨w3.heap.size,8,none⟩ = some (.int .i64 kd1) ∧ w'.cell? ⟨w3.heap.size,9,none⟩ = some (.int .i64 n1) ∧ w'.cell? ⟨w3.heap.size,10,none⟩ = some (.string nm1) ∧ w'.cell? ⟨w3.heap.size,11,none⟩ = some (.string pt1) ∧ w'.cell? ⟨w3.heap.size,12,none⟩ = some (.int .i64 a1) ∧ w'.cell? ⟨w3.heap.size,13,none⟩ = some (.slice kx1 0 kc1)) (wr.setCell ⟨g,i * 15 + 2,none⟩ (.int .i64 y3)).drew := by
       obtain ⟨hgY,_,_,_⟩ := HGS.out
       have hy2 : (wr.setCell ⟨g,i * 15 + 2,none⟩ (.int .i64 y3)).drew.heap[w3.heap.size]? = some (.cells #[.string y1,.int .i64 y2,.int .i64 y3,.string y4,.int .i64 y5,.int .i64 y6,.int .i64 f1,.int .i64 o1,.int .i64 kd1,.int .i64 n1,.string nm1,.string pt1,.int .i64 a1,.slice kx1 0 kc1,.int .i64 y8] 63) := (keepS (p := g) (i := i * 15 + 2) (v := .int .i64 y3) YZ.out hgY)
       exact ⟨by simpa using at_cell (hy2) 2,by simpa using at_cell (hy2) 3,by simpa using at_cell (hy2) 4,by simpa using at_cell (hy2) 5,by simpa using at_cell (hy2) 6,by simpa using at_cell (hy2) 7,by simpa using at_cell (hy2) 8,by simpa using at_cell (hy2) 9,by simpa using at_cell (hy2) 10,by simpa using at_cell (hy2) 11,by simpa using at_cell (hy2) 12,by simpa using at_cell (hy2) 13⟩
      refine wpAnyL_one (j := 22) (o := { dst := Option.none, op := Op.store 29 (.tmp 84) (.tmp 74), type := 0, pos := "units.go:74", after := #[⟨21, .data⟩, ⟨11, .data⟩, ⟨0, .phase⟩, ⟨1, .phase⟩, { on := 2, ground := Ground.textOnly Departure.lateStores }, { on := 3, ground := Ground.textOnly Departure.lateStores }, { on := 4, ground := Ground.textOnly Departure.lateStores }, { on := 5, ground := Ground.textOnly Departure.lateStores }, { on := 6, ground := Ground.textOnly Departure.lateStores }, { on := 7, ground := Ground.textOnly Departure.lateStores }, { on := 8, ground := Ground.textOnly Departure.lateStores }, { on := 9, ground := Ground.textOnly Departure.lateStores }, ⟨10, .phase⟩, ⟨11, .phase⟩, { on := 12, ground := Ground.textOnly Departure.lateStores }, { on := 13, ground := Ground.textOnly Departure.lateStores }, { on := 14, ground := Ground.textOnly Departure.lateStores }, { on := 15, ground := Ground.textOnly Departure.lateStores }, { on := 16, ground := Ground.textOnly Departure.lateStores }, { on := 17, ground := Ground.textOnly Departure.lateStores }, { on := 18, ground := Ground.textOnly Departure.lateStores }, { on := 19, ground := Ground.textOnly Departure.lateStores }], guard := Option.none }) (by kernel_rfl) rfl (fun K hK => ?_)
      go_simp
      refine hK.out _ _ (fun _ _ => hHeld0) ?_
      clear hK K
      try simp only [Act.put,List.setIfInBounds_toArray,List.set_cons_zero,List.set_cons_succ]
      refine wpAnyL_free (i := 23) (oi := { dst := Option.some 85, op := Op.indexAddr 30 (.tmp 65) (.tmp 66), type := 0, pos := "units.go:74", after := #[⟨2, .data⟩, ⟨3, .data⟩, ⟨0, .phase⟩, ⟨1, .phase⟩, ⟨2, .phase⟩, ⟨3, .phase⟩, { on := 4, ground := Ground.textOnly Departure.lateStores }, { on := 5, ground := Ground.textOnly Departure.lateStores }, { on := 6, ground := Ground.textOnly Departure.lateStores }, { on := 7, ground := Ground.textOnly Departure.lateStores }, { on := 8, ground := Ground.textOnly Departure.lateStores }, { on := 9, ground := Ground.textOnly Departure.lateStores }, ⟨10, .phase⟩, ⟨11, .phase⟩, ⟨12, .phase⟩, ⟨13, .phase⟩, { on := 14, ground := Ground.textOnly Departure.lateStores }, { on := 15, ground := Ground.textOnly Departure.lateStores }, { on := 16, ground := Ground.textOnly Departure.lateStores }, { on := 17, ground := Ground.textOnly Departure.lateStores }, { on := 18, ground := Ground.textOnly Departure.lateStores }, { on := 19, ground := Ground.textOnly Departure.lateStores }, ⟨20, .phase⟩, ⟨21, .phase⟩, ⟨22, .phase⟩], guard := Option.none }) (v := ?_) rfl (by kernel_rfl) (by kernel_rfl) (by kernel_rfl) (fun _ _ _ h => h) (by decide) (Or.inl ⟨by rfl, ?_⟩) (fun _ => hHeld0) ?_
      rotate_left
      · intro w hSw
        go_simp
        try with_reducible rfl
      try simp only [Act.put,List.setIfInBounds_toArray,List.set_cons_zero,List.set_cons_succ]
      refine wpAnyL_free (i := 24) (oi := { dst := Option.some 86, op := Op.fieldAddr 63 (.tmp 85) 3, type := 0, pos := "units.go:74", after := #[⟨23, .data⟩, ⟨0, .phase⟩, ⟨1, .phase⟩, ⟨2, .phase⟩, ⟨3, .phase⟩, { on := 4, ground := Ground.textOnly Departure.lateStores }, { on := 5, ground := Ground.textOnly Departure.lateStores }, { on := 6, ground := Ground.textOnly Departure.lateStores }, { on := 7, ground := Ground.textOnly Departure.lateStores }, { on := 8, ground := Ground.textOnly Departure.lateStores }, { on := 9, ground := Ground.textOnly Departure.lateStores }, ⟨10, .phase⟩, ⟨11, .phase⟩, ⟨12, .phase⟩, ⟨13, .phase⟩, { on := 14, ground := Ground.textOnly Departure.lateStores }, { on := 15, ground := Ground.textOnly Departure.lateStores }, { on := 16, ground := Ground.textOnly Departure.lateStores }, { on := 17, ground := Ground.textOnly Departure.lateStores }, { on := 18, ground := Ground.textOnly Departure.lateStores }, { on := 19, ground := Ground.textOnly Departure.lateStores }, ⟨20, .phase⟩, ⟨21, .phase⟩, ⟨22, .phase⟩], guard := Option.none }) (v := ?_) rfl (by kernel_rfl) (by kernel_rfl) (by kernel_rfl) (fun _ _ _ h => h) (by decide) (Or.inl ⟨by rfl, ?_⟩) (fun _ => hHeld0) ?_
      rotate_left
      · intro w hSw
        go_simp
        try with_reducible rfl
      try simp only [Act.put,List.setIfInBounds_toArray,List.set_cons_zero,List.set_cons_succ]
      have hHeld1 : (fun w' : World => w'.cell? ⟨w3.heap.size,2,none⟩ = some (.int .i64 y3) ∧ w'.cell? ⟨w3.heap.size,3,none⟩ = some (.string y4) ∧ w'.cell? ⟨w3.heap.size,4,none⟩ = some (.int .i64 y5) ∧ w'.cell? ⟨w3.heap.size,5,none⟩ = some (.int .i64 y6) ∧ w'.cell? ⟨w3.heap.size,6,none⟩ = some (.int .i64 f1) ∧ w'.cell? ⟨w3.heap.size,7,none⟩ = some (.int .i64 o1) ∧ w'.cell? ⟨w3.heap.size,8,none⟩ = some (.int .i64 kd1) ∧ w'.cell? ⟨w3.heap.size,9,none⟩ = some (.int .i64 n1) ∧ w'.cell? ⟨w3.heap.size,10,none⟩ = some (.string nm1) ∧ w'.cell? ⟨w3.heap.size,11,none⟩ = some (.string pt1) ∧ w'.cell? ⟨w3.heap.size,12,none⟩ = some (.int .i64 a1) ∧ w'.cell? ⟨w3.heap.size,13,none⟩ = some (.slice kx1 0 kc1)) ((wr.setCell ⟨g,i * 15 + 2,none⟩ (.int .i64 y3)).setCell ⟨g,i * 15 + 3,none⟩ (.string y4)).drew := by
       obtain ⟨hgY,_,_,_⟩ := HGS.out
       have hy2 : ((wr.setCell ⟨g,i * 15 + 2,none⟩ (.int .i64 y3)).setCell ⟨g,i * 15 + 3,none⟩ (.string y4)).drew.heap[w3.heap.size]? = some (.cells #[.string y1,.int .i64 y2,.int .i64 y3,.string y4,.int .i64 y5,.int .i64 y6,.int .i64 f1,.int .i64 o1,.int .i64 kd1,.int .i64 n1,.string nm1,.string pt1,.int .i64 a1,.slice kx1 0 kc1,.int .i64 y8] 63) := (keepS (p := g) (i := i * 15 + 3) (v := .string y4) (keepS (p := g) (i := i * 15 + 2) (v := .int .i64 y3) YZ.out hgY) hgY)
       exact ⟨by simpa using at_cell (hy2) 2,by simpa using at_cell (hy2) 3,by simpa using at_cell (hy2) 4,by simpa using at_cell (hy2) 5,by simpa using at_cell (hy2) 6,by simpa using at_cell (hy2) 7,by simpa using at_cell (hy2) 8,by simpa using at_cell (hy2) 9,by simpa using at_cell (hy2) 10,by simpa using at_cell (hy2) 11,by simpa using at_cell (hy2) 12,by simpa using at_cell (hy2) 13⟩
      refine wpAnyL_one (j := 25) (o := { dst := Option.none, op := Op.store 9 (.tmp 86) (.tmp 76), type := 0, pos := "units.go:74", after := #[⟨24, .data⟩, ⟨13, .data⟩, ⟨22, .chain⟩, ⟨0, .phase⟩, ⟨1, .phase⟩, ⟨2, .phase⟩, ⟨3, .phase⟩, { on := 4, ground := Ground.textOnly Departure.lateStores }, { on := 5, ground := Ground.textOnly Departure.lateStores }, { on := 6, ground := Ground.textOnly Departure.lateStores }, { on := 7, ground := Ground.textOnly Departure.lateStores }, { on := 8, ground := Ground.textOnly Departure.lateStores }, { on := 9, ground := Ground.textOnly Departure.lateStores }, ⟨10, .phase⟩, ⟨11, .phase⟩, ⟨12, .phase⟩, ⟨13, .phase⟩, { on := 14, ground := Ground.textOnly Departure.lateStores }, { on := 15, ground := Ground.textOnly Departure.lateStores }, { on := 16, ground := Ground.textOnly Departure.lateStores }, { on := 17, ground := Ground.textOnly Departure.lateStores }, { on := 18, ground := Ground.textOnly Departure.lateStores }, { on := 19, ground := Ground.textOnly Departure.lateStores }, ⟨20, .phase⟩, ⟨21, .phase⟩, ⟨22, .phase⟩], guard := Option.none }) (by kernel_rfl) rfl (fun K hK => ?_)
      go_simp
      refine hK.out _ _ (fun _ _ => hHeld1) ?_
      clear hK K
      try simp only [Act.put,List.setIfInBounds_toArray,List.set_cons_zero,List.set_cons_succ]
      refine wpAnyL_free (i := 26) (oi := { dst := Option.some 87, op := Op.indexAddr 30 (.tmp 67) (.tmp 68), type := 0, pos := "units.go:74", after := #[⟨4, .data⟩, ⟨5, .data⟩, ⟨0, .phase⟩, ⟨1, .phase⟩, ⟨2, .phase⟩, ⟨3, .phase⟩, ⟨4, .phase⟩, ⟨5, .phase⟩, { on := 6, ground := Ground.textOnly Departure.lateStores }, { on := 7, ground := Ground.textOnly Departure.lateStores }, { on := 8, ground := Ground.textOnly Departure.lateStores }, { on := 9, ground := Ground.textOnly Departure.lateStores }, ⟨10, .phase⟩, ⟨11, .phase⟩, ⟨12, .phase⟩, ⟨13, .phase⟩, ⟨14, .phase⟩, ⟨15, .phase⟩, { on := 16, ground := Ground.textOnly Departure.lateStores }, { on := 17, ground := Ground.textOnly Departure.lateStores }, { on := 18, ground := Ground.textOnly Departure.lateStores }, { on := 19, ground := Ground.textOnly Departure.lateStores }, ⟨20, .phase⟩, ⟨21, .phase⟩, ⟨22, .phase⟩, ⟨23, .phase⟩, ⟨24, .phase⟩, ⟨25, .phase⟩], guard := Option.none }) (v := ?_) rfl (by kernel_rfl) (by kernel_rfl) (by kernel_rfl) (fun _ _ _ h => h) (by decide) (Or.inl ⟨by rfl, ?_⟩) (fun _ => hHeld1) ?_
      rotate_left
      · intro w hSw
        go_simp
        try with_reducible rfl
      try simp only [Act.put,List.setIfInBounds_toArray,List.set_cons_zero,List.set_cons_succ]
      refine wpAnyL_free (i := 27) (oi := { dst := Option.some 88, op := Op.fieldAddr 63 (.tmp 87) 4, type := 0, pos := "units.go:74", after := #[⟨26, .data⟩, ⟨0, .phase⟩, ⟨1, .phase⟩, ⟨2, .phase⟩, ⟨3, .phase⟩, ⟨4, .phase⟩, ⟨5, .phase⟩, { on := 6, ground := Ground.textOnly Departure.lateStores }, { on := 7, ground := Ground.textOnly Departure.lateStores }, { on := 8, ground := Ground.textOnly Departure.lateStores }, { on := 9, ground := Ground.textOnly Departure.lateStores }, ⟨10, .phase⟩, ⟨11, .phase⟩, ⟨12, .phase⟩, ⟨13, .phase⟩, ⟨14, .phase⟩, ⟨15, .phase⟩, { on := 16, ground := Ground.textOnly Departure.lateStores }, { on := 17, ground := Ground.textOnly Departure.lateStores }, { on := 18, ground := Ground.textOnly Departure.lateStores }, { on := 19, ground := Ground.textOnly Departure.lateStores }, ⟨20, .phase⟩, ⟨21, .phase⟩, ⟨22, .phase⟩, ⟨23, .phase⟩, ⟨24, .phase⟩, ⟨25, .phase⟩], guard := Option.none }) (v := ?_) rfl (by kernel_rfl) (by kernel_rfl) (by kernel_rfl) (fun _ _ _ h => h) (by decide) (Or.inl ⟨by rfl, ?_⟩) (fun _ => hHeld1) ?_
      rotate_left
      · intro w hSw
        go_simp
        try with_reducible rfl
      try simp only [Act.put,List.setIfInBounds_toArray,List.set_cons_zero,List.set_cons_succ]
      have hHeld2 : (fun w' : World => w'.cell? ⟨w3.heap.size,2,none⟩ = some (.int .i64 y3) ∧ w'.cell? ⟨w3.heap.size,3,none⟩ = some (.string y4) ∧ w'.cell? ⟨w3.heap.size,4,none⟩ = some (.int .i64 y5) ∧ w'.cell? ⟨w3.heap.size,5,none⟩ = some (.int .i64 y6) ∧ w'.cell? ⟨w3.heap.size,6,none⟩ = some (.int .i64 f1) ∧ w'.cell? ⟨w3.heap.size,7,none⟩ = some (.int .i64 o1) ∧ w'.cell? ⟨w3.heap.size,8,none⟩ = some (.int .i64 kd1) ∧ w'.cell? ⟨w3.heap.size,9,none⟩ = some (.int .i64 n1) ∧ w'.cell? ⟨w3.heap.size,10,none⟩ = some (.string nm1) ∧ w'.cell? ⟨w3.heap.size,11,none⟩ = some (.string pt1) ∧ w'.cell? ⟨w3.heap.size,12,none⟩ = some (.int .i64 a1) ∧ w'.cell? ⟨w3.heap.size,13,none⟩ = some (.slice kx1 0 kc1)) (((wr.setCell ⟨g,i * 15 + 2,none⟩ (.int .i64 y3)).setCell ⟨g,i * 15 + 3,none⟩ (.string y4)).setCell ⟨g,i * 15 + 4,none⟩ (.int .i64 y5)).drew := by
       obtain ⟨hgY,_,_,_⟩ := HGS.out
       have hy2 : (((wr.setCell ⟨g,i * 15 + 2,none⟩ (.int .i64 y3)).setCell ⟨g,i * 15 + 3,none⟩ (.string y4)).setCell ⟨g,i * 15 + 4,none⟩ (.int .i64 y5)).drew.heap[w3.heap.size]? = some (.cells #[.string y1,.int .i64 y2,.int .i64 y3,.string y4,.int .i64 y5,.int .i64 y6,.int .i64 f1,.int .i64 o1,.int .i64 kd1,.int .i64 n1,.string nm1,.string pt1,.int .i64 a1,.slice kx1 0 kc1,.int .i64 y8] 63) := (keepS (p := g) (i := i * 15 + 4) (v := .int .i64 y5) (keepS (p := g) (i := i * 15 + 3) (v := .string y4) (keepS (p := g) (i := i * 15 + 2) (v := .int .i64 y3) YZ.out hgY) hgY) hgY)
       exact ⟨by simpa using at_cell (hy2) 2,by simpa using at_cell (hy2) 3,by simpa using at_cell (hy2) 4,by simpa using at_cell (hy2) 5,by simpa using at_cell (hy2) 6,by simpa using at_cell (hy2) 7,by simpa using at_cell (hy2) 8,by simpa using at_cell (hy2) 9,by simpa using at_cell (hy2) 10,by simpa using at_cell (hy2) 11,by simpa using at_cell (hy2) 12,by simpa using at_cell (hy2) 13⟩
      refine wpAnyL_one (j := 28) (o := { dst := Option.none, op := Op.store 3 (.tmp 88) (.tmp 78), type := 0, pos := "units.go:74", after := #[⟨27, .data⟩, ⟨15, .data⟩, ⟨25, .chain⟩, ⟨0, .phase⟩, ⟨1, .phase⟩, ⟨2, .phase⟩, ⟨3, .phase⟩, ⟨4, .phase⟩, ⟨5, .phase⟩, { on := 6, ground := Ground.textOnly Departure.lateStores }, { on := 7, ground := Ground.textOnly Departure.lateStores }, { on := 8, ground := Ground.textOnly Departure.lateStores }, { on := 9, ground := Ground.textOnly Departure.lateStores }, ⟨10, .phase⟩, ⟨11, .phase⟩, ⟨12, .phase⟩, ⟨13, .phase⟩, ⟨14, .phase⟩, ⟨15, .phase⟩, { on := 16, ground := Ground.textOnly Departure.lateStores }, { on := 17, ground := Ground.textOnly Departure.lateStores }, { on := 18, ground := Ground.textOnly Departure.lateStores }, { on := 19, ground := Ground.textOnly Departure.lateStores }, ⟨20, .phase⟩, ⟨21, .phase⟩, ⟨22, .phase⟩, ⟨23, .phase⟩, ⟨24, .phase⟩, ⟨25, .phase⟩], guard := Option.none }) (by kernel_rfl) rfl (fun K hK => ?_)
      go_simp
      refine hK.out _ _ (fun _ _ => hHeld2) ?_
      clear hK K
      try simp only [Act.put,List.setIfInBounds_toArray,List.set_cons_zero,List.set_cons_succ]
      refine wpAnyL_free (i := 29) (oi := { dst := Option.some 89, op := Op.indexAddr 30 (.tmp 69) (.tmp 70), type := 0, pos := "units.go:74", after := #[⟨6, .data⟩, ⟨7, .data⟩, ⟨0, .phase⟩, ⟨1, .phase⟩, ⟨2, .phase⟩, ⟨3, .phase⟩, ⟨4, .phase⟩, ⟨5, .phase⟩, ⟨6, .phase⟩, ⟨7, .phase⟩, { on := 8, ground := Ground.textOnly Departure.lateStores }, { on := 9, ground := Ground.textOnly Departure.lateStores }, ⟨10, .phase⟩, ⟨11, .phase⟩, ⟨12, .phase⟩, ⟨13, .phase⟩, ⟨14, .phase⟩, ⟨15, .phase⟩, ⟨16, .phase⟩, ⟨17, .phase⟩, { on := 18, ground := Ground.textOnly Departure.lateStores }, { on := 19, ground := Ground.textOnly Departure.lateStores }, ⟨20, .phase⟩, ⟨21, .phase⟩, ⟨22, .phase⟩, ⟨23, .phase⟩, ⟨24, .phase⟩, ⟨25, .phase⟩, ⟨26, .phase⟩, ⟨27, .phase⟩, ⟨28, .phase⟩], guard := Option.none }) (v := ?_) rfl (by kernel_rfl) (by kernel_rfl) (by kernel_rfl) (fun _ _ _ h => h) (by decide) (Or.inl ⟨by rfl, ?_⟩) (fun _ => hHeld2) ?_
      rotate_left
      · intro w hSw
        go_simp
        try with_reducible rfl
      try simp only [Act.put,List.setIfInBounds_toArray,List.set_cons_zero,List.set_cons_succ]
      refine wpAnyL_free (i := 30) (oi := { dst := Option.some 90, op := Op.fieldAddr 63 (.tmp 89) 5, type := 0, pos := "units.go:74", after := #[⟨29, .data⟩, ⟨0, .phase⟩, ⟨1, .phase⟩, ⟨2, .phase⟩, ⟨3, .phase⟩, ⟨4, .phase⟩, ⟨5, .phase⟩, ⟨6, .phase⟩, ⟨7, .phase⟩, { on := 8, ground := Ground.textOnly Departure.lateStores }, { on := 9, ground := Ground.textOnly Departure.lateStores }, ⟨10, .phase⟩, ⟨11, .phase⟩, ⟨12, .phase⟩, ⟨13, .phase⟩, ⟨14, .phase⟩, ⟨15, .phase⟩, ⟨16, .phase⟩, ⟨17, .phase⟩, { on := 18, ground := Ground.textOnly Departure.lateStores }, { on := 19, ground := Ground.textOnly Departure.lateStores }, ⟨20, .phase⟩, ⟨21, .phase⟩, ⟨22, .phase⟩, ⟨23, .phase⟩, ⟨24, .phase⟩, ⟨25, .phase⟩, ⟨26, .phase⟩, ⟨27, .phase⟩, ⟨28, .phase⟩], guard := Option.none }) (v := ?_) rfl (by kernel_rfl) (by kernel_rfl) (by kernel_rfl) (fun _ _ _ h => h) (by decide) (Or.inl ⟨by rfl, ?_⟩) (fun _ => hHeld2) ?_
      rotate_left
      · intro w hSw
        go_simp
        try with_reducible rfl
      try simp only [Act.put,List.setIfInBounds_toArray,List.set_cons_zero,List.set_cons_succ]
      have hHeld3 : (fun w' : World => w'.cell? ⟨w3.heap.size,2,none⟩ = some (.int .i64 y3) ∧ w'.cell? ⟨w3.heap.size,3,none⟩ = some (.string y4) ∧ w'.cell? ⟨w3.heap.size,4,none⟩ = some (.int .i64 y5) ∧ w'.cell? ⟨w3.heap.size,5,none⟩ = some (.int .i64 y6) ∧ w'.cell? ⟨w3.heap.size,6,none⟩ = some (.int .i64 f1) ∧ w'.cell? ⟨w3.heap.size,7,none⟩ = some (.int .i64 o1) ∧ w'.cell? ⟨w3.heap.size,8,none⟩ = some (.int .i64 kd1) ∧ w'.cell? ⟨w3.heap.size,9,none⟩ = some (.int .i64 n1) ∧ w'.cell? ⟨w3.heap.size,10,none⟩ = some (.string nm1) ∧ w'.cell? ⟨w3.heap.size,11,none⟩ = some (.string pt1) ∧ w'.cell? ⟨w3.heap.size,12,none⟩ = some (.int .i64 a1) ∧ w'.cell? ⟨w3.heap.size,13,none⟩ = some (.slice kx1 0 kc1)) ((((wr.setCell ⟨g,i * 15 + 2,none⟩ (.int .i64 y3)).setCell ⟨g,i * 15 + 3,none⟩ (.string y4)).setCell ⟨g,i * 15 + 4,none⟩ (.int .i64 y5)).setCell ⟨g,i * 15 + 5,none⟩ (.int .i64 y6)).drew := by
       obtain ⟨hgY,_,_,_⟩ := HGS.out
       have hy2 : ((((wr.setCell ⟨g,i * 15 + 2,none⟩ (.int .i64 y3)).setCell ⟨g,i * 15 + 3,none⟩ (.string y4)).setCell ⟨g,i * 15 + 4,none⟩ (.int .i64 y5)).setCell ⟨g,i * 15 + 5,none⟩ (.int .i64 y6)).drew.heap[w3.heap.size]? = some (.cells #[.string y1,.int .i64 y2,.int .i64 y3,.string y4,.int .i64 y5,.int .i64 y6,.int .i64 f1,.int .i64 o1,.int .i64 kd1,.int .i64 n1,.string nm1,.string pt1,.int .i64 a1,.slice kx1 0 kc1,.int .i64 y8] 63) := (keepS (p := g) (i := i * 15 + 5) (v := .int .i64 y6) (keepS (p := g) (i := i * 15 + 4) (v := .int .i64 y5) (keepS (p := g) (i := i * 15 + 3) (v := .string y4) (keepS (p := g) (i := i * 15 + 2) (v := .int .i64 y3) YZ.out hgY) hgY) hgY) hgY)
       exact ⟨by simpa using at_cell (hy2) 2,by simpa using at_cell (hy2) 3,by simpa using at_cell (hy2) 4,by simpa using at_cell (hy2) 5,by simpa using at_cell (hy2) 6,by simpa using at_cell (hy2) 7,by simpa using at_cell (hy2) 8,by simpa using at_cell (hy2) 9,by simpa using at_cell (hy2) 10,by simpa using at_cell (hy2) 11,by simpa using at_cell (hy2) 12,by simpa using at_cell (hy2) 13⟩
      refine wpAnyL_one (j := 31) (o := { dst := Option.none, op := Op.store 3 (.tmp 90) (.tmp 80), type := 0, pos := "units.go:74", after := #[⟨30, .data⟩, ⟨17, .data⟩, ⟨28, .chain⟩, ⟨0, .phase⟩, ⟨1, .phase⟩, ⟨2, .phase⟩, ⟨3, .phase⟩, ⟨4, .phase⟩, ⟨5, .phase⟩, ⟨6, .phase⟩, ⟨7, .phase⟩, { on := 8, ground := Ground.textOnly Departure.lateStores }, { on := 9, ground := Ground.textOnly Departure.lateStores }, ⟨10, .phase⟩, ⟨11, .phase⟩, ⟨12, .phase⟩, ⟨13, .phase⟩, ⟨14, .phase⟩, ⟨15, .phase⟩, ⟨16, .phase⟩, ⟨17, .phase⟩, { on := 18, ground := Ground.textOnly Departure.lateStores }, { on := 19, ground := Ground.textOnly Departure.lateStores }, ⟨20, .phase⟩, ⟨21, .phase⟩, ⟨22, .phase⟩, ⟨23, .phase⟩, ⟨24, .phase⟩, ⟨25, .phase⟩, ⟨26, .phase⟩, ⟨27, .phase⟩, ⟨28, .phase⟩], guard := Option.none }) (by kernel_rfl) rfl (fun K hK => ?_)
      go_simp
      refine hK.out _ _ (fun _ _ => hHeld3) ?_
      clear hK K
      try simp only [Act.put,List.setIfInBounds_toArray,List.set_cons_zero,List.set_cons_succ]
      refine wpAnyL_free (i := 32) (oi := { dst := Option.some 91, op := Op.indexAddr 30 (.tmp 71) (.tmp 72), type := 0, pos := "units.go:74", after := #[⟨8, .data⟩, ⟨9, .data⟩, ⟨0, .phase⟩, ⟨1, .phase⟩, ⟨2, .phase⟩, ⟨3, .phase⟩, ⟨4, .phase⟩, ⟨5, .phase⟩, ⟨6, .phase⟩, ⟨7, .phase⟩, ⟨8, .phase⟩, ⟨9, .phase⟩, ⟨10, .phase⟩, ⟨11, .phase⟩, ⟨12, .phase⟩, ⟨13, .phase⟩, ⟨14, .phase⟩, ⟨15, .phase⟩, ⟨16, .phase⟩, ⟨17, .phase⟩, ⟨18, .phase⟩, ⟨19, .phase⟩, ⟨20, .phase⟩, ⟨21, .phase⟩, ⟨22, .phase⟩, ⟨23, .phase⟩, ⟨24, .phase⟩, ⟨25, .phase⟩, ⟨26, .phase⟩, ⟨27, .phase⟩, ⟨28, .phase⟩, ⟨29, .phase⟩, ⟨30, .phase⟩, ⟨31, .phase⟩], guard := Option.none }) (v := ?_) rfl (by kernel_rfl) (by kernel_rfl) (by kernel_rfl) (fun _ _ _ h => h) (by decide) (Or.inl ⟨by rfl, ?_⟩) (fun _ => hHeld3) ?_
      rotate_left
      · intro w hSw
        go_simp
        try with_reducible rfl
      try simp only [Act.put,List.setIfInBounds_toArray,List.set_cons_zero,List.set_cons_succ]
      refine wpAnyL_free (i := 33) (oi := { dst := Option.some 92, op := Op.fieldAddr 63 (.tmp 91) 6, type := 0, pos := "units.go:74", after := #[⟨32, .data⟩, ⟨0, .phase⟩, ⟨1, .phase⟩, ⟨2, .phase⟩, ⟨3, .phase⟩, ⟨4, .phase⟩, ⟨5, .phase⟩, ⟨6, .phase⟩, ⟨7, .phase⟩, ⟨8, .phase⟩, ⟨9, .phase⟩, ⟨10, .phase⟩, ⟨11, .phase⟩, ⟨12, .phase⟩, ⟨13, .phase⟩, ⟨14, .phase⟩, ⟨15, .phase⟩, ⟨16, .phase⟩, ⟨17, .phase⟩, ⟨18, .phase⟩, ⟨19, .phase⟩, ⟨20, .phase⟩, ⟨21, .phase⟩, ⟨22, .phase⟩, ⟨23, .phase⟩, ⟨24, .phase⟩, ⟨25, .phase⟩, ⟨26, .phase⟩, ⟨27, .phase⟩, ⟨28, .phase⟩, ⟨29, .phase⟩, ⟨30, .phase⟩, ⟨31, .phase⟩], guard := Option.none }) (v := ?_) rfl (by kernel_rfl) (by kernel_rfl) (by kernel_rfl) (fun _ _ _ h => h) (by decide) (Or.inl ⟨by rfl, ?_⟩) (fun _ => hHeld3) ?_
      rotate_left
      · intro w hSw
        go_simp
        try with_reducible rfl
      try simp only [Act.put,List.setIfInBounds_toArray,List.set_cons_zero,List.set_cons_succ]
      refine wpAnyL_one (j := 34) (o := { dst := Option.none, op := Op.store 61 (.tmp 92) (.tmp 82), type := 0, pos := "units.go:74", after := #[⟨33, .data⟩, ⟨19, .data⟩, ⟨31, .chain⟩, ⟨0, .phase⟩, ⟨1, .phase⟩, ⟨2, .phase⟩, ⟨3, .phase⟩, ⟨4, .phase⟩, ⟨5, .phase⟩, ⟨6, .phase⟩, ⟨7, .phase⟩, ⟨8, .phase⟩, ⟨9, .phase⟩, ⟨10, .phase⟩, ⟨11, .phase⟩, ⟨12, .phase⟩, ⟨13, .phase⟩, ⟨14, .phase⟩, ⟨15, .phase⟩, ⟨16, .phase⟩, ⟨17, .phase⟩, ⟨18, .phase⟩, ⟨19, .phase⟩, ⟨20, .phase⟩, ⟨21, .phase⟩, ⟨22, .phase⟩, ⟨23, .phase⟩, ⟨24, .phase⟩, ⟨25, .phase⟩, ⟨26, .phase⟩, ⟨27, .phase⟩, ⟨28, .phase⟩, ⟨29, .phase⟩, ⟨30, .phase⟩, ⟨31, .phase⟩], guard := Option.none }) (by kernel_rfl) rfl (fun K hK => ?_)
      go_simp
      refine hK.out _ _ (fun h => absurd rfl h) ?_
      clear hK K
      try simp only [Act.put,List.setIfInBounds_toArray,List.set_cons_zero,List.set_cons_succ]
      refine wpAnyL_done (by kernel_rfl) ?_ _
      have hwi : IntKind.i64.wrap ((i : Int) + 1) = i + 1 := IntWalk.i64_in _ (by have := S1.out; omega)
      clear hc2 hc3 hc4 hc5 hc6 hc7 hc8 hc9 hc10 hc11 hc12 hc13 hz0 hcur hcs HW0
      go_wp2_with fail
      go_roundg (l.length + 1 - (i + 1))
      case measure => omega
      case rel =>
       obtain ⟨hgY,hgR,hg15,hg0⟩ := HGS.out
       exact dw_next (by rw [hyy]) (by rw [hyy]) (by rw [hyy]) (by rw [hyy]) (by rw [hyy]) ⟨_,_,rfl⟩ CZ.out GZ.out YZ.out LZ.out hi1 hi hgY hgR hg15 hg0
  | true =>
   obtain ⟨hgk,hr⟩ := HM1.out rfl
   have HRr := hidI hr
   have HG := hidI hgk
   have hf : s.size + 2 - (l.length - vs.length) = (s.size + 1 - (l.length - vs.length)) + 1 := by have := C1.out.ok.2.1; have := HK.out; omega
   have HF := hidI hf
   clear hr hgk hf HM1 HM2
   obtain ⟨ap,aq,ar,af,ag,ah⟩ := facts A1.out
   go_wp2_with fail
   refine (needC_any C1.out 2).mono ?_
   intro e w2 h
   rcases h.get with ⟨k,t2,v2,r2,rfl,rfl,CC,g⟩ | ⟨cc,aa,r2,rfl,g⟩
   rotate_left
   · exact ⟨rfl,Out.bad (by rw [decP,← HRr.out,HF.out,decL]; (first | (rw [r2]; done) | (rw [r2]; rfl) | exact r2)) (gtr G1.out g)⟩
   have L2 := hidI ((L1.out).g g (by have := Z1.out; omega))
   have A2 : Hid (w2.heap[w.heap.size]? = some (.cells #[pR R] 46)) := keptBut g A1.out (by have := Z1.out; omega)
   have G2 := hidI (gtr G1.out g)
   have C2 := hidI CC
   have S2 : Hid (wr.heap.size + 0 ≤ w2.heap.size) := hidI (by have := g.size; first | omega | (simp at this; omega) | (simp at this ⊢; omega))
   clear g CC h ap aq ar af ag ah
   have T2 : Hid (tk.a + 1 ≤ t2.a) := (needC_adv C1.out.G 2 (by omega) _ _ _ C1.out.ok r2).2
   obtain ⟨ap,aq,ar,af,ag,ah⟩ := facts A2.out
   by_cases h200 : l.length = 200
   · have h200' : ((l.length : Int) == 200) = true := by simp [h200]
     have H2 := hidI h200
     clear h200
     go_wp2_with fail
     refine (giveUp_any R s t2 u _ _ _ (C2.out.al _).rd).mono ?_
     rintro e w3 ⟨rfl,rfl⟩
     exact ⟨rfl,Out.bad (by rw [decP,← HRr.out,HF.out,decL]; (first | rw [r2] | exact r2); try rw [bindOk]; rw [if_pos H2.out]; rfl) (gr_alloc G2.out _)⟩
   have h200' : ((l.length : Int) == 200) = false := by simp; omega
   have H2 := hidI h200
   clear h200
   have LT := hidI (L2.out.gn (gr1 w2 (.cells #[.int .i64 k.c,.string k.x,.int .i64 k.n,.int .i64 k.a,.int .i64 k.e,.int .i64 k.f] 73)))
   have hsz : (w2.alloc (.cells #[.int .i64 k.c,.string k.x,.int .i64 k.n,.int .i64 k.a,.int .i64 k.e,.int .i64 k.f] 73)).heap.size = w2.heap.size + 1 := by simp
   obtain ⟨a2,c2,w3,hrun,L3,g3,hn3⟩ := Gv.add LT.out ({ pv0 with name := k.x,role := role,at' := k.a }) rfl (by have := S1.out; omega) (by rw [hsz]; have := HR.out; have := HB.out; have := HL.out; have := S1.out; have := S2.out; omega)
   have ho := LT.out.lt
   rw [hsz] at hrun hn3 ho
   have HRUN : Hid ((Builtin.append_ #[30,30] 30 #[.slice a l.length c,.slice (some ⟨w2.heap.size + 1,0,none⟩) 1 1]).run Tryz.prog ((w2.alloc (.cells #[.int .i64 k.c,.string k.x,.int .i64 k.n,.int .i64 k.a,.int .i64 k.e,.int .i64 k.f] 73)).alloc (.cells #[.string k.x,.int .i64 role,.int .i64 0,.string ⟨#[]⟩,.int .i64 0,.int .i64 0,.int .i64 0,.int .i64 0,.int .i64 0,.int .i64 0,.string ⟨#[]⟩,.string ⟨#[]⟩,.int .i64 0,.slice none 0 0,.int .i64 k.a] 63)) = .ok (.slice a2 (l.length + 1) c2) w3) := hrun
   have C3 := hidI (((C2.out.al _).al _).ga g3 (fun q hq => by have := ho q hq; have := HR.out; have := HB.out; constructor <;> omega))
   have G3 := hidI (grown_join (gr_alloc (gr_alloc G2.out _) _) g3 (Or.inr (fun q hq => by have := ho q hq; have := HB.out; omega)))
   have A3 := hidI (keptRow g3 (old (old A2.out _) _) (fun e => NE.out _ e rfl))
   have S3 : Hid (w2.heap.size + 2 ≤ w3.heap.size) := by have := g3.size; simp at this; exact this
   have Z6 := hidI (And.intro HR.out (And.intro HB.out (And.intro HL.out (And.intro S1.out (And.intro S2.out S3.out)))))
   have NE3 : Hid (∀ g,(Value.slice a2 (l ++ [{ pv0 with name := k.x,role := role,at' := k.a }]).length c2).ownBlock = some g → g ≠ w.heap.size) := fun g hg => by
    rcases hn3 g hg with h | h
    · exact NE.out g h
    · have := S1.out; have := S2.out; omega
   have LL := hidI L3
   clear hrun L3 g3 ho hn3 hsz LT
   obtain ⟨ap,aq,ar,af,ag,ah⟩ := facts A3.out
   go_wp2_with (first | (at_builtin; refine wpList_append_run rfl _ _ 30 rfl _ _ _ _ rfl rfl HRUN.out ?_))
   refine (tookW C3.out _ [⟨#[44]⟩] _ _ _ (by simp) rfl rfl (by decide)).mono ?_
   intro e w4 h
   rcases h.get with ⟨b4,t4,v4,r4,rfl,rfl,CC,g⟩ | ⟨cc,aa,r4,rfl,g⟩
   rotate_left
   · exact ⟨rfl,Out.bad (by rw [decP,← HRr.out,HF.out,decL]; (first | rw [r2] | exact r2); try rw [bindOk]; rw [if_neg H2.out]; (first | (rw [r4]; done) | (rw [r4]; rfl) | exact r4)) (gtr (gr_alloc G3.out _) g)⟩
   have L4 := hidI ((LL.out.gn (gr1 _ _)).g g (by have := Z6.out; omega))
   have A4 : Hid (w4.heap[w.heap.size]? = some (.cells #[pR R] 46)) := keptBut g (old A3.out _) (by have := Z6.out; omega)
   have G4 := hidI (gtr (gr_alloc G3.out _) g)
   have C4 := hidI CC
   have S4 : Hid (w3.heap.size + 1 ≤ w4.heap.size) := hidI (by have := g.size; first | omega | (simp at this; omega) | (simp at this ⊢; omega))
   have Z7 := hidI (And.intro HR.out (And.intro HB.out (And.intro HL.out (And.intro S1.out (And.intro S2.out (And.intro S3.out S4.out))))))
   clear g CC h ap aq ar af ag ah
   have T4 : Hid (t2.a + 0 ≤ t4.a) := (took_adv C2.out.G _ _ _ _ C2.out.ok r4).2
   cases b4
   · go_wp2_with fail
     have hgl := HG.out
     have hkk := HK.out
     have q2 := T2.out
     have q4 := T4.out
     have qs := HF.out
     have q1 := S1.out
     have q20 := H2.out
     have hlen : (l ++ [({ pv0 with name := k.x,role := role,at' := k.a } : PV)]).length = l.length + 1 := by simp
     go_roundg 0
     case measure => omega
     case rel =>
      refine ⟨l ++ [{ pv0 with name := k.x,role := role,at' := k.a }],a2,c2,t4,false,by rw [hlen],rfl,C4.out,G4.out,A4.out,L4.out,⟨by have := Z7.out; omega,by rw [hlen]; omega,by rw [hlen]; omega⟩,NE3.out,by rw [hlen]; push_cast; omega,(fun h => by cases h),fun _ => ⟨rfl,?_⟩⟩
      rw [← HRr.out,HF.out,decL]; (first | rw [r2] | exact r2); try rw [bindOk]; rw [if_neg H2.out]; (first | rw [r4] | exact r4); try rw [bindOk]; rw [if_neg (by simp)]
   · go_wp2_with fail
     have hgl := HG.out
     have hkk := HK.out
     have q2 := T2.out
     have q4 := T4.out
     have qs := HF.out
     have q1 := S1.out
     have q20 := H2.out
     have hlen : (l ++ [({ pv0 with name := k.x,role := role,at' := k.a } : PV)]).length = l.length + 1 := by simp
     go_roundg (s.size + 3 - (l.length + 1 - vs.length))
     case measure => omega
     case rel =>
      refine ⟨l ++ [{ pv0 with name := k.x,role := role,at' := k.a }],a2,c2,t4,true,by rw [hlen],rfl,C4.out,G4.out,A4.out,L4.out,⟨by have := Z7.out; omega,by rw [hlen]; omega,by rw [hlen]; omega⟩,NE3.out,by rw [hlen]; push_cast; omega,fun _ => ⟨by rw [hlen],?_⟩,(fun h => by cases h)⟩
      rw [hlen,show s.size + 2 - (l.length + 1 - vs.length) = s.size + 1 - (l.length - vs.length) by omega]
      symm; rw [← HRr.out,HF.out,decL]; (first | rw [r2] | exact r2); try rw [bindOk]; rw [if_neg H2.out]; (first | rw [r4] | exact r4); try rw [bindOk]; rw [if_pos rfl]
end
end Go.Proofs.YtdcoidmbainkmaaGreatDoor
