/- Texts put together: Rv, Rw, Rx, Ry, Rz. -/
import Derived.Test.YtdcoidmbainkmaaGreatDoorQ21
import Derived.Recover
namespace Go.Proofs.YtdcoidmbainkmaaGreatDoor
open Go.RowKit
attribute [local go_sem ↓] Go.wp_at_zero Go.wp_at_succ
set_option linter.unusedVariables false
set_option linter.unusedSimpArgs false
theorem el22 : El 22 33 6 := ⟨Tryz.underlying22,by
 obtain ⟨i,h1,h2,h3,h4⟩ := info_parts (P := Tryz.prog) (e := 33) (z := some (.agg #[.int .i64 0,.string ⟨#[]⟩,.int .i64 0,.slice none 0 0,.slice none 0 0,.int .i64 0])) (n := 6) (m := 88) (by kernel_rfl)
 exact ⟨i,_,h1,h2,h3,by omega,rfl,by omega⟩⟩
section
variable {V : World} {F : Int → Tok} {R : Nat} {s : ByteArray} {u : Int}
theorem Cx.whole {w : World} {t : Tok} (C : Cx V F R s u w t) (u' : Int) : Cx V F R s u' (w.setCell ⟨R,7,none⟩ (.int .i64 u')) t :=
 ⟨C.S,C.G,by have h := at_set C.rd 7 (.int .i64 u'); simp at h; exact h,C.ok,C.vs.kept (gr_set (World.grownBy.refl _ (some R)) 7 (.int .i64 u')) C.sz (fun k e => by have := C.r15; injection e with e; omega),by simpa using C.sz,C.r15,C.tb⟩
def TexO (V : World) (F : Int → Tok) (R : Nat) (s : ByteArray) (w : World) (r : List PU × Int × Int × Int) (e : Ending) (w' : World) : Prop :=
 (∃ l t' v,r = (l,0,0,0) ∧ e = .returned v ∧ Li kdU 33 w' (nw w) v l ∧ Cx V F R s (l.length : Int) w' t' ∧ t'.c = 1 ∧ w.grownBy w' (some R)) ∨ (∃ c u a,r = ([],c,u,a) ∧ e = flt c u a ∧ w.grownBy w' (some R))
def restT (F : Int → Tok) (L n : Nat) (l : List PU) (t : Tok) : List PU × Int × Int × Int := if t.c = 0 then ([],t.f,(l.length : Int),t.a) else if t.c = 1 then (l,0,0,0) else texL F L n l t
theorem texL_bad {F : Int → Tok} {L n : Nat} {l : List PU} {t : Tok} {c a : Int} (h : uniP F L l.length t = .bad c a) : texL F L (n + 1) l t = ([],c,(l.length : Int),a) := by rw [texL,h]
theorem texL_ok {F : Int → Tok} {L n : Nat} {l : List PU} {t u : Tok} {p : PU} (h : uniP F L l.length t = .ok p u) : texL F L (n + 1) l t = restT F L n (l ++ [p]) u := by
 rw [texL,h,restT]
 simp
def TxL (V : World) (F : Int → Tok) (R : Nat) (s : ByteArray) (w : World) (r0 : List PU × Int × Int × Int) (gk : Nat) (s3 : Value) (wx : World) : Prop :=
 ∃ (l : List PU) (a : Option Addr) (c : Nat) (tk : Tok),s3 = .slice a l.length c ∧ Cx V F R s (l.length : Int) wx tk ∧ w.grownBy wx (some R) ∧ wx.heap[w.heap.size]? = some (.cells #[pR R] 46) ∧ Gl kdU 33 6 wx (w.heap.size + 1) (.slice a l.length c) l ∧
  w.heap.size + 1 ≤ wx.heap.size ∧ ((l.length : Int) ≤ tk.a ∧ gk = s.size + 3 - l.length) ∧ (l.length = 0 → texL F (s.size + 2) (s.size + 2 - l.length) l tk = r0) ∧ (l.length ≠ 0 → restT F (s.size + 2) (s.size + 2 - l.length) l tk = r0)
set_option maxRecDepth 10000 in
set_option maxHeartbeats 8000000 in
theorem text_any (hS60 : s.size ≤ 60000) (w : World) (t : Tok) (C : Cx V F R s 0 w t) : Calls Tryz.prog 12 #[rV R] w (TexO V F R s w (texL F (s.size + 2) (s.size + 2) [] t)) := by
 have H60 := hidI hS60
 clear hS60
 have HC : Hid (Cx V F R s 0 w t) := C
 have C0 := HC
 have G0 : Hid (w.grownBy w (some R)) := World.grownBy.refl _ _
 have HR : Hid (R < w.heap.size ∧ 15 ≤ w.heap.size ∧ 15 ≤ R) := ⟨C.lt,C.sz,C.r15⟩
 clear C
 go_enter Tryz.func12,Tryz.ntmps12
 have LS : Hid (TxL V F R s w (texL F (s.size + 2) (s.size + 2) [] t) (s.size + 3) (.slice none 0 0) (w.alloc (.cells #[pR R] 46))) :=
  ⟨[],none,0,t,rfl,HC.out.al _,gr_alloc (World.grownBy.refl _ _) _,new _ _,Gl.nil _ _,by simp,⟨by have := HC.out.ok.1; simpa using this,rfl⟩,fun _ => rfl,fun h => absurd rfl h⟩
 go_wp2_with fail
 go_loopg [3] (s.size + 3) (fun gk s3 wx => TxL V F R s w (texL F (s.size + 2) (s.size + 2) [] t) gk s3 wx)
 case atStart => exact LS.out
 case round =>
  obtain ⟨l,a,c,tk,rfl,CC,gg,hA,hX,hq,⟨hk,hgk⟩,hm1,hm2⟩ := hrel
  have C1 := hidI CC
  have G1 := hidI gg
  have A1 := hidI hA
  have L1 := hidI hX
  have S1 := hidI hq
  have HM1 := hidI hm1
  have HM2 := hidI hm2
  have HG := hidI hgk
  have HK := hidI hk
  have HLn : Hid (l.length ≤ 60000) := by have := CC.ok.2.1; have := H60.out; show l.length ≤ 60000; omega
  have HF : Hid (s.size + 2 - l.length = (s.size + 1 - l.length) + 1) := by have := CC.ok.2.1; show _ = _; omega
  clear CC gg hA hX hq hgk hk hm1 hm2
  obtain ⟨ap,aq,ar,af,ag,ah⟩ := facts A1.out
  by_cases hl0 : l.length = 0
  · have hl' : ((l.length : Int) == 0) = true := by simp [hl0]
    have HT := hidI (HM1.out hl0)
    clear hl0
    have cU := hidI (unit_any H60.out l.length _ _ C1.out)
    go_wp2_with fail
    refine (cU.out).mono ?_
    intro e w2 h
    rcases h.get with ⟨p1,t2,v2,r2,rfl,⟨q1,rfl,hv⟩,CC,g⟩ | ⟨cc,aa,r2,rfl,g⟩
    rotate_left
    · exact ⟨rfl,Or.inr ⟨_,_,_,(by rw [← HT.out,HF.out]; exact texL_bad r2),rfl,gtr G1.out g⟩⟩
    have L2 := hidI (L1.out.g g (by have := HR.out; have := S1.out; omega))
    have T2 : Hid (tk.a + 1 ≤ t2.a) := (uni_adv C1.out.G _ _ _ _ _ C1.out.ok r2).2
    have A2 : Hid (w2.heap[w.heap.size]? = some (.cells #[pR R] 46)) := keptBut g A1.out (by have := HR.out; have := S1.out; omega)
    have G2 := hidI (gtr G1.out g)
    have C2 := hidI CC
    have S2 : Hid (wr.heap.size + 0 ≤ w2.heap.size) := hidI (by have := g.size; first | omega | (simp at this; omega) | (simp at this ⊢; omega))
    clear g CC h ap aq ar af ag ah
    have HO := hidI L1.out.lt
    rcases p1 with ⟨k1,n1,re1,vs1,bo1,at1⟩
    obtain ⟨q1,q2⟩ := q1
    obtain ⟨xa1,xc1,e1⟩ := hv.1.sl
    obtain ⟨xa2,xc2,e2⟩ := hv.2.sl
    simp only at e1 e2
    subst e1 e2
    have V3 := hidI hv
    clear hv
    simp only [uC]
    obtain ⟨a2,c2,w3,hrun,L3,g4⟩ := L2.out.add el22 (e := (⟨k1,n1,re1,vs1,bo1,at1⟩ : PU)) (k := (.slice xa1 vs1.length xc1,.slice xa2 bo1.length xc2)) (lo := wr.heap.size) (hi := w2.heap.size) (kdU.imp V3.out (fun b hb h => ⟨h,hb⟩)) rfl (by intro y hy; simp [kdU,uC] at hy; rcases hy with rfl | rfl | rfl | rfl | rfl | rfl <;> rfl) (by have := HR.out; have := S1.out; have := S2.out; omega) (fun g hg => (HO.out g hg).2) (by have := HLn.out; omega) (by have := HR.out; have := S1.out; have := S2.out; omega)
    have ho := L2.out.lt
    have HRUN : Hid ((Builtin.append_ #[22,22] 22 #[.slice a l.length c,.slice (some ⟨w2.heap.size,0,none⟩) 1 1]).run Tryz.prog (w2.alloc (.cells #[.int .i64 k1,.string n1,.int .i64 re1,.slice xa1 vs1.length xc1,.slice xa2 bo1.length xc2,.int .i64 at1] 33)) = .ok (.slice a2 (l.length + 1) c2) w3) := hrun
    have C3 := hidI ((C2.out.al _).ga g4 (fun q hq => by have := ho q hq; have := HR.out; constructor <;> omega))
    have G3 := hidI (grown_join (gr_alloc G2.out _) g4 (Or.inr (fun q hq => by have := ho q hq; omega)))
    have A3 := hidI (keptRow g4 (old A2.out _) (fun e => by have := ho _ e; omega))
    have S3 : Hid (w2.heap.size + 1 ≤ w3.heap.size) := by have := g4.size; simp at this; exact this
    have Z1 := hidI (And.intro HR.out (And.intro S1.out (And.intro S2.out S3.out)))
    have LL := hidI L3
    clear hrun L3 g4 ho
    obtain ⟨z0,z1,z2,z3,z4,z5,z6,z7⟩ := C3.out.rd.cells
    have zf := at_frozen C3.out.rd 7
    have hw : IntKind.i64.wrap ((l.length : Int) + 1) = (l.length : Int) + 1 := IntWalk.i64_in _ (by have := HLn.out; omega)
    obtain ⟨ap,aq,ar,af,ag,ah⟩ := facts A3.out
    go_wp2_with (first | (at_builtin; refine wpList_append_run rfl _ _ 22 rfl _ _ _ _ rfl rfl HRUN.out ?_))
    have hgl := HG.out
    have hkk := HK.out
    have q3 := T2.out
    have qs := HF.out
    have q60 := HLn.out
    have hlen : (l ++ [(⟨k1,n1,re1,vs1,bo1,at1⟩ : PU)]).length = l.length + 1 := by simp
    have hlenI : ((l ++ [(⟨k1,n1,re1,vs1,bo1,at1⟩ : PU)]).length : Int) = (l.length : Int) + 1 := by rw [hlen]; push_cast; rfl
    go_roundg (s.size + 3 - (l.length + 1))
    case measure => omega
    case rel =>
     refine ⟨l ++ [(⟨k1,n1,re1,vs1,bo1,at1⟩ : PU)],a2,c2,t2,by rw [hlen],by rw [hlenI]; exact C3.out.whole _,gr_set G3.out _ _,keepS A3.out (by have := Z1.out; omega),LL.out.g (gr_set (World.grownBy.refl _ _) _ _) (by have := Z1.out; omega),by simp; have := Z1.out; omega,⟨by rw [hlenI]; omega,by rw [hlen]⟩,fun h => absurd h (by rw [hlen]; omega),fun _ => ?_⟩
     rw [← HT.out,HF.out,texL_ok r2,hlen,show s.size + 2 - (l.length + 1) = s.size + 1 - l.length by omega]
  have hl' : ((l.length : Int) == 0) = false := by rw [beq_eq_false_iff_ne]; omega
  have HT1 := hidI (HM2.out hl0)
  clear hl0
  by_cases h0 : tk.c = 0
  · go_wp2_with fail
    refine (class_bad R s tk (l.length : Int) _ _ C1.out.rd h0).mono ?_
    rintro e w5 ⟨rfl,g0⟩
    exact ⟨rfl,Or.inr ⟨_,_,_,(by rw [← HT1.out,restT,if_pos h0]),rfl,gtr G1.out (gr_none (p := R) g0)⟩⟩
  go_wp2_with fail
  refine (cls_look C1.out h0 1).mono ?_
  rintro e w2 ⟨rfl,g0⟩
  have CC := C1.out.gn g0
  have g := gr_none (p := R) g0
  have L2 := hidI (L1.out.gn g0)
  have A2 : Hid (w2.heap[w.heap.size]? = some (.cells #[pR R] 46)) := keptBut g A1.out (by have := HR.out; have := S1.out; omega)
  have G2 := hidI (gtr G1.out g)
  have C2 := hidI CC
  have S2 : Hid (wr.heap.size + 0 ≤ w2.heap.size) := hidI (by have := g.size; first | omega | (simp at this; omega) | (simp at this ⊢; omega))
  clear g CC g0 ap aq ar af ag ah
  obtain ⟨ap,aq,ar,af,ag,ah⟩ := facts A2.out
  by_cases h1 : tk.c = 1
  · have h1' : decide (tk.c = 1) = true := by simpa using h1
    go_wp2_with fail
    go_ret
    exact Or.inl ⟨l,tk,_,(by rw [← HT1.out,restT,if_neg h0,if_pos h1]),rfl,(L2.out.li (by have := HLn.out; omega)).imp (fun b _ (hb : w.heap.size + 1 ≤ b) => (by omega : w.heap.size ≤ b)),C2.out,h1,G2.out⟩
  have h1' : decide (tk.c = 1) = false := by simpa using h1
  have HT : Hid (texL F (s.size + 2) (s.size + 2 - l.length) l tk = texL F (s.size + 2) (s.size + 2) [] t) := by rw [← HT1.out,restT,if_neg h0,if_neg h1]; rfl
  have H1 := hidI h1
  have H0 := hidI h0
  clear h1 h0
  have cU := hidI (unit_any H60.out l.length _ _ C2.out)
  go_wp2_with fail
  refine (cU.out).mono ?_
  intro e w3 h
  rcases h.get with ⟨p1,t3,v3,r3,rfl,⟨q1,rfl,hv⟩,CC,g⟩ | ⟨cc,aa,r3,rfl,g⟩
  rotate_left
  · exact ⟨rfl,Or.inr ⟨_,_,_,(by rw [← HT.out,HF.out]; exact texL_bad r3),rfl,gtr G2.out g⟩⟩
  have L3 := hidI (L2.out.g g (by have := HR.out; have := S1.out; have := S2.out; omega))
  have T3 : Hid (tk.a + 1 ≤ t3.a) := (uni_adv C2.out.G _ _ _ _ _ C2.out.ok r3).2
  have A3 : Hid (w3.heap[w.heap.size]? = some (.cells #[pR R] 46)) := keptBut g A2.out (by have := HR.out; have := S1.out; have := S2.out; omega)
  have G3 := hidI (gtr G2.out g)
  have C3 := hidI CC
  have S3 : Hid (w2.heap.size + 0 ≤ w3.heap.size) := hidI (by have := g.size; first | omega | (simp at this; omega) | (simp at this ⊢; omega))
  clear g CC h ap aq ar af ag ah
  have HO := hidI L2.out.lt
  rcases p1 with ⟨k1,n1,re1,vs1,bo1,at1⟩
  obtain ⟨q1,q2⟩ := q1
  obtain ⟨xa1,xc1,e1⟩ := hv.1.sl
  obtain ⟨xa2,xc2,e2⟩ := hv.2.sl
  simp only at e1 e2
  subst e1 e2
  have V3 := hidI hv
  clear hv
  simp only [uC]
  obtain ⟨a2,c2,w4,hrun,L4,g4⟩ := L3.out.add el22 (e := (⟨k1,n1,re1,vs1,bo1,at1⟩ : PU)) (k := (.slice xa1 vs1.length xc1,.slice xa2 bo1.length xc2)) (lo := w2.heap.size) (hi := w3.heap.size) (kdU.imp V3.out (fun b hb h => ⟨h,hb⟩)) rfl (by intro y hy; simp [kdU,uC] at hy; rcases hy with rfl | rfl | rfl | rfl | rfl | rfl <;> rfl) (by have := HR.out; have := S1.out; have := S2.out; have := S3.out; omega) (fun g hg => (HO.out g hg).2) (by have := HLn.out; omega) (by have := HR.out; have := S1.out; have := S2.out; have := S3.out; omega)
  have ho := L3.out.lt
  have HRUN : Hid ((Builtin.append_ #[22,22] 22 #[.slice a l.length c,.slice (some ⟨w3.heap.size,0,none⟩) 1 1]).run Tryz.prog (w3.alloc (.cells #[.int .i64 k1,.string n1,.int .i64 re1,.slice xa1 vs1.length xc1,.slice xa2 bo1.length xc2,.int .i64 at1] 33)) = .ok (.slice a2 (l.length + 1) c2) w4) := hrun
  have C4 := hidI ((C3.out.al _).ga g4 (fun q hq => by have := ho q hq; have := HR.out; constructor <;> omega))
  have G4 := hidI (grown_join (gr_alloc G3.out _) g4 (Or.inr (fun q hq => by have := ho q hq; omega)))
  have A4 := hidI (keptRow g4 (old A3.out _) (fun e => by have := ho _ e; omega))
  have S4 : Hid (w3.heap.size + 1 ≤ w4.heap.size) := by have := g4.size; simp at this; exact this
  have Z2 := hidI (And.intro HR.out (And.intro S1.out (And.intro S2.out (And.intro S3.out S4.out))))
  have LL := hidI L4
  clear hrun L4 g4 ho
  obtain ⟨z0,z1,z2,z3,z4,z5,z6,z7⟩ := C4.out.rd.cells
  have zf := at_frozen C4.out.rd 7
  have hw : IntKind.i64.wrap ((l.length : Int) + 1) = (l.length : Int) + 1 := IntWalk.i64_in _ (by have := HLn.out; omega)
  obtain ⟨ap,aq,ar,af,ag,ah⟩ := facts A4.out
  go_wp2_with (first | (at_builtin; refine wpList_append_run rfl _ _ 22 rfl _ _ _ _ rfl rfl HRUN.out ?_))
  have hgl := HG.out
  have hkk := HK.out
  have q3 := T3.out
  have qs := HF.out
  have q60 := HLn.out
  have hlen : (l ++ [(⟨k1,n1,re1,vs1,bo1,at1⟩ : PU)]).length = l.length + 1 := by simp
  have hlenI : ((l ++ [(⟨k1,n1,re1,vs1,bo1,at1⟩ : PU)]).length : Int) = (l.length : Int) + 1 := by rw [hlen]; push_cast; rfl
  go_roundg (s.size + 3 - (l.length + 1))
  case measure => omega
  case rel =>
   refine ⟨l ++ [(⟨k1,n1,re1,vs1,bo1,at1⟩ : PU)],a2,c2,t3,by rw [hlen],by rw [hlenI]; exact C4.out.whole _,gr_set G4.out _ _,keepS A4.out (by have := Z2.out; omega),LL.out.g (gr_set (World.grownBy.refl _ _) _ _) (by have := Z2.out; omega),by simp; have := Z2.out; omega,⟨by rw [hlenI]; omega,by rw [hlen]⟩,fun h => absurd h (by rw [hlen]; omega),fun _ => ?_⟩
   rw [← HT.out,HF.out,texL_ok r3,hlen,show s.size + 2 - (l.length + 1) = s.size + 1 - l.length by omega]
end
end Go.Proofs.YtdcoidmbainkmaaGreatDoor

namespace Go.Proofs.YtdcoidmbainkmaaGreatDoor
open Go.RowKit
attribute [local go_sem ↓] Go.wp_at_zero Go.wp_at_succ
set_option linter.unusedVariables false
set_option linter.unusedSimpArgs false
section
variable {V : World} {F : Int → Tok} {R : Nat} {s : ByteArray}
def rd0 (s : ByteArray) : Obj := .cells #[.string s,.int .i64 0,.string ⟨#[]⟩,.int .i64 0,.int .i64 0,.int .i64 0,.int .i64 0,.int .i64 0] 75
theorem goto_any (w : World) (hS : Scn V s F) (hG : GoodF s.size F) (hT : Tabs V) (h : w.heap[R]? = some (rd0 s)) (hV : Vs V w) (hs : 15 ≤ w.heap.size) (hR : 15 ≤ R) :
 Calls Tryz.prog 39 #[pR R,.int .i64 0] w fun e w' => e = .returned (.tuple #[]) ∧ Cx V F R s 0 w' (F 0) ∧ w.grownBy w' (some R) := by
 have HA := hidI h
 have HS := hidI hS
 have HG := hidI hG
 have HT := hidI hT
 have HV := hidI hV
 have c4 := fun W h1 h2 => hS 0 W (Int.le_refl _) (by omega) h1 h2
 obtain ⟨p0,_,_,f0,_,_⟩ := facts (cs := #[.string s,.int .i64 0,.string ⟨#[]⟩,.int .i64 0,.int .i64 0,.int .i64 0,.int .i64 0,.int .i64 0]) h
 clear hS hG hT h
 go_enter Tryz.func39,Tryz.ntmps39
 go_wp2_with fail
 refine (c4 _ hV hs).mono ?_
 rintro e w1 ⟨rfl,g1⟩
 clear p0 f0
 obtain ⟨p0,_,_,f0,_,_⟩ := facts (cs := #[.string s,.int .i64 0,.string ⟨#[]⟩,.int .i64 0,.int .i64 0,.int .i64 0,.int .i64 0,.int .i64 0]) (kept g1 HA.out)
 go_wp2_with fail
 have hr : RdAt w1 R s ⟨0,nob,0,0,0,0⟩ 0 := kept g1 HA.out
 have gP : w1.grownBy ((((((w1.setCell ⟨R,1,none⟩ (.int .i64 (F 0).c)).setCell ⟨R,2,none⟩ (.string (F 0).x)).setCell ⟨R,3,none⟩ (.int .i64 (F 0).n)).setCell ⟨R,4,none⟩ (.int .i64 (F 0).a)).setCell ⟨R,5,none⟩ (.int .i64 (F 0).e)).setCell ⟨R,6,none⟩ (.int .i64 (F 0).f)) (some R) := gr_set (gr_set (gr_set (gr_set (gr_set (gr_set (World.grownBy.refl _ _) _ _) _ _) _ _) _ _) _ _) _ _
 have gW := gtr (gr_none (p := R) g1) gP
 exact bodyPost_end (results_none rfl _ _ _) rfl ⟨rfl,⟨HS.out,HG.out,hr.put (F 0),(HG.out 0 (Int.le_refl _) (by omega)).1,HV.out.kept gW hs (fun k e => by injection e with e; omega),by have := gW.size; omega,hR,HT.out⟩,gW⟩
theorem TexO.up {w0 w w' : World} {r : List PU × Int × Int × Int} {e : Ending} (h : TexO V F R s w r e w') (hg : w0.grownBy w (some R)) : TexO V F R s w0 r e w' := by
 rcases h with ⟨l,t',v,h1,h2,h3,h4,h5,h6⟩ | ⟨c,u,a,h1,h2,h3⟩
 · exact Or.inl ⟨l,t',v,h1,h2,h3.imp (fun b _ (hb : w.heap.size ≤ b) => (by have := hg.size; omega : w0.heap.size ≤ b)),h4,h5,gtr hg h6⟩
 · exact Or.inr ⟨c,u,a,h1,h2,gtr hg h3⟩
theorem p11_any (hS60 : s.size ≤ 60000) (w : World) (t : Tok) (C : Cx V F R s 0 w t) : Calls Tryz.prog 11 #[rV R] w (TexO V F R s w (texL F (s.size + 2) (s.size + 2) [] t)) := by
 have HC := hidI C
 have c4 := text_any hS60 _ t (C.al (.cells #[pR R] 46))
 clear C hS60
 go_enter Tryz.func11,Tryz.ntmps11
 go_wp2_with fail
 refine c4.mono ?_
 intro e w1 h
 rcases h with ⟨l,t',v,h1,rfl,h3,h4,h5,h6⟩ | ⟨c,u,a,h1,rfl,h3⟩
 · go_wp2_with fail
   go_ret
   exact TexO.up (Or.inl ⟨l,t',v,h1,rfl,h3,h4,h5,h6⟩) (gr_none (gr1 _ _))
 · exact ⟨rfl,TexO.up (Or.inr ⟨c,u,a,h1,rfl,h3⟩) (gr_none (gr1 _ _))⟩
theorem enters11 (args : Array Value) (W : World) : (callFunc 11 args).run Tryz.prog W = .ok (.enter 11 args) W := enters_of Tryz.func11 (by kernel_rfl) rfl args W
theorem p20_any (hS60 : s.size ≤ 60000) (w : World) (t : Tok) (q : Nat) (C : Cx V F R s 0 w t) (hq : w.heap[q]? = some (.cells #[.func (.func 11) #[] #[]] 48)) : Calls Tryz.prog 20 #[pR R,.pointer (some ⟨q,0,none⟩)] w (TexO V F R s w (texL F (s.size + 2) (s.size + 2) [] t)) := by
 have c4 := p11_any hS60 _ t C
 obtain ⟨p0,_,_,f0,_,_⟩ := facts hq
 have hf := enters11
 clear C hS60 hq
 go_enter Tryz.func20,Tryz.ntmps20
 go_wp2_with fail
 refine c4.mono ?_
 intro e w1 h
 rcases h with ⟨l,t',v,h1,rfl,h3,h4,h5,h6⟩ | ⟨c,u,a,h1,rfl,h3⟩
 · go_wp2_with fail
   go_ret
   exact Or.inl ⟨l,t',v,h1,rfl,h3,h4,h5,h6⟩
 · exact ⟨rfl,Or.inr ⟨c,u,a,h1,rfl,h3⟩⟩
end
end Go.Proofs.YtdcoidmbainkmaaGreatDoor

namespace Go.Proofs.YtdcoidmbainkmaaGreatDoor
open Go.RowKit
attribute [local go_sem ↓] Go.wp_at_zero Go.wp_at_succ
set_option linter.unusedVariables false
set_option linter.unusedSimpArgs false
theorem assertF (x : Value) (W : World) : Sem.run Tryz.prog (Instr.typeAssert (.iface 25 x) 20 25 false) W = .ok x W := by
 first | kernel_rfl | rfl | simp [Instr.typeAssert]
set_option maxHeartbeats 1000000 in
theorem catch_panic (q : Nat) (c u a : Int) (older : List PanicEntry) (w : World) (v0 v1 x0 x1 x2 : Value) (h0 : w.heap[q]? = some (.cells #[v0] 22)) (h1 : w.heap[q + 1]? = some (.cells #[v1] 3)) (h2 : w.heap[q + 1 + 1]? = some (.cells #[x0,x1,x2] 25)) :
 CallsD Tryz.prog 38 #[.pointer (some ⟨q,0,none⟩),.pointer (some ⟨q + 1,0,none⟩),.pointer (some ⟨q + 1 + 1,0,none⟩)] (.panicking ({ v := .iface 25 (.agg #[.int .i64 c,.int .i64 u,.int .i64 a]),recovered := false } :: older)) w fun e u' w' =>
  e = .returned (.tuple #[]) ∧ u' = .panicking ({ v := .iface 25 (.agg #[.int .i64 c,.int .i64 u,.int .i64 a]),recovered := true } :: older) ∧
  w' = (((((w.setCell ⟨q,0,none⟩ (.slice none 0 0)).setCell ⟨q + 1,0,none⟩ (.int .i64 0)).setCell ⟨q + 1 + 1,0,none⟩ (.int .i64 c)).setCell ⟨q + 1 + 1,1,none⟩ (.int .i64 u)).setCell ⟨q + 1 + 1,2,none⟩ (.int .i64 a)).drew := by
 have hta := assertF
 obtain ⟨p0,_,_,f0,_,_⟩ := facts h0
 obtain ⟨p1,_,_,f1,_,_⟩ := facts h1
 obtain ⟨p2,_,_,f2,_,_⟩ := facts h2
 refine callsD_of_wpS Tryz.func38 rfl fun c₀ cs hu => ?_
 apply wpS_seq
 apply wpS_region
 simp [wpOpsS,go_sem,recoverD,hu,Tryz.ntmps38,Exit.thenS]
 apply wpS_seq
 apply wpS_region
 simp [wpOpsS,go_sem,recoverD,hu,Tryz.ntmps38,Exit.thenS]
 refine wpS_cond (t := true) (by simp [Act.eval,Array.replicate]) ?_
 simp only [if_true]
 refine wpS_of_wp ?_
 rw [show (#[Value.pointer (some { block := q,off := 0 }),Value.pointer (some { block := q + 1,off := 0 }),Value.pointer (some { block := q + 1 + 1,off := 0 })] ++ ((((Array.replicate 8 undef).setIfInBounds 2 (Value.iface 25 (Value.agg #[Value.int IntKind.i64 c,Value.int IntKind.i64 u,Value.int IntKind.i64 a]))).setIfInBounds 0 (Value.iface 25 (Value.agg #[Value.int IntKind.i64 c,Value.int IntKind.i64 u,Value.int IntKind.i64 a]))).setIfInBounds 3 (Value.iface 25 (Value.agg #[Value.int IntKind.i64 c,Value.int IntKind.i64 u,Value.int IntKind.i64 a]))).setIfInBounds 4 (Value.bool true)) = #[Value.pointer (some { block := q,off := 0 }),Value.pointer (some { block := q + 1,off := 0 }),Value.pointer (some { block := q + 1 + 1,off := 0 }),(Value.iface 25 (Value.agg #[Value.int IntKind.i64 c,Value.int IntKind.i64 u,Value.int IntKind.i64 a])),undef,(Value.iface 25 (Value.agg #[Value.int IntKind.i64 c,Value.int IntKind.i64 u,Value.int IntKind.i64 a])),(Value.iface 25 (Value.agg #[Value.int IntKind.i64 c,Value.int IntKind.i64 u,Value.int IntKind.i64 a])),Value.bool true,undef,undef,undef] from rfl]
 go_wp2_with fail
 go_region
 all_goals go_wp2_with fail
 exact ⟨rfl,_,rfl,.tuple #[],results_none rfl _ _ _,rfl,rfl,rfl⟩
theorem catch_idle (p0 p1 p2 : Value) (w : World) : CallsD Tryz.prog 38 #[p0,p1,p2] .returning w fun e u' w' => e = .returned (.tuple #[]) ∧ u' = .returning ∧ w' = w := by
 refine callsD_of_wpS Tryz.func38 rfl fun c₀ cs hu => ?_
 apply wpS_seq
 apply wpS_region
 simp [wpOpsS,go_sem,recoverD,hu,Tryz.ntmps38,Exit.thenS]
 apply wpS_seq
 apply wpS_region
 simp [wpOpsS,go_sem,recoverD,hu,Tryz.ntmps38,Exit.thenS]
 refine wpS_cond (t := false) (by simp [Act.eval,Array.replicate]) ?_
 simp only [Bool.false_eq_true,if_false]
 refine wpS_of_wp (wp_skip ?_)
 cases c₀
 simp_all [bodyPostS,results,Tryz.results38]
theorem inf25 : (Tryz.prog.info? 25).map (·.size) = some 3 := by kernel_rfl
theorem ld25 {W : World} {q : Nat} {a0 a1 a2 : Value} (hg : W.heap[q]? = some (.cells #[a0,a1,a2] 25)) : (loadVar 25 ⟨q,0,none⟩).run Tryz.prog W = .ok (.agg #[a0,a1,a2]) W := run_loadVar_row (P := Tryz.prog) W q 25 25 _ (0,0) _ hg Tryz.underlying25 rfl inf25
theorem res19 (tmps : Array Value) (W : World) (q0 q1 q2 : Nat) (v n x0 x1 x2 : Value) (h6 : tmps.getD 6 undef = .pointer (some ⟨q0,0,none⟩)) (h7 : tmps.getD 7 undef = .pointer (some ⟨q1,0,none⟩)) (h8 : tmps.getD 8 undef = .pointer (some ⟨q2,0,none⟩)) (c0 : W.heap[q0]? = some (.cells #[v] 22)) (c1 : W.heap[q1]? = some (.cells #[n] 3)) (c2 : W.heap[q2]? = some (.cells #[x0,x1,x2] 25)) :
 (results Tryz.f19 tmps).run Tryz.prog W = .ok (.tuple #[v,n,.agg #[x0,x1,x2]]) W := by
 have e0 : W.cell? ⟨q0,0,none⟩ = some v := by simpa using at_cell c0 0
 have e1 : W.cell? ⟨q1,0,none⟩ = some n := by simpa using at_cell c1 0
 have e2 : W.cell? ⟨q2,0,none⟩ = some x0 := by simpa using at_cell c2 0
 have e3 : W.cell? ⟨q2,1,none⟩ = some x1 := by simpa using at_cell c2 1
 have e4 : W.cell? ⟨q2,2,none⟩ = some x2 := by simpa using at_cell c2 2
 have h6' : tmps[6]?.getD undef = .pointer (some ⟨q0,0,none⟩) := by simpa using h6
 have h7' : tmps[7]?.getD undef = .pointer (some ⟨q1,0,none⟩) := by simpa using h7
 have h8' : tmps[8]?.getD undef = .pointer (some ⟨q2,0,none⟩) := by simpa using h8
 simp [results,Tryz.results19,h6',h7',h8',asAddr,go_sem,e0,e1,e2,e3,e4]
def parP (F : Int → Tok) (s : ByteArray) : List PU × Int × Int × Int := if 60000 < s.size then ([],4,0,0) else texL F (s.size + 2) (s.size + 2) [] (F 0)
def ParO (w : World) (r : List PU × Int × Int × Int) (e : Ending) (w' : World) : Prop := ∃ v n,e = .returned (.tuple #[v,.int .i64 n,.agg #[.int .i64 r.2.1,.int .i64 r.2.2.1,.int .i64 r.2.2.2]]) ∧ Li kdU 33 w' (nw w) v r.1 ∧ w.grownBy w' none
section
variable {V : World} {F : Int → Tok} {s : ByteArray}
set_option maxHeartbeats 2000000 in
theorem within_long (w : World) (f : Value) (hs : 60000 < s.size) (hz : s.size ≤ 9223372036854775807) : Calls Tryz.prog 19 #[.string s,.int .i64 0,f] w (ParO w (parP F s)) := by
 have e : parP F s = ([],4,0,0) := by rw [parP,if_pos hs]
 rw [e]
 clear e
 have hl : (60000 : Int) < (s.size : Int) := by omega
 go_enter_defers Tryz.func19,Tryz.ntmps19
 go_wp2_with fail
 exact ⟨_,res19 _ _ w.heap.size (w.heap.size + 1) (w.heap.size + 1 + 1) _ _ _ _ _ rfl rfl rfl (old (old (new _ _) _) _) (old (hp_new (by simp) _) _) (hp_new (by simp) _),_,_,rfl,Li.nil _ _,gr_alloc (gr_alloc (gr1 _ _) _) _⟩
end
end Go.Proofs.YtdcoidmbainkmaaGreatDoor

namespace Go.Proofs.YtdcoidmbainkmaaGreatDoor
open Go.RowKit
attribute [local go_sem ↓] Go.wp_at_zero Go.wp_at_succ
set_option linter.unusedVariables false
set_option linter.unusedSimpArgs false
section
variable {V : World} {F : Int → Tok} {s : ByteArray}
theorem enters20 (args : Array Value) (W : World) : (callFunc 20 args).run Tryz.prog W = .ok (.enter 20 args) W := enters_of Tryz.func20 (by kernel_rfl) rfl args W
theorem leaves_tmps {P : Program} {fn : Func} {t1 t2 : Array Value} {R : Ending → World → Prop} (hr : ∀ W,(results fn t1).run P W = (results fn t2).run P W) : ∀ (ds : List Deferred) (u : FrameMode) (w : World),Leaves P fn t1 R ds u w → Leaves P fn t2 R ds u w := by
 intro ds
 induction ds with
 | nil =>
  intro u w h
  cases u with
  | run => exact h
  | returning => obtain ⟨v,h1,h2⟩ := h; exact ⟨v,by rw [← hr]; exact h1,h2⟩
  | panicking c => exact h
 | cons d ds ih =>
  intro u w h
  obtain ⟨hu,fv,cap,f,args,h1,h2,h3⟩ := h
  refine ⟨hu,fv,cap,f,args,h1,h2,h3.mono ?_⟩
  intro e u' w' h4
  cases e with
  | returned v => exact ih _ _ h4
  | panicked c => exact ih _ _ h4
  | outgrown => exact h4
theorem put19 {R : Ending → World → Prop} {K : Act → World → Prop} {d : Tmp} {v : Value} {c : List PanicEntry} {a : Act} {w : World} (h6 : d ≠ 6) (h7 : d ≠ 7) (h8 : d ≠ 8) (h : Exit.then K (bodyPostD Tryz.prog Tryz.f19 R) (.panic c) (a.put (some d) v) w) : Exit.then K (bodyPostD Tryz.prog Tryz.f19 R) (.panic c) a w := by
 refine leaves_tmps (fun W => ?_) _ _ _ h
 simp [results,Tryz.results19,Act.put,Array.getElem?_setIfInBounds_ne h6,Array.getElem?_setIfInBounds_ne h7,Array.getElem?_setIfInBounds_ne h8]
set_option maxRecDepth 10000 in
set_option maxHeartbeats 4000000 in
theorem within_any (hS : Scn V s F) (hG : GoodF s.size F) (hT : Tabs V) (w : World) (hV : Vs V w) (hs : 15 ≤ w.heap.size) (hz : s.size ≤ 60000) (q : Nat) (hq : w.heap[q]? = some (.cells #[.func (.func 11) #[] #[]] 48)) :
 Calls Tryz.prog 19 #[.string s,.int .i64 0,.func (.func 20) #[] #[.pointer (some ⟨q,0,none⟩)]] w (ParO w (parP F s)) := by
 have HP : Hid (parP F s = texL F (s.size + 2) (s.size + 2) [] (F 0)) := by rw [parP,if_neg (by omega)]; rfl
 have HZ := hidI hz
 have HQ := hidI hq
 have HS := hidI hs
 have hmf := makeF
 have hf := enters20
 have hl : ¬ (60000 : Int) < (s.size : Int) := by omega
 have hl2 : ¬ (s.size : Int) < 0 := by omega
 obtain ⟨W4,hW4⟩ : ∃ W : World,W = (((w.alloc (.cells #[.slice none 0 0] 22)).alloc (.cells #[.int .i64 0] 3)).alloc (.cells #[.int .i64 0,.int .i64 0,.int .i64 0] 25)).alloc (rd0 s) := ⟨_,rfl⟩
 have g4 : w.grownBy W4 none := by rw [hW4]; exact gr_alloc (gr_alloc (gr_alloc (gr1 _ _) _) _) _
 have s4 : W4.heap.size = w.heap.size + 4 := by rw [hW4]; simp
 have Q4 : W4.heap[q]? = some (.cells #[.func (.func 11) #[] #[]] 48) := kept g4 hq
 have A4 : W4.heap[w.heap.size]? = some (.cells #[.slice none 0 0] 22) := by rw [hW4]; exact old (old (old (new _ _) _) _) _
 have B4 : W4.heap[w.heap.size + 1]? = some (.cells #[.int .i64 0] 3) := by rw [hW4]; exact old (old (hp_new (by simp) _) _) _
 have D4 : W4.heap[w.heap.size + 1 + 1]? = some (.cells #[.int .i64 0,.int .i64 0,.int .i64 0] 25) := by rw [hW4]; exact old (hp_new (by simp) _) _
 have R4 : W4.heap[w.heap.size + 1 + 1 + 1]? = some (rd0 s) := by rw [hW4]; exact hp_new (by simp) _
 have cG := hidI (goto_any W4 hS hG hT R4 (hV.kept g4 hs (by simp)) (by omega) (by omega))
 have G4 := hidI g4
 have S4 := hidI s4
 have HQ4 := hidI Q4
 have HA4 := hidI A4
 have HB4 := hidI B4
 have HD4 := hidI D4
 have hqlt : q < w.heap.size := at_lt hq
 have HQL := hidI hqlt
 have HW4 := hidI hW4
 clear g4 s4 Q4 A4 B4 D4 R4 hq hz hS hG hT hV hs hW4 hqlt
 go_enter_defers Tryz.func19,Tryz.ntmps19
 go_wp2_with fail
 change Calls Tryz.prog 39 #[pR (w.heap.size + 1 + 1 + 1),.int .i64 0] ((((w.alloc (.cells #[.slice none 0 0] 22)).alloc (.cells #[.int .i64 0] 3)).alloc (.cells #[.int .i64 0,.int .i64 0,.int .i64 0] 25)).alloc (rd0 s)) _
 rw [← HW4.out]
 refine cG.out.mono ?_
 rintro e w1 ⟨rfl,C1,g1⟩
 have nA : w.heap.size ≠ (w.heap.size + 1 + 1 + 1) := by omega
 have nB : w.heap.size + 1 ≠ (w.heap.size + 1 + 1 + 1) := by omega
 have nD : w.heap.size + 1 + 1 ≠ (w.heap.size + 1 + 1 + 1) := by omega
 have nQ : q ≠ (w.heap.size + 1 + 1 + 1) := by have := HQL.out; omega
 have A1 := hidI (keptBut g1 HA4.out nA)
 have B1 := hidI (keptBut g1 HB4.out nB)
 have D1 := hidI (keptBut g1 HD4.out nD)
 have Q1 := hidI (keptBut g1 HQ4.out nQ)
 have G1 := hidI (grown_join G4.out g1 (Or.inr (fun z hz => by injection hz with hz; omega)))
 have S1 : Hid (w.heap.size + 4 ≤ w1.heap.size) := by have := g1.size; have := S4.out; show _ ≤ _; omega
 have cP := hidI (p20_any HZ.out w1 (F 0) q C1 Q1.out)
 clear C1 g1 nA nB nD nQ
 go_wp2_with fail
 refine cP.out.mono ?_
 intro e w2 h
 rcases h with ⟨l,t',v,h1,rfl,h3,h4,h5,h6⟩ | ⟨c,u,a,h1,rfl,h3⟩
 · have h0 := HP.out.trans h1
   have HPv := hidI h0
   obtain ⟨va,vc,rfl⟩ := h3.sl
   have nA : w.heap.size ≠ (w.heap.size + 1 + 1 + 1) := by omega
   have nB : w.heap.size + 1 ≠ (w.heap.size + 1 + 1 + 1) := by omega
   have nD : w.heap.size + 1 + 1 ≠ (w.heap.size + 1 + 1 + 1) := by omega
   have A2 := hidI (keptBut h6 A1.out nA)
   have B2 := hidI (keptBut h6 B1.out nB)
   have D2 := hidI (keptBut h6 D1.out nD)
   have G2 := hidI (grown_join G1.out h6 (Or.inr (fun z hz => by injection hz with hz; omega)))
   have S2 : Hid (w.heap.size + 4 ≤ w2.heap.size) := by have := h6.size; have := S1.out; show _ ≤ _; omega
   have C2 := hidI h4
   have L2 := hidI (h3.kept (w' := w2.setCell ⟨w.heap.size,0,none⟩ (.slice va l.length vc)) (fun b (hb : w1.heap.size ≤ b) hl => (gr_set (World.grownBy.refl w2 (some w.heap.size)) 0 (.slice va l.length vc)).block b hl (fun e => by injection e with e; have := S1.out; omega)) (by simp))
   have HC1 := hidI h5
   clear h1 h3 h4 h5 h6 nA nB nD h0
   obtain ⟨ap,aq,ar,af,ag,ah⟩ := facts A2.out
   go_wp2_with fail
   obtain ⟨wz,hwz⟩ : ∃ W : World,W = (w2.setCell ⟨w.heap.size,0,none⟩ (.slice va l.length vc)).drew := ⟨_,rfl⟩
   have A3 : Hid (wz.heap[w.heap.size]? = some (.cells #[(.slice va l.length vc)] 22)) := by rw [hwz]; show (w2.setCell ⟨w.heap.size,0,none⟩ (.slice va l.length vc)).heap[w.heap.size]? = _; simpa using at_set A2.out 0 (.slice va l.length vc)
   have B3 : Hid (wz.heap[w.heap.size + 1]? = some (.cells #[.int .i64 0] 3)) := by rw [hwz]; show (w2.setCell ⟨w.heap.size,0,none⟩ (.slice va l.length vc)).heap[w.heap.size + 1]? = _; exact keepS B2.out (by omega)
   have D3 : Hid (wz.heap[w.heap.size + 1 + 1]? = some (.cells #[.int .i64 0,.int .i64 0,.int .i64 0] 25)) := by rw [hwz]; show (w2.setCell ⟨w.heap.size,0,none⟩ (.slice va l.length vc)).heap[w.heap.size + 1 + 1]? = _; exact keepS D2.out (by omega)
   have C3 : Hid (Cx V F (w.heap.size + 1 + 1 + 1) s (l.length : Int) wz t') := by rw [hwz]; exact (C2.out.set (by omega) (by have := HS.out; omega) _ _).drew
   have G3 : Hid (w.grownBy wz none) := by rw [hwz]; exact gr_drew (gr_ow2 G2.out (Nat.le_refl _) _ _)
   have S3 : Hid (w.heap.size + 4 ≤ wz.heap.size) := by rw [hwz]; show _ ≤ (w2.setCell ⟨w.heap.size,0,none⟩ (.slice va l.length vc)).heap.size; simp; exact S2.out
   have L3 : Hid (Li kdU 33 wz (nw w1) (.slice va l.length vc) l) := by rw [hwz]; exact L2.out.kept (fun b _ hl => rfl) (Nat.le_refl _)
   have hHeld : (fun w' : World => w'.cell? ⟨w.heap.size,0,none⟩ = some (.slice va l.length vc) ∧ w'.cell? ⟨w.heap.size + 1 + 1,0,none⟩ = some (.int .i64 0) ∧ w'.cell? ⟨w.heap.size + 1 + 1,1,none⟩ = some (.int .i64 0) ∧ w'.cell? ⟨w.heap.size + 1 + 1,2,none⟩ = some (.int .i64 0)) wz := ⟨by simpa using at_cell (A3.out) 0,by simpa using at_cell (D3.out) 0,by simpa using at_cell (D3.out) 1,by simpa using at_cell (D3.out) 2⟩
   refine wp_region_L (L := 7) (S := (fun w' : World => w'.cell? ⟨w.heap.size,0,none⟩ = some (.slice va l.length vc) ∧ w'.cell? ⟨w.heap.size + 1 + 1,0,none⟩ = some (.int .i64 0) ∧ w'.cell? ⟨w.heap.size + 1 + 1,1,none⟩ = some (.int .i64 0) ∧ w'.cell? ⟨w.heap.size + 1 + 1,2,none⟩ = some (.int .i64 0))) (by kernel_rfl) ?_
   rw [← hwz]
   clear hwz ap aq ar af ag ah A2 B2 D2 C2 G2 L2
   refine wpAnyL_take (i := 0) (v := ?_) rfl (by kernel_rfl) (by kernel_rfl) (by kernel_rfl) (fun _ _ _ h => put19 (by decide) (by decide) (by decide) h) (by kernel_rfl) (by kernel_rfl) (Or.inl ⟨by rfl,?_⟩) hHeld ?_
   rotate_left
   · intro w hSw
     try dsimp only at hSw
     go_simp
     try with_reducible rfl
   try simp only [Act.put,List.setIfInBounds_toArray,List.set_cons_zero,List.set_cons_succ]
   refine wpAnyL_free (i := 1) (v := ?_) rfl (by kernel_rfl) (by kernel_rfl) (by kernel_rfl) (fun _ _ _ h => put19 (by decide) (by decide) (by decide) h) (by decide) (Or.inl ⟨by rfl,?_⟩) (fun _ => hHeld) ?_
   rotate_left
   · intro w hSw
     go_simp
     try with_reducible rfl
   try simp only [Act.put,List.setIfInBounds_toArray,List.set_cons_zero,List.set_cons_succ]
   refine wpAnyL_take (i := 4) (v := ?_) rfl (by kernel_rfl) (by kernel_rfl) (by kernel_rfl) (fun _ _ _ h => put19 (by decide) (by decide) (by decide) h) (by kernel_rfl) (by kernel_rfl) (Or.inl ⟨by rfl,?_⟩) hHeld ?_
   rotate_left
   · intro w hSw
     try dsimp only at hSw
     go_simp
     try with_reducible rfl
   try simp only [Act.put,List.setIfInBounds_toArray,List.set_cons_zero,List.set_cons_succ]
   have cL := look_ok (w.heap.size + 1 + 1 + 1) s t' (l.length : Int) wz C3.out.rd (by rw [HC1.out]; decide)
   refine wpAnyL_one (j := 2) (by kernel_rfl) rfl (fun K hK => ?_)
   go_simp
   refine cL.mono ?_
   rintro e w3 ⟨rfl,g3⟩
   have A4 := hidI (kept g3 A3.out)
   have B4 := hidI (kept g3 B3.out)
   have D4 := hidI (kept g3 D3.out)
   have G5 := hidI (gtn G3.out g3)
   have L4 := hidI (L3.out.kept (fun b _ hl => g3.block b hl (by simp)) g3.size)
   have S5 : Hid (w.heap.size + 4 ≤ w3.heap.size) := by have := g3.size; have := S3.out; show _ ≤ _; omega
   have hHeld3 : (fun w' : World => w'.cell? ⟨w.heap.size,0,none⟩ = some (.slice va l.length vc) ∧ w'.cell? ⟨w.heap.size + 1 + 1,0,none⟩ = some (.int .i64 0) ∧ w'.cell? ⟨w.heap.size + 1 + 1,1,none⟩ = some (.int .i64 0) ∧ w'.cell? ⟨w.heap.size + 1 + 1,2,none⟩ = some (.int .i64 0)) w3 := ⟨by simpa using at_cell (A4.out) 0,by simpa using at_cell (D4.out) 0,by simpa using at_cell (D4.out) 1,by simpa using at_cell (D4.out) 2⟩
   clear cL g3 A3 B3 D3 C3 G3 L3
   go_wp2_with fail
   refine hK.out _ _ (fun _ _ => hHeld3) ?_
   clear hK K
   try simp only [Act.put,List.setIfInBounds_toArray,List.set_cons_zero,List.set_cons_succ]
   have hF3 : ∀ W : World,Sem.run Tryz.prog (Instr.field 73 (tokV t') 3) W = .ok (.int .i64 t'.a) W := fun W => fldA t' W
   refine wpAnyL_free (i := 3) (v := ?_) rfl (by kernel_rfl) (by kernel_rfl) (by kernel_rfl) (fun _ _ _ h => put19 (by decide) (by decide) (by decide) h) (by decide) (Or.inl ⟨by rfl,?_⟩) (fun _ => hHeld3) ?_
   rotate_left
   · intro w hSw
     go_simp
     try with_reducible rfl
   try simp only [Act.put,List.setIfInBounds_toArray,List.set_cons_zero,List.set_cons_succ]
   obtain ⟨ap,aq,ar,af,ag,ah⟩ := facts A4.out
   obtain ⟨bp,bq,br,bf,bg,bh⟩ := facts B4.out
   obtain ⟨dp,dq,dr,df,dg,dh⟩ := facts D4.out
   have A5 : Hid ((w3.setCell ⟨w.heap.size,0,none⟩ (.slice va l.length vc)).heap[w.heap.size]? = some (.cells #[(.slice va l.length vc)] 22)) := by show _ = _; simpa using at_set A4.out 0 (.slice va l.length vc)
   have D5 := hidI (keepS (p := w.heap.size) (i := 0) (v := (.slice va l.length vc)) D4.out (by omega))
   have B5 := hidI (keepS (p := w.heap.size) (i := 0) (v := (.slice va l.length vc)) B4.out (by omega))
   have hHeld5 : (fun w' : World => w'.cell? ⟨w.heap.size,0,none⟩ = some (.slice va l.length vc) ∧ w'.cell? ⟨w.heap.size + 1 + 1,0,none⟩ = some (.int .i64 0) ∧ w'.cell? ⟨w.heap.size + 1 + 1,1,none⟩ = some (.int .i64 0) ∧ w'.cell? ⟨w.heap.size + 1 + 1,2,none⟩ = some (.int .i64 0)) (w3.setCell ⟨w.heap.size,0,none⟩ (.slice va l.length vc)) := ⟨by simpa using at_cell (A5.out) 0,by simpa using at_cell (D5.out) 0,by simpa using at_cell (D5.out) 1,by simpa using at_cell (D5.out) 2⟩
   refine wpAnyL_one (j := 5) (by kernel_rfl) rfl (fun K hK => ?_)
   go_simp
   refine hK.out _ _ (fun _ _ => hHeld5) ?_
   clear hK K
   try simp only [Act.put,List.setIfInBounds_toArray,List.set_cons_zero,List.set_cons_succ]
   have A6 := hidI (keepS (p := w.heap.size + 1) (i := 0) (v := .int .i64 t'.a) A5.out (by omega))
   have D6 := hidI (keepS (p := w.heap.size + 1) (i := 0) (v := .int .i64 t'.a) D5.out (by omega))
   have B6 : Hid (((w3.setCell ⟨w.heap.size,0,none⟩ (.slice va l.length vc)).setCell ⟨w.heap.size + 1,0,none⟩ (.int .i64 t'.a)).heap[w.heap.size + 1]? = some (.cells #[.int .i64 t'.a] 3)) := by show _ = _; simpa using at_set B5.out 0 (.int .i64 t'.a)
   have hHeld6 : (fun w' : World => w'.cell? ⟨w.heap.size,0,none⟩ = some (.slice va l.length vc) ∧ w'.cell? ⟨w.heap.size + 1 + 1,0,none⟩ = some (.int .i64 0) ∧ w'.cell? ⟨w.heap.size + 1 + 1,1,none⟩ = some (.int .i64 0) ∧ w'.cell? ⟨w.heap.size + 1 + 1,2,none⟩ = some (.int .i64 0)) ((w3.setCell ⟨w.heap.size,0,none⟩ (.slice va l.length vc)).setCell ⟨w.heap.size + 1,0,none⟩ (.int .i64 t'.a)) := ⟨by simpa using at_cell (A6.out) 0,by simpa using at_cell (D6.out) 0,by simpa using at_cell (D6.out) 1,by simpa using at_cell (D6.out) 2⟩
   refine wpAnyL_one (j := 6) (by kernel_rfl) rfl (fun K hK => ?_)
   go_simp
   refine hK.out _ _ (fun _ _ => hHeld6) ?_
   clear hK K
   try simp only [Act.put,List.setIfInBounds_toArray,List.set_cons_zero,List.set_cons_succ]
   refine wpAnyL_one (j := 7) (by kernel_rfl) rfl (fun K hK => ?_)
   go_simp
   refine hK.out _ _ (fun h => absurd rfl h) ?_
   clear hK K
   try simp only [Act.put,List.setIfInBounds_toArray,List.set_cons_zero,List.set_cons_succ]
   refine wpAnyL_done (by kernel_rfl) ?_ _
   clear ap aq ar af ag ah bp bq br bf bg bh dp dq dr df dg dh hHeld hHeld3 hHeld5 hHeld6
   go_wp2_with fail
   refine leaves_cons (f := 38) (args := #[.pointer (some ⟨w.heap.size,0,none⟩),.pointer (some ⟨w.heap.size + 1,0,none⟩),.pointer (some ⟨w.heap.size + 1 + 1,0,none⟩)]) (by simp) (by simp [go_sem]) ?_
   refine (catch_idle _ _ _ _).mono ?_
   rintro e u' w'' ⟨rfl,rfl,rfl⟩
   show Leaves _ _ _ _ [] .returning _
   refine ⟨_,res19 _ _ w.heap.size (w.heap.size + 1) (w.heap.size + 1 + 1) (.slice va l.length vc) (.int .i64 t'.a) (.int .i64 0) (.int .i64 0) (.int .i64 0) rfl rfl rfl ?_ ?_ ?_,?_⟩
   rotate_right
   · rw [HPv.out]
     refine ⟨_,_,rfl,?_,?_⟩
     rotate_left
     · exact gr_ow2 (gr_ow2 (gr_ow2 (gr_ow2 (gr_ow2 G5.out (by omega) _ _) (by omega) _ _) (by omega) _ _) (by omega) _ _) (by omega) _ _
     · skip
       refine (L4.out.kept (fun b (hb : w1.heap.size ≤ b) hl => ?_) ?_).imp (fun b _ (hb : w1.heap.size ≤ b) => (by have := S1.out; omega : w.heap.size ≤ b))
       · have n0 : b ≠ w.heap.size := by have := S1.out; omega
         have n1 : b ≠ w.heap.size + 1 := by have := S1.out; omega
         have n2 : b ≠ w.heap.size + 1 + 1 := by have := S1.out; omega
         obtain ⟨ob,hob⟩ : ∃ ob,w3.heap[b]? = some ob := ⟨_,Array.getElem?_eq_getElem hl⟩
         rw [hob]
         exact keepS (keepS (keepS (keepS (keepS hob n0) n1) n2) n2) n2
       · simp
   · exact keepS (keepS (keepS A6.out (by omega)) (by omega)) (by omega)
   · exact keepS (keepS (keepS B6.out (by omega)) (by omega)) (by omega)
   · have h := at_set (at_set (at_set D6.out 0 (.int .i64 0)) 1 (.int .i64 0)) 2 (.int .i64 0)
     simpa using h
 · have h0 := HP.out.trans h1
   rw [h0]
   have nA : w.heap.size ≠ (w.heap.size + 1 + 1 + 1) := by omega
   have nB : w.heap.size + 1 ≠ (w.heap.size + 1 + 1 + 1) := by omega
   have nD : w.heap.size + 1 + 1 ≠ (w.heap.size + 1 + 1 + 1) := by omega
   have A2 := hidI (keptBut h3 A1.out nA)
   have B2 := hidI (keptBut h3 B1.out nB)
   have D2 := hidI (keptBut h3 D1.out nD)
   have G2 := hidI (grown_join G1.out h3 (Or.inr (fun z hz => by injection hz with hz; omega)))
   clear h1 h3 nA nB nD h0
   refine leaves_cons (f := 38) (args := #[.pointer (some ⟨w.heap.size,0,none⟩),.pointer (some ⟨w.heap.size + 1,0,none⟩),.pointer (some ⟨w.heap.size + 1 + 1,0,none⟩)]) (by simp) (by simp [go_sem]) ?_
   refine (catch_panic w.heap.size c u a [] _ _ _ _ _ _ A2.out B2.out D2.out).mono ?_
   rintro e u' w'' ⟨rfl,rfl,rfl⟩
   show Leaves _ _ _ _ [] .returning _
   refine ⟨_,res19 _ _ w.heap.size (w.heap.size + 1) (w.heap.size + 1 + 1) (.slice none 0 0) (.int .i64 0) (.int .i64 c) (.int .i64 u) (.int .i64 a) rfl rfl rfl ?_ ?_ ?_,_,_,rfl,Li.nil _ _,?_⟩
   · rw [drew_heap]; exact keepS (keepS (keepS (keepS (at_set A2.out 0 (.slice none 0 0)) (by omega)) (by omega)) (by omega)) (by omega)
   · rw [drew_heap]; exact keepS (keepS (keepS (at_set (keepS B2.out (by omega)) 0 (.int .i64 0)) (by omega)) (by omega)) (by omega)
   · rw [drew_heap]
     have h := at_set (at_set (at_set (keepS (i := 0) (v := .int .i64 0) (keepS (i := 0) (v := .slice none 0 0) D2.out (show w.heap.size + 1 + 1 ≠ w.heap.size by omega)) (show w.heap.size + 1 + 1 ≠ w.heap.size + 1 by omega)) 0 (.int .i64 c)) 1 (.int .i64 u)) 2 (.int .i64 a)
     simpa using h
   · exact gr_drew (gr_ow2 (gr_ow2 (gr_ow2 (gr_ow2 (gr_ow2 G2.out (by omega) _ _) (by omega) _ _) (by omega) _ _) (by omega) _ _) (by omega) _ _)
end
end Go.Proofs.YtdcoidmbainkmaaGreatDoor

namespace Go.Proofs.YtdcoidmbainkmaaGreatDoor
open Go.RowKit
attribute [local go_sem ↓] Go.wp_at_zero Go.wp_at_succ
set_option linter.unusedVariables false
set_option linter.unusedSimpArgs false
theorem box3 {W : World} {q : Nat} {y0 y1 y2 x0 x1 x2 : Value} {T : TypeId} (h : W.heap[q]? = some (.cells #[y0,y1,y2] T)) : (((W.setCell ⟨q,0,none⟩ x0).setCell ⟨q,1,none⟩ x1).setCell ⟨q,2,none⟩ x2).heap[q]? = some (.cells #[x0,x1,x2] T) := by
 have h := at_set (at_set (at_set h 0 x0) 1 x1) 2 x2
 simpa using h
theorem res10 (tmps : Array Value) (W : World) (q2 : Nat) (v n x0 x1 x2 : Value) (h6 : tmps.getD 6 undef = v) (h7 : tmps.getD 7 undef = n) (h8 : tmps.getD 8 undef = .pointer (some ⟨q2,0,none⟩)) (c2 : W.heap[q2]? = some (.cells #[x0,x1,x2] 25)) :
 (results Tryz.f10 tmps).run Tryz.prog W = .ok (.tuple #[v,n,.agg #[x0,x1,x2]]) W := by
 have e2 : W.cell? ⟨q2,0,none⟩ = some x0 := by simpa using at_cell c2 0
 have e3 : W.cell? ⟨q2,1,none⟩ = some x1 := by simpa using at_cell c2 1
 have e4 : W.cell? ⟨q2,2,none⟩ = some x2 := by simpa using at_cell c2 2
 have h6' : tmps[6]?.getD undef = v := by simpa using h6
 have h7' : tmps[7]?.getD undef = n := by simpa using h7
 have h8' : tmps[8]?.getD undef = .pointer (some ⟨q2,0,none⟩) := by simpa using h8
 simp [results,Tryz.results10,h6',h7',h8',asAddr,go_sem,e2,e3,e4]
theorem res5 (tmps : Array Value) (W : World) (q2 : Nat) (v x0 x1 x2 : Value) (h6 : tmps.getD 2 undef = v) (h8 : tmps.getD 3 undef = .pointer (some ⟨q2,0,none⟩)) (c2 : W.heap[q2]? = some (.cells #[x0,x1,x2] 25)) :
 (results Tryz.f5 tmps).run Tryz.prog W = .ok (.tuple #[v,.agg #[x0,x1,x2]]) W := by
 have e2 : W.cell? ⟨q2,0,none⟩ = some x0 := by simpa using at_cell c2 0
 have e3 : W.cell? ⟨q2,1,none⟩ = some x1 := by simpa using at_cell c2 1
 have e4 : W.cell? ⟨q2,2,none⟩ = some x2 := by simpa using at_cell c2 2
 have h6' : tmps[2]?.getD undef = v := by simpa using h6
 have h8' : tmps[3]?.getD undef = .pointer (some ⟨q2,0,none⟩) := by simpa using h8
 simp [results,Tryz.results5,h6',h8',asAddr,go_sem,e2,e3,e4]
section
variable {V : World} {F : Int → Tok} {s : ByteArray}
theorem within_all (hS : s.size ≤ 60000 → Scn V s F) (hG : s.size ≤ 60000 → GoodF s.size F) (hT : Tabs V) (w : World) (hV : Vs V w) (hs : 15 ≤ w.heap.size) (hz : s.size ≤ 9223372036854775807) (q : Nat) (hq : w.heap[q]? = some (.cells #[.func (.func 11) #[] #[]] 48)) :
 Calls Tryz.prog 19 #[.string s,.int .i64 0,.func (.func 20) #[] #[.pointer (some ⟨q,0,none⟩)]] w (ParO w (parP F s)) := by
 by_cases h : 60000 < s.size
 · exact within_long w _ h hz
 · exact within_any (hS (by omega)) (hG (by omega)) hT w hV hs (by omega) q hq
theorem Li.up {α Q : Type} {K : Kd α Q} {T : Nat} {w w0 w' : World} {v : Value} {l : List α} (h : Li K T w (nw w0) v l) {q : Nat} (hg : w.grownBy w' (some q)) (hq : q < w0.heap.size) : Li K T w' (nw w0) v l := h.kept (fun b (hb : w0.heap.size ≤ b) hl => hg.block b hl (fun e => by injection e with e; omega)) hg.size
set_option maxHeartbeats 2000000 in
theorem within10_any (hS : s.size ≤ 60000 → Scn V s F) (hG : s.size ≤ 60000 → GoodF s.size F) (hT : Tabs V) (w : World) (hV : Vs V w) (hs : 15 ≤ w.heap.size) (hz : s.size ≤ 9223372036854775807) :
 Calls Tryz.prog 10 #[.string s,.int .i64 0,.func (.func 11) #[] #[]] w (ParO w (parP F s)) := by
 have hmf := makeF
 obtain ⟨W2,hW2⟩ : ∃ W : World,W = (w.alloc (.cells #[.func (.func 11) #[] #[]] 48)).alloc (.cells #[.int .i64 0,.int .i64 0,.int .i64 0] 25) := ⟨_,rfl⟩
 have g2 : w.grownBy W2 none := by rw [hW2]; exact gr_alloc (gr1 _ _) _
 have s2 : W2.heap.size = w.heap.size + 2 := by rw [hW2]; simp
 have c9 := hidI (within_all hS hG hT W2 (hV.kept g2 hs (by simp)) (by omega) hz w.heap.size (by rw [hW2]; exact old (new _ _) _))
 have B2 : W2.heap[w.heap.size + 1]? = some (.cells #[.int .i64 0,.int .i64 0,.int .i64 0] 25) := by rw [hW2]; exact hp_new (by simp) _
 have HB := hidI B2
 have HG := hidI g2
 have HS := hidI s2
 have HW := hidI hW2
 clear hS hG hT hV hs hz g2 s2 B2 hW2
 go_enter Tryz.func10,Tryz.ntmps10
 go_wp2_with fail
 rw [← HW.out]
 refine c9.out.mono ?_
 rintro e w1 ⟨v,n,rfl,hL,g1⟩
 obtain ⟨va,vc,rfl⟩ := hL.sl
 obtain ⟨bp,bq,br,bf,bg,bh⟩ := facts (kept g1 HB.out)
 have B1 := hidI (kept g1 HB.out)
 go_wp2_with fail
 have gS : w1.grownBy (((w1.setCell ⟨w.heap.size + 1,0,none⟩ (.int .i64 (parP F s).2.1)).setCell ⟨w.heap.size + 1,1,none⟩ (.int .i64 (parP F s).2.2.1)).setCell ⟨w.heap.size + 1,2,none⟩ (.int .i64 (parP F s).2.2.2)) (some (w.heap.size + 1)) := gr_set (gr_set (gr_set (World.grownBy.refl _ _) _ _) _ _) _ _
 have sz := HS.out
 exact bodyPost_ret (res10 _ _ (w.heap.size + 1) _ _ _ _ _ rfl rfl rfl (box3 B1.out)) rfl ⟨_,_,rfl,(hL.up gS (by omega)).imp (fun b _ (hb : W2.heap.size ≤ b) => (by omega : w.heap.size ≤ b)),grown_join (gtn HG.out g1) gS (Or.inr (fun z hz => by injection hz with hz; omega))⟩
def ParQ (w : World) (r : List PU × Int × Int × Int) (e : Ending) (w' : World) : Prop := ∃ a c,e = .returned (.tuple #[.slice a r.1.length c,.agg #[.int .i64 r.2.1,.int .i64 r.2.2.1,.int .i64 r.2.2.2]]) ∧ Li kdU 33 w' (nw w) (.slice a r.1.length c) r.1 ∧ w.grownBy w' none
set_option maxHeartbeats 2000000 in
theorem parse_any (hS : s.size ≤ 60000 → Scn V s F) (hG : s.size ≤ 60000 → GoodF s.size F) (hT : Tabs V) (w : World) (hV : Vs V w) (hs : 15 ≤ w.heap.size) (hz : s.size ≤ 9223372036854775807) :
 Calls Tryz.prog 5 #[.string s] w (ParQ w (parP F s)) := by
 have c9 := hidI (within10_any hS hG hT (w.alloc (.cells #[.int .i64 0,.int .i64 0,.int .i64 0] 25)) (hV.kept (gr1 _ _) hs (by simp)) (by simp; omega) hz)
 clear hS hG hT hV hs hz
 go_enter Tryz.func5,Tryz.ntmps5
 go_wp2_with fail
 refine c9.out.mono ?_
 rintro e w1 ⟨v,n,rfl,hL,g1⟩
 obtain ⟨va,vc,rfl⟩ := hL.sl
 have B1 := hidI (kept g1 (new w (.cells #[.int .i64 0,.int .i64 0,.int .i64 0] 25)))
 obtain ⟨bp,bq,br,bf,bg,bh⟩ := facts B1.out
 have HL := hidI hL
 have HG := hidI g1
 have S1 : Hid (w.heap.size + 1 ≤ w1.heap.size) := by have := g1.size; simp at this; exact this
 clear hL g1
 go_wp2_with fail
 go_region
 all_goals go_wp2_with fail
 have gA := gr1 w1 (.cells #[.int .i64 (parP F s).2.1,.int .i64 (parP F s).2.2.1,.int .i64 (parP F s).2.2.2] 25)
 have gS : w1.grownBy ((((w1.alloc (.cells #[.int .i64 (parP F s).2.1,.int .i64 (parP F s).2.2.1,.int .i64 (parP F s).2.2.2] 25)).setCell ⟨w.heap.size,0,none⟩ (.int .i64 (parP F s).2.1)).setCell ⟨w.heap.size,1,none⟩ (.int .i64 (parP F s).2.2.1)).setCell ⟨w.heap.size,2,none⟩ (.int .i64 (parP F s).2.2.2)).drew (some w.heap.size) := gr_drew (gr_set (gr_set (gr_set (gr_none gA) _ _) _ _) _ _)
 refine bodyPost_ret (res5 _ _ w.heap.size _ _ _ _ rfl rfl ?_) rfl ⟨_,_,rfl,(HL.out.up gS (by simp)).imp (fun b _ (hb : (w.alloc (.cells #[.int .i64 0,.int .i64 0,.int .i64 0] 25)).heap.size ≤ b) => (by simp at hb; omega : w.heap.size ≤ b)),grown_join (gtn (gr1 _ _) HG.out) gS (Or.inr (fun z hz => by injection hz with hz; omega))⟩
 rw [drew_heap]
 exact box3 (old B1.out _)
end
end Go.Proofs.YtdcoidmbainkmaaGreatDoor
