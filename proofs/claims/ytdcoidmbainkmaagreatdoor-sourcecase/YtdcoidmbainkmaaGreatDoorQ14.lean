/- Texts put together: Rh, Ri. -/
import Derived.Test.YtdcoidmbainkmaaGreatDoorQ13
namespace Go.Proofs.YtdcoidmbainkmaaGreatDoor
open Go.RowKit
attribute [local go_sem ↓] Go.wp_at_zero Go.wp_at_succ
set_option linter.unusedVariables false
set_option linter.unusedSimpArgs false
theorem enters188 (args : Array Value) (W : World) : (callFunc 188 args).run Tryz.prog W = .ok (.enter 188 args) W := enters_of Tryz.func188 (by kernel_rfl) rfl args W
theorem labels_fits (w : World) (R q : Nat) (a : Int) (hP : w.heap[q]? = some (.cells #[.int .i64 a] 3)) (hq : q ≠ R) : Fits w R 188 #[.pointer (some ⟨q,0,none⟩)] (fun n => decide (a ≤ n)) := by
 intro n W hg h3 h4
 have c9 : W.cell? ⟨q,0,none⟩ = some (.int .i64 a) := by simpa using at_cell (keptBut hg hP hq) 0
 clear hP
 show Calls Tryz.prog 188 #[.int .i64 n,.pointer (some ⟨q,0,none⟩)] W _
 go_enter Tryz.func188,Tryz.ntmps188
 go_wp2_with fail
 go_ret
 exact ⟨rfl,rfl⟩
section
variable {V : World} {F : Int → Tok} {R : Nat} {s : ByteArray} {u : Int}
def LaL (V : World) (F : Int → Tok) (R : Nat) (s : ByteArray) (u : Int) (w : World) (r0 : Res (List (Int × Int))) (gk : Nat) (s3 s4 : Value) (wx : World) : Prop :=
 ∃ (l : List (Int × Int)) (a : Option Addr) (c : Nat) (tk : Tok) (m : Bool),s3 = .slice a l.length c ∧ s4 = .bool m ∧ Cx V F R s u wx tk ∧ w.grownBy wx (some R) ∧ wx.heap[w.heap.size]? = some (.cells #[pR R] 46) ∧
  Gl kdL 103 2 wx (w.heap.size + 1) (.slice a l.length c) l ∧ w.heap.size + 1 ≤ wx.heap.size ∧ (l.length : Int) ≤ tk.a ∧ (m = true → gk = s.size + 3 - l.length ∧ labL F (s.size + 2 - l.length) l tk = r0) ∧ (m = false → gk = 0 ∧ r0 = .ok l tk)
set_option maxRecDepth 10000 in
set_option maxHeartbeats 4000000 in
theorem labels_any (hS60 : s.size ≤ 60000) (w : World) (t : Tok) (C : Cx V F R s u w t) : Calls Tryz.prog 155 #[rV R] w (Out V F R s u w (labL F (s.size + 2) [] t) (fun w' v l => Li kdL 103 w' (nw w) v l)) := by
 have hmf := makeF
 have H60 := hidI hS60
 clear hS60
 have HC : Hid (Cx V F R s u w t) := C
 have C0 := HC
 have G0 : Hid (w.grownBy w (some R)) := World.grownBy.refl _ _
 have HR : Hid (R < w.heap.size ∧ 15 ≤ w.heap.size ∧ 15 ≤ R) := ⟨C.lt,C.sz,C.r15⟩
 clear C
 go_enter Tryz.func155,Tryz.ntmps155
 have LS : Hid (LaL V F R s u w (labL F (s.size + 2) [] t) (s.size + 3) (.slice none 0 0) (.bool true) (w.alloc (.cells #[pR R] 46))) :=
  ⟨[],none,0,t,true,rfl,rfl,HC.out.al _,gr_alloc (World.grownBy.refl _ _) _,new _ _,Gl.nil _ _,by simp,by have := HC.out.ok.1; simpa using this,fun _ => ⟨rfl,rfl⟩,(fun h => by cases h)⟩
 go_wp2_with fail
 go_loopg [3,4] (s.size + 3) (fun gk s3 s4 wx => LaL V F R s u w (labL F (s.size + 2) [] t) gk s3 s4 wx)
 case atStart => exact LS.out
 case round =>
  obtain ⟨l,a,c,tk,m,rfl,rfl,CC,gg,hA,hX,hq,hk,hm1,hm2⟩ := hrel
  cases m with
  | false =>
   obtain ⟨_,hr⟩ := hm2 rfl
   have hl : l.length ≤ 1000000 := by have := CC.ok.2.1; have := H60.out; omega
   have HH := hidI (And.intro CC (And.intro gg (And.intro hX (And.intro hr hl))))
   clear CC gg hA hX hq hm1 hm2 hr hl hk
   go_wp2_with fail
   go_ret
   obtain ⟨CC,gg,hX,hr,hl⟩ := HH.out
   exact Out.ok hr ((hX.li (by omega)).imp (fun b _ (hb : w.heap.size + 1 ≤ b) => (by omega : w.heap.size ≤ b))) CC gg
  | true =>
   obtain ⟨hgk,hr⟩ := hm1 rfl
   have C1 := hidI CC
   have G1 := hidI gg
   have A1 := hidI hA
   have L1 := hidI hX
   have S1 := hidI hq
   have HRr := hidI hr
   have HG := hidI hgk
   have HK := hidI hk
   have HLn : Hid (l.length ≤ 60000) := by have := CC.ok.2.1; have := H60.out; show l.length ≤ 60000; omega
   have hf : s.size + 2 - l.length = (s.size + 1 - l.length) + 1 := by have := CC.ok.2.1; omega
   have HF := hidI hf
   clear CC gg hA hX hq hr hgk hk hf hm1 hm2
   obtain ⟨ap,aq,ar,af,ag,ah⟩ := facts A1.out
   go_wp2_with fail
   refine (constant_any C1.out).mono ?_
   intro e w2 h
   rcases h.get with ⟨lo,t2,v2,r2,rfl,rfl,CC,g⟩ | ⟨cc,aa,r2,rfl,g⟩
   rotate_left
   · exact ⟨rfl,Out.bad (by rw [← HRr.out,HF.out,labL]; (first | (rw [r2]; done) | (rw [r2]; rfl) | exact r2)) (gtr G1.out g)⟩
   have L2 := hidI ((L1.out).g g (by have := HR.out; have := S1.out; omega))
   have A2 : Hid (w2.heap[w.heap.size]? = some (.cells #[pR R] 46)) := keptBut g A1.out (by have := HR.out; have := S1.out; omega)
   have G2 := hidI (gtr G1.out g)
   have C2 := hidI CC
   have S2 : Hid (wr.heap.size + 0 ≤ w2.heap.size) := hidI (by have := g.size; first | omega | (simp at this; omega) | (simp at this ⊢; omega))
   have Z1 := hidI (And.intro HR.out (And.intro S1.out S2.out))
   clear g CC h ap aq ar af ag ah
   have T2 : Hid (tk.a + 1 ≤ t2.a) := (const_adv C1.out.G _ _ _ _ C1.out.ok r2).2
   have HLo := hidI (const_bd C1.out.G C1.out.ok r2)
   obtain ⟨ap,aq,ar,af,ag,ah⟩ := facts A2.out
   go_wp2_with fail
   refine (tookW (C2.out.al _) _ [⟨#[46,46]⟩] _ _ _ (by simp) rfl rfl (by decide)).mono ?_
   intro e w3 h
   rcases h.get with ⟨b3,t3,v3,r3,rfl,rfl,CC,g⟩ | ⟨cc,aa,r3,rfl,g⟩
   rotate_left
   · exact ⟨rfl,Out.bad (by rw [← HRr.out,HF.out,labL]; (first | rw [r2] | exact r2); try rw [bindOk]; (first | (rw [r3]; done) | (rw [r3]; rfl) | exact r3)) (gtr (gr_alloc (gr_alloc G2.out _) _) g)⟩
   have L3 := hidI (((L2.out.gn (gr1 _ _)).gn (gr1 _ _)).g g (by have := Z1.out; omega))
   have A3 : Hid (w3.heap[w.heap.size]? = some (.cells #[pR R] 46)) := keptBut g (old (old A2.out _) _) (by have := Z1.out; omega)
   have O3 : Hid (w3.heap[w2.heap.size]? = some (.cells #[.int .i64 lo] 3)) := keptBut g (old (hp_new (by first | rfl | simp) _) _) (by have := Z1.out; omega)
   have G3 := hidI (gtr (gr_alloc (gr_alloc G2.out _) _) g)
   have C3 := hidI CC
   have S3 : Hid (w2.heap.size + 2 ≤ w3.heap.size) := hidI (by have := g.size; first | omega | (simp at this; omega) | (simp at this ⊢; omega))
   have Z2 := hidI (And.intro HR.out (And.intro S1.out (And.intro S2.out S3.out)))
   clear g CC h ap aq ar af ag ah
   have T3 : Hid (t2.a + 0 ≤ t3.a) := (took_adv C2.out.G _ _ _ _ C2.out.ok r3).2
   cases b3
   · have T4 : Hid (t3.a ≤ t3.a) := Int.le_refl _
     obtain ⟨a2,c2,w4,hrun,L4,g4⟩ := L3.out.add el98 (e := (lo,lo)) (k := ()) (lo := w3.heap.size) (hi := w3.heap.size) trivial rfl (by intro y hy; simp [kdL] at hy; rcases hy with rfl | rfl <;> rfl) (by have := Z2.out; omega) (fun g hg => (L3.out.lt g hg).2) (by have := HLn.out; omega) (by have := Z2.out; omega)
     have ho := L3.out.lt
     have HRUN : Hid ((Builtin.append_ #[98,98] 98 #[.slice a l.length c,.slice (some ⟨w3.heap.size,0,none⟩) 1 1]).run Tryz.prog (w3.alloc (.cells #[.int .i64 lo,.int .i64 lo] 103)) = .ok (.slice a2 (l.length + 1) c2) w4) := hrun
     have C4 := hidI ((C3.out.al _).ga g4 (fun q hq => by have := ho q hq; have := HR.out; constructor <;> omega))
     have G4 := hidI (grown_join (gr_alloc G3.out _) g4 (Or.inr (fun q hq => by have := ho q hq; omega)))
     have A4 := hidI (keptRow g4 (old A3.out _) (fun e => by have := ho _ e; omega))
     have S4 : Hid (w3.heap.size + 1 ≤ w4.heap.size) := by have := g4.size; simp at this; exact this
     have Z3 := hidI (And.intro HR.out (And.intro S1.out (And.intro S2.out (And.intro S3.out S4.out))))
     obtain ⟨ap,aq,ar,af,ag,ah⟩ := facts A3.out
     obtain ⟨op,oq,or,of,og,oh⟩ := facts O3.out
     have LL := hidI L4
     clear hrun L4 g4 ho
     obtain ⟨ap,aq,ar,af,ag,ah⟩ := facts A4.out
     go_wp2_with (first | (at_builtin; refine wpList_append_run rfl _ _ 98 rfl _ _ _ _ rfl rfl HRUN.out ?_))
     refine (needW C4.out _ [⟨#[44]⟩,⟨#[58]⟩] _ _ _ (by simp) rfl rfl (by decide)).mono ?_
     intro e w5 h
     rcases h.get with ⟨k,t5,v5,r5,rfl,rfl,CC,g⟩ | ⟨cc,aa,r5,rfl,g⟩
     rotate_left
     · exact ⟨rfl,Out.bad (by rw [← HRr.out,HF.out,labL]; (first | rw [r2] | exact r2); try rw [bindOk]; (first | rw [r3] | exact r3); try rw [bindOk]; rw [if_neg (by simp)]; try rw [bindOk]; (first | (rw [r5]; done) | (rw [r5]; rfl) | exact r5)) (gtr (gr_alloc G4.out _) g)⟩
     have L5 := hidI ((LL.out.gn (gr1 _ _)).g g (by have := Z3.out; omega))
     have A5 : Hid (w5.heap[w.heap.size]? = some (.cells #[pR R] 46)) := keptBut g (old A4.out _) (by have := Z3.out; omega)
     have G5 := hidI (gtr (gr_alloc G4.out _) g)
     have C5 := hidI CC
     have S5 : Hid (w4.heap.size + 1 ≤ w5.heap.size) := hidI (by have := g.size; first | omega | (simp at this; omega) | (simp at this ⊢; omega))
     have Z4 := hidI (And.intro HR.out (And.intro S1.out (And.intro S2.out (And.intro S3.out (And.intro S4.out S5.out)))))
     clear g CC h ap aq ar af ag ah
     have T5 : Hid (t3.a + 1 ≤ t5.a) := (need_adv C1.out.G _ _ _ _ C3.out.ok r5).2
     have hX := fldX k
     by_cases hk : k.x = ⟨#[44]⟩
     · have hk' : (k.x.toList == [44]) = true := by rw [eqS]; simpa using hk
       go_wp2_with fail
       have hgl := HG.out
       have hkk := HK.out
       have q2 := T2.out
       have q3 := T3.out
       have q4 := T4.out
       have q5 := T5.out
       have qs := HF.out
       go_roundg (s.size + 3 - (l.length + 1))
       case measure => omega
       case rel =>
        refine ⟨l ++ [(lo,lo)],a2,c2,t5,true,by simp,rfl,C5.out,G5.out,A5.out,L5.out,by have := Z4.out; omega,by simp; omega,fun _ => ⟨by simp,?_⟩,(fun h => by cases h)⟩
        rw [show s.size + 2 - (l ++ [(lo,lo)]).length = s.size + 1 - l.length by simp]
        symm; rw [← HRr.out,HF.out,labL]; (first | rw [r2] | exact r2); try rw [bindOk]; (first | rw [r3] | exact r3); try rw [bindOk]; rw [if_neg (by simp)]; try rw [bindOk]; (first | rw [r5] | exact r5); try rw [bindOk]; rw [if_pos hk]
     · have hk' : (k.x.toList == [44]) = false := by rw [eqS]; simpa using hk
       go_wp2_with fail
       have hgl := HG.out
       have hkk := HK.out
       have q2 := T2.out
       have q3 := T3.out
       have q4 := T4.out
       have q5 := T5.out
       have qs := HF.out
       go_roundg 0
       case measure => omega
       case rel =>
        refine ⟨l ++ [(lo,lo)],a2,c2,t5,false,by simp,rfl,C5.out,G5.out,A5.out,L5.out,by have := Z4.out; omega,by simp; omega,(fun h => by cases h),fun _ => ⟨rfl,?_⟩⟩
        rw [← HRr.out,HF.out,labL]; (first | rw [r2] | exact r2); try rw [bindOk]; (first | rw [r3] | exact r3); try rw [bindOk]; rw [if_neg (by simp)]; try rw [bindOk]; (first | rw [r5] | exact r5); try rw [bindOk]; rw [if_neg hk]
   · have F3 := hidI (labels_fits w3 R w2.heap.size lo O3.out (by have := Z2.out; omega))
     obtain ⟨ap,aq,ar,af,ag,ah⟩ := facts A3.out
     obtain ⟨op,oq,or,of,og,oh⟩ := facts O3.out
     go_wp2_with fail
     refine (const_any C3.out 188 _ _ enters188 F3.out).mono ?_
     intro e w4 h
     rcases h.get with ⟨hi,t4,v4,r4,rfl,rfl,CC,g⟩ | ⟨cc,aa,r4,rfl,g⟩
     rotate_left
     · exact ⟨rfl,Out.bad (by rw [← HRr.out,HF.out,labL]; (first | rw [r2] | exact r2); try rw [bindOk]; (first | rw [r3] | exact r3); try rw [bindOk]; rw [if_pos rfl]; (first | (rw [r4]; done) | (rw [r4]; rfl) | exact r4)) (gtr G3.out g)⟩
     have L4 := hidI (L3.out.g g (by have := Z2.out; omega))
     have A4 : Hid (w4.heap[w.heap.size]? = some (.cells #[pR R] 46)) := keptBut g A3.out (by have := Z2.out; omega)
     have O4 : Hid (w4.heap[w2.heap.size]? = some (.cells #[.int .i64 lo] 3)) := keptBut g O3.out (by have := Z2.out; omega)
     have G4 := hidI (gtr G3.out g)
     have C4 := hidI CC
     have S4 : Hid (w3.heap.size + 0 ≤ w4.heap.size) := hidI (by have := g.size; first | omega | (simp at this; omega) | (simp at this ⊢; omega))
     have Z5 := hidI (And.intro HR.out (And.intro S1.out (And.intro S2.out (And.intro S3.out S4.out))))
     clear g CC h ap aq ar af ag ah op oq or of og oh
     have T4 : Hid (t3.a + 1 ≤ t4.a) := (const_adv C3.out.G _ _ _ _ C3.out.ok r4).2
     obtain ⟨a2,c2,w5,hrun,L5,g4⟩ := L4.out.add el98 (e := (lo,hi)) (k := ()) (lo := w4.heap.size) (hi := w4.heap.size) trivial rfl (by intro y hy; simp [kdL] at hy; rcases hy with rfl | rfl <;> rfl) (by have := Z5.out; omega) (fun g hg => (L4.out.lt g hg).2) (by have := HLn.out; omega) (by have := Z5.out; omega)
     have ho := L4.out.lt
     have HRUN : Hid ((Builtin.append_ #[98,98] 98 #[.slice a l.length c,.slice (some ⟨w4.heap.size,0,none⟩) 1 1]).run Tryz.prog (w4.alloc (.cells #[.int .i64 lo,.int .i64 hi] 103)) = .ok (.slice a2 (l.length + 1) c2) w5) := hrun
     have C5 := hidI ((C4.out.al _).ga g4 (fun q hq => by have := ho q hq; have := HR.out; constructor <;> omega))
     have G5 := hidI (grown_join (gr_alloc G4.out _) g4 (Or.inr (fun q hq => by have := ho q hq; omega)))
     have A5 := hidI (keptRow g4 (old A4.out _) (fun e => by have := ho _ e; omega))
     have S5 : Hid (w4.heap.size + 1 ≤ w5.heap.size) := by have := g4.size; simp at this; exact this
     have Z6 := hidI (And.intro HR.out (And.intro S1.out (And.intro S2.out (And.intro S3.out (And.intro S4.out S5.out)))))
     obtain ⟨ap,aq,ar,af,ag,ah⟩ := facts A4.out
     obtain ⟨op,oq,or,of,og,oh⟩ := facts O4.out
     have LL := hidI L5
     clear hrun L5 g4 ho
     obtain ⟨ap,aq,ar,af,ag,ah⟩ := facts A5.out
     go_wp2_with (first | (at_builtin; refine wpList_append_run rfl _ _ 98 rfl _ _ _ _ rfl rfl HRUN.out ?_))
     refine (needW C5.out _ [⟨#[44]⟩,⟨#[58]⟩] _ _ _ (by simp) rfl rfl (by decide)).mono ?_
     intro e w6 h
     rcases h.get with ⟨k,t6,v6,r6,rfl,rfl,CC,g⟩ | ⟨cc,aa,r6,rfl,g⟩
     rotate_left
     · exact ⟨rfl,Out.bad (by rw [← HRr.out,HF.out,labL]; (first | rw [r2] | exact r2); try rw [bindOk]; (first | rw [r3] | exact r3); try rw [bindOk]; rw [if_pos rfl]; (first | rw [r4] | exact r4); try rw [bindOk]; (first | (rw [r6]; done) | (rw [r6]; rfl) | exact r6)) (gtr (gr_alloc G5.out _) g)⟩
     have L6 := hidI ((LL.out.gn (gr1 _ _)).g g (by have := Z6.out; omega))
     have A6 : Hid (w6.heap[w.heap.size]? = some (.cells #[pR R] 46)) := keptBut g (old A5.out _) (by have := Z6.out; omega)
     have G6 := hidI (gtr (gr_alloc G5.out _) g)
     have C6 := hidI CC
     have S6 : Hid (w5.heap.size + 1 ≤ w6.heap.size) := hidI (by have := g.size; first | omega | (simp at this; omega) | (simp at this ⊢; omega))
     have Z7 := hidI (And.intro HR.out (And.intro S1.out (And.intro S2.out (And.intro S3.out (And.intro S4.out (And.intro S5.out S6.out))))))
     clear g CC h ap aq ar af ag ah
     have T5 : Hid (t4.a + 1 ≤ t6.a) := (need_adv C1.out.G _ _ _ _ C4.out.ok r6).2
     have hX := fldX k
     by_cases hk : k.x = ⟨#[44]⟩
     · have hk' : (k.x.toList == [44]) = true := by rw [eqS]; simpa using hk
       go_wp2_with fail
       have hgl := HG.out
       have hkk := HK.out
       have q2 := T2.out
       have q3 := T3.out
       have q4 := T4.out
       have q5 := T5.out
       have qs := HF.out
       go_roundg (s.size + 3 - (l.length + 1))
       case measure => omega
       case rel =>
        refine ⟨l ++ [(lo,hi)],a2,c2,t6,true,by simp,rfl,C6.out,G6.out,A6.out,L6.out,by have := Z7.out; omega,by simp; omega,fun _ => ⟨by simp,?_⟩,(fun h => by cases h)⟩
        rw [show s.size + 2 - (l ++ [(lo,hi)]).length = s.size + 1 - l.length by simp]
        symm; rw [← HRr.out,HF.out,labL]; (first | rw [r2] | exact r2); try rw [bindOk]; (first | rw [r3] | exact r3); try rw [bindOk]; rw [if_pos rfl]; (first | rw [r4] | exact r4); try rw [bindOk]; (first | rw [r6] | exact r6); try rw [bindOk]; rw [if_pos hk]
     · have hk' : (k.x.toList == [44]) = false := by rw [eqS]; simpa using hk
       go_wp2_with fail
       have hgl := HG.out
       have hkk := HK.out
       have q2 := T2.out
       have q3 := T3.out
       have q4 := T4.out
       have q5 := T5.out
       have qs := HF.out
       go_roundg 0
       case measure => omega
       case rel =>
        refine ⟨l ++ [(lo,hi)],a2,c2,t6,false,by simp,rfl,C6.out,G6.out,A6.out,L6.out,by have := Z7.out; omega,by simp; omega,(fun h => by cases h),fun _ => ⟨rfl,?_⟩⟩
        rw [← HRr.out,HF.out,labL]; (first | rw [r2] | exact r2); try rw [bindOk]; (first | rw [r3] | exact r3); try rw [bindOk]; rw [if_pos rfl]; (first | rw [r4] | exact r4); try rw [bindOk]; (first | rw [r6] | exact r6); try rw [bindOk]; rw [if_neg hk]
end
end Go.Proofs.YtdcoidmbainkmaaGreatDoor

namespace Go.Proofs.YtdcoidmbainkmaaGreatDoor
open Go.RowKit
attribute [local go_sem ↓] Go.wp_at_zero Go.wp_at_succ
set_option linter.unusedVariables false
set_option linter.unusedSimpArgs false
section
variable {V : World} {F : Int → Tok} {R : Nat} {s : ByteArray} {u : Int}
def ChL (V : World) (F : Int → Tok) (R : Nat) (s : ByteArray) (u : Int) (w : World) (ex : Tok → Res PE) (li : Tok → Res (List PS)) (r1 : Res (List PArm × ByteArray)) (gk : Nat) (s6 : Value) (wx : World) : Prop :=
 ∃ (l : List PArm) (a : Option Addr) (c : Nat) (tk : Tok) (last : ByteArray),s6 = .string last ∧ Cx V F R s u wx tk ∧ w.grownBy wx (some R) ∧ wx.heap[w.heap.size]? = some (.cells #[pR R] 46) ∧ wx.heap[w.heap.size + 1]? = some (.cells #[.int .i64 0,.int .i64 0,.string ⟨#[]⟩,.bool false,.slice none 0 0,.slice none 0 0,.slice none 0 0,.slice none 0 0,.slice none 0 0,.int .i64 0,.int .i64 0,.int .i64 0,.int .i64 0] 94) ∧
  wx.heap[w.heap.size + 2]? = some (.cells #[.int .i64 3,.int .i64 0,.string ⟨#[]⟩,.bool false,.slice none 0 0,.slice none 0 0,.slice a l.length c,.slice none 0 0,.slice none 0 0,.int .i64 0,.int .i64 0,.int .i64 0,.int .i64 0] 94) ∧ Gl kdM 100 10 wx (w.heap.size + 3) (.slice a l.length c) l ∧ w.heap.size + 3 ≤ wx.heap.size ∧ (l.length : Int) ≤ tk.a ∧ (last = ⟨#[101,108,115,105,102]⟩ → gk = s.size + 3 - l.length ∧ choL F ex li (s.size + 2 - l.length) l tk = r1) ∧ (last ≠ ⟨#[101,108,115,105,102]⟩ → gk = 0 ∧ r1 = .ok (l,last) tk)
set_option maxRecDepth 10000 in
set_option maxHeartbeats 4000000 in
theorem choice_any (hS60 : s.size ≤ 60000) (d : Nat) (hd : d ≤ 39) (hL : LsC V F R s u d) (w : World) (t : Tok) (dp : Int) (hdp : dp = 41 - d) (C : Cx V F R s u w t) : Calls Tryz.prog 113 #[rV R,.int .i64 dp] w (Out V F R s u w (choP F (s.size + 2) (exP F (s.size + 2) d) (lisP F (s.size + 2) d) t) (StP w)) := by
 have HE : Hid (ExC V F R s u d) := expr_any d (by omega)
 have HL : Hid (LsC V F R s u d) := hL
 have HD : Hid (dp = 41 - (d : Int)) := hdp
 have H60 := hidI hS60
 have hadv : Adv s.size 1 (exP F (s.size + 2) d) := ex_adv C.G _ _
 have HAdv := hidI hadv
 have hlad : Adv s.size 0 (lisP F (s.size + 2) d) := lis_adv C.G _ _
 have HLad := hidI hlad
 clear hdp hL hadv hlad hS60
 have HC : Hid (Cx V F R s u w t) := C
 have C0 := HC
 have G0 : Hid (w.grownBy w (some R)) := World.grownBy.refl _ _
 have HR : Hid (R < w.heap.size ∧ 15 ≤ w.heap.size ∧ 15 ≤ R) := ⟨C.lt,C.sz,C.r15⟩
 clear C
 go_enter Tryz.func113,Tryz.ntmps113
 obtain ⟨ex,hex⟩ : ∃ p,exP F (s.size + 2) d = p := ⟨_,rfl⟩
 obtain ⟨li,hli⟩ : ∃ p,lisP F (s.size + 2) d = p := ⟨_,rfl⟩
 have HX : Hid (exP F (s.size + 2) d = ex) := hex
 have HI : Hid (lisP F (s.size + 2) d = li) := hli
 rw [hex,hli]
 clear hex hli
 have LS : Hid (ChL V F R s u w ex li (choL F ex li (s.size + 2) [] t) (s.size + 3) (.string ⟨#[101,108,115,105,102]⟩) (((w.alloc (.cells #[pR R] 46)).alloc (.cells #[.int .i64 0,.int .i64 0,.string ⟨#[]⟩,.bool false,.slice none 0 0,.slice none 0 0,.slice none 0 0,.slice none 0 0,.slice none 0 0,.int .i64 0,.int .i64 0,.int .i64 0,.int .i64 0] 94)).alloc (.cells #[.int .i64 3,.int .i64 0,.string ⟨#[]⟩,.bool false,.slice none 0 0,.slice none 0 0,.slice none 0 0,.slice none 0 0,.slice none 0 0,.int .i64 0,.int .i64 0,.int .i64 0,.int .i64 0] 94))) :=
  ⟨[],none,0,t,⟨#[101,108,115,105,102]⟩,rfl,(((C0.out.al _).al _).al _),(gr_alloc (gr_alloc (gr_alloc G0.out _) _) _),(old (old (hp_new (by first | rfl | simp) _) _) _),(old (hp_new (by first | rfl | simp) _) _),(hp_new (by first | rfl | simp) _),Gl.nil _ _,by simp,by have := HC.out.ok.1; simpa using this,fun _ => ⟨rfl,rfl⟩,(fun h => absurd rfl h)⟩
 go_wp2_with fail
 go_loopg [6] (s.size + 3) (fun gk s6 wx => ChL V F R s u w ex li (choL F ex li (s.size + 2) [] t) gk s6 wx)
 case atStart => exact LS.out
 case round =>
  obtain ⟨l,a,c,tk,last,rfl,CC,gg,hA,hB,hP,hX,hq,hk,hm1,hm2⟩ := hrel
  have C1 := hidI CC
  have G1 := hidI gg
  have A1 := hidI hA
  have B1 := hidI hB
  have P1 := hidI hP
  have L1 := hidI hX
  have S1 := hidI hq
  have Z1 := hidI (And.intro HR.out S1.out)
  have HK := hidI hk
  have HLn : Hid (l.length ≤ 60000) := by have := CC.ok.2.1; have := H60.out; show l.length ≤ 60000; omega
  have hf : s.size + 2 - l.length = (s.size + 1 - l.length) + 1 := by have := CC.ok.2.1; omega
  have HF := hidI hf
  have HM1 := hidI hm1
  have HM2 := hidI hm2
  clear CC gg hA hB hP hX hq hk hf hm1 hm2
  by_cases he : last = ⟨#[101,108,115,105,102]⟩
  rotate_left
  · have he' : (last.toList == [101,108,115,105,102]) = false := by rw [eqS]; simpa using he
    obtain ⟨hg0,hr⟩ := HM2.out he
    have HRr := hidI hr
    clear hr hg0
    have M1 := hidI (L1.out.li (by have := HLn.out; omega))
    obtain ⟨ap,aq,ar,af,ag,ah⟩ := facts A1.out
    obtain ⟨bp,bq,br,bf,bg,bh⟩ := facts B1.out
    obtain ⟨pp,pq,pr,pf,pg,ph⟩ := facts P1.out
    have nBP : w.heap.size + 1 ≠ w.heap.size + 2 := by have := Z1.out; omega
    have nPB : w.heap.size + 2 ≠ w.heap.size + 1 := by have := Z1.out; omega
    have nAP : w.heap.size ≠ w.heap.size + 2 := by have := Z1.out; omega
    have nPA : w.heap.size + 2 ≠ w.heap.size := by have := Z1.out; omega
    have nAB : w.heap.size ≠ w.heap.size + 1 := by have := Z1.out; omega
    have nBA : w.heap.size + 1 ≠ w.heap.size := by have := Z1.out; omega
    by_cases hl : last = ⟨#[101,108,115,101]⟩
    · have hl' : (last.toList == [101,108,115,101]) = true := by rw [eqS]; simpa using hl
      have HLs := hidI hl
      clear hl he
      go_wp2_with fail
      refine (HL.out _ _ dp HD.out C1.out).mono ?_
      intro e w2 h
      rcases h.get with ⟨bd,t2,v2,r2,rfl,hv,CC,g⟩ | ⟨cc,aa,r2,rfl,g⟩
      rotate_left
      · exact ⟨rfl,Out.bad (by rw [choP,HRr.out]; rw [bindOk]; rw [if_pos HLs.out,← HI.out]; (first | (rw [r2]; done) | (rw [r2]; rfl) | exact r2)) (gtr G1.out g)⟩
      obtain ⟨lx,lc,rfl⟩ := hv.sl
      have Q2 := hidI (hv.tag wr.heap.size (by simp))
      clear hv
      have A2 : Hid (w2.heap[w.heap.size]? = some (.cells #[pR R] 46)) := keptBut g A1.out (by have := Z1.out; omega)
      have B2 : Hid (w2.heap[w.heap.size + 1]? = some (.cells #[.int .i64 0,.int .i64 0,.string ⟨#[]⟩,.bool false,.slice none 0 0,.slice none 0 0,.slice none 0 0,.slice none 0 0,.slice none 0 0,.int .i64 0,.int .i64 0,.int .i64 0,.int .i64 0] 94)) := keptBut g B1.out (by have := Z1.out; omega)
      have P2 : Hid (w2.heap[w.heap.size + 2]? = some (.cells #[.int .i64 3,.int .i64 0,.string ⟨#[]⟩,.bool false,.slice none 0 0,.slice none 0 0,.slice a l.length c,.slice none 0 0,.slice none 0 0,.int .i64 0,.int .i64 0,.int .i64 0,.int .i64 0] 94)) := keptBut g P1.out (by have := Z1.out; omega)
      have G2 := hidI (gtr G1.out g)
      have C2 := hidI CC
      have S2 : Hid (wr.heap.size + 0 ≤ w2.heap.size) := hidI (by have := g.size; first | omega | (simp at this; omega) | (simp at this ⊢; omega))
      have Z2 := hidI (And.intro HR.out (And.intro S1.out S2.out))
      have M2 := hidI ((Li.g M1.out g (fun b (hb : _ ≤ b) => by have := Z1.out; omega)))
      clear g CC h ap aq ar af ag ah bp bq br bf bg bh pp pq pr pf pg ph
      obtain ⟨ap,aq,ar,af,ag,ah⟩ := facts A2.out
      obtain ⟨bp,bq,br,bf,bg,bh⟩ := facts B2.out
      obtain ⟨pp,pq,pr,pf,pg,ph⟩ := facts P2.out
      go_wp2_with fail
      refine (needW (C2.out.set (by have := Z2.out; omega) (by have := Z2.out; omega) _ _) _ [⟨#[101,110,100,95,105,102]⟩] _ _ _ (by simp) rfl rfl (by decide)).mono ?_
      intro e w3 h
      rcases h.get with ⟨_,t3,v3,r3,rfl,rfl,CC,g⟩ | ⟨cc,aa,r3,rfl,g⟩
      rotate_left
      · exact ⟨rfl,Out.bad (by rw [choP,HRr.out]; rw [bindOk]; rw [if_pos HLs.out,← HI.out]; (first | rw [r2] | exact r2); try rw [bindOk]; (first | (rw [r3]; done) | (rw [r3]; rfl) | exact r3)) (gtr (gr_alloc (gr_ow2 G2.out (by have := Z2.out; omega) _ _) _) g)⟩
      have A3 : Hid (w3.heap[w.heap.size]? = some (.cells #[pR R] 46)) := keptBut g (old (keepS A2.out (by have := Z2.out; omega)) _) (by have := Z2.out; omega)
      have B3 : Hid (w3.heap[w.heap.size + 1]? = some (.cells #[.int .i64 0,.int .i64 0,.string ⟨#[]⟩,.bool false,.slice none 0 0,.slice none 0 0,.slice none 0 0,.slice none 0 0,.slice none 0 0,.int .i64 0,.int .i64 0,.int .i64 0,.int .i64 0] 94)) := keptBut g (old (keepS B2.out (by have := Z2.out; omega)) _) (by have := Z2.out; omega)
      have P3 : Hid (w3.heap[w.heap.size + 2]? = some (.cells #[.int .i64 3,.int .i64 0,.string ⟨#[]⟩,.bool false,.slice none 0 0,.slice none 0 0,.slice a l.length c,.slice lx bd.length lc,.slice none 0 0,.int .i64 0,.int .i64 0,.int .i64 0,.int .i64 0] 94)) := keptBut g (by simpa using (old (at_set P2.out 7 (.slice lx bd.length lc)) _)) (by have := Z2.out; omega)
      have G3 := hidI (gtr (gr_alloc (gr_ow2 G2.out (by have := Z2.out; omega) _ _) _) g)
      have C3 := hidI CC
      have S3 : Hid (w2.heap.size + 1 ≤ w3.heap.size) := hidI (by have := g.size; first | omega | (simp at this; omega) | (simp at this ⊢; omega))
      have Z3 := hidI (And.intro HR.out (And.intro S1.out (And.intro S2.out S3.out)))
      have M3 := hidI ((Li.g (Li.al (Li.g M2.out (gr_set (World.grownBy.refl _ _) _ _) (fun b (hb : _ ≤ b) => by have := Z2.out; omega)) _) g (fun b (hb : _ ≤ b) => by have := Z2.out; omega)))
      have Q3 := hidI ((Li.g (Li.al (Li.g Q2.out (gr_set (World.grownBy.refl _ _) _ _) (fun b hb => by obtain ⟨h1,h2⟩ := hb; have := Z2.out; omega)) _) g (fun b hb => by obtain ⟨h1,h2⟩ := hb; have := Z2.out; omega)))
      clear g CC h ap aq ar af ag ah bp bq br bf bg bh pp pq pr pf pg ph
      obtain ⟨ap,aq,ar,af,ag,ah⟩ := facts A3.out
      obtain ⟨bp,bq,br,bf,bg,bh⟩ := facts B3.out
      obtain ⟨pp,pq,pr,pf,pg,ph⟩ := facts P3.out
      go_wp2_with fail
      have hP : choP F (s.size + 2) ex li t = .ok (.mk 3 0 nob false [] [] l bd [] 0 0 0 0) (t3) := by rw [choP,HRr.out]; rw [bindOk]; rw [if_pos HLs.out,← HI.out]; (first | rw [r2] | exact r2); try rw [bindOk]; (first | rw [r3] | exact r3); try rw [bindOk]
      refine bodyPost_ret (resBox rfl _ _ (w.heap.size + 1) _ rfl (ld94 (box13 B3.out))) rfl (Out.ok hP ?_ ?_ ?_)
      · exact ⟨⟨_,_,.slice a l.length c,.slice lx bd.length lc,_⟩,rfl,⟨Xs.nil _ _,Li.nil _ _⟩,Li.ms (Li.imp2 (Li.g M3.out (gr13 (World.grownBy.refl _ _)) (fun b (hb : _ ≤ b) => by have := Z3.out; omega)) (fun b _ (hb : _ ≤ b) => (by have := Z3.out; omega : w.heap.size ≤ b))),Li.ss (Li.imp2 (Li.g Q3.out (gr13 (World.grownBy.refl _ _)) (fun b hb => by obtain ⟨h1,h2⟩ := hb; have := Z3.out; omega)) (fun b _ hb => (by obtain ⟨h1,h2⟩ := hb; have := Z3.out; omega : w.heap.size ≤ b))),ss0 _ _⟩
      · exact C3.out.gq (gr13 (World.grownBy.refl _ _)) (by have := Z3.out; omega) (by have := Z3.out; omega)
      · exact gr13o G3.out (by have := Z3.out; omega)
    · have hl' : (last.toList == [101,108,115,101]) = false := by rw [eqS]; simpa using hl
      go_wp2_with fail
      have hP : choP F (s.size + 2) ex li t = .ok (.mk 3 0 nob false [] [] l [] [] 0 0 0 0) (tk) := by rw [choP,HRr.out]; rw [bindOk]; rw [if_neg hl]
      refine bodyPost_ret (resBox rfl _ _ (w.heap.size + 1) _ rfl (ld94 (box13 B1.out))) rfl (Out.ok hP ?_ ?_ ?_)
      · exact ⟨⟨_,_,.slice a l.length c,_,_⟩,rfl,⟨Xs.nil _ _,Li.nil _ _⟩,Li.ms (Li.imp2 (Li.g M1.out (gr13 (World.grownBy.refl _ _)) (fun b (hb : _ ≤ b) => by have := Z1.out; omega)) (fun b _ (hb : _ ≤ b) => (by have := Z1.out; omega : w.heap.size ≤ b))),ss0 _ _,ss0 _ _⟩
      · exact C1.out.gq (gr13 (World.grownBy.refl _ _)) (by have := Z1.out; omega) (by have := Z1.out; omega)
      · exact gr13o G1.out (by have := Z1.out; omega)
  have he' : (last.toList == [101,108,115,105,102]) = true := by rw [eqS]; simpa using he
  obtain ⟨hgk,hr⟩ := HM1.out he
  have HRr := hidI hr
  have HG := hidI hgk
  clear hr hgk he
  obtain ⟨ap,aq,ar,af,ag,ah⟩ := facts A1.out
  go_wp2_with fail
  refine (HE.out _ _ dp HD.out C1.out).mono ?_
  intro e w2 h
  rcases h.get with ⟨e1,t2,v2,r2,rfl,hv,CC,g⟩ | ⟨cc,aa,r2,rfl,g⟩
  rotate_left
  · exact ⟨rfl,Out.bad (by rw [choP,← HRr.out,HF.out,choL,← HX.out]; (first | (rw [r2]; done) | (rw [r2]; rfl) | exact r2)) (gtr G1.out g)⟩
  have L2 := hidI ((L1.out).g g (by have := Z1.out; omega))
  rcases e1 with ⟨f1,o1,kd1,n1,nm1,pt1,a1,ks1⟩
  obtain ⟨kx1,kc1,rfl,hx⟩ := Xe_sl hv
  have X2 := hidI (hx.tag wr.heap.size (by simp))
  clear hx hv
  have A2 : Hid (w2.heap[w.heap.size]? = some (.cells #[pR R] 46)) := keptBut g A1.out (by have := Z1.out; omega)
  have B2 : Hid (w2.heap[w.heap.size + 1]? = some (.cells #[.int .i64 0,.int .i64 0,.string ⟨#[]⟩,.bool false,.slice none 0 0,.slice none 0 0,.slice none 0 0,.slice none 0 0,.slice none 0 0,.int .i64 0,.int .i64 0,.int .i64 0,.int .i64 0] 94)) := keptBut g B1.out (by have := Z1.out; omega)
  have P2 : Hid (w2.heap[w.heap.size + 2]? = some (.cells #[.int .i64 3,.int .i64 0,.string ⟨#[]⟩,.bool false,.slice none 0 0,.slice none 0 0,.slice a l.length c,.slice none 0 0,.slice none 0 0,.int .i64 0,.int .i64 0,.int .i64 0,.int .i64 0] 94)) := keptBut g P1.out (by have := Z1.out; omega)
  have G2 := hidI (gtr G1.out g)
  have C2 := hidI CC
  have S2 : Hid (wr.heap.size + 0 ≤ w2.heap.size) := hidI (by have := g.size; first | omega | (simp at this; omega) | (simp at this ⊢; omega))
  have Z4 := hidI (And.intro HR.out (And.intro S1.out S2.out))
  clear g CC h ap aq ar af ag ah
  have T2 : Hid (tk.a + 1 ≤ t2.a) := (HAdv.out _ _ _ C1.out.ok r2).2
  have HO := hidI L1.out.lt
  obtain ⟨ap,aq,ar,af,ag,ah⟩ := facts A2.out
  go_wp2_with fail
  refine (needW (C2.out.al _) _ [⟨#[116,104,101,110]⟩] _ _ _ (by simp) rfl rfl (by decide)).mono ?_
  intro e w3 h
  rcases h.get with ⟨_,t3,v3,r3,rfl,rfl,CC,g⟩ | ⟨cc,aa,r3,rfl,g⟩
  rotate_left
  · exact ⟨rfl,Out.bad (by rw [choP,← HRr.out,HF.out,choL,← HX.out]; (first | rw [r2] | exact r2); try rw [bindOk]; (first | (rw [r3]; done) | (rw [r3]; rfl) | exact r3)) (gtr (gr_alloc (gr_alloc G2.out _) _) g)⟩
  have L3 := hidI (((L2.out.gn (gr1 _ _)).gn (gr1 _ _)).g g (by have := Z4.out; omega))
  have A3 : Hid (w3.heap[w.heap.size]? = some (.cells #[pR R] 46)) := keptBut g (old (old A2.out _) _) (by have := Z4.out; omega)
  have B3 : Hid (w3.heap[w.heap.size + 1]? = some (.cells #[.int .i64 0,.int .i64 0,.string ⟨#[]⟩,.bool false,.slice none 0 0,.slice none 0 0,.slice none 0 0,.slice none 0 0,.slice none 0 0,.int .i64 0,.int .i64 0,.int .i64 0,.int .i64 0] 94)) := keptBut g (old (old B2.out _) _) (by have := Z4.out; omega)
  have P3 : Hid (w3.heap[w.heap.size + 2]? = some (.cells #[.int .i64 3,.int .i64 0,.string ⟨#[]⟩,.bool false,.slice none 0 0,.slice none 0 0,.slice a l.length c,.slice none 0 0,.slice none 0 0,.int .i64 0,.int .i64 0,.int .i64 0,.int .i64 0] 94)) := keptBut g (old (old P2.out _) _) (by have := Z4.out; omega)
  have E3 : Hid (w3.heap[w2.heap.size]? = some (.cells #[.int .i64 f1,.int .i64 o1,.int .i64 kd1,.int .i64 n1,.string nm1,.string pt1,.int .i64 a1,.slice kx1 ks1.length kc1] 61)) := keptBut g (old (hp_new (by first | rfl | simp) _) _) (by have := Z4.out; omega)
  have G3 := hidI (gtr (gr_alloc (gr_alloc G2.out _) _) g)
  have C3 := hidI CC
  have S3 : Hid (w2.heap.size + 2 ≤ w3.heap.size) := hidI (by have := g.size; first | omega | (simp at this; omega) | (simp at this ⊢; omega))
  have X3 := hidI ((Xs.g (Xs.al (Xs.al X2.out _) _) g (fun b hb => by obtain ⟨h1,h2⟩ := hb; have := Z4.out; omega)))
  clear g CC h ap aq ar af ag ah
  have T3 : Hid (t2.a + 1 ≤ t3.a) := (need_adv C2.out.G _ _ _ _ C2.out.ok r3).2
  obtain ⟨ap,aq,ar,af,ag,ah⟩ := facts A3.out
  go_wp2_with fail
  have C4 := hidI C3.out.drew
  have G4 := hidI (gr_drew G3.out)
  have S4 : Hid (w3.heap.size ≤ w3.drew.heap.size) := Nat.le_refl _
  have Z5 := hidI (And.intro HR.out (And.intro S1.out (And.intro S2.out (And.intro S3.out S4.out))))
  have A4 : Hid (w3.drew.heap[w.heap.size]? = some (.cells #[pR R] 46)) := A3.out
  have B4 : Hid (w3.drew.heap[w.heap.size + 1]? = some (.cells #[.int .i64 0,.int .i64 0,.string ⟨#[]⟩,.bool false,.slice none 0 0,.slice none 0 0,.slice none 0 0,.slice none 0 0,.slice none 0 0,.int .i64 0,.int .i64 0,.int .i64 0,.int .i64 0] 94)) := B3.out
  have P4 : Hid (w3.drew.heap[w.heap.size + 2]? = some (.cells #[.int .i64 3,.int .i64 0,.string ⟨#[]⟩,.bool false,.slice none 0 0,.slice none 0 0,.slice a l.length c,.slice none 0 0,.slice none 0 0,.int .i64 0,.int .i64 0,.int .i64 0,.int .i64 0] 94)) := P3.out
  have E4 : Hid (w3.drew.heap[w2.heap.size]? = some (.cells #[.int .i64 f1,.int .i64 o1,.int .i64 kd1,.int .i64 n1,.string nm1,.string pt1,.int .i64 a1,.slice kx1 ks1.length kc1] 61)) := E3.out
  have X4 := hidI (X3.out.gn (w0 := w) (gr_drew (World.grownBy.refl w3 none)))
  have L4 := hidI (L3.out.gn (gr_drew (World.grownBy.refl w3 none)))
  clear ap aq ar af ag ah
  have hHeld : (fun w' : World => w'.cell? ⟨w.heap.size,0,none⟩ = some (pR R) ∧ w'.cell? ⟨w.heap.size + 2,6,none⟩ = some (.slice a l.length c) ∧ w'.cell? ⟨w2.heap.size,0,none⟩ = some (.int .i64 f1) ∧ w'.cell? ⟨w2.heap.size,1,none⟩ = some (.int .i64 o1) ∧ w'.cell? ⟨w2.heap.size,2,none⟩ = some (.int .i64 kd1) ∧ w'.cell? ⟨w2.heap.size,3,none⟩ = some (.int .i64 n1) ∧ w'.cell? ⟨w2.heap.size,4,none⟩ = some (.string nm1) ∧ w'.cell? ⟨w2.heap.size,5,none⟩ = some (.string pt1) ∧ w'.cell? ⟨w2.heap.size,6,none⟩ = some (.int .i64 a1) ∧ w'.cell? ⟨w2.heap.size,7,none⟩ = some (.slice kx1 ks1.length kc1)) w3.drew := ⟨by simpa using at_cell (A4.out) 0,by simpa using at_cell (P4.out) 6,by simpa using at_cell (E4.out) 0,by simpa using at_cell (E4.out) 1,by simpa using at_cell (E4.out) 2,by simpa using at_cell (E4.out) 3,by simpa using at_cell (E4.out) 4,by simpa using at_cell (E4.out) 5,by simpa using at_cell (E4.out) 6,by simpa using at_cell (E4.out) 7⟩
  refine wp_region_L (L := 10) (S := (fun w' : World => w'.cell? ⟨w.heap.size,0,none⟩ = some (pR R) ∧ w'.cell? ⟨w.heap.size + 2,6,none⟩ = some (.slice a l.length c) ∧ w'.cell? ⟨w2.heap.size,0,none⟩ = some (.int .i64 f1) ∧ w'.cell? ⟨w2.heap.size,1,none⟩ = some (.int .i64 o1) ∧ w'.cell? ⟨w2.heap.size,2,none⟩ = some (.int .i64 kd1) ∧ w'.cell? ⟨w2.heap.size,3,none⟩ = some (.int .i64 n1) ∧ w'.cell? ⟨w2.heap.size,4,none⟩ = some (.string nm1) ∧ w'.cell? ⟨w2.heap.size,5,none⟩ = some (.string pt1) ∧ w'.cell? ⟨w2.heap.size,6,none⟩ = some (.int .i64 a1) ∧ w'.cell? ⟨w2.heap.size,7,none⟩ = some (.slice kx1 ks1.length kc1))) (by kernel_rfl) ?_
  refine wpAnyL_take (i := 0) (v := ?_) rfl (by kernel_rfl) (by kernel_rfl) (by kernel_rfl) (fun _ _ _ h => h) (by kernel_rfl) (by kernel_rfl) (Or.inl ⟨by rfl,?_⟩) hHeld ?_
  rotate_left
  · intro w hSw
    try dsimp only at hSw
    go_simp
    try with_reducible rfl
  try simp only [Act.put,List.setIfInBounds_toArray,List.set_cons_zero,List.set_cons_succ]
  refine wpAnyL_take (i := 1) (v := ?_) rfl (by kernel_rfl) (by kernel_rfl) (by kernel_rfl) (fun _ _ _ h => h) (by kernel_rfl) (by kernel_rfl) (Or.inl ⟨by rfl,?_⟩) hHeld ?_
  rotate_left
  · intro w hSw
    try dsimp only at hSw
    go_simp
    try with_reducible rfl
  try simp only [Act.put,List.setIfInBounds_toArray,List.set_cons_zero,List.set_cons_succ]
  refine wpAnyL_take (i := 2) (v := ?_) rfl (by kernel_rfl) (by kernel_rfl) (by kernel_rfl) (fun _ _ _ h => h) (by kernel_rfl) (by kernel_rfl) (Or.inl ⟨by rfl,?_⟩) hHeld ?_
  rotate_left
  · intro w hSw
    try dsimp only at hSw
    go_simp
    try with_reducible rfl
  try simp only [Act.put,List.setIfInBounds_toArray,List.set_cons_zero,List.set_cons_succ]
  refine wpAnyL_take (i := 3) (v := ?_) rfl (by kernel_rfl) (by kernel_rfl) (by kernel_rfl) (fun _ _ _ h => h) (by kernel_rfl) (by kernel_rfl) (Or.inl ⟨by rfl,?_⟩) hHeld ?_
  rotate_left
  · intro w hSw
    try dsimp only at hSw
    go_simp
    try with_reducible rfl
  try simp only [Act.put,List.setIfInBounds_toArray,List.set_cons_zero,List.set_cons_succ]
  refine wpAnyL_take (i := 4) (v := ?_) rfl (by kernel_rfl) (by kernel_rfl) (by kernel_rfl) (fun _ _ _ h => h) (by kernel_rfl) (by kernel_rfl) (Or.inl ⟨by rfl,?_⟩) hHeld ?_
  rotate_left
  · intro w hSw
    try dsimp only at hSw
    go_simp
    try with_reducible rfl
  try simp only [Act.put,List.setIfInBounds_toArray,List.set_cons_zero,List.set_cons_succ]
  refine wpAnyL_one (j := 5) (by kernel_rfl) rfl (fun K hK => ?_)
  go_simp
  refine (HL.out _ _ dp HD.out C4.out).mono ?_
  intro e w5 h
  rcases h.get with ⟨bd,t5,v5,r5,rfl,hv,CC,g⟩ | ⟨cc,aa,r5,rfl,g⟩
  rotate_left
  · exact ⟨rfl,Out.bad (by rw [choP,← HRr.out,HF.out,choL,← HX.out]; (first | rw [r2] | exact r2); try rw [bindOk]; (first | rw [r3] | exact r3); try rw [bindOk]; rw [← HI.out]; (first | (rw [r5]; done) | (rw [r5]; rfl) | exact r5)) (gtr G4.out g)⟩
  have L5 := hidI (L4.out.g g (by have := Z5.out; omega))
  obtain ⟨lx,lc,rfl⟩ := hv.sl
  have Q5 := hidI (hv.tag w3.heap.size (by simp))
  clear hv
  have A5 : Hid (w5.heap[w.heap.size]? = some (.cells #[pR R] 46)) := keptBut g A4.out (by have := Z5.out; omega)
  have B5 : Hid (w5.heap[w.heap.size + 1]? = some (.cells #[.int .i64 0,.int .i64 0,.string ⟨#[]⟩,.bool false,.slice none 0 0,.slice none 0 0,.slice none 0 0,.slice none 0 0,.slice none 0 0,.int .i64 0,.int .i64 0,.int .i64 0,.int .i64 0] 94)) := keptBut g B4.out (by have := Z5.out; omega)
  have P5 : Hid (w5.heap[w.heap.size + 2]? = some (.cells #[.int .i64 3,.int .i64 0,.string ⟨#[]⟩,.bool false,.slice none 0 0,.slice none 0 0,.slice a l.length c,.slice none 0 0,.slice none 0 0,.int .i64 0,.int .i64 0,.int .i64 0,.int .i64 0] 94)) := keptBut g P4.out (by have := Z5.out; omega)
  have E5 : Hid (w5.heap[w2.heap.size]? = some (.cells #[.int .i64 f1,.int .i64 o1,.int .i64 kd1,.int .i64 n1,.string nm1,.string pt1,.int .i64 a1,.slice kx1 ks1.length kc1] 61)) := keptBut g E4.out (by have := Z5.out; omega)
  have G5 := hidI (gtr G4.out g)
  have C5 := hidI CC
  have S5 : Hid (w3.drew.heap.size + 0 ≤ w5.heap.size) := hidI (by have := g.size; first | omega | (simp at this; omega) | (simp at this ⊢; omega))
  have Z6 := hidI (And.intro HR.out (And.intro S1.out (And.intro S2.out (And.intro S3.out (And.intro S4.out S5.out)))))
  have X5 := hidI ((Xs.g X4.out g (fun b hb => by obtain ⟨h1,h2⟩ := hb; have := Z5.out; omega)))
  clear g CC h
  have T5 : Hid (t3.a + 0 ≤ t5.a) := (HLad.out _ _ _ C3.out.ok r5).2
  have hHeld5 : (fun w' : World => w'.cell? ⟨w.heap.size,0,none⟩ = some (pR R) ∧ w'.cell? ⟨w.heap.size + 2,6,none⟩ = some (.slice a l.length c) ∧ w'.cell? ⟨w2.heap.size,0,none⟩ = some (.int .i64 f1) ∧ w'.cell? ⟨w2.heap.size,1,none⟩ = some (.int .i64 o1) ∧ w'.cell? ⟨w2.heap.size,2,none⟩ = some (.int .i64 kd1) ∧ w'.cell? ⟨w2.heap.size,3,none⟩ = some (.int .i64 n1) ∧ w'.cell? ⟨w2.heap.size,4,none⟩ = some (.string nm1) ∧ w'.cell? ⟨w2.heap.size,5,none⟩ = some (.string pt1) ∧ w'.cell? ⟨w2.heap.size,6,none⟩ = some (.int .i64 a1) ∧ w'.cell? ⟨w2.heap.size,7,none⟩ = some (.slice kx1 ks1.length kc1)) w5 := ⟨by simpa using at_cell (A5.out) 0,by simpa using at_cell (P5.out) 6,by simpa using at_cell (E5.out) 0,by simpa using at_cell (E5.out) 1,by simpa using at_cell (E5.out) 2,by simpa using at_cell (E5.out) 3,by simpa using at_cell (E5.out) 4,by simpa using at_cell (E5.out) 5,by simpa using at_cell (E5.out) 6,by simpa using at_cell (E5.out) 7⟩
  have hHeldA : ∀ ob,(fun w' : World => w'.cell? ⟨w.heap.size,0,none⟩ = some (pR R) ∧ w'.cell? ⟨w.heap.size + 2,6,none⟩ = some (.slice a l.length c) ∧ w'.cell? ⟨w2.heap.size,0,none⟩ = some (.int .i64 f1) ∧ w'.cell? ⟨w2.heap.size,1,none⟩ = some (.int .i64 o1) ∧ w'.cell? ⟨w2.heap.size,2,none⟩ = some (.int .i64 kd1) ∧ w'.cell? ⟨w2.heap.size,3,none⟩ = some (.int .i64 n1) ∧ w'.cell? ⟨w2.heap.size,4,none⟩ = some (.string nm1) ∧ w'.cell? ⟨w2.heap.size,5,none⟩ = some (.string pt1) ∧ w'.cell? ⟨w2.heap.size,6,none⟩ = some (.int .i64 a1) ∧ w'.cell? ⟨w2.heap.size,7,none⟩ = some (.slice kx1 ks1.length kc1)) (w5.alloc ob) := fun ob => ⟨by simpa using at_cell (old (A5.out) ob) 0,by simpa using at_cell (old (P5.out) ob) 6,by simpa using at_cell (old (E5.out) ob) 0,by simpa using at_cell (old (E5.out) ob) 1,by simpa using at_cell (old (E5.out) ob) 2,by simpa using at_cell (old (E5.out) ob) 3,by simpa using at_cell (old (E5.out) ob) 4,by simpa using at_cell (old (E5.out) ob) 5,by simpa using at_cell (old (E5.out) ob) 6,by simpa using at_cell (old (E5.out) ob) 7⟩
  go_wp2_with fail
  refine hK.out _ _ (fun _ _ => hHeld5) ?_
  clear hK K
  try simp only [Act.put,List.setIfInBounds_toArray,List.set_cons_zero,List.set_cons_succ]
  refine wpAnyL_free (i := 6) (v := ?_) rfl (by kernel_rfl) (by kernel_rfl) (by kernel_rfl) (fun _ _ _ h => h) (by decide) (Or.inl ⟨by rfl,?_⟩) (fun _ => hHeld5) ?_
  rotate_left
  · intro w hSw
    go_simp
    try with_reducible rfl
  try simp only [Act.put,List.setIfInBounds_toArray,List.set_cons_zero,List.set_cons_succ]
  refine wpAnyL_one (j := 7) (by kernel_rfl) rfl (fun K hK => ?_)
  go_simp
  refine hK.out _ _ (fun _ _ => hHeldA _) ?_
  clear hK K
  try simp only [Act.put,List.setIfInBounds_toArray,List.set_cons_zero,List.set_cons_succ]
  obtain ⟨a2,c2,w6,hrun,L6,g6⟩ := L5.out.add el92 (e := .mk (.mk f1 o1 kd1 n1 nm1 pt1 a1 ks1) [] bd) (k := (.slice kx1 ks1.length kc1,.slice none 0 0,.slice lx bd.length lc)) (lo := wr.heap.size) (hi := w5.heap.size) ⟨⟨X5.out.imp (fun b hb h => ⟨h.1,hb⟩),Li.nil _ _⟩,(Li.ss (Q5.out.imp (fun b hb h => ⟨by have := h.1; have := S2.out; have := S3.out; omega,hb⟩)))⟩ rfl (by intro y hy; simp [kdM,mC,xC,PArm.e] at hy; rcases hy with rfl | rfl | rfl | rfl | rfl | rfl | rfl | rfl | rfl | rfl <;> rfl) (by have := Z6.out; omega) (fun g hg => (HO.out g hg).2) (by have := HLn.out; omega) (by have := Z6.out; omega)
  have ho := L5.out.lt
  have HRUN : Hid ((Builtin.append_ #[92,92] 92 #[.slice a l.length c,.slice (some ⟨w5.heap.size,0,none⟩) 1 1]).run Tryz.prog (w5.alloc (.cells #[.int .i64 f1,.int .i64 o1,.int .i64 kd1,.int .i64 n1,.string nm1,.string pt1,.int .i64 a1,.slice kx1 ks1.length kc1,.slice none 0 0,.slice lx bd.length lc] 100)) = .ok (.slice a2 (l.length + 1) c2) w6) := hrun
  have C6 := hidI ((C5.out.al _).ga g6 (fun q hq => by have := ho q hq; have := HR.out; constructor <;> omega))
  have G6 := hidI (grown_join (gr_alloc G5.out _) g6 (Or.inr (fun q hq => by have := ho q hq; omega)))
  have A6 := hidI (keptRow g6 (old A5.out _) (fun e => by have := ho _ e; omega))
  have B6 := hidI (keptRow g6 (old B5.out _) (fun e => by have := ho _ e; omega))
  have P6 := hidI (keptRow g6 (old P5.out _) (fun e => by have := ho _ e; omega))
  have E6 := hidI (keptRow g6 (old E5.out _) (fun e => by have := ho _ e; have := HO.out _ e; have := S2.out; omega))
  have S6 : Hid (w5.heap.size + 1 ≤ w6.heap.size) := by have := g6.size; simp at this; exact this
  have Z7 := hidI (And.intro HR.out (And.intro S1.out (And.intro S2.out (And.intro S3.out (And.intro S4.out (And.intro S5.out S6.out))))))
  have hHeld6 : (fun w' : World => w'.cell? ⟨w.heap.size,0,none⟩ = some (pR R) ∧ w'.cell? ⟨w.heap.size + 2,6,none⟩ = some (.slice a l.length c) ∧ w'.cell? ⟨w2.heap.size,0,none⟩ = some (.int .i64 f1) ∧ w'.cell? ⟨w2.heap.size,1,none⟩ = some (.int .i64 o1) ∧ w'.cell? ⟨w2.heap.size,2,none⟩ = some (.int .i64 kd1) ∧ w'.cell? ⟨w2.heap.size,3,none⟩ = some (.int .i64 n1) ∧ w'.cell? ⟨w2.heap.size,4,none⟩ = some (.string nm1) ∧ w'.cell? ⟨w2.heap.size,5,none⟩ = some (.string pt1) ∧ w'.cell? ⟨w2.heap.size,6,none⟩ = some (.int .i64 a1) ∧ w'.cell? ⟨w2.heap.size,7,none⟩ = some (.slice kx1 ks1.length kc1)) w6 := ⟨by simpa using at_cell (A6.out) 0,by simpa using at_cell (P6.out) 6,by simpa using at_cell (E6.out) 0,by simpa using at_cell (E6.out) 1,by simpa using at_cell (E6.out) 2,by simpa using at_cell (E6.out) 3,by simpa using at_cell (E6.out) 4,by simpa using at_cell (E6.out) 5,by simpa using at_cell (E6.out) 6,by simpa using at_cell (E6.out) 7⟩
  have LL := hidI L6
  clear hrun L6 g6 ho
  refine wpAnyL_one (j := 8) (by kernel_rfl) rfl (fun K hK => ?_)
  refine step_append_run rfl _ _ 92 rfl _ _ _ w6 rfl rfl HRUN.out ?_
  refine hK.out _ _ (fun _ _ => hHeld6) ?_
  clear hK K
  try simp only [Act.put,List.setIfInBounds_toArray,List.set_cons_zero,List.set_cons_succ]
  refine wpAnyL_free (i := 9) (v := ?_) rfl (by kernel_rfl) (by kernel_rfl) (by kernel_rfl) (fun _ _ _ h => h) (by decide) (Or.inl ⟨by rfl,?_⟩) (fun _ => hHeld6) ?_
  rotate_left
  · intro w hSw
    go_simp
    try with_reducible rfl
  try simp only [Act.put,List.setIfInBounds_toArray,List.set_cons_zero,List.set_cons_succ]
  refine wpAnyL_one (j := 10) (by kernel_rfl) rfl (fun K hK => ?_)
  obtain ⟨sp,sq,sr,sf,sg,sh⟩ := facts P6.out
  go_simp
  refine hK.out _ _ (fun h => absurd rfl h) ?_
  clear hK K
  try simp only [Act.put,List.setIfInBounds_toArray,List.set_cons_zero,List.set_cons_succ]
  refine wpAnyL_done (by kernel_rfl) ?_ _
  obtain ⟨ap,aq,ar,af,ag,ah⟩ := facts A6.out
  obtain ⟨bp,bq,br,bf,bg,bh⟩ := facts B6.out
  obtain ⟨pp,pq,pr,pf,pg,ph⟩ := facts P6.out
  have nAP : w.heap.size ≠ w.heap.size + 2 := by have := Z7.out; omega
  have nPA : w.heap.size + 2 ≠ w.heap.size := by have := Z7.out; omega
  go_wp2_with fail
  refine (needW (C6.out.set (by have := Z7.out; omega) (by have := Z7.out; omega) _ _) _ [⟨#[101,108,115,105,102]⟩,⟨#[101,108,115,101]⟩,⟨#[101,110,100,95,105,102]⟩] _ _ _ (by simp) rfl rfl (by decide)).mono ?_
  intro e w7 h
  rcases h.get with ⟨k,t7,v7,r7,rfl,rfl,CC,g⟩ | ⟨cc,aa,r7,rfl,g⟩
  rotate_left
  · exact ⟨rfl,Out.bad (by rw [choP,← HRr.out,HF.out,choL,← HX.out]; (first | rw [r2] | exact r2); try rw [bindOk]; (first | rw [r3] | exact r3); try rw [bindOk]; rw [← HI.out]; (first | rw [r5] | exact r5); try rw [bindOk]; (first | (rw [r7]; done) | (rw [r7]; rfl) | exact r7)) (gtr (gr_alloc (gr_ow2 G6.out (by have := Z7.out; omega) _ _) _) g)⟩
  have L7 := hidI (((LL.out.g (gr_set (World.grownBy.refl _ _) _ _) (by have := Z7.out; omega)).gn (gr1 _ _)).g g (by have := Z7.out; omega))
  have A7 : Hid (w7.heap[w.heap.size]? = some (.cells #[pR R] 46)) := keptBut g (old (keepS A6.out (by have := Z7.out; omega)) _) (by have := Z7.out; omega)
  have B7 : Hid (w7.heap[w.heap.size + 1]? = some (.cells #[.int .i64 0,.int .i64 0,.string ⟨#[]⟩,.bool false,.slice none 0 0,.slice none 0 0,.slice none 0 0,.slice none 0 0,.slice none 0 0,.int .i64 0,.int .i64 0,.int .i64 0,.int .i64 0] 94)) := keptBut g (old (keepS B6.out (by have := Z7.out; omega)) _) (by have := Z7.out; omega)
  have P7 : Hid (w7.heap[w.heap.size + 2]? = some (.cells #[.int .i64 3,.int .i64 0,.string ⟨#[]⟩,.bool false,.slice none 0 0,.slice none 0 0,.slice a2 (l.length + 1) c2,.slice none 0 0,.slice none 0 0,.int .i64 0,.int .i64 0,.int .i64 0,.int .i64 0] 94)) := keptBut g (by simpa using (old (at_set P6.out 6 (.slice a2 (l.length + 1) c2)) _)) (by have := Z7.out; omega)
  have G7 := hidI (gtr (gr_alloc (gr_ow2 G6.out (by have := Z7.out; omega) _ _) _) g)
  have C7 := hidI CC
  have S7 : Hid (w6.heap.size + 1 ≤ w7.heap.size) := hidI (by have := g.size; first | omega | (simp at this; omega) | (simp at this ⊢; omega))
  have Z8 := hidI (And.intro HR.out (And.intro S1.out (And.intro S2.out (And.intro S3.out (And.intro S4.out (And.intro S5.out (And.intro S6.out S7.out)))))))
  clear g CC h ap aq ar af ag ah bp bq br bf bg bh pp pq pr pf pg ph
  have T7 : Hid (t5.a + 1 ≤ t7.a) := (need_adv C5.out.G _ _ _ _ C5.out.ok r7).2
  have hX := fldX k
  go_wp2_with fail
  have hgl := HG.out
  have hkk := HK.out
  have q2 := T2.out
  have q3 := T3.out
  have q5 := T5.out
  have q7 := T7.out
  have qs := HF.out
  by_cases hk : k.x = ⟨#[101,108,115,105,102]⟩
  · go_roundg (s.size + 3 - (l.length + 1))
    case measure => omega
    case rel =>
     refine ⟨l ++ [.mk (.mk f1 o1 kd1 n1 nm1 pt1 a1 ks1) [] bd],a2,c2,t7,k.x,rfl,C7.out,G7.out,A7.out,B7.out,(by simpa using P7.out),L7.out,by have := Z8.out; omega,by simp; omega,fun _ => ⟨by simp,?_⟩,(fun h => absurd hk h)⟩
     rw [show s.size + 2 - (l ++ [(.mk (.mk f1 o1 kd1 n1 nm1 pt1 a1 ks1) [] bd : PArm)]).length = s.size + 1 - l.length by simp]
     symm; rw [← HRr.out,HF.out,choL,← HX.out]; (first | rw [r2] | exact r2); try rw [bindOk]; (first | rw [r3] | exact r3); try rw [bindOk]; rw [← HI.out]; (first | rw [r5] | exact r5); try rw [bindOk]; (first | rw [r7] | exact r7); try rw [bindOk]; rw [if_pos hk,HX.out,HI.out]
  · go_roundg 0
    case measure => omega
    case rel =>
     refine ⟨l ++ [.mk (.mk f1 o1 kd1 n1 nm1 pt1 a1 ks1) [] bd],a2,c2,t7,k.x,rfl,C7.out,G7.out,A7.out,B7.out,(by simpa using P7.out),L7.out,by have := Z8.out; omega,by simp; omega,(fun h => absurd h hk),fun _ => ⟨rfl,?_⟩⟩
     rw [← HRr.out,HF.out,choL,← HX.out]; (first | rw [r2] | exact r2); try rw [bindOk]; (first | rw [r3] | exact r3); try rw [bindOk]; rw [← HI.out]; (first | rw [r5] | exact r5); try rw [bindOk]; (first | rw [r7] | exact r7); try rw [bindOk]; rw [if_neg hk]
end
end Go.Proofs.YtdcoidmbainkmaaGreatDoor
