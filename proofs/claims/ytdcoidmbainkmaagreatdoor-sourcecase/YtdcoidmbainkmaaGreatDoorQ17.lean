/- Texts put together: Rm, Wa. -/
import Derived.Test.YtdcoidmbainkmaaGreatDoorQ16
namespace Go.Proofs.YtdcoidmbainkmaaGreatDoor
open Go.RowKit
attribute [local go_sem ↓] Go.wp_at_zero Go.wp_at_succ
set_option linter.unusedVariables false
set_option linter.unusedSimpArgs false
section
variable {V : World} {F : Int → Tok} {R : Nat} {s : ByteArray} {u : Int}
def LiL (V : World) (F : Int → Tok) (R : Nat) (s : ByteArray) (u : Int) (w : World) (st : Tok → Res PS) (r0 : Res (List PS)) (gk : Nat) (s5 : Value) (wx : World) : Prop :=
 ∃ (l : List PS) (a : Option Addr) (c : Nat) (tk : Tok),s5 = .slice a l.length c ∧ Cx V F R s u wx tk ∧ w.grownBy wx (some R) ∧ wx.heap[w.heap.size]? = some (.cells #[pR R] 46) ∧
  Gl kdS 94 13 wx (w.heap.size + 1) (.slice a l.length c) l ∧ w.heap.size + 1 ≤ wx.heap.size ∧ (l.length : Int) ≤ tk.a ∧ gk = s.size + 3 - l.length ∧ lisL st (s.size + 2 - l.length) l tk = r0
set_option maxRecDepth 10000 in
set_option maxHeartbeats 4000000 in
theorem list_loop (hS60 : s.size ≤ 60000) (st : Tok → Res PS) (hadv : Adv s.size 1 st) (dp : Int) (b2 : dp ≤ 40) (b1 : 1 ≤ dp) (hst : ∀ (w : World) (t : Tok),Cx V F R s u w t → Calls Tryz.prog 71 #[rV R,.int .i64 dp] w (Out V F R s u w (st t) (StP w))) (w : World) (t : Tok) (C : Cx V F R s u w t) :
 Calls Tryz.prog 47 #[rV R,.int .i64 dp] w (Out V F R s u w (lisL st (s.size + 2) [] t) (fun w' v l => Li kdS 94 w' (nw w) v l)) := by
 have H60 := hidI hS60
 have HAdv := hidI hadv
 have HST := hidI hst
 clear hS60 hadv hst
 have HC : Hid (Cx V F R s u w t) := C
 have C0 := HC
 have G0 : Hid (w.grownBy w (some R)) := World.grownBy.refl _ _
 have HR : Hid (R < w.heap.size ∧ 15 ≤ w.heap.size ∧ 15 ≤ R) := ⟨C.lt,C.sz,C.r15⟩
 clear C
 go_enter Tryz.func47,Tryz.ntmps47
 have LS : Hid (LiL V F R s u w st (lisL st (s.size + 2) [] t) (s.size + 3) (.slice none 0 0) (w.alloc (.cells #[pR R] 46))) :=
  ⟨[],none,0,t,rfl,HC.out.al _,gr_alloc (World.grownBy.refl _ _) _,new _ _,Gl.nil _ _,by simp,by have := HC.out.ok.1; simpa using this,rfl,rfl⟩
 go_wp2_with fail
 go_loopg [5] (s.size + 3) (fun gk s5 wx => LiL V F R s u w st (lisL st (s.size + 2) [] t) gk s5 wx)
 case atStart => exact LS.out
 case round =>
  obtain ⟨l,a,c,tk,rfl,CC,gg,hA,hX,hq,hk,hgk,hr⟩ := hrel
  have C1 := hidI CC
  have G1 := hidI gg
  have A1 := hidI hA
  have L1 := hidI hX
  have S1 := hidI hq
  have HRr := hidI hr
  have HG := hidI hgk
  have HK := hidI hk
  have HLn : Hid (l.length ≤ 60000) := by have := CC.ok.2.1; have := H60.out; show l.length ≤ 60000; omega
  have hf : s.size + 2 - l.length = (s.size + 1 - l.length) + 1 := by have := CC.ok.2.1; omega
  have HF := hidI hf
  clear CC gg hA hX hq hr hgk hk hf
  obtain ⟨ap,aq,ar,af,ag,ah⟩ := facts A1.out
  by_cases h0 : tk.c = 0
  · go_wp2_with fail
    refine (begS_bad C1.out h0).mono ?_
    rintro e w4 ⟨rfl,g0⟩
    exact ⟨rfl,Out.bad (by rw [← HRr.out,HF.out,lisL]; rw [if_pos h0]) (gtr G1.out (gr_none (p := R) g0))⟩
  go_wp2_with fail
  refine (begS_look C1.out h0).mono ?_
  rintro e w2 ⟨rfl,g0⟩
  have CC := C1.out.gn g0
  have g := gr_none (p := R) g0
  have L2 := hidI (L1.out.gn g0)
  have A2 : Hid (w2.heap[w.heap.size]? = some (.cells #[pR R] 46)) := keptBut g A1.out (by have := HR.out; have := S1.out; omega)
  have G2 := hidI (gtr G1.out g)
  have C2 := hidI CC
  have S2 : Hid (wr.heap.size + 0 ≤ w2.heap.size) := hidI (by have := g.size; first | omega | (simp at this; omega) | (simp at this ⊢; omega))
  clear g CC g0 ap aq ar af ag ah
  have H0 := hidI h0
  clear h0
  cases hb : begS tk with
  | false =>
   have HB := hidI hb
   clear hb
   go_wp2_with fail
   go_ret
   exact Out.ok (by rw [← HRr.out,HF.out,lisL]; rw [if_neg H0.out]; rw [if_neg (by rw [HB.out]; decide)]) ((L2.out.li (by have := HLn.out; omega)).imp (fun b _ (hb : w.heap.size + 1 ≤ b) => (by omega : w.heap.size ≤ b))) C2.out G2.out
  | true =>
   have HB := hidI hb
   clear hb
   obtain ⟨ap,aq,ar,af,ag,ah⟩ := facts A2.out
   go_wp2_with fail
   refine (HST.out _ _ C2.out).mono ?_
   intro e w3 h
   rcases h.get with ⟨p1,t3,v3,r3,rfl,⟨q1,rfl,hv⟩,CC,g⟩ | ⟨cc,aa,r3,rfl,g⟩
   rotate_left
   · exact ⟨rfl,Out.bad (by rw [← HRr.out,HF.out,lisL]; rw [if_neg H0.out]; rw [if_pos HB.out]; (first | (rw [r3]; done) | (rw [r3]; rfl) | exact r3)) (gtr G2.out g)⟩
   have L3 := hidI (L2.out.g g (by have := HR.out; have := S1.out; have := S2.out; omega))
   have T3 : Hid (tk.a + 1 ≤ t3.a) := (HAdv.out _ _ _ C2.out.ok r3).2
   have A3 : Hid (w3.heap[w.heap.size]? = some (.cells #[pR R] 46)) := keptBut g A2.out (by have := HR.out; have := S1.out; have := S2.out; omega)
   have G3 := hidI (gtr G2.out g)
   have C3 := hidI CC
   have S3 : Hid (w2.heap.size + 0 ≤ w3.heap.size) := hidI (by have := g.size; first | omega | (simp at this; omega) | (simp at this ⊢; omega))
   clear g CC h ap aq ar af ag ah
   have HO := hidI L2.out.lt
   rcases p1 with ⟨v1,a1,n1,i1,es1,as1,ms1,el1,bo1,lo1,hi1,by1,ti1⟩
   obtain ⟨xa1,xc1,xa2,xc2,xa3,xc3,xa4,xc4,xa5,xc5,rfl⟩ := sS_sl hv
   have V3 := hidI hv
   clear hv
   simp only [sC,PS.es,PS.args,PS.arms,PS.els,PS.body]
   obtain ⟨a2,c2,w4,hrun,L4,g4⟩ := L3.out.add el31 (e := (.mk v1 a1 n1 i1 es1 as1 ms1 el1 bo1 lo1 hi1 by1 ti1 : PS)) (k := ⟨.slice xa1 es1.length xc1,.slice xa2 as1.length xc2,.slice xa3 ms1.length xc3,.slice xa4 el1.length xc4,.slice xa5 bo1.length xc5⟩) (lo := w2.heap.size) (hi := w3.heap.size) (kdS.imp V3.out (fun b hb h => ⟨h,hb⟩)) rfl (by intro y hy; simp [kdS,sC] at hy; rcases hy with rfl | rfl | rfl | rfl | rfl | rfl | rfl | rfl | rfl | rfl | rfl | rfl | rfl <;> rfl) (by have := HR.out; have := S1.out; have := S2.out; have := S3.out; omega) (fun g hg => (HO.out g hg).2) (by have := HLn.out; omega) (by have := HR.out; have := S1.out; have := S2.out; have := S3.out; omega)
   have ho := L3.out.lt
   have HRUN : Hid ((Builtin.append_ #[31,31] 31 #[.slice a l.length c,.slice (some ⟨w3.heap.size,0,none⟩) 1 1]).run Tryz.prog (w3.alloc (.cells #[.int .i64 v1,.int .i64 a1,.string n1,.bool i1,.slice xa1 es1.length xc1,.slice xa2 as1.length xc2,.slice xa3 ms1.length xc3,.slice xa4 el1.length xc4,.slice xa5 bo1.length xc5,.int .i64 lo1,.int .i64 hi1,.int .i64 by1,.int .i64 ti1] 94)) = .ok (.slice a2 (l.length + 1) c2) w4) := hrun
   have C4 := hidI ((C3.out.al _).ga g4 (fun q hq => by have := ho q hq; have := HR.out; constructor <;> omega))
   have G4 := hidI (grown_join (gr_alloc G3.out _) g4 (Or.inr (fun q hq => by have := ho q hq; omega)))
   have A4 := hidI (keptRow g4 (old A3.out _) (fun e => by have := ho _ e; omega))
   have S4 : Hid (w3.heap.size + 1 ≤ w4.heap.size) := by have := g4.size; simp at this; exact this
   have LL := hidI L4
   clear hrun L4 g4 ho
   go_wp2_with (first | (at_builtin; refine wpList_append_run rfl _ _ 31 rfl _ _ _ _ rfl rfl HRUN.out ?_))
   have hgl := HG.out
   have hkk := HK.out
   have q3 := T3.out
   have qs := HF.out
   have q60 := HLn.out
   go_roundg (s.size + 3 - (l.length + 1))
   case measure => omega
   case rel =>
    refine ⟨l ++ [(.mk v1 a1 n1 i1 es1 as1 ms1 el1 bo1 lo1 hi1 by1 ti1 : PS)],a2,c2,t3,by simp,C4.out,G4.out,A4.out,LL.out,by have := HR.out; have := S1.out; have := S2.out; have := S3.out; have := S4.out; omega,by simp; omega,by simp,?_⟩
    rw [show s.size + 2 - (l ++ [(.mk v1 a1 n1 i1 es1 as1 ms1 el1 bo1 lo1 hi1 by1 ti1 : PS)]).length = s.size + 1 - l.length by simp]
    symm; rw [← HRr.out,HF.out,lisL]; rw [if_neg H0.out]; rw [if_pos HB.out]; (first | rw [r3] | exact r3); try rw [bindOk]
set_option maxRecDepth 10000 in
set_option maxHeartbeats 4000000 in
theorem list_none (w : World) (t : Tok) (C : Cx V F R s u w t) : Calls Tryz.prog 47 #[rV R,.int .i64 41] w (Out V F R s u w (lisP F (s.size + 2) 0 t) (fun w' v l => Li kdS 94 w' (nw w) v l)) := by
 have HC : Hid (Cx V F R s u w t) := C
 have C0 := HC
 have G0 : Hid (w.grownBy w (some R)) := World.grownBy.refl _ _
 have HR : Hid (R < w.heap.size ∧ 15 ≤ w.heap.size ∧ 15 ≤ R) := ⟨C.lt,C.sz,C.r15⟩
 clear C
 go_enter Tryz.func47,Tryz.ntmps47
 go_wp2_with fail
 go_loopg [5] 1 (fun gk s5 wx => s5 = .slice none 0 0 ∧ wx = w.alloc (.cells #[pR R] 46))
 case atStart => exact ⟨rfl,rfl⟩
 case round =>
  obtain ⟨rfl,rfl⟩ := hrel
  by_cases h0 : t.c = 0
  · go_wp2_with fail
    refine (begS_bad (C0.out.al _) h0).mono ?_
    rintro e w4 ⟨rfl,g0⟩
    exact ⟨rfl,Out.bad (by rw [lisP]; rw [if_pos h0]) (gtr (gr_alloc G0.out _) (gr_none (p := R) g0))⟩
  go_wp2_with fail
  refine (begS_look (C0.out.al _) h0).mono ?_
  rintro e w1 ⟨rfl,g0⟩
  have CC := (C0.out.al _).gn g0
  have g := gr_none (p := R) g0
  have A1 : Hid (w1.heap[w.heap.size]? = some (.cells #[pR R] 46)) := keptBut g (hp_new (by first | rfl | simp) _) (by have := HR.out; omega)
  have G1 := hidI (gtr (gr_alloc G0.out _) g)
  have C1 := hidI CC
  have S1 : Hid (w.heap.size + 1 ≤ w1.heap.size) := hidI (by have := g.size; first | omega | (simp at this; omega) | (simp at this ⊢; omega))
  clear g CC g0
  have H0 := hidI h0
  clear h0
  cases hb : begS t with
  | false =>
   have HB := hidI hb
   clear hb
   go_wp2_with fail
   go_ret
   exact Out.ok (by rw [lisP]; rw [if_neg H0.out]; rw [if_neg (by rw [HB.out]; decide)]) (Li.nil _ _) C1.out G1.out
  | true =>
   have HB := hidI hb
   clear hb
   obtain ⟨_,_,_,_,z4,_,_,_⟩ := C1.out.rd.cells
   obtain ⟨ap,aq,ar,af,ag,ah⟩ := facts A1.out
   go_wp2_with fail
   go_region_dies
   all_goals (refine (giveUp_any R s t u _ _ _ C1.out.drew.rd).mono ?_; rintro e w3 ⟨rfl,rfl⟩; exact ⟨rfl,Out.bad (by rw [lisP]; rw [if_neg H0.out]; rw [if_pos HB.out]) (gr_drew G1.out)⟩)
theorem list_any (hS60 : s.size ≤ 60000) : ∀ (d : Nat),d ≤ 40 → LsC V F R s u d := by
 intro d
 induction d with
 | zero => intro hd w t dp hdp C; subst hdp; exact list_none w t C
 | succ d ih =>
  intro hd w t dp hdp C
  have hL := ih (by omega)
  have hq : dp = 40 - (d : Int) := by omega
  exact list_loop hS60 _ (stm_adv C.G _ (ex_adv C.G _ d) (lis_adv C.G _ d)) dp (by omega) (by omega) (fun w t C => stmt_any hS60 d (by omega) hL w t dp hq C) w t C
end
end Go.Proofs.YtdcoidmbainkmaaGreatDoor

namespace Go.Proofs.YtdcoidmbainkmaaGreatDoor
open Go.RowKit
attribute [local go_sem ↓] Go.wp_at_zero Go.wp_at_succ
set_option linter.unusedVariables false
set_option linter.unusedSimpArgs false
abbrev yesG (W : World) : Ending → World → Prop := fun e w' => e = .returned (.bool true) ∧ W.grownBy w' none
set_option maxHeartbeats 2000000 in
theorem same_e (W : World) (f o kd n : Int) (nm pt : ByteArray) (a : Int) (ax bx : Option Addr) (an bn ac bc : Nat) (hK : ∀ W',W.grownBy W' none → Calls Tryz.prog 37 #[.slice ax an ac,.slice bx bn bc] W' (yesG W')) :
 Calls Tryz.prog 36 #[.agg #[.int .i64 f,.int .i64 o,.int .i64 kd,.int .i64 n,.string nm,.string pt,.int .i64 a,.slice ax an ac],.agg #[.int .i64 f,.int .i64 o,.int .i64 kd,.int .i64 n,.string nm,.string pt,.int .i64 a,.slice bx bn bc]] W (yesG W) := by
 have c := hidI (hK _ (gr_alloc (gr1 W (.cells #[.int .i64 f,.int .i64 o,.int .i64 kd,.int .i64 n,.string nm,.string pt,.int .i64 a,.slice ax an ac] 61)) (.cells #[.int .i64 f,.int .i64 o,.int .i64 kd,.int .i64 n,.string nm,.string pt,.int .i64 a,.slice bx bn bc] 61)))
 clear hK
 go_enter Tryz.func36,Tryz.ntmps36
 go_wp2_with fail
 refine c.out.mono ?_
 rintro e w1 ⟨rfl,g1⟩
 go_wp2_with fail
 go_ret
 exact ⟨rfl,gtn (gr_alloc (gr1 _ _) _) g1⟩
theorem flat_at {α : Type} (f : α → List Value) (sz : Nat) : ∀ (L : List α),(∀ x ∈ L,(f x).length = sz) → ∀ (i j : Nat) (hi : i < L.length),j < sz → (L.flatMap f)[i * sz + j]? = (f L[i])[j]?
 | [],_,i,j,hi,_ => by simp at hi
 | x :: L,hl,i,j,hi,hj => by
  have h0 : (f x).length = sz := hl x (by simp)
  cases i with
  | zero => simp [List.getElem?_append_left (show j < (f x).length by omega)]
  | succ i =>
   rw [List.flatMap_cons,List.getElem?_append_right (by rw [h0,Nat.succ_mul]; omega),h0,show (i + 1) * sz + j - sz = i * sz + j by rw [Nat.succ_mul]; omega]
   exact flat_at f sz L (fun y hy => hl y (by simp [hy])) i j (by simpa using hi) hj
theorem row_at {w : World} {ok : Nat → Prop} {T n : Nat} {v : Value} {xs : List Value} (h : Row w ok T v n xs) (hx : 0 < xs.length) : ∃ g off c,v = .slice (some ⟨g,off,none⟩) n c ∧ n ≤ 1000000 ∧ g < w.heap.size ∧ ∀ k,k < xs.length → w.cell? ⟨g,off + k,none⟩ = xs[k]? := by
 obtain ⟨a,c,rfl,hn,⟨rfl,rfl⟩ | ⟨g,off,cur,rfl,_,hl,hh,hk⟩⟩ := h
 · simp at hx
 · exact ⟨g,off,c,rfl,hn,hl,fun k hk' => by rw [at_cell hh]; exact hk k hk'⟩
end Go.Proofs.YtdcoidmbainkmaaGreatDoor
