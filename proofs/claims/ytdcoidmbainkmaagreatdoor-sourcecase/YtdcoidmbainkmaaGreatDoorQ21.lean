/- Texts put together: Rs, Ru. -/
import Derived.Test.YtdcoidmbainkmaaGreatDoorQ20
import Derived.Test.YtdcoidmbainkmaaGreatDoorQ17
namespace Go.Proofs.YtdcoidmbainkmaaGreatDoor
open Go.RowKit
attribute [local go_sem ↓] Go.wp_at_zero Go.wp_at_succ
set_option linter.unusedVariables false
set_option linter.unusedSimpArgs false
section
variable {V : World} {F : Int → Tok} {R : Nat} {s : ByteArray} {u : Int}
theorem Out.up {α : Type} {r : Res α} {rep : World → Value → α → Prop} {w0 w w' : World} {e : Ending} (h : Out V F R s u w r rep e w') (hg : w0.grownBy w (some R)) : Out V F R s u w0 r rep e w' := by
 cases r with
 | ok x t' => exact ⟨h.1,h.2.1,gtr hg h.2.2⟩
 | bad c a => exact ⟨h.1,gtr hg h.2⟩
theorem Out.rep {α : Type} {r : Res α} {rep rep' : World → Value → α → Prop} {w w' : World} {e : Ending} (h : Out V F R s u w r rep e w') (hr : ∀ v x,rep w' v x → rep' w' v x) : Out V F R s u w r rep' e w' := by
 cases r with
 | ok x t' => obtain ⟨⟨v,h1,h2⟩,h3⟩ := h; exact ⟨⟨v,h1,hr v x h2⟩,h3⟩
 | bad c a => exact h
theorem isB {w : World} {t : Tok} (C : Cx V F R s u w t) (b : Nat) (ws : List ByteArray) (cs : Array Value) (n c : Nat) (hb : b = w.heap.size) (hcs : cs = (ws.map Value.string).toArray) (hn : n = ws.length) (hl : ws.length ≤ 100) (h0 : t.c = 0) :
 Calls Tryz.prog 64 #[pR R,.slice (some ⟨b,0,none⟩) n c] (w.alloc (.cells cs 9)) fun e w' => e = flt t.f u t.a ∧ (w.alloc (.cells cs 9)).grownBy w' (some R) := by
 have h := is_any (C.al (.cells cs 9)) _ ws (wsn _ _ _ _ _ c hb hcs hn) hl
 rwa [isP,if_pos h0] at h
def HeL (V : World) (F : Int → Tok) (R : Nat) (s : ByteArray) (u : Int) (w : World) (r0 : Res (List PV)) (gk : Nat) (s3 : Value) (wx : World) : Prop :=
 ∃ (l : List PV) (a : Option Addr) (c : Nat) (tk : Tok) (j : Nat),s3 = .slice a l.length c ∧ Cx V F R s u wx tk ∧ (w.alloc (.cells #[pR R] 46)).grownBy wx (some R) ∧ Gl kdV 63 15 wx (w.heap.size + 1) (.slice a l.length c) l ∧ l.length ≤ 200 ∧ ((j : Int) ≤ tk.a ∧ gk = s.size + 3 - j) ∧ heaL F (s.size + 2) (s.size + 2 - j) l tk = r0
def DsL (V : World) (F : Int → Tok) (R : Nat) (s : ByteArray) (u : Int) (w : World) (role lo : Int) (r0 : Res (List PV)) (gk : Nat) (s3 : Value) (wx : World) : Prop :=
 ∃ (l : List PV) (a : Option Addr) (c : Nat) (tk : Tok) (j : Nat),s3 = .slice a l.length c ∧ Cx V F R s u wx tk ∧ (w.alloc (.cells #[pR R] 46)).grownBy wx (some R) ∧ Gl kdV 63 15 wx (w.heap.size + 1) (.slice a l.length c) l ∧ l.length ≤ 200 ∧ ((j : Int) ≤ tk.a ∧ gk = s.size + 3 - j ∧ lo ≤ tk.a) ∧ decsL F (s.size + 2) role (s.size + 2 - j) l tk = r0
set_option maxRecDepth 10000 in
set_option maxHeartbeats 8000000 in
theorem heads_in (w : World) (t : Tok) (C : Cx V F R s u w t) : Calls Tryz.prog 46 #[rV R] w (Out V F R s u (w.alloc (.cells #[pR R] 46)) (heaP F (s.size + 2) t) (fun w' v l => Gl kdV 63 15 w' (w.heap.size + 1) v l ∧ l.length ≤ 200)) := by
 have HC : Hid (Cx V F R s u w t) := C
 have C0 := HC
 have G0 : Hid (w.grownBy w (some R)) := World.grownBy.refl _ _
 have HR : Hid (R < w.heap.size ∧ 15 ≤ w.heap.size ∧ 15 ≤ R) := ⟨C.lt,C.sz,C.r15⟩
 clear C
 go_enter Tryz.func46,Tryz.ntmps46
 clear G0
 have A0 : Hid ((w.alloc (.cells #[pR R] 46)).heap[w.heap.size]? = some (.cells #[pR R] 46)) := new _ _
 have G0 : Hid ((w.alloc (.cells #[pR R] 46)).grownBy (w.alloc (.cells #[pR R] 46)) (some R)) := World.grownBy.refl _ _
 clear C0
 have C0 := hidI (HC.out.al (.cells #[pR R] 46))
 have LS : Hid (HeL V F R s u w (heaP F (s.size + 2) t) (s.size + 3) (.slice none 0 0) (w.alloc (.cells #[pR R] 46))) :=
  ⟨[],none,0,t,0,rfl,C0.out,G0.out,Gl.nil _ _,by simp,⟨by have := HC.out.ok.1; simpa using this,rfl⟩,rfl⟩
 go_wp2_with fail
 go_loopg [3] (s.size + 3) (fun gk s3 wx => HeL V F R s u w (heaP F (s.size + 2) t) gk s3 wx)
 case atStart => exact LS.out
 case round =>
  rename World => wo
  obtain ⟨l,a,c,tk,j,rfl,CC,gg,hX,hl,⟨hk,hgk⟩,hr⟩ := hrel
  have C1 := hidI CC
  have G1 := hidI gg
  have A1 : Hid (wo.heap[w.heap.size]? = some (.cells #[pR R] 46)) := keptBut gg (new _ _) (by have := HR.out; omega)
  have L1 := hidI hX
  have S1 : Hid (w.heap.size + 1 ≤ wo.heap.size) := by have := gg.size; simp at this; exact this
  have HL1 := hidI hl
  have HK1 := hidI hk
  have HG1 := hidI hgk
  have HR1 := hidI hr
  have HF1 : Hid (s.size + 2 - j = (s.size + 1 - j) + 1) := by have := CC.ok.2.1; show _ = _; omega
  clear CC gg hX hl hk hgk hr
  obtain ⟨ap,aq,ar,af,ag,ah⟩ := facts A1.out
  by_cases h0 : tk.c = 0
  · go_wp2_with fail
    refine (isB C1.out _ [⟨#[118,97,114]⟩,⟨#[118,97,114,95,105,110,112,117,116]⟩,⟨#[118,97,114,95,111,117,116,112,117,116]⟩,⟨#[118,97,114,95,101,120,116,101,114,110,97,108]⟩] _ _ _ (by simp) rfl rfl (by decide) h0).mono ?_
    rintro e w4 ⟨rfl,g0⟩
    exact ⟨rfl,Out.bad (by rw [← HR1.out,HF1.out,heaL]; rw [if_pos h0]) (gtr (gr_alloc G1.out _) g0)⟩
  go_wp2_with fail
  refine (is_look C1.out h0 _ [⟨#[118,97,114]⟩,⟨#[118,97,114,95,105,110,112,117,116]⟩,⟨#[118,97,114,95,111,117,116,112,117,116]⟩,⟨#[118,97,114,95,101,120,116,101,114,110,97,108]⟩] _ _ _ (by simp) rfl rfl (by decide)).mono ?_
  rintro e w2 ⟨rfl,g0⟩
  have CC := (C1.out.al _).gn g0
  have g := gr_none (p := R) g0
  have L2 := hidI ((L1.out.gn (gr1 _ _)).gn g0)
  have A2 : Hid (w2.heap[w.heap.size]? = some (.cells #[pR R] 46)) := keptBut g (old A1.out _) (by have := HR.out; have := S1.out; omega)
  have G2 := hidI (gtr (gr_alloc G1.out _) g)
  have C2 := hidI CC
  have S2 : Hid (wo.heap.size + 1 ≤ w2.heap.size) := hidI (by have := g.size; first | omega | (simp at this; omega) | (simp at this ⊢; omega))
  clear g CC g0 ap aq ar af ag ah
  obtain ⟨ap,aq,ar,af,ag,ah⟩ := facts A2.out
  by_cases hm : mem [⟨#[118,97,114]⟩,⟨#[118,97,114,95,105,110,112,117,116]⟩,⟨#[118,97,114,95,111,117,116,112,117,116]⟩,⟨#[118,97,114,95,101,120,116,101,114,110,97,108]⟩] tk = true
  rotate_left
  · have hm' : mem [⟨#[118,97,114]⟩,⟨#[118,97,114,95,105,110,112,117,116]⟩,⟨#[118,97,114,95,111,117,116,112,117,116]⟩,⟨#[118,97,114,95,101,120,116,101,114,110,97,108]⟩] tk = false := by simpa using hm
    have M := hidI hm
    rw [hm']
    clear hm hm'
    go_wp2_with fail
    go_ret
    exact Out.ok (by rw [← HR1.out,HF1.out,heaL]; rw [if_neg h0]; rw [if_neg M.out]) ⟨L2.out,HL1.out⟩ C2.out G2.out
  have M := hidI hm
  rw [hm]
  clear hm
  go_wp2_with fail
  refine (role_any C2.out h0 M.out).mono ?_
  intro e w3 h
  rcases h.get with ⟨ro,t3,v3,r3,rfl,rfl,CC,g⟩ | ⟨cc,aa,r3,rfl,g⟩
  rotate_left
  · exact ⟨rfl,Out.bad (by rw [← HR1.out,HF1.out,heaL]; rw [if_neg h0]; rw [if_pos M.out]; (first | (rw [r3]; done) | (rw [r3]; rfl) | exact r3)) (gtr G2.out g)⟩
  have L3 := hidI ((L2.out).g g (by have := HR.out; have := S1.out; have := S2.out; omega))
  have A3 : Hid (w3.heap[w.heap.size]? = some (.cells #[pR R] 46)) := keptBut g A2.out (by have := HR.out; have := S1.out; have := S2.out; omega)
  have G3 := hidI (gtr G2.out g)
  have C3 := hidI CC
  have S3 : Hid (w2.heap.size + 0 ≤ w3.heap.size) := hidI (by have := g.size; first | omega | (simp at this; omega) | (simp at this ⊢; omega))
  clear g CC h ap aq ar af ag ah
  have T3 : Hid (tk.a + 0 ≤ t3.a) := (rol_adv C2.out.G _ _ _ C2.out.ok r3).2
  have LS2 : Hid (DsL V F R s u w ro tk.a (decsL F (s.size + 2) ro (s.size + 2) l t3) (s.size + 3) (.slice a l.length c) w3) :=
   ⟨l,a,c,t3,0,rfl,C3.out,G3.out,L3.out,HL1.out,⟨by have := C3.out.ok.1; simpa using this,rfl,by have := T3.out; omega⟩,rfl⟩
  go_wp2_with fail
  go_loopg [3] (s.size + 3) (fun gk s3 wx => DsL V F R s u w ro tk.a (decsL F (s.size + 2) ro (s.size + 2) l t3) gk s3 wx)
  case atStart => exact LS2.out
  case round =>
   rename World => wi
   obtain ⟨l4,a4,c4,tk4,j4,rfl,CC,gg,hX,hl,⟨hk,hgk,hlo⟩,hr⟩ := hrel
   have C4 := hidI CC
   have G4 := hidI gg
   have A4 : Hid (wi.heap[w.heap.size]? = some (.cells #[pR R] 46)) := keptBut gg (new _ _) (by have := HR.out; omega)
   have L4 := hidI hX
   have S4 : Hid (w.heap.size + 1 ≤ wi.heap.size) := by have := gg.size; simp at this; exact this
   have HL4 := hidI hl
   have HK4 := hidI hk
   have HG4 := hidI hgk
   have HR4 := hidI hr
   have HLO := hidI hlo
   clear hlo
   have HF4 : Hid (s.size + 2 - j4 = (s.size + 1 - j4) + 1) := by have := CC.ok.2.1; show _ = _; omega
   clear CC gg hX hl hk hgk hr
   obtain ⟨ap,aq,ar,af,ag,ah⟩ := facts A4.out
   by_cases h4 : tk4.c = 0
   · go_wp2_with fail
     refine (class_bad R s tk4 u _ _ C4.out.rd h4).mono ?_
     rintro e w5 ⟨rfl,g0⟩
     exact ⟨rfl,Out.bad (by rw [← HR1.out,HF1.out,heaL]; rw [if_neg h0]; rw [if_pos M.out]; (first | rw [r3] | exact r3); try rw [bindOk]; rw [← HR4.out,HF4.out,decsL]; rw [if_pos h4]; rfl) (gtr G4.out (gr_none (p := R) g0))⟩
   go_wp2_with fail
   refine (cls_look C4.out h4 2).mono ?_
   rintro e w5 ⟨rfl,g0⟩
   have CC := C4.out.gn g0
   have g := gr_none (p := R) g0
   have L5 := hidI (L4.out.gn g0)
   have A5 : Hid (w5.heap[w.heap.size]? = some (.cells #[pR R] 46)) := keptBut g A4.out (by have := HR.out; have := S1.out; have := S2.out; have := S3.out; have := S4.out; omega)
   have G5 := hidI (gtr G4.out g)
   have C5 := hidI CC
   have S5 : Hid (wi.heap.size + 0 ≤ w5.heap.size) := hidI (by have := g.size; first | omega | (simp at this; omega) | (simp at this ⊢; omega))
   have Z1 := hidI (And.intro HR.out (And.intro S1.out (And.intro S2.out (And.intro S3.out (And.intro S4.out S5.out)))))
   clear g CC g0 ap aq ar af ag ah
   obtain ⟨ap,aq,ar,af,ag,ah⟩ := facts A5.out
   by_cases h2 : tk4.c = 2
   · have h2' : decide (tk4.c = 2) = true := by simpa using h2
     have cD := hidI (dec_any (w.alloc (.cells #[pR R] 46)) w5 tk4 C5.out G5.out (by have := HR.out; simp; omega) (w.heap.size + 1) (by simp) (by have := Z1.out; omega) l4 a4 c4 L5.out HL4.out ro)
     go_wp2_with fail
     refine (cD.out).mono ?_
     intro e w6 h
     rcases h.get with ⟨l6,t6,v6,r6,rfl,⟨hv,hl6⟩,CC,g⟩ | ⟨cc,aa,r6,rfl,g⟩
     rotate_left
     · exact ⟨rfl,Out.bad (by rw [← HR1.out,HF1.out,heaL]; rw [if_neg h0]; rw [if_pos M.out]; (first | rw [r3] | exact r3); try rw [bindOk]; rw [← HR4.out,HF4.out,decsL]; rw [if_neg h4]; rw [if_pos h2]; rw [r6]; rfl) g⟩
     obtain ⟨a6,c6,rfl⟩ := hv.sl
     have T6 : Hid (tk4.a + 1 ≤ t6.a) := (dec_adv C5.out.G _ _ _ _ _ _ C5.out.ok r6).2
     go_wp2_with fail
     have q1 := HG4.out
     have q2 := HK4.out
     have q3 := T6.out
     have q4 := HF4.out
     have q5 := HLO.out
     go_roundg (s.size + 3 - (j4 + 1))
     case measure => omega
     case rel =>
      refine ⟨l6,a6,c6,t6,j4 + 1,rfl,CC,g,hv,hl6,⟨by push_cast; omega,rfl,by omega⟩,?_⟩
      rw [show s.size + 2 - (j4 + 1) = s.size + 1 - j4 by omega]
      symm; rw [← HR4.out,HF4.out,decsL,if_neg h4,if_pos h2,r6]; rfl
   have h2' : decide (tk4.c = 2) = false := by simpa using h2
   have H2 := hidI h2
   clear h2
   go_wp2_with fail
   refine (needW C5.out _ [⟨#[101,110,100,95,118,97,114]⟩] _ _ _ (by simp) rfl rfl (by decide)).mono ?_
   intro e w6 h
   rcases h.get with ⟨_,t6,v6,r6,rfl,rfl,CC,g⟩ | ⟨cc,aa,r6,rfl,g⟩
   rotate_left
   · exact ⟨rfl,Out.bad (by rw [← HR1.out,HF1.out,heaL]; rw [if_neg h0]; rw [if_pos M.out]; (first | rw [r3] | exact r3); try rw [bindOk]; rw [← HR4.out,HF4.out,decsL]; rw [if_neg h4]; rw [if_neg H2.out,bindOk]; (first | (rw [r6]; done) | (rw [r6]; rfl) | exact r6)) (gtr (gr_alloc G5.out _) g)⟩
   have L6 := hidI ((L5.out.gn (gr1 _ _)).g g (by have := Z1.out; omega))
   have A6 : Hid (w6.heap[w.heap.size]? = some (.cells #[pR R] 46)) := keptBut g (old A5.out _) (by have := Z1.out; omega)
   have G6 := hidI (gtr (gr_alloc G5.out _) g)
   have C6 := hidI CC
   have S6 : Hid (w5.heap.size + 1 ≤ w6.heap.size) := hidI (by have := g.size; first | omega | (simp at this; omega) | (simp at this ⊢; omega))
   clear g CC h ap aq ar af ag ah
   have T6 : Hid (tk4.a + 1 ≤ t6.a) := (need_adv C5.out.G _ _ _ _ C5.out.ok r6).2
   go_wp2_with fail
   have q1 := HG1.out
   have q2 := HK1.out
   have q3 := T6.out
   have q4 := HF1.out
   have q5 := HLO.out
   go_roundg (s.size + 3 - (j + 1))
   case measure => omega
   case rel =>
    refine ⟨l4,a4,c4,t6,j + 1,rfl,C6.out,G6.out,L6.out,HL4.out,⟨by push_cast; omega,rfl⟩,?_⟩
    rw [show s.size + 2 - (j + 1) = s.size + 1 - j by omega]
    symm; rw [← HR1.out,HF1.out,heaL]; rw [if_neg h0]; rw [if_pos M.out]; (first | rw [r3] | exact r3); try rw [bindOk]; rw [← HR4.out,HF4.out,decsL]; rw [if_neg h4]; rw [if_neg H2.out,bindOk]; (first | rw [r6] | exact r6); try rw [bindOk]
theorem heads_any (w : World) (t : Tok) (C : Cx V F R s u w t) : Calls Tryz.prog 46 #[rV R] w (Out V F R s u w (heaP F (s.size + 2) t) (fun w' v l => Li kdV 63 w' (nw w) v l)) :=
 (heads_in w t C).mono fun e w' h => (h.rep (fun v l h => (h.1.li (by have := h.2; omega)).imp (fun b _ (hb : w.heap.size + 1 ≤ b) => (by omega : w.heap.size ≤ b)))).up (gr_none (gr1 _ _))
end
end Go.Proofs.YtdcoidmbainkmaaGreatDoor

namespace Go.Proofs.YtdcoidmbainkmaaGreatDoor
open Go.RowKit
attribute [local go_sem ↓] Go.wp_at_zero Go.wp_at_succ
set_option linter.unusedVariables false
set_option linter.unusedSimpArgs false
def uC (p : PU) (q : Value × Value) : List Value := [.int .i64 p.kind,.string p.name,.int .i64 p.result,q.1,q.2,.int .i64 p.at']
def uS (w : World) (ok : Nat → Prop) (p : PU) (q : Value × Value) : Prop := Li kdV 63 w ok q.1 p.vars ∧ Li kdS 94 w ok q.2 p.body
def kdU : Kd PU (Value × Value) := ⟨uC,uS,fun h hk hs => ⟨h.1.kept hk hs,h.2.kept hk hs⟩,fun h hk => ⟨h.1.imp hk,h.2.imp hk⟩⟩
def UnP (w : World) : World → Value → PU → Prop := fun w' v p => ∃ q,v = .agg (uC p q).toArray ∧ uS w' (nw w) p q
section
variable {V : World} {F : Int → Tok} {R : Nat} {s : ByteArray}
set_option maxRecDepth 10000 in
set_option maxHeartbeats 8000000 in
theorem unit_any (hS60 : s.size ≤ 60000) (whole : Nat) (w : World) (t : Tok) (C : Cx V F R s (whole : Int) w t) : Calls Tryz.prog 22 #[rV R] w (Out V F R s (whole : Int) w (uniP F (s.size + 2) whole t) (UnP w)) := by
 have HS := hidI hS60
 clear hS60
 obtain ⟨u,hu⟩ : ∃ u : Int,u = (whole : Int) := ⟨_,rfl⟩
 rw [← hu] at C ⊢
 have HU := hidI hu
 clear hu
 have HC : Hid (Cx V F R s u w t) := C
 have C0 := HC
 have G0 : Hid (w.grownBy w (some R)) := World.grownBy.refl _ _
 have HR : Hid (R < w.heap.size ∧ 15 ≤ w.heap.size ∧ 15 ≤ R) := ⟨C.lt,C.sz,C.r15⟩
 clear C
 go_enter Tryz.func22,Tryz.ntmps22
 go_wp2_with fail
 refine (needW ((C0.out.al _).al _) _ [⟨#[112,114,111,103,114,97,109]⟩,⟨#[102,117,110,99,116,105,111,110]⟩,⟨#[102,117,110,99,116,105,111,110,95,98,108,111,99,107]⟩] _ _ _ (by simp) rfl rfl (by decide)).mono ?_
 intro e w1 h
 rcases h.get with ⟨k,t1,v1,r1,rfl,rfl,CC,g⟩ | ⟨cc,aa,r1,rfl,g⟩
 rotate_left
 · exact ⟨rfl,Out.bad (by unfold uniP; (first | (rw [r1]; done) | (rw [r1]; rfl) | exact r1)) (gtr (gr_alloc (gr_alloc (gr_alloc G0.out _) _) _) g)⟩
 have A1 : Hid (w1.heap[w.heap.size]? = some (.cells #[pR R] 46)) := keptBut g (old (old (hp_new (by first | rfl | simp) _) _) _) (by have := HR.out; omega)
 have B1 : Hid (w1.heap[w.heap.size + 1]? = some (.cells #[.int .i64 0,.string ⟨#[]⟩,.int .i64 0,.slice none 0 0,.slice none 0 0,.int .i64 0] 33)) := keptBut g (old (hp_new (by first | rfl | simp) _) _) (by have := HR.out; omega)
 have G1 := hidI (gtr (gr_alloc (gr_alloc (gr_alloc G0.out _) _) _) g)
 have C1 := hidI CC
 have S1 : Hid (w.heap.size + 3 ≤ w1.heap.size) := hidI (by have := g.size; first | omega | (simp at this; omega) | (simp at this ⊢; omega))
 clear g CC h
 obtain ⟨hkt,hmk⟩ := need_mem r1
 have HMK : Hid (mem [⟨#[112,114,111,103,114,97,109]⟩,⟨#[102,117,110,99,116,105,111,110]⟩,⟨#[102,117,110,99,116,105,111,110,95,98,108,111,99,107]⟩] k = true) := by rw [hkt]; exact hmk
 clear hkt hmk
 obtain ⟨_,_,_,_,_,_,_,z7⟩ := (C1.out.al (.cells #[.int .i64 k.c,.string k.x,.int .i64 k.n,.int .i64 k.a,.int .i64 k.e,.int .i64 k.f] 73)).rd.cells
 obtain ⟨ap,aq,ar,af,ag,ah⟩ := facts A1.out
 obtain ⟨bp,bq,br,bf,bg,bh⟩ := facts B1.out
 by_cases h16 : whole = 16
 · have h16' : (u == 16) = true := by rw [HU.out,h16]; rfl
   have H2 := hidI h16
   clear h16
   go_wp2_with fail
   refine (giveUp_any R s t1 u _ _ _ (C1.out.al _).rd).mono ?_
   rintro e w3 ⟨rfl,rfl⟩
   exact ⟨rfl,Out.bad (by unfold uniP; (first | rw [r1] | exact r1); try rw [bindOk]; rw [if_pos H2.out]) (gr_alloc G1.out _)⟩
 have h16' : (u == 16) = false := by rw [HU.out]; simp; omega
 have H16 := hidI h16
 clear h16
 go_upto_region 4 with fail
 clear z7 h16'
 go_cut [4] from 20 to 28 (fun s4 wx => ∃ (q : Nat) (m t2 : Tok),s4 = .pointer (some ⟨q,0,none⟩) ∧ Hid (needC F 2 t1 = .ok m t2 ∧ Cx V F R s u wx t2 ∧ w.grownBy wx (some R) ∧ wx.heap[w.heap.size]? = some (.cells #[pR R] 46) ∧ wx.heap[w.heap.size + 1]? = some (.cells #[.int .i64 0,.string ⟨#[]⟩,.int .i64 0,.slice none 0 0,.slice none 0 0,.int .i64 0] 33) ∧ wx.heap[w1.heap.size]? = some (.cells #[.int .i64 k.c,.string k.x,.int .i64 k.n,.int .i64 k.a,.int .i64 k.e,.int .i64 k.f] 73) ∧ wx.heap[q]? = some (.cells #[.int .i64 (uniS k.x),.string m.x,.int .i64 0,.slice none 0 0,.slice none 0 0,.int .i64 k.a] 33) ∧ w1.heap.size < q ∧ q < wx.heap.size))
 case first =>
  clear ap aq ar af ag ah bp bq br bf bg bh
  have C2 := hidI (C1.out.al (.cells #[.int .i64 k.c,.string k.x,.int .i64 k.n,.int .i64 k.a,.int .i64 k.e,.int .i64 k.f] 73)).drew
  have G2 := hidI (gr_drew (gr_alloc G1.out (.cells #[.int .i64 k.c,.string k.x,.int .i64 k.n,.int .i64 k.a,.int .i64 k.e,.int .i64 k.f] 73)))
  have S2 : Hid (w1.heap.size + 1 ≤ (w1.alloc (.cells #[.int .i64 k.c,.string k.x,.int .i64 k.n,.int .i64 k.a,.int .i64 k.e,.int .i64 k.f] 73)).drew.heap.size) := by show _ ≤ (w1.alloc (.cells #[.int .i64 k.c,.string k.x,.int .i64 k.n,.int .i64 k.a,.int .i64 k.e,.int .i64 k.f] 73)).heap.size; simp
  have A2 : Hid ((w1.alloc (.cells #[.int .i64 k.c,.string k.x,.int .i64 k.n,.int .i64 k.a,.int .i64 k.e,.int .i64 k.f] 73)).drew.heap[w.heap.size]? = some (.cells #[pR R] 46)) := old A1.out _
  have B2 : Hid ((w1.alloc (.cells #[.int .i64 k.c,.string k.x,.int .i64 k.n,.int .i64 k.a,.int .i64 k.e,.int .i64 k.f] 73)).drew.heap[w.heap.size + 1]? = some (.cells #[.int .i64 0,.string ⟨#[]⟩,.int .i64 0,.slice none 0 0,.slice none 0 0,.int .i64 0] 33)) := old B1.out _
  have T2 : Hid ((w1.alloc (.cells #[.int .i64 k.c,.string k.x,.int .i64 k.n,.int .i64 k.a,.int .i64 k.e,.int .i64 k.f] 73)).drew.heap[w1.heap.size]? = some (.cells #[.int .i64 k.c,.string k.x,.int .i64 k.n,.int .i64 k.a,.int .i64 k.e,.int .i64 k.f] 73)) := new _ _
  obtain ⟨wz,hwz⟩ : ∃ W : World,W = (w1.alloc (.cells #[.int .i64 k.c,.string k.x,.int .i64 k.n,.int .i64 k.a,.int .i64 k.e,.int .i64 k.f] 73)).drew := ⟨_,rfl⟩
  have HWZ := hidI hwz
  rw [← hwz] at C2 G2 S2 A2 B2 T2
  have Z1 := hidI (And.intro HR.out (And.intro S1.out S2.out))
  have hHeld : (fun w' : World => w'.cell? ⟨w.heap.size,0,none⟩ = some (pR R) ∧ w'.cell? ⟨w1.heap.size,1,none⟩ = some (.string k.x) ∧ w'.cell? ⟨w1.heap.size,3,none⟩ = some (.int .i64 k.a)) wz := ⟨by simpa using at_cell (A2.out) 0,by simpa using at_cell (T2.out) 1,by simpa using at_cell (T2.out) 3⟩
  have hHeldA : (fun w' : World => w'.cell? ⟨w.heap.size,0,none⟩ = some (pR R) ∧ w'.cell? ⟨w1.heap.size,1,none⟩ = some (.string k.x) ∧ w'.cell? ⟨w1.heap.size,3,none⟩ = some (.int .i64 k.a)) (wz.alloc (.cells #[.int .i64 0,.string ⟨#[]⟩,.int .i64 0,.slice none 0 0,.slice none 0 0,.int .i64 0] 33)) := ⟨by simpa using at_cell (old (A2.out) _) 0,by simpa using at_cell (old (T2.out) _) 1,by simpa using at_cell (old (T2.out) _) 3⟩
  refine wp_region_L (L := 10) (S := (fun w' : World => w'.cell? ⟨w.heap.size,0,none⟩ = some (pR R) ∧ w'.cell? ⟨w1.heap.size,1,none⟩ = some (.string k.x) ∧ w'.cell? ⟨w1.heap.size,3,none⟩ = some (.int .i64 k.a))) (by kernel_rfl) ?_
  rw [← hwz]
  clear hwz
  refine wpAnyL_free (i := 0) (v := ?_) rfl (by kernel_rfl) (by kernel_rfl) (by kernel_rfl) (fun _ _ _ h => h) (by decide) (Or.inl ⟨by rfl,?_⟩) (fun _ => hHeld) ?_
  rotate_left
  · intro w hSw
    go_simp
    try with_reducible rfl
  try simp only [Act.put,List.setIfInBounds_toArray,List.set_cons_zero,List.set_cons_succ]
  refine wpAnyL_take (i := 1) (v := ?_) rfl (by kernel_rfl) (by kernel_rfl) (by kernel_rfl) (fun _ _ _ h => h) (by kernel_rfl) (by kernel_rfl) (Or.inl ⟨by rfl,?_⟩) hHeld ?_
  rotate_left
  · intro w hSw
    try dsimp only at hSw
    go_simp
    try with_reducible rfl
  try simp only [Act.put,List.setIfInBounds_toArray,List.set_cons_zero,List.set_cons_succ]
  refine wpAnyL_free (i := 3) (v := ?_) rfl (by kernel_rfl) (by kernel_rfl) (by kernel_rfl) (fun _ _ _ h => h) (by decide) (Or.inl ⟨by rfl,?_⟩) (fun _ => hHeld) ?_
  rotate_left
  · intro w hSw
    go_simp
    try with_reducible rfl
  try simp only [Act.put,List.setIfInBounds_toArray,List.set_cons_zero,List.set_cons_succ]
  refine wpAnyL_take (i := 4) (v := ?_) rfl (by kernel_rfl) (by kernel_rfl) (by kernel_rfl) (fun _ _ _ h => h) (by kernel_rfl) (by kernel_rfl) (Or.inl ⟨by rfl,?_⟩) hHeld ?_
  rotate_left
  · intro w hSw
    try dsimp only at hSw
    go_simp
    try with_reducible rfl
  try simp only [Act.put,List.setIfInBounds_toArray,List.set_cons_zero,List.set_cons_succ]
  refine wpAnyL_free (i := 6) (v := ?_) rfl (by kernel_rfl) (by kernel_rfl) (by kernel_rfl) (fun _ _ _ h => h) (by decide) (Or.inl ⟨by rfl,?_⟩) (fun _ => hHeld) ?_
  rotate_left
  · intro w hSw
    go_simp
    try with_reducible rfl
  try simp only [Act.put,List.setIfInBounds_toArray,List.set_cons_zero,List.set_cons_succ]
  refine wpAnyL_take (i := 7) (v := ?_) rfl (by kernel_rfl) (by kernel_rfl) (by kernel_rfl) (fun _ _ _ h => h) (by kernel_rfl) (by kernel_rfl) (Or.inl ⟨by rfl,?_⟩) hHeld ?_
  rotate_left
  · intro w hSw
    try dsimp only at hSw
    go_simp
    try with_reducible rfl
  try simp only [Act.put,List.setIfInBounds_toArray,List.set_cons_zero,List.set_cons_succ]
  have cU := unitW C2.out.tb C2.out.vs k HMK.out
  have cUA := unitW (C2.out.al (.cells #[.int .i64 0,.string ⟨#[]⟩,.int .i64 0,.slice none 0 0,.slice none 0 0,.int .i64 0] 33)).tb (C2.out.al (.cells #[.int .i64 0,.string ⟨#[]⟩,.int .i64 0,.slice none 0 0,.slice none 0 0,.int .i64 0] 33)).vs k HMK.out
  refine wpAnyL_two (i := 2) (j := 9) (by kernel_rfl) rfl rfl (fun K hK => ?_) (fun K hK => ?_)
  · skip
    go_simp
    refine cU.mono ?_
    rintro e w3 ⟨rfl,rfl⟩
    go_wp2_with fail
    refine hK.out _ _ (fun _ _ => hHeld) ?_
    clear hK K
    try simp only [Act.put,List.setIfInBounds_toArray,List.set_cons_zero,List.set_cons_succ]
    refine wpAnyL_two (i := 5) (j := 9) (by kernel_rfl) rfl rfl (fun K hK => ?_) (fun K hK => ?_)
    · go_simp
      refine (name_any C2.out).mono ?_
      intro e w3 h
      rcases h.get with ⟨m,t3,v3,r3,rfl,rfl,CC,g⟩ | ⟨cc,aa,r3,rfl,g⟩
      rotate_left
      · exact ⟨rfl,Out.bad (by unfold uniP; (first | rw [r1] | exact r1); try rw [bindOk]; rw [if_neg H16.out]; (first | (rw [r3]; done) | (rw [r3]; rfl) | exact r3)) (gtr G2.out g)⟩
      have A3 : Hid (w3.heap[w.heap.size]? = some (.cells #[pR R] 46)) := keptBut g A2.out (by have := Z1.out; omega)
      have B3 : Hid (w3.heap[w.heap.size + 1]? = some (.cells #[.int .i64 0,.string ⟨#[]⟩,.int .i64 0,.slice none 0 0,.slice none 0 0,.int .i64 0] 33)) := keptBut g B2.out (by have := Z1.out; omega)
      have T3 : Hid (w3.heap[w1.heap.size]? = some (.cells #[.int .i64 k.c,.string k.x,.int .i64 k.n,.int .i64 k.a,.int .i64 k.e,.int .i64 k.f] 73)) := keptBut g T2.out (by have := Z1.out; omega)
      have G3 := hidI (gtr G2.out g)
      have C3 := hidI CC
      have S3 : Hid (wz.heap.size + 0 ≤ w3.heap.size) := hidI (by have := g.size; first | omega | (simp at this; omega) | (simp at this ⊢; omega))
      clear g CC h
      have hHeld3 : (fun w' : World => w'.cell? ⟨w.heap.size,0,none⟩ = some (pR R) ∧ w'.cell? ⟨w1.heap.size,1,none⟩ = some (.string k.x) ∧ w'.cell? ⟨w1.heap.size,3,none⟩ = some (.int .i64 k.a)) w3 := ⟨by simpa using at_cell (A3.out) 0,by simpa using at_cell (T3.out) 1,by simpa using at_cell (T3.out) 3⟩
      go_wp2_with fail
      refine hK.out _ _ (fun _ _ => hHeld3) ?_
      clear hK K
      try simp only [Act.put,List.setIfInBounds_toArray,List.set_cons_zero,List.set_cons_succ]
      refine wpAnyL_free (i := 8) (v := ?_) rfl (by kernel_rfl) (by kernel_rfl) (by kernel_rfl) (fun _ _ _ h => h) (by decide) (Or.inl ⟨by rfl,?_⟩) (fun _ => hHeld3) ?_
      rotate_left
      · intro w hSw
        go_simp
        try with_reducible rfl
      try simp only [Act.put,List.setIfInBounds_toArray,List.set_cons_zero,List.set_cons_succ]
      have hHeldB : (fun w' : World => w'.cell? ⟨w.heap.size,0,none⟩ = some (pR R) ∧ w'.cell? ⟨w1.heap.size,1,none⟩ = some (.string k.x) ∧ w'.cell? ⟨w1.heap.size,3,none⟩ = some (.int .i64 k.a)) (w3.alloc (.cells #[.int .i64 0,.string ⟨#[]⟩,.int .i64 0,.slice none 0 0,.slice none 0 0,.int .i64 0] 33)) := ⟨by simpa using at_cell (old (A3.out) _) 0,by simpa using at_cell (old (T3.out) _) 1,by simpa using at_cell (old (T3.out) _) 3⟩
      refine wpAnyL_one (j := 9) (by kernel_rfl) rfl (fun K hK => ?_)
      go_simp
      refine hK.out _ _ (fun _ _ => hHeldB) ?_
      clear hK K
      try simp only [Act.put,List.setIfInBounds_toArray,List.set_cons_zero,List.set_cons_succ]
      obtain ⟨up,uq,ur,uf,ug,uh⟩ := facts (new w3 (.cells #[.int .i64 0,.string ⟨#[]⟩,.int .i64 0,.slice none 0 0,.slice none 0 0,.int .i64 0] 33))
      refine wpAnyL_one (j := 10) (by kernel_rfl) rfl (fun K hK => ?_)
      go_simp
      refine hK.out _ _ (fun h => absurd rfl h) ?_
      clear hK K
      try simp only [Act.put,List.setIfInBounds_toArray,List.set_cons_zero,List.set_cons_succ]
      refine wpAnyL_done (by kernel_rfl) ?_ _
      go_wp2_with fail
      go_meet
      exact ⟨_,m,t3,rfl,hidI ⟨r3,C3.out.al _,gr_alloc G3.out _,old A3.out _,old B3.out _,old T3.out _,new _ _,by have := HR.out; have := S1.out; have := S2.out; have := S3.out; omega,by simp⟩⟩
    · skip
      go_simp
      refine hK.out _ _ (fun _ _ => hHeldA) ?_
      clear hK K
      try simp only [Act.put,List.setIfInBounds_toArray,List.set_cons_zero,List.set_cons_succ]
      refine wpAnyL_one (j := 5) (by kernel_rfl) rfl (fun K hK => ?_)
      go_simp
      refine (name_any (C2.out.al _)).mono ?_
      intro e w3 h
      rcases h.get with ⟨m,t3,v3,r3,rfl,rfl,CC,g⟩ | ⟨cc,aa,r3,rfl,g⟩
      rotate_left
      · exact ⟨rfl,Out.bad (by unfold uniP; (first | rw [r1] | exact r1); try rw [bindOk]; rw [if_neg H16.out]; (first | (rw [r3]; done) | (rw [r3]; rfl) | exact r3)) (gtr (gr_alloc G2.out _) g)⟩
      have A3 : Hid (w3.heap[w.heap.size]? = some (.cells #[pR R] 46)) := keptBut g (old A2.out _) (by have := Z1.out; omega)
      have B3 : Hid (w3.heap[w.heap.size + 1]? = some (.cells #[.int .i64 0,.string ⟨#[]⟩,.int .i64 0,.slice none 0 0,.slice none 0 0,.int .i64 0] 33)) := keptBut g (old B2.out _) (by have := Z1.out; omega)
      have T3 : Hid (w3.heap[w1.heap.size]? = some (.cells #[.int .i64 k.c,.string k.x,.int .i64 k.n,.int .i64 k.a,.int .i64 k.e,.int .i64 k.f] 73)) := keptBut g (old T2.out _) (by have := Z1.out; omega)
      have U3 : Hid (w3.heap[wz.heap.size]? = some (.cells #[.int .i64 0,.string ⟨#[]⟩,.int .i64 0,.slice none 0 0,.slice none 0 0,.int .i64 0] 33)) := keptBut g (hp_new (by first | rfl | simp) _) (by have := Z1.out; omega)
      have G3 := hidI (gtr (gr_alloc G2.out _) g)
      have C3 := hidI CC
      have S3 : Hid (wz.heap.size + 1 ≤ w3.heap.size) := hidI (by have := g.size; first | omega | (simp at this; omega) | (simp at this ⊢; omega))
      have Z2 := hidI (And.intro HR.out (And.intro S1.out (And.intro S2.out S3.out)))
      clear g CC h
      have hHeld3 : (fun w' : World => w'.cell? ⟨w.heap.size,0,none⟩ = some (pR R) ∧ w'.cell? ⟨w1.heap.size,1,none⟩ = some (.string k.x) ∧ w'.cell? ⟨w1.heap.size,3,none⟩ = some (.int .i64 k.a)) w3 := ⟨by simpa using at_cell (A3.out) 0,by simpa using at_cell (T3.out) 1,by simpa using at_cell (T3.out) 3⟩
      go_wp2_with fail
      refine hK.out _ _ (fun _ _ => hHeld3) ?_
      clear hK K
      try simp only [Act.put,List.setIfInBounds_toArray,List.set_cons_zero,List.set_cons_succ]
      refine wpAnyL_free (i := 8) (v := ?_) rfl (by kernel_rfl) (by kernel_rfl) (by kernel_rfl) (fun _ _ _ h => h) (by decide) (Or.inl ⟨by rfl,?_⟩) (fun _ => hHeld3) ?_
      rotate_left
      · intro w hSw
        go_simp
        try with_reducible rfl
      try simp only [Act.put,List.setIfInBounds_toArray,List.set_cons_zero,List.set_cons_succ]
      obtain ⟨up,uq,ur,uf,ug,uh⟩ := facts U3.out
      refine wpAnyL_one (j := 10) (by kernel_rfl) rfl (fun K hK => ?_)
      go_simp
      refine hK.out _ _ (fun h => absurd rfl h) ?_
      clear hK K
      try simp only [Act.put,List.setIfInBounds_toArray,List.set_cons_zero,List.set_cons_succ]
      refine wpAnyL_done (by kernel_rfl) ?_ _
      go_wp2_with fail
      go_meet
      exact ⟨_,m,t3,rfl,hidI ⟨r3,C3.out.gq (gr6 (World.grownBy.refl _ _)) (by have := Z2.out; omega) (by have := Z2.out; omega),gr6o G3.out (by have := Z2.out; omega),keptBut (gr6 (World.grownBy.refl _ _)) A3.out (by have := Z2.out; omega),keptBut (gr6 (World.grownBy.refl _ _)) B3.out (by have := Z2.out; omega),keptBut (gr6 (World.grownBy.refl _ _)) T3.out (by have := Z2.out; omega),box6 U3.out,by have := Z2.out; omega,by simp; have := Z2.out; omega⟩⟩
  · skip
    go_simp
    refine hK.out _ _ (fun _ _ => hHeldA) ?_
    clear hK K
    try simp only [Act.put,List.setIfInBounds_toArray,List.set_cons_zero,List.set_cons_succ]
    refine wpAnyL_one (j := 2) (by kernel_rfl) rfl (fun K hK => ?_)
    go_simp
    refine cUA.mono ?_
    rintro e w3 ⟨rfl,rfl⟩
    go_wp2_with fail
    refine hK.out _ _ (fun _ _ => hHeldA) ?_
    clear hK K
    try simp only [Act.put,List.setIfInBounds_toArray,List.set_cons_zero,List.set_cons_succ]
    refine wpAnyL_one (j := 5) (by kernel_rfl) rfl (fun K hK => ?_)
    go_simp
    refine (name_any (C2.out.al _)).mono ?_
    intro e w3 h
    rcases h.get with ⟨m,t3,v3,r3,rfl,rfl,CC,g⟩ | ⟨cc,aa,r3,rfl,g⟩
    rotate_left
    · exact ⟨rfl,Out.bad (by unfold uniP; (first | rw [r1] | exact r1); try rw [bindOk]; rw [if_neg H16.out]; (first | (rw [r3]; done) | (rw [r3]; rfl) | exact r3)) (gtr (gr_alloc G2.out _) g)⟩
    have A3 : Hid (w3.heap[w.heap.size]? = some (.cells #[pR R] 46)) := keptBut g (old A2.out _) (by have := Z1.out; omega)
    have B3 : Hid (w3.heap[w.heap.size + 1]? = some (.cells #[.int .i64 0,.string ⟨#[]⟩,.int .i64 0,.slice none 0 0,.slice none 0 0,.int .i64 0] 33)) := keptBut g (old B2.out _) (by have := Z1.out; omega)
    have T3 : Hid (w3.heap[w1.heap.size]? = some (.cells #[.int .i64 k.c,.string k.x,.int .i64 k.n,.int .i64 k.a,.int .i64 k.e,.int .i64 k.f] 73)) := keptBut g (old T2.out _) (by have := Z1.out; omega)
    have U3 : Hid (w3.heap[wz.heap.size]? = some (.cells #[.int .i64 0,.string ⟨#[]⟩,.int .i64 0,.slice none 0 0,.slice none 0 0,.int .i64 0] 33)) := keptBut g (hp_new (by first | rfl | simp) _) (by have := Z1.out; omega)
    have G3 := hidI (gtr (gr_alloc G2.out _) g)
    have C3 := hidI CC
    have S3 : Hid (wz.heap.size + 1 ≤ w3.heap.size) := hidI (by have := g.size; first | omega | (simp at this; omega) | (simp at this ⊢; omega))
    have Z3 := hidI (And.intro HR.out (And.intro S1.out (And.intro S2.out S3.out)))
    clear g CC h
    have hHeld3 : (fun w' : World => w'.cell? ⟨w.heap.size,0,none⟩ = some (pR R) ∧ w'.cell? ⟨w1.heap.size,1,none⟩ = some (.string k.x) ∧ w'.cell? ⟨w1.heap.size,3,none⟩ = some (.int .i64 k.a)) w3 := ⟨by simpa using at_cell (A3.out) 0,by simpa using at_cell (T3.out) 1,by simpa using at_cell (T3.out) 3⟩
    go_wp2_with fail
    refine hK.out _ _ (fun _ _ => hHeld3) ?_
    clear hK K
    try simp only [Act.put,List.setIfInBounds_toArray,List.set_cons_zero,List.set_cons_succ]
    refine wpAnyL_free (i := 8) (v := ?_) rfl (by kernel_rfl) (by kernel_rfl) (by kernel_rfl) (fun _ _ _ h => h) (by decide) (Or.inl ⟨by rfl,?_⟩) (fun _ => hHeld3) ?_
    rotate_left
    · intro w hSw
      go_simp
      try with_reducible rfl
    try simp only [Act.put,List.setIfInBounds_toArray,List.set_cons_zero,List.set_cons_succ]
    obtain ⟨up,uq,ur,uf,ug,uh⟩ := facts U3.out
    refine wpAnyL_one (j := 10) (by kernel_rfl) rfl (fun K hK => ?_)
    go_simp
    refine hK.out _ _ (fun h => absurd rfl h) ?_
    clear hK K
    try simp only [Act.put,List.setIfInBounds_toArray,List.set_cons_zero,List.set_cons_succ]
    refine wpAnyL_done (by kernel_rfl) ?_ _
    go_wp2_with fail
    go_meet
    exact ⟨_,m,t3,rfl,hidI ⟨r3,C3.out.gq (gr6 (World.grownBy.refl _ _)) (by have := Z3.out; omega) (by have := Z3.out; omega),gr6o G3.out (by have := Z3.out; omega),keptBut (gr6 (World.grownBy.refl _ _)) A3.out (by have := Z3.out; omega),keptBut (gr6 (World.grownBy.refl _ _)) B3.out (by have := Z3.out; omega),keptBut (gr6 (World.grownBy.refl _ _)) T3.out (by have := Z3.out; omega),box6 U3.out,by have := Z3.out; omega,by simp; have := Z3.out; omega⟩⟩
 case rest =>
 rename World => w2
 obtain ⟨q,m,t2,rfl,HC2⟩ := hcut
 obtain ⟨r2,CC,gg,hA,hB,hT,hU,hq1,hq2⟩ := HC2.out
 have C2 := hidI CC
 have G2 := hidI gg
 have A2 := hidI hA
 have B2 := hidI hB
 have T2 := hidI hT
 have U2 := hidI hU
 have HQ := hidI (And.intro hq1 hq2)
 have S2 : Hid (w1.heap.size + 1 ≤ w2.heap.size) := by show _ ≤ _; omega
 have Z4 := hidI (And.intro HR.out (And.intro HQ.out (And.intro S1.out S2.out)))
 clear CC gg hA hB hT hU hq1 hq2 HC2
 have hks : ¬ 9223372036854775807 < 4 + k.x.size := by
  have h := HMK.out
  simp [mem] at h
  rcases h.2 with h | h | h <;> rw [h] <;> decide
 obtain ⟨ap,aq,ar,af,ag,ah⟩ := facts A2.out
 obtain ⟨up,uq,ur,uf,ug,uh⟩ := facts U2.out
 obtain ⟨tp,tq,tr,tf,tg,th⟩ := facts T2.out
 by_cases hf : uniS k.x = 2
 · have hf' : (uniS k.x == 2) = true := by simpa using hf
   have HFn := hidI hf
   clear hf
   go_wp2_with fail
   refine (needW C2.out _ [⟨#[58]⟩] _ _ _ (by simp) rfl rfl (by decide)).mono ?_
   intro e w3 h
   rcases h.get with ⟨_,t3,v3,r3,rfl,rfl,CC,g⟩ | ⟨cc,aa,r3,rfl,g⟩
   rotate_left
   · exact ⟨rfl,Out.bad (by unfold uniP; (first | rw [r1] | exact r1); try rw [bindOk]; rw [if_neg H16.out]; rw [r2,bindOk]; rw [if_pos HFn.out]; (first | (rw [r3]; done) | (rw [r3]; rfl) | exact r3)) (gtr (gr_alloc G2.out _) g)⟩
   have A3 : Hid (w3.heap[w.heap.size]? = some (.cells #[pR R] 46)) := keptBut g (old A2.out _) (by have := Z4.out; omega)
   have B3 : Hid (w3.heap[w.heap.size + 1]? = some (.cells #[.int .i64 0,.string ⟨#[]⟩,.int .i64 0,.slice none 0 0,.slice none 0 0,.int .i64 0] 33)) := keptBut g (old B2.out _) (by have := Z4.out; omega)
   have T3 : Hid (w3.heap[w1.heap.size]? = some (.cells #[.int .i64 k.c,.string k.x,.int .i64 k.n,.int .i64 k.a,.int .i64 k.e,.int .i64 k.f] 73)) := keptBut g (old T2.out _) (by have := Z4.out; omega)
   have U3 : Hid (w3.heap[q]? = some (.cells #[.int .i64 (uniS k.x),.string m.x,.int .i64 0,.slice none 0 0,.slice none 0 0,.int .i64 k.a] 33)) := keptBut g (old U2.out _) (by have := Z4.out; omega)
   have G3 := hidI (gtr (gr_alloc G2.out _) g)
   have C3 := hidI CC
   have S3 : Hid (w2.heap.size + 1 ≤ w3.heap.size) := hidI (by have := g.size; first | omega | (simp at this; omega) | (simp at this ⊢; omega))
   have Z5 := hidI (And.intro HR.out (And.intro HQ.out (And.intro S1.out (And.intro S2.out S3.out))))
   clear g CC h ap aq ar af ag ah up uq ur uf ug uh tp tq tr tf tg th
   obtain ⟨ap,aq,ar,af,ag,ah⟩ := facts A3.out
   obtain ⟨up,uq,ur,uf,ug,uh⟩ := facts U3.out
   obtain ⟨tp,tq,tr,tf,tg,th⟩ := facts T3.out
   go_wp2_with fail
   refine (kind_any C3.out).mono ?_
   intro e w4 h
   rcases h.get with ⟨kk,t4,v4,r4,rfl,rfl,CC,g⟩ | ⟨cc,aa,r4,rfl,g⟩
   rotate_left
   · exact ⟨rfl,Out.bad (by unfold uniP; (first | rw [r1] | exact r1); try rw [bindOk]; rw [if_neg H16.out]; rw [r2,bindOk]; rw [if_pos HFn.out]; (first | rw [r3] | exact r3); try rw [bindOk]; (first | (rw [r4]; done) | (rw [r4]; rfl) | exact r4)) (gtr G3.out g)⟩
   have A4 : Hid (w4.heap[w.heap.size]? = some (.cells #[pR R] 46)) := keptBut g A3.out (by have := Z5.out; omega)
   have B4 : Hid (w4.heap[w.heap.size + 1]? = some (.cells #[.int .i64 0,.string ⟨#[]⟩,.int .i64 0,.slice none 0 0,.slice none 0 0,.int .i64 0] 33)) := keptBut g B3.out (by have := Z5.out; omega)
   have T4 : Hid (w4.heap[w1.heap.size]? = some (.cells #[.int .i64 k.c,.string k.x,.int .i64 k.n,.int .i64 k.a,.int .i64 k.e,.int .i64 k.f] 73)) := keptBut g T3.out (by have := Z5.out; omega)
   have U4 : Hid (w4.heap[q]? = some (.cells #[.int .i64 (uniS k.x),.string m.x,.int .i64 0,.slice none 0 0,.slice none 0 0,.int .i64 k.a] 33)) := keptBut g U3.out (by have := Z5.out; omega)
   have G4 := hidI (gtr G3.out g)
   have C4 := hidI CC
   have S4 : Hid (w3.heap.size + 0 ≤ w4.heap.size) := hidI (by have := g.size; first | omega | (simp at this; omega) | (simp at this ⊢; omega))
   have Z6 := hidI (And.intro HR.out (And.intro HQ.out (And.intro S1.out (And.intro S2.out (And.intro S3.out S4.out)))))
   clear g CC h ap aq ar af ag ah up uq ur uf ug uh tp tq tr tf tg th
   obtain ⟨ap,aq,ar,af,ag,ah⟩ := facts A4.out
   obtain ⟨up,uq,ur,uf,ug,uh⟩ := facts U4.out
   obtain ⟨tp,tq,tr,tf,tg,th⟩ := facts T4.out
   go_wp2_with fail
   refine (heads_any _ _ (C4.out.set (by have := Z6.out; omega) (by have := Z6.out; omega) _ _)).mono ?_
   intro e w5 h
   rcases h.get with ⟨vl,t5,v5,r5,rfl,hv,CC,g⟩ | ⟨cc,aa,r5,rfl,g⟩
   rotate_left
   · exact ⟨rfl,Out.bad (by unfold uniP; (first | rw [r1] | exact r1); try rw [bindOk]; rw [if_neg H16.out]; rw [r2,bindOk]; rw [if_pos HFn.out]; (first | rw [r3] | exact r3); try rw [bindOk]; (first | rw [r4] | exact r4); try rw [bindOk]; (first | (rw [r5]; done) | (rw [r5]; rfl) | exact r5)) (gtr (gr_ow2 G4.out (by have := Z6.out; omega) _ _) g)⟩
   obtain ⟨va,vc,rfl⟩ := hv.sl
   have X5 := hidI (hv.tag w4.heap.size (by simp))
   clear hv
   have A5 : Hid (w5.heap[w.heap.size]? = some (.cells #[pR R] 46)) := keptBut g (keepS A4.out (by have := Z6.out; omega)) (by have := Z6.out; omega)
   have B5 : Hid (w5.heap[w.heap.size + 1]? = some (.cells #[.int .i64 0,.string ⟨#[]⟩,.int .i64 0,.slice none 0 0,.slice none 0 0,.int .i64 0] 33)) := keptBut g (keepS B4.out (by have := Z6.out; omega)) (by have := Z6.out; omega)
   have T5 : Hid (w5.heap[w1.heap.size]? = some (.cells #[.int .i64 k.c,.string k.x,.int .i64 k.n,.int .i64 k.a,.int .i64 k.e,.int .i64 k.f] 73)) := keptBut g (keepS T4.out (by have := Z6.out; omega)) (by have := Z6.out; omega)
   have U5 : Hid (w5.heap[q]? = some (.cells #[.int .i64 (uniS k.x),.string m.x,.int .i64 kk,.slice none 0 0,.slice none 0 0,.int .i64 k.a] 33)) := keptBut g (by simpa using (at_set U4.out 2 (.int .i64 kk))) (by have := Z6.out; omega)
   have G5 := hidI (gtr (gr_ow2 G4.out (by have := Z6.out; omega) _ _) g)
   have C5 := hidI CC
   have S5 : Hid (w4.heap.size + 0 ≤ w5.heap.size) := hidI (by have := g.size; first | omega | (simp at this; omega) | (simp at this ⊢; omega))
   have Z7 := hidI (And.intro HR.out (And.intro HQ.out (And.intro S1.out (And.intro S2.out (And.intro S3.out (And.intro S4.out S5.out))))))
   clear g CC h ap aq ar af ag ah up uq ur uf ug uh tp tq tr tf tg th
   obtain ⟨ap,aq,ar,af,ag,ah⟩ := facts A5.out
   obtain ⟨up,uq,ur,uf,ug,uh⟩ := facts U5.out
   obtain ⟨tp,tq,tr,tf,tg,th⟩ := facts T5.out
   go_wp2_with fail
   refine (list_any HS.out 40 (by omega) _ _ 1 (by omega) (C5.out.set (by have := Z7.out; omega) (by have := Z7.out; omega) _ _)).mono ?_
   intro e w6 h
   rcases h.get with ⟨bl,t6,v6,r6,rfl,hv,CC,g⟩ | ⟨cc,aa,r6,rfl,g⟩
   rotate_left
   · exact ⟨rfl,Out.bad (by unfold uniP; (first | rw [r1] | exact r1); try rw [bindOk]; rw [if_neg H16.out]; rw [r2,bindOk]; rw [if_pos HFn.out]; (first | rw [r3] | exact r3); try rw [bindOk]; (first | rw [r4] | exact r4); try rw [bindOk]; (first | rw [r5] | exact r5); try rw [bindOk]; (first | (rw [r6]; done) | (rw [r6]; rfl) | exact r6)) (gtr (gr_ow2 G5.out (by have := Z7.out; omega) _ _) g)⟩
   obtain ⟨ba,bc,rfl⟩ := hv.sl
   have Y6 := hidI (hv.tag w5.heap.size (by simp))
   clear hv
   have A6 : Hid (w6.heap[w.heap.size]? = some (.cells #[pR R] 46)) := keptBut g (keepS A5.out (by have := Z7.out; omega)) (by have := Z7.out; omega)
   have B6 : Hid (w6.heap[w.heap.size + 1]? = some (.cells #[.int .i64 0,.string ⟨#[]⟩,.int .i64 0,.slice none 0 0,.slice none 0 0,.int .i64 0] 33)) := keptBut g (keepS B5.out (by have := Z7.out; omega)) (by have := Z7.out; omega)
   have T6 : Hid (w6.heap[w1.heap.size]? = some (.cells #[.int .i64 k.c,.string k.x,.int .i64 k.n,.int .i64 k.a,.int .i64 k.e,.int .i64 k.f] 73)) := keptBut g (keepS T5.out (by have := Z7.out; omega)) (by have := Z7.out; omega)
   have U6 : Hid (w6.heap[q]? = some (.cells #[.int .i64 (uniS k.x),.string m.x,.int .i64 kk,.slice va vl.length vc,.slice none 0 0,.int .i64 k.a] 33)) := keptBut g (by simpa using (at_set U5.out 3 (.slice va vl.length vc))) (by have := Z7.out; omega)
   have G6 := hidI (gtr (gr_ow2 G5.out (by have := Z7.out; omega) _ _) g)
   have C6 := hidI CC
   have S6 : Hid (w5.heap.size + 0 ≤ w6.heap.size) := hidI (by have := g.size; first | omega | (simp at this; omega) | (simp at this ⊢; omega))
   have Z8 := hidI (And.intro HR.out (And.intro HQ.out (And.intro S1.out (And.intro S2.out (And.intro S3.out (And.intro S4.out (And.intro S5.out S6.out)))))))
   have X6 := hidI ((Li.g (Li.g X5.out (gr_set (World.grownBy.refl _ _) _ _) (fun b hb => by obtain ⟨h1,h2⟩ := hb; have := Z7.out; omega)) g (fun b hb => by obtain ⟨h1,h2⟩ := hb; have := Z7.out; omega)))
   clear g CC h ap aq ar af ag ah up uq ur uf ug uh tp tq tr tf tg th
   obtain ⟨ap,aq,ar,af,ag,ah⟩ := facts A6.out
   obtain ⟨up,uq,ur,uf,ug,uh⟩ := facts U6.out
   obtain ⟨tp,tq,tr,tf,tg,th⟩ := facts T6.out
   go_wp2_with fail
   refine (needW (C6.out.set (by have := Z8.out; omega) (by have := Z8.out; omega) _ _) _ [(⟨#[101,110,100,95]⟩ : ByteArray) ++ k.x] _ _ _ (by simp) rfl rfl (by simp)).mono ?_
   intro e w7 h
   rcases h.get with ⟨_,t7,v7,r7,rfl,rfl,CC,g⟩ | ⟨cc,aa,r7,rfl,g⟩
   rotate_left
   · exact ⟨rfl,Out.bad (by unfold uniP; (first | rw [r1] | exact r1); try rw [bindOk]; rw [if_neg H16.out]; rw [r2,bindOk]; rw [if_pos HFn.out]; (first | rw [r3] | exact r3); try rw [bindOk]; (first | rw [r4] | exact r4); try rw [bindOk]; (first | rw [r5] | exact r5); try rw [bindOk]; (first | rw [r6] | exact r6); try rw [bindOk]; (first | (rw [r7]; done) | (rw [r7]; rfl) | exact r7)) (gtr (gr_alloc (gr_ow2 G6.out (by have := Z8.out; omega) _ _) _) g)⟩
   have A7 : Hid (w7.heap[w.heap.size]? = some (.cells #[pR R] 46)) := keptBut g (old (keepS A6.out (by have := Z8.out; omega)) _) (by have := Z8.out; omega)
   have B7 : Hid (w7.heap[w.heap.size + 1]? = some (.cells #[.int .i64 0,.string ⟨#[]⟩,.int .i64 0,.slice none 0 0,.slice none 0 0,.int .i64 0] 33)) := keptBut g (old (keepS B6.out (by have := Z8.out; omega)) _) (by have := Z8.out; omega)
   have T7 : Hid (w7.heap[w1.heap.size]? = some (.cells #[.int .i64 k.c,.string k.x,.int .i64 k.n,.int .i64 k.a,.int .i64 k.e,.int .i64 k.f] 73)) := keptBut g (old (keepS T6.out (by have := Z8.out; omega)) _) (by have := Z8.out; omega)
   have U7 : Hid (w7.heap[q]? = some (.cells #[.int .i64 (uniS k.x),.string m.x,.int .i64 kk,.slice va vl.length vc,.slice ba bl.length bc,.int .i64 k.a] 33)) := keptBut g (by simpa using (old (at_set U6.out 4 (.slice ba bl.length bc)) _)) (by have := Z8.out; omega)
   have G7 := hidI (gtr (gr_alloc (gr_ow2 G6.out (by have := Z8.out; omega) _ _) _) g)
   have C7 := hidI CC
   have S7 : Hid (w6.heap.size + 1 ≤ w7.heap.size) := hidI (by have := g.size; first | omega | (simp at this; omega) | (simp at this ⊢; omega))
   have Z9 := hidI (And.intro HR.out (And.intro HQ.out (And.intro S1.out (And.intro S2.out (And.intro S3.out (And.intro S4.out (And.intro S5.out (And.intro S6.out S7.out))))))))
   have X7 := hidI ((Li.g (Li.al (Li.g X6.out (gr_set (World.grownBy.refl _ _) _ _) (fun b hb => by obtain ⟨h1,h2⟩ := hb; have := Z8.out; omega)) _) g (fun b hb => by obtain ⟨h1,h2⟩ := hb; have := Z8.out; omega)))
   have Y7 := hidI ((Li.g (Li.al (Li.g Y6.out (gr_set (World.grownBy.refl _ _) _ _) (fun b hb => by obtain ⟨h1,h2⟩ := hb; have := Z8.out; omega)) _) g (fun b hb => by obtain ⟨h1,h2⟩ := hb; have := Z8.out; omega)))
   clear g CC h ap aq ar af ag ah up uq ur uf ug uh tp tq tr tf tg th
   obtain ⟨ap,aq,ar,af,ag,ah⟩ := facts A7.out
   obtain ⟨bp,bq,br,bf,bg,bh⟩ := facts B7.out
   obtain ⟨up,uq,ur,uf,ug,uh⟩ := facts U7.out
   go_wp2_with fail
   have hP : uniP F (s.size + 2) whole t = .ok (⟨uniS k.x,m.x,kk,vl,bl,k.a⟩) (t7) := by unfold uniP; (first | rw [r1] | exact r1); try rw [bindOk]; rw [if_neg H16.out]; rw [r2,bindOk]; rw [if_pos HFn.out]; (first | rw [r3] | exact r3); try rw [bindOk]; (first | rw [r4] | exact r4); try rw [bindOk]; (first | rw [r5] | exact r5); try rw [bindOk]; (first | rw [r6] | exact r6); try rw [bindOk]; (first | rw [r7] | exact r7); try rw [bindOk]
   refine bodyPost_ret (resBox rfl _ _ (w.heap.size + 1) _ rfl (ld33 (box6 B7.out))) rfl (Out.ok hP ?_ ?_ ?_)
   · exact ⟨(.slice va vl.length vc,.slice ba bl.length bc),rfl,(Li.imp2 (Li.g X7.out (gr6 (World.grownBy.refl _ _)) (fun b hb => by obtain ⟨h1,h2⟩ := hb; have := Z9.out; omega)) (fun b _ hb => (by obtain ⟨h1,h2⟩ := hb; have := Z9.out; omega : w.heap.size ≤ b))),(Li.imp2 (Li.g Y7.out (gr6 (World.grownBy.refl _ _)) (fun b hb => by obtain ⟨h1,h2⟩ := hb; have := Z9.out; omega)) (fun b _ hb => (by obtain ⟨h1,h2⟩ := hb; have := Z9.out; omega : w.heap.size ≤ b)))⟩
   · exact C7.out.gq (gr6 (World.grownBy.refl _ _)) (by have := Z9.out; omega) (by have := Z9.out; omega)
   · exact gr6o G7.out (by have := Z9.out; omega)
 have hf' : (uniS k.x == 2) = false := by simpa using hf
 have HFn := hidI hf
 clear hf
 go_wp2_with fail
 refine (heads_any _ _ C2.out).mono ?_
 intro e w3 h
 rcases h.get with ⟨vl,t3,v3,r3,rfl,hv,CC,g⟩ | ⟨cc,aa,r3,rfl,g⟩
 rotate_left
 · exact ⟨rfl,Out.bad (by unfold uniP; (first | rw [r1] | exact r1); try rw [bindOk]; rw [if_neg H16.out]; rw [r2,bindOk]; rw [if_neg HFn.out,bindOk]; (first | (rw [r3]; done) | (rw [r3]; rfl) | exact r3)) (gtr G2.out g)⟩
 obtain ⟨va,vc,rfl⟩ := hv.sl
 have X3 := hidI (hv.tag w2.heap.size (by simp))
 clear hv
 have A3 : Hid (w3.heap[w.heap.size]? = some (.cells #[pR R] 46)) := keptBut g A2.out (by have := Z4.out; omega)
 have B3 : Hid (w3.heap[w.heap.size + 1]? = some (.cells #[.int .i64 0,.string ⟨#[]⟩,.int .i64 0,.slice none 0 0,.slice none 0 0,.int .i64 0] 33)) := keptBut g B2.out (by have := Z4.out; omega)
 have T3 : Hid (w3.heap[w1.heap.size]? = some (.cells #[.int .i64 k.c,.string k.x,.int .i64 k.n,.int .i64 k.a,.int .i64 k.e,.int .i64 k.f] 73)) := keptBut g T2.out (by have := Z4.out; omega)
 have U3 : Hid (w3.heap[q]? = some (.cells #[.int .i64 (uniS k.x),.string m.x,.int .i64 0,.slice none 0 0,.slice none 0 0,.int .i64 k.a] 33)) := keptBut g U2.out (by have := Z4.out; omega)
 have G3 := hidI (gtr G2.out g)
 have C3 := hidI CC
 have S3 : Hid (w2.heap.size + 0 ≤ w3.heap.size) := hidI (by have := g.size; first | omega | (simp at this; omega) | (simp at this ⊢; omega))
 have Z10 := hidI (And.intro HR.out (And.intro HQ.out (And.intro S1.out (And.intro S2.out S3.out))))
 clear g CC h ap aq ar af ag ah up uq ur uf ug uh tp tq tr tf tg th
 obtain ⟨ap,aq,ar,af,ag,ah⟩ := facts A3.out
 obtain ⟨up,uq,ur,uf,ug,uh⟩ := facts U3.out
 obtain ⟨tp,tq,tr,tf,tg,th⟩ := facts T3.out
 go_wp2_with fail
 refine (list_any HS.out 40 (by omega) _ _ 1 (by omega) (C3.out.set (by have := Z10.out; omega) (by have := Z10.out; omega) _ _)).mono ?_
 intro e w4 h
 rcases h.get with ⟨bl,t4,v4,r4,rfl,hv,CC,g⟩ | ⟨cc,aa,r4,rfl,g⟩
 rotate_left
 · exact ⟨rfl,Out.bad (by unfold uniP; (first | rw [r1] | exact r1); try rw [bindOk]; rw [if_neg H16.out]; rw [r2,bindOk]; rw [if_neg HFn.out,bindOk]; (first | rw [r3] | exact r3); try rw [bindOk]; (first | (rw [r4]; done) | (rw [r4]; rfl) | exact r4)) (gtr (gr_ow2 G3.out (by have := Z10.out; omega) _ _) g)⟩
 obtain ⟨ba,bc,rfl⟩ := hv.sl
 have Y4 := hidI (hv.tag w3.heap.size (by simp))
 clear hv
 have A4 : Hid (w4.heap[w.heap.size]? = some (.cells #[pR R] 46)) := keptBut g (keepS A3.out (by have := Z10.out; omega)) (by have := Z10.out; omega)
 have B4 : Hid (w4.heap[w.heap.size + 1]? = some (.cells #[.int .i64 0,.string ⟨#[]⟩,.int .i64 0,.slice none 0 0,.slice none 0 0,.int .i64 0] 33)) := keptBut g (keepS B3.out (by have := Z10.out; omega)) (by have := Z10.out; omega)
 have T4 : Hid (w4.heap[w1.heap.size]? = some (.cells #[.int .i64 k.c,.string k.x,.int .i64 k.n,.int .i64 k.a,.int .i64 k.e,.int .i64 k.f] 73)) := keptBut g (keepS T3.out (by have := Z10.out; omega)) (by have := Z10.out; omega)
 have U4 : Hid (w4.heap[q]? = some (.cells #[.int .i64 (uniS k.x),.string m.x,.int .i64 0,.slice va vl.length vc,.slice none 0 0,.int .i64 k.a] 33)) := keptBut g (by simpa using (at_set U3.out 3 (.slice va vl.length vc))) (by have := Z10.out; omega)
 have G4 := hidI (gtr (gr_ow2 G3.out (by have := Z10.out; omega) _ _) g)
 have C4 := hidI CC
 have S4 : Hid (w3.heap.size + 0 ≤ w4.heap.size) := hidI (by have := g.size; first | omega | (simp at this; omega) | (simp at this ⊢; omega))
 have Z11 := hidI (And.intro HR.out (And.intro HQ.out (And.intro S1.out (And.intro S2.out (And.intro S3.out S4.out)))))
 have X4 := hidI ((Li.g (Li.g X3.out (gr_set (World.grownBy.refl _ _) _ _) (fun b hb => by obtain ⟨h1,h2⟩ := hb; have := Z10.out; omega)) g (fun b hb => by obtain ⟨h1,h2⟩ := hb; have := Z10.out; omega)))
 clear g CC h ap aq ar af ag ah up uq ur uf ug uh tp tq tr tf tg th
 obtain ⟨ap,aq,ar,af,ag,ah⟩ := facts A4.out
 obtain ⟨up,uq,ur,uf,ug,uh⟩ := facts U4.out
 obtain ⟨tp,tq,tr,tf,tg,th⟩ := facts T4.out
 go_wp2_with fail
 refine (needW (C4.out.set (by have := Z11.out; omega) (by have := Z11.out; omega) _ _) _ [(⟨#[101,110,100,95]⟩ : ByteArray) ++ k.x] _ _ _ (by simp) rfl rfl (by simp)).mono ?_
 intro e w5 h
 rcases h.get with ⟨_,t5,v5,r5,rfl,rfl,CC,g⟩ | ⟨cc,aa,r5,rfl,g⟩
 rotate_left
 · exact ⟨rfl,Out.bad (by unfold uniP; (first | rw [r1] | exact r1); try rw [bindOk]; rw [if_neg H16.out]; rw [r2,bindOk]; rw [if_neg HFn.out,bindOk]; (first | rw [r3] | exact r3); try rw [bindOk]; (first | rw [r4] | exact r4); try rw [bindOk]; (first | (rw [r5]; done) | (rw [r5]; rfl) | exact r5)) (gtr (gr_alloc (gr_ow2 G4.out (by have := Z11.out; omega) _ _) _) g)⟩
 have A5 : Hid (w5.heap[w.heap.size]? = some (.cells #[pR R] 46)) := keptBut g (old (keepS A4.out (by have := Z11.out; omega)) _) (by have := Z11.out; omega)
 have B5 : Hid (w5.heap[w.heap.size + 1]? = some (.cells #[.int .i64 0,.string ⟨#[]⟩,.int .i64 0,.slice none 0 0,.slice none 0 0,.int .i64 0] 33)) := keptBut g (old (keepS B4.out (by have := Z11.out; omega)) _) (by have := Z11.out; omega)
 have T5 : Hid (w5.heap[w1.heap.size]? = some (.cells #[.int .i64 k.c,.string k.x,.int .i64 k.n,.int .i64 k.a,.int .i64 k.e,.int .i64 k.f] 73)) := keptBut g (old (keepS T4.out (by have := Z11.out; omega)) _) (by have := Z11.out; omega)
 have U5 : Hid (w5.heap[q]? = some (.cells #[.int .i64 (uniS k.x),.string m.x,.int .i64 0,.slice va vl.length vc,.slice ba bl.length bc,.int .i64 k.a] 33)) := keptBut g (by simpa using (old (at_set U4.out 4 (.slice ba bl.length bc)) _)) (by have := Z11.out; omega)
 have G5 := hidI (gtr (gr_alloc (gr_ow2 G4.out (by have := Z11.out; omega) _ _) _) g)
 have C5 := hidI CC
 have S5 : Hid (w4.heap.size + 1 ≤ w5.heap.size) := hidI (by have := g.size; first | omega | (simp at this; omega) | (simp at this ⊢; omega))
 have Z12 := hidI (And.intro HR.out (And.intro HQ.out (And.intro S1.out (And.intro S2.out (And.intro S3.out (And.intro S4.out S5.out))))))
 have X5 := hidI ((Li.g (Li.al (Li.g X4.out (gr_set (World.grownBy.refl _ _) _ _) (fun b hb => by obtain ⟨h1,h2⟩ := hb; have := Z11.out; omega)) _) g (fun b hb => by obtain ⟨h1,h2⟩ := hb; have := Z11.out; omega)))
 have Y5 := hidI ((Li.g (Li.al (Li.g Y4.out (gr_set (World.grownBy.refl _ _) _ _) (fun b hb => by obtain ⟨h1,h2⟩ := hb; have := Z11.out; omega)) _) g (fun b hb => by obtain ⟨h1,h2⟩ := hb; have := Z11.out; omega)))
 clear g CC h ap aq ar af ag ah up uq ur uf ug uh tp tq tr tf tg th
 obtain ⟨ap,aq,ar,af,ag,ah⟩ := facts A5.out
 obtain ⟨bp,bq,br,bf,bg,bh⟩ := facts B5.out
 obtain ⟨up,uq,ur,uf,ug,uh⟩ := facts U5.out
 go_wp2_with fail
 have hP : uniP F (s.size + 2) whole t = .ok (⟨uniS k.x,m.x,0,vl,bl,k.a⟩) (t5) := by unfold uniP; (first | rw [r1] | exact r1); try rw [bindOk]; rw [if_neg H16.out]; rw [r2,bindOk]; rw [if_neg HFn.out,bindOk]; (first | rw [r3] | exact r3); try rw [bindOk]; (first | rw [r4] | exact r4); try rw [bindOk]; (first | rw [r5] | exact r5); try rw [bindOk]
 refine bodyPost_ret (resBox rfl _ _ (w.heap.size + 1) _ rfl (ld33 (box6 B5.out))) rfl (Out.ok hP ?_ ?_ ?_)
 · exact ⟨(.slice va vl.length vc,.slice ba bl.length bc),rfl,(Li.imp2 (Li.g X5.out (gr6 (World.grownBy.refl _ _)) (fun b hb => by obtain ⟨h1,h2⟩ := hb; have := Z12.out; omega)) (fun b _ hb => (by obtain ⟨h1,h2⟩ := hb; have := Z12.out; omega : w.heap.size ≤ b))),(Li.imp2 (Li.g Y5.out (gr6 (World.grownBy.refl _ _)) (fun b hb => by obtain ⟨h1,h2⟩ := hb; have := Z12.out; omega)) (fun b _ hb => (by obtain ⟨h1,h2⟩ := hb; have := Z12.out; omega : w.heap.size ≤ b)))⟩
 · exact C5.out.gq (gr6 (World.grownBy.refl _ _)) (by have := Z12.out; omega) (by have := Z12.out; omega)
 · exact gr6o G5.out (by have := Z12.out; omega)
end
end Go.Proofs.YtdcoidmbainkmaaGreatDoor
