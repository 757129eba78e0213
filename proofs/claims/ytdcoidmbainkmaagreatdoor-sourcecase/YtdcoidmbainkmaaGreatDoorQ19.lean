/- Texts put together: Rn, Ro, Rp, Rq. -/
import Derived.Test.YtdcoidmbainkmaaGreatDoorQ13
import Derived.Test.YtdcoidmbainkmaaGreatDoorQ08
namespace Go.Proofs.YtdcoidmbainkmaaGreatDoor
open Go.RowKit
attribute [local go_sem ↓] Go.wp_at_zero Go.wp_at_succ
set_option linter.unusedVariables false
set_option linter.unusedSimpArgs false
theorem kindW {V w : World} (hT : Tabs V) (hV : Vs V w) (t : Tok) (hm : mem [⟨#[98,111,111,108]⟩,⟨#[105,110,116]⟩,⟨#[100,105,110,116]⟩,⟨#[119,111,114,100]⟩,⟨#[116,105,109,101]⟩] t = true) : Calls Tryz.prog 67 #[.string t.x] w fun e w' => e = .returned (.int .i64 (kinS t.x)) ∧ w = w' := by
 have h : t.x = ⟨#[98,111,111,108]⟩ ∨ t.x = ⟨#[105,110,116]⟩ ∨ t.x = ⟨#[100,105,110,116]⟩ ∨ t.x = ⟨#[119,111,114,100]⟩ ∨ t.x = ⟨#[116,105,109,101]⟩ := by simp [mem] at hm; simpa using hm.2
 rcases h with h | h | h | h | h
 · rw [h]; exact kind_1 hT hV
 · rw [h]; exact kind_2 hT hV
 · rw [h]; exact kind_3 hT hV
 · rw [h]; exact kind_4 hT hV
 · rw [h]; exact kind_5 hT hV
theorem roleW {V w : World} (hT : Tabs V) (hV : Vs V w) (t : Tok) (hm : mem [⟨#[118,97,114]⟩,⟨#[118,97,114,95,105,110,112,117,116]⟩,⟨#[118,97,114,95,111,117,116,112,117,116]⟩,⟨#[118,97,114,95,101,120,116,101,114,110,97,108]⟩] t = true) : Calls Tryz.prog 108 #[.string t.x] w fun e w' => e = .returned (.int .i64 (rolS t.x)) ∧ w = w' := by
 have h : t.x = ⟨#[118,97,114]⟩ ∨ t.x = ⟨#[118,97,114,95,105,110,112,117,116]⟩ ∨ t.x = ⟨#[118,97,114,95,111,117,116,112,117,116]⟩ ∨ t.x = ⟨#[118,97,114,95,101,120,116,101,114,110,97,108]⟩ := by simp [mem] at hm; simpa using hm.2
 rcases h with h | h | h | h
 · rw [h]; exact role_1 hT hV
 · rw [h]; exact role_2 hT hV
 · rw [h]; exact role_3 hT hV
 · rw [h]; exact role_4 hT hV
theorem unitW {V w : World} (hT : Tabs V) (hV : Vs V w) (t : Tok) (hm : mem [⟨#[112,114,111,103,114,97,109]⟩,⟨#[102,117,110,99,116,105,111,110]⟩,⟨#[102,117,110,99,116,105,111,110,95,98,108,111,99,107]⟩] t = true) : Calls Tryz.prog 43 #[.string t.x] w fun e w' => e = .returned (.int .i64 (uniS t.x)) ∧ w = w' := by
 have h : t.x = ⟨#[112,114,111,103,114,97,109]⟩ ∨ t.x = ⟨#[102,117,110,99,116,105,111,110]⟩ ∨ t.x = ⟨#[102,117,110,99,116,105,111,110,95,98,108,111,99,107]⟩ := by simp [mem] at hm; simpa using hm.2
 rcases h with h | h | h
 · rw [h]; exact unit_1 hT hV
 · rw [h]; exact unit_2 hT hV
 · rw [h]; exact unit_3 hT hV
theorem need_mem {F : Int → Tok} {ws : List ByteArray} {t k u : Tok} (h : needP F ws t = .ok k u) : k = t ∧ mem ws t = true := by
 rw [needP] at h
 split at h
 · cases h
 split at h
 · rename_i hm; injection h with h1 h2; exact ⟨h1.symm,hm⟩
 · cases h
section
variable {V : World} {F : Int → Tok} {R : Nat} {s : ByteArray} {u : Int}
set_option maxRecDepth 10000 in
set_option maxHeartbeats 1000000 in
theorem kind_any {w : World} {t : Tok} (C : Cx V F R s u w t) : Calls Tryz.prog 45 #[rV R] w (Out V F R s u w (kinP F t) (isV (.int .i64))) := by
 have HC : Hid (Cx V F R s u w t) := C
 have C0 := HC
 have G0 : Hid (w.grownBy w (some R)) := World.grownBy.refl _ _
 have HR : Hid (R < w.heap.size ∧ 15 ≤ w.heap.size ∧ 15 ≤ R) := ⟨C.lt,C.sz,C.r15⟩
 clear C
 go_enter Tryz.func45,Tryz.ntmps45
 go_wp2_with fail
 refine (needW (C0.out.al _) _ [⟨#[98,111,111,108]⟩,⟨#[105,110,116]⟩,⟨#[100,105,110,116]⟩,⟨#[119,111,114,100]⟩,⟨#[116,105,109,101]⟩] _ _ _ (by simp) rfl rfl (by decide)).mono ?_
 intro e w1 h
 rcases h.get with ⟨k,t1,v1,r1,rfl,rfl,CC,g⟩ | ⟨cc,aa,r1,rfl,g⟩
 rotate_left
 · exact ⟨rfl,Out.bad (by rw [kinP]; (first | (rw [r1]; done) | (rw [r1]; rfl) | exact r1)) (gtr (gr_alloc (gr_alloc G0.out _) _) g)⟩
 have A1 : Hid (w1.heap[w.heap.size]? = some (.cells #[pR R] 46)) := keptBut g (old (hp_new (by first | rfl | simp) _) _) (by have := HR.out; omega)
 have G1 := hidI (gtr (gr_alloc (gr_alloc G0.out _) _) g)
 have C1 := hidI CC
 have S1 : Hid (w.heap.size + 2 ≤ w1.heap.size) := hidI (by have := g.size; first | omega | (simp at this; omega) | (simp at this ⊢; omega))
 clear g CC h
 obtain ⟨rfl,hm⟩ := need_mem r1
 have hX := fldX k
 have cK := kindW C1.out.tb C1.out.vs k hm
 clear hm
 go_wp2_with fail
 refine cK.mono ?_
 rintro e w2 ⟨rfl,rfl⟩
 go_wp2_with fail
 go_ret
 exact Out.ok (by rw [kinP]; (first | rw [r1] | exact r1); try rw [bindOk]) rfl C1.out G1.out
set_option maxRecDepth 10000 in
set_option maxHeartbeats 1000000 in
theorem role_any {w : World} {t : Tok} (C : Cx V F R s u w t) (h0 : t.c ≠ 0) (hm : mem [⟨#[118,97,114]⟩,⟨#[118,97,114,95,105,110,112,117,116]⟩,⟨#[118,97,114,95,111,117,116,112,117,116]⟩,⟨#[118,97,114,95,101,120,116,101,114,110,97,108]⟩] t = true) : Calls Tryz.prog 68 #[rV R] w (Out V F R s u w (rolP F t) (isV (.int .i64))) := by
 have HM := hidI hm
 clear hm
 have HC : Hid (Cx V F R s u w t) := C
 have C0 := HC
 have G0 : Hid (w.grownBy w (some R)) := World.grownBy.refl _ _
 have HR : Hid (R < w.heap.size ∧ 15 ≤ w.heap.size ∧ 15 ≤ R) := ⟨C.lt,C.sz,C.r15⟩
 clear C
 go_enter Tryz.func68,Tryz.ntmps68
 go_wp2_with fail
 refine (takeK (C0.out.al _) h0).mono ?_
 rintro e w1 ⟨⟨v,rfl,rfl⟩,CC,g⟩
 have A1 : Hid (w1.heap[w.heap.size]? = some (.cells #[pR R] 46)) := keptBut g (hp_new (by first | rfl | simp) _) (by have := HR.out; omega)
 have G1 := hidI (gtr (gr_alloc G0.out _) g)
 have C1 := hidI CC
 have S1 : Hid (w.heap.size + 1 ≤ w1.heap.size) := hidI (by have := g.size; first | omega | (simp at this; omega) | (simp at this ⊢; omega))
 clear g CC
 have hX := fldX t
 have cK := roleW C1.out.tb C1.out.vs t HM.out
 obtain ⟨ap,aq,ar,af,ag,ah⟩ := facts A1.out
 go_wp2_with fail
 refine cK.mono ?_
 rintro e w2 ⟨rfl,rfl⟩
 by_cases h1 : rolS t.x = 1
 · have H1 := hidI h1
   rw [h1]
   clear h1 cK
   go_wp2_with fail
   refine (tookW C1.out _ [⟨#[114,101,116,97,105,110]⟩] _ _ _ (by simp) rfl rfl (by decide)).mono ?_
   intro e w2 h
   rcases h.get with ⟨b2,t2,v2,r2,rfl,rfl,CC,g⟩ | ⟨cc,aa,r2,rfl,g⟩
   rotate_left
   · exact ⟨rfl,Out.bad (by rw [rolP,takeP,if_neg h0,bindOk]; rw [if_pos H1.out]; (first | (rw [r2]; done) | (rw [r2]; rfl) | exact r2)) (gtr (gr_alloc G1.out _) g)⟩
   have A2 : Hid (w2.heap[w.heap.size]? = some (.cells #[pR R] 46)) := keptBut g (old A1.out _) (by have := HR.out; have := S1.out; omega)
   have G2 := hidI (gtr (gr_alloc G1.out _) g)
   have C2 := hidI CC
   have S2 : Hid (w1.heap.size + 1 ≤ w2.heap.size) := hidI (by have := g.size; first | omega | (simp at this; omega) | (simp at this ⊢; omega))
   clear g CC h ap aq ar af ag ah
   cases b2
   · go_wp2_with fail
     go_ret
     exact Out.ok (by rw [rolP,takeP,if_neg h0,bindOk]; rw [if_pos H1.out]; (first | rw [r2] | exact r2); try rw [bindOk]; rfl) rfl C2.out G2.out
   · go_wp2_with fail
     go_ret
     exact Out.ok (by rw [rolP,takeP,if_neg h0,bindOk]; rw [if_pos H1.out]; (first | rw [r2] | exact r2); try rw [bindOk]; rfl) rfl C2.out G2.out
 have h1' : (rolS t.x == 1) = false := by simpa using h1
 have H1 := hidI h1
 clear h1 cK
 go_wp2_with fail
 go_ret
 exact Out.ok (by rw [rolP,takeP,if_neg h0,bindOk]; rw [if_neg H1.out]) rfl C1.out G1.out
end
end Go.Proofs.YtdcoidmbainkmaaGreatDoor

namespace Go.Proofs.YtdcoidmbainkmaaGreatDoor
open Go.RowKit
set_option linter.unusedVariables false
set_option linter.unusedSimpArgs false
def vC (p : PV) (k : Value) : List Value := [.string p.name,.int .i64 p.role,.int .i64 p.kind,.string p.of,.int .i64 p.low,.int .i64 p.len] ++ xC p.init k ++ [.int .i64 p.at']
def kdV : Kd PV Value := ⟨vC,fun _ _ p k => p.init.kids = [] ∧ ∃ a c,k = .slice a 0 c,fun h _ _ => h,fun h _ => h⟩
theorem vC_len (p : PV) (k : Value) : (vC p k).length = 15 := by
 obtain ⟨_,_,_,_,_,_,⟨_,_,_,_,_,_,_,_⟩,_⟩ := p; rfl
theorem el30 : El 30 63 15 := ⟨Tryz.underlying30,by
 obtain ⟨i,h1,h2,h3,h4⟩ := info_parts (P := Tryz.prog) (e := 63) (z := some (.agg #[.string ⟨#[]⟩,.int .i64 0,.int .i64 0,.string ⟨#[]⟩,.int .i64 0,.int .i64 0,.int .i64 0,.int .i64 0,.int .i64 0,.int .i64 0,.string ⟨#[]⟩,.string ⟨#[]⟩,.int .i64 0,.slice none 0 0,.int .i64 0])) (n := 15) (m := 168) (by kernel_rfl)
 exact ⟨i,_,h1,h2,h3,by omega,rfl,by omega⟩⟩
theorem Gv.g {w w' : World} {B q : Nat} {v : Value} {l : List PV} (h : Gl kdV 63 15 w B v l) (hg : w.grownBy w' (some q)) (hq : v.ownBlock ≠ some q) : Gl kdV 63 15 w' B v l := by
 obtain ⟨ks,h1,h2,h3⟩ := h
 exact ⟨ks,h1,own_g h2 hg hq,h3⟩
theorem own_set {w : World} {B T sz n g c k : Nat} {x : Value} {xs : List Value} (h : w.ownsRow B T sz (.slice (some ⟨g,0,none⟩) n c) n xs) (hx : x.oneCell' = true) (hk : k < n * sz) : (w.setCell ⟨g,k,none⟩ x).ownsRow B T sz (.slice (some ⟨g,0,none⟩) n c) n (xs.set k x) := by
 obtain ⟨hl,⟨hv,hn⟩ | ⟨g',cap,cur,hv,hb,hh,h1,h2,h3,h4⟩⟩ := h
 · cases hv
 · injection hv with hv1 hv2 hv3; injection hv1 with hv1; injection hv1 with hv1; subst hv1
   refine ⟨by simp [hl],Or.inr ⟨g,cap,cur.setIfInBounds k x,by rw [← hv3],hb,at_set hh k x,h1,h2,by simp [h3],?_⟩⟩
   rw [← h4,Array.toList_setIfInBounds,List.take_set]
theorem set_mid (A X C : List Value) (j : Nat) (x : Value) (hj : j < X.length) : (A ++ (X ++ C)).set (A.length + j) x = A ++ (X.set j x ++ C) := by
 rw [List.set_append_right _ _ (by omega),show A.length + j - A.length = j by omega,List.set_append_left _ _ hj]
theorem flat_len (l : List PV) (ks : List Value) (h : ks.length = l.length) : ((l.zip ks).flatMap fun p => vC p.1 p.2).length = 15 * l.length := by
 induction l generalizing ks with
 | nil => simp
 | cons e l ih =>
  cases ks with
  | nil => simp at h
  | cons k ks =>
   simp only [List.zip_cons_cons,List.flatMap_cons,List.length_append,vC_len,List.length_cons]
   rw [ih ks (by simpa using h)]; omega
theorem Gv.put {w : World} {B g c i o n : Nat} {l : List PV} {e y : PV} {k : Value} {fo op kd nn : Int} {nm pt : ByteArray} {ia : Int} (h : Gl kdV 63 15 w B (.slice (some ⟨g,0,none⟩) n c) l) (hnl : n = l.length) (hi : l[i]? = some e) (ho : o = 15 * i) (hy : y.init = .mk fo op kd nn nm pt ia []) (hk : ∃ a c,k = .slice a 0 c) :
 Gl kdV 63 15 ((((((((((((w.setCell ⟨g,o + 2,none⟩ (.int .i64 y.kind)).setCell ⟨g,o + 3,none⟩ (.string y.of)).setCell ⟨g,o + 4,none⟩ (.int .i64 y.low)).setCell ⟨g,o + 5,none⟩ (.int .i64 y.len)).setCell ⟨g,o + 6,none⟩ (.int .i64 fo)).setCell ⟨g,o + 6 + 1,none⟩ (.int .i64 op)).setCell ⟨g,o + 6 + 2,none⟩ (.int .i64 kd)).setCell ⟨g,o + 6 + 3,none⟩ (.int .i64 nn)).setCell ⟨g,o + 6 + 4,none⟩ (.string nm)).setCell ⟨g,o + 6 + 5,none⟩ (.string pt)).setCell ⟨g,o + 6 + 6,none⟩ (.int .i64 ia)).setCell ⟨g,o + 6 + 7,none⟩ k) B (.slice (some ⟨g,0,none⟩) n c) (l.set i (e.like y)) := by
 subst hnl
 obtain ⟨ks,h1,h2,h3⟩ := h
 have hil : i < l.length := (List.getElem?_eq_some_iff.1 hi).1
 have hb : ∀ j,j < 15 → o + j < l.length * 15 := fun j hj => by omega
 have hlen : (l.set i (e.like y)).length = l.length := by simp
 refine ⟨ks.set i k,by simp [h1],?_,?_⟩
 · rw [hlen]
   obtain ⟨a0,c0,rfl⟩ := hk
   have r := own_set (own_set (own_set (own_set (own_set (own_set (own_set (own_set (own_set (own_set (own_set (own_set h2 (x := .int .i64 y.kind) rfl (hb 2 (by omega))) (x := .string y.of) rfl (hb 3 (by omega))) (x := .int .i64 y.low) rfl (hb 4 (by omega))) (x := .int .i64 y.len) rfl (hb 5 (by omega))) (x := .int .i64 fo) rfl (hb 6 (by omega))) (x := .int .i64 op) rfl (hb 7 (by omega))) (x := .int .i64 kd) rfl (hb 8 (by omega))) (x := .int .i64 nn) rfl (hb 9 (by omega))) (x := .string nm) rfl (hb 10 (by omega))) (x := .string pt) rfl (hb 11 (by omega))) (x := .int .i64 ia) rfl (hb 12 (by omega))) (x := .slice a0 0 c0) rfl (hb 13 (by omega))
   refine Eq.mp ?_ r
   congr 1
   have el : l = l.take i ++ e :: l.drop (i + 1) := by rw [← (List.getElem?_eq_some_iff.1 hi).2,List.getElem_cons_drop,List.take_append_drop]
   have hik : i < ks.length := by omega
   have ek : ks = ks.take i ++ ks[i] :: ks.drop (i + 1) := by rw [List.getElem_cons_drop,List.take_append_drop]
   generalize hl1 : l.take i = l1 at el
   generalize hl2 : l.drop (i + 1) = l2 at el
   generalize hk1 : ks.take i = k1 at ek
   generalize hk2 : ks.drop (i + 1) = k2 at ek
   generalize ks[i] = q at ek
   have n1 : l1.length = i := by rw [← hl1,List.length_take]; omega
   have m1 : k1.length = i := by rw [← hk1,List.length_take]; omega
   subst el ek
   rw [List.zip_append (by omega),List.set_append_right _ _ (by omega),List.set_append_right _ _ (by omega),List.zip_append (by omega),n1,m1]
   simp only [Nat.sub_self,List.set_cons_zero,List.zip_cons_cons,List.flatMap_append,List.flatMap_cons]
   have A1 : o = ((l1.zip k1).flatMap fun p => kdV.c p.1 p.2).length := by have := flat_len l1 k1 (by omega); rw [n1] at this; rw [ho]; exact this.symm
   generalize ((l1.zip k1).flatMap fun p => kdV.c p.1 p.2) = A at A1
   subst A1
   obtain ⟨e1,e2,e3,e4,e5,e6,⟨f1,f2,f3,f4,f5,f6,f7,f8⟩,e8⟩ := e
   obtain ⟨y1,y2,y3,y4,y5,y6,y7,y8⟩ := y
   simp only at hy
   subst hy
   simp only [kdV,vC,xC,PV.like,Nat.add_assoc,Nat.reduceAdd]
   rw [set_mid _ _ _ 2 _ (by simp),set_mid _ _ _ 3 _ (by simp),set_mid _ _ _ 4 _ (by simp),set_mid _ _ _ 5 _ (by simp),set_mid _ _ _ 6 _ (by simp),set_mid _ _ _ 7 _ (by simp),set_mid _ _ _ 8 _ (by simp),set_mid _ _ _ 9 _ (by simp),set_mid _ _ _ 10 _ (by simp),set_mid _ _ _ 11 _ (by simp),set_mid _ _ _ 12 _ (by simp),set_mid _ _ _ 13 _ (by simp)]
   rfl
 · intro p hp
   obtain ⟨j,hj,hp⟩ := List.getElem_of_mem hp
   have hj1 : j < l.length := by simp at hj; omega
   rw [List.getElem_zip] at hp
   by_cases hji : j = i
   · subst hji
     simp at hp
     subst hp
     exact ⟨by simp [PV.like,hy,PE.kids],hk⟩
   · have := h3 (l[j],ks[j]'(by omega)) (by
      have hz : (l.zip ks)[j]'(by simp; omega) = (l[j],ks[j]'(by omega)) := by simp
      rw [← hz]; exact List.getElem_mem _)
     rw [List.getElem_set_ne (by omega),List.getElem_set_ne (by omega)] at hp
     subst hp
     exact this
end Go.Proofs.YtdcoidmbainkmaaGreatDoor

namespace Go.Proofs.YtdcoidmbainkmaaGreatDoor
open Go.RowKit
attribute [local go_sem ↓] Go.wp_at_zero Go.wp_at_succ
set_option linter.unusedVariables false
set_option linter.unusedSimpArgs false
theorem enters152 (args : Array Value) (W : World) : (callFunc 152 args).run Tryz.prog W = .ok (.enter 152 args) W := enters_of Tryz.func152 (by kernel_rfl) rfl args W
theorem lenF (n : Int) (w : World) : Calls Tryz.prog 77 #[.int .i64 n] w fun e w' => e = .returned (.bool (lenB n)) ∧ w = w' := by
 by_cases h1 : 1 ≤ n
 · by_cases h2 : n ≤ 1000
   all_goals (go_enter Tryz.func77,Tryz.ntmps77; go_wp2; go_ret; exact ⟨ret_bool (by simp [lenB,h1,h2]),rfl⟩)
 · go_enter Tryz.func77,Tryz.ntmps77
   go_wp2
   go_ret
   exact ⟨ret_bool (by simp [lenB]; omega),rfl⟩
theorem typed_fits (w : World) (R q : Nat) (a : Int) (ha : -4294967295 ≤ a ∧ a ≤ 4294967295) (hP : w.heap[q]? = some (.cells #[.int .i64 a] 3)) (hq : q ≠ R) : Fits w R 152 #[.pointer (some ⟨q,0,none⟩)] (fun n => lenB (n - a + 1)) := by
 intro n W hg h3 h4
 have c9 : W.cell? ⟨q,0,none⟩ = some (.int .i64 a) := by simpa using at_cell (keptBut hg hP hq) 0
 clear hP
 have w1 : IntKind.i64.wrap (n - a) = n - a := IntWalk.i64_in _ (by omega)
 have w2 : IntKind.i64.wrap (n - a + 1) = n - a + 1 := IntWalk.i64_in _ (by omega)
 have cL := lenF (n - a + 1) W
 show Calls Tryz.prog 152 #[.int .i64 n,.pointer (some ⟨q,0,none⟩)] W _
 go_enter Tryz.func152,Tryz.ntmps152
 go_wp2_with fail
 refine cL.mono ?_
 rintro e w' ⟨rfl,rfl⟩
 go_wp2_with fail
 go_ret
 exact ⟨rfl,rfl⟩
section
variable {V : World} {F : Int → Tok} {R : Nat} {s : ByteArray} {u : Int}
theorem nameK {w : World} {t : Tok} (C : Cx V F R s u w t) (h0 : t.c ≠ 0) (h2 : t.c = 2) : Calls Tryz.prog 44 #[pR R] w (Out V F R s u w (.ok t (F t.e)) (isV fun k => .string k.x)) := by
 have h := name_any C
 rwa [needC,if_neg h0,if_pos h2] at h
abbrev TyP : World → Value → PV → Prop := fun _ v y => v = .agg (vC y (.slice none 0 0)).toArray ∧ y.init = pe0
set_option maxRecDepth 10000 in
set_option maxHeartbeats 4000000 in
theorem typed_any {w : World} {t : Tok} (C : Cx V F R s u w t) : Calls Tryz.prog 110 #[rV R] w (Out V F R s u w (typP F t) TyP) := by
 have hmf := makeF
 have HC : Hid (Cx V F R s u w t) := C
 have C0 := HC
 have G0 : Hid (w.grownBy w (some R)) := World.grownBy.refl _ _
 have HR : Hid (R < w.heap.size ∧ 15 ≤ w.heap.size ∧ 15 ≤ R) := ⟨C.lt,C.sz,C.r15⟩
 clear C
 go_enter Tryz.func110,Tryz.ntmps110
 by_cases h0 : t.c = 0
 · go_wp2_with fail
   refine (class_bad R s t u _ _ ((C0.out.al _).al _).rd h0).mono ?_
   rintro e w4 ⟨rfl,g0⟩
   exact ⟨rfl,Out.bad (by rw [typP,if_pos h0]) (gtr (gr_alloc (gr_alloc G0.out _) _) (gr_none (p := R) g0))⟩
 go_wp2_with fail
 refine (cls_look ((C0.out.al _).al _) h0 2).mono ?_
 rintro e w1 ⟨rfl,g0⟩
 have CC := ((C0.out.al _).al _).gn g0
 have g := gr_none (p := R) g0
 have A1 : Hid (w1.heap[w.heap.size]? = some (.cells #[pR R] 46)) := keptBut g (old (hp_new (by first | rfl | simp) _) _) (by have := HR.out; omega)
 have B1 : Hid (w1.heap[w.heap.size + 1]? = some (.cells #[.string ⟨#[]⟩,.int .i64 0,.int .i64 0,.string ⟨#[]⟩,.int .i64 0,.int .i64 0,.int .i64 0,.int .i64 0,.int .i64 0,.int .i64 0,.string ⟨#[]⟩,.string ⟨#[]⟩,.int .i64 0,.slice none 0 0,.int .i64 0] 63)) := keptBut g (hp_new (by first | rfl | simp) _) (by have := HR.out; omega)
 have G1 := hidI (gtr (gr_alloc (gr_alloc G0.out _) _) g)
 have C1 := hidI CC
 have S1 : Hid (w.heap.size + 2 ≤ w1.heap.size) := hidI (by have := g.size; first | omega | (simp at this; omega) | (simp at this ⊢; omega))
 have Z1 := hidI (And.intro HR.out S1.out)
 clear g CC g0
 obtain ⟨ap,aq,ar,af,ag,ah⟩ := facts A1.out
 obtain ⟨bp,bq,br,bf,bg,bh⟩ := facts B1.out
 by_cases h2 : t.c = 2
 · have h2' : decide (t.c = 2) = true := by simpa using h2
   go_wp2_with fail
   refine (nameK C1.out h0 h2).mono ?_
   rintro e w2 ⟨⟨v,rfl,rfl⟩,CC,g⟩
   have A2 : Hid (w2.heap[w.heap.size]? = some (.cells #[pR R] 46)) := keptBut g A1.out (by have := Z1.out; omega)
   have B2 : Hid (w2.heap[w.heap.size + 1]? = some (.cells #[.string ⟨#[]⟩,.int .i64 0,.int .i64 0,.string ⟨#[]⟩,.int .i64 0,.int .i64 0,.int .i64 0,.int .i64 0,.int .i64 0,.int .i64 0,.string ⟨#[]⟩,.string ⟨#[]⟩,.int .i64 0,.slice none 0 0,.int .i64 0] 63)) := keptBut g B1.out (by have := Z1.out; omega)
   have G2 := hidI (gtr G1.out g)
   have C2 := hidI CC
   have S2 : Hid (w1.heap.size + 0 ≤ w2.heap.size) := hidI (by have := g.size; first | omega | (simp at this; omega) | (simp at this ⊢; omega))
   have Z2 := hidI (And.intro HR.out (And.intro S1.out S2.out))
   clear g CC ap aq ar af ag ah bp bq br bf bg bh
   obtain ⟨bp,bq,br,bf,bg,bh⟩ := facts B2.out
   go_wp2_with fail
   have hP : typP F t = .ok ({ pv0 with of := t.x }) (F t.e) := by rw [typP,if_neg h0,if_pos h2]
   refine bodyPost_ret (resBox rfl _ _ (w.heap.size + 1) _ rfl (ld63 (box15 B2.out))) rfl (Out.ok hP ?_ ?_ ?_)
   · exact ⟨rfl,rfl⟩
   · exact C2.out.gq (gr15 (World.grownBy.refl _ _)) (by have := Z2.out; omega) (by have := Z2.out; omega)
   · exact gr15o G2.out (by have := Z2.out; omega)
 have h2' : decide (t.c = 2) = false := by simpa using h2
 have H2 := hidI h2
 clear h2
 go_wp2_with fail
 refine (is_look C1.out h0 _ [⟨#[97,114,114,97,121]⟩] _ _ _ (by simp) rfl rfl (by decide)).mono ?_
 rintro e w2 ⟨rfl,g0⟩
 have CC := (C1.out.al _).gn g0
 have g := gr_none (p := R) g0
 have A2 : Hid (w2.heap[w.heap.size]? = some (.cells #[pR R] 46)) := keptBut g (old A1.out _) (by have := Z1.out; omega)
 have B2 : Hid (w2.heap[w.heap.size + 1]? = some (.cells #[.string ⟨#[]⟩,.int .i64 0,.int .i64 0,.string ⟨#[]⟩,.int .i64 0,.int .i64 0,.int .i64 0,.int .i64 0,.int .i64 0,.int .i64 0,.string ⟨#[]⟩,.string ⟨#[]⟩,.int .i64 0,.slice none 0 0,.int .i64 0] 63)) := keptBut g (old B1.out _) (by have := Z1.out; omega)
 have G2 := hidI (gtr (gr_alloc G1.out _) g)
 have C2 := hidI CC
 have S2 : Hid (w1.heap.size + 1 ≤ w2.heap.size) := hidI (by have := g.size; first | omega | (simp at this; omega) | (simp at this ⊢; omega))
 have Z3 := hidI (And.intro HR.out (And.intro S1.out S2.out))
 clear g CC g0 ap aq ar af ag ah bp bq br bf bg bh
 obtain ⟨ap,aq,ar,af,ag,ah⟩ := facts A2.out
 obtain ⟨bp,bq,br,bf,bg,bh⟩ := facts B2.out
 by_cases hm : mem [⟨#[97,114,114,97,121]⟩] t = true
 rotate_left
 · have hm' : mem [⟨#[97,114,114,97,121]⟩] t = false := by simpa using hm
   have M := hidI hm
   rw [hm']
   clear hm hm'
   go_wp2_with fail
   refine (kind_any C2.out).mono ?_
   intro e w3 h
   rcases h.get with ⟨kk,t3,v3,r3,rfl,rfl,CC,g⟩ | ⟨cc,aa,r3,rfl,g⟩
   rotate_left
   · exact ⟨rfl,Out.bad (by rw [typP,if_neg h0,if_neg H2.out,if_neg M.out]; (first | (rw [r3]; done) | (rw [r3]; rfl) | exact r3)) (gtr G2.out g)⟩
   have A3 : Hid (w3.heap[w.heap.size]? = some (.cells #[pR R] 46)) := keptBut g A2.out (by have := Z3.out; omega)
   have B3 : Hid (w3.heap[w.heap.size + 1]? = some (.cells #[.string ⟨#[]⟩,.int .i64 0,.int .i64 0,.string ⟨#[]⟩,.int .i64 0,.int .i64 0,.int .i64 0,.int .i64 0,.int .i64 0,.int .i64 0,.string ⟨#[]⟩,.string ⟨#[]⟩,.int .i64 0,.slice none 0 0,.int .i64 0] 63)) := keptBut g B2.out (by have := Z3.out; omega)
   have G3 := hidI (gtr G2.out g)
   have C3 := hidI CC
   have S3 : Hid (w2.heap.size + 0 ≤ w3.heap.size) := hidI (by have := g.size; first | omega | (simp at this; omega) | (simp at this ⊢; omega))
   have Z4 := hidI (And.intro HR.out (And.intro S1.out (And.intro S2.out S3.out)))
   clear g CC h ap aq ar af ag ah bp bq br bf bg bh
   obtain ⟨bp,bq,br,bf,bg,bh⟩ := facts B3.out
   go_wp2_with fail
   have hP : typP F t = .ok ({ pv0 with kind := kk }) (t3) := by rw [typP,if_neg h0,if_neg H2.out,if_neg M.out]; (first | rw [r3] | exact r3); try rw [bindOk]
   refine bodyPost_ret (resBox rfl _ _ (w.heap.size + 1) _ rfl (ld63 (box15 B3.out))) rfl (Out.ok hP ?_ ?_ ?_)
   · exact ⟨rfl,rfl⟩
   · exact C3.out.gq (gr15 (World.grownBy.refl _ _)) (by have := Z4.out; omega) (by have := Z4.out; omega)
   · exact gr15o G3.out (by have := Z4.out; omega)
 have M := hidI hm
 rw [hm]
 clear hm
 go_wp2_with fail
 refine (takeK C2.out h0).mono ?_
 rintro e w3 ⟨⟨v,rfl,rfl⟩,CC,g⟩
 have A3 : Hid (w3.heap[w.heap.size]? = some (.cells #[pR R] 46)) := keptBut g A2.out (by have := Z3.out; omega)
 have B3 : Hid (w3.heap[w.heap.size + 1]? = some (.cells #[.string ⟨#[]⟩,.int .i64 0,.int .i64 0,.string ⟨#[]⟩,.int .i64 0,.int .i64 0,.int .i64 0,.int .i64 0,.int .i64 0,.int .i64 0,.string ⟨#[]⟩,.string ⟨#[]⟩,.int .i64 0,.slice none 0 0,.int .i64 0] 63)) := keptBut g B2.out (by have := Z3.out; omega)
 have G3 := hidI (gtr G2.out g)
 have C3 := hidI CC
 have S3 : Hid (w2.heap.size + 0 ≤ w3.heap.size) := hidI (by have := g.size; first | omega | (simp at this; omega) | (simp at this ⊢; omega))
 clear g CC ap aq ar af ag ah bp bq br bf bg bh
 obtain ⟨ap,aq,ar,af,ag,ah⟩ := facts A3.out
 obtain ⟨bp,bq,br,bf,bg,bh⟩ := facts B3.out
 go_wp2_with fail
 refine (needW C3.out _ [⟨#[91]⟩] _ _ _ (by simp) rfl rfl (by decide)).mono ?_
 intro e w4 h
 rcases h.get with ⟨_,t4,v4,r4,rfl,rfl,CC,g⟩ | ⟨cc,aa,r4,rfl,g⟩
 rotate_left
 · exact ⟨rfl,Out.bad (by rw [typP,if_neg h0,if_neg H2.out,if_pos M.out]; (first | (rw [r4]; done) | (rw [r4]; rfl) | exact r4)) (gtr (gr_alloc G3.out _) g)⟩
 have A4 : Hid (w4.heap[w.heap.size]? = some (.cells #[pR R] 46)) := keptBut g (old A3.out _) (by have := HR.out; have := S1.out; have := S2.out; have := S3.out; omega)
 have B4 : Hid (w4.heap[w.heap.size + 1]? = some (.cells #[.string ⟨#[]⟩,.int .i64 0,.int .i64 0,.string ⟨#[]⟩,.int .i64 0,.int .i64 0,.int .i64 0,.int .i64 0,.int .i64 0,.int .i64 0,.string ⟨#[]⟩,.string ⟨#[]⟩,.int .i64 0,.slice none 0 0,.int .i64 0] 63)) := keptBut g (old B3.out _) (by have := HR.out; have := S1.out; have := S2.out; have := S3.out; omega)
 have G4 := hidI (gtr (gr_alloc G3.out _) g)
 have C4 := hidI CC
 have S4 : Hid (w3.heap.size + 1 ≤ w4.heap.size) := hidI (by have := g.size; first | omega | (simp at this; omega) | (simp at this ⊢; omega))
 have Z5 := hidI (And.intro HR.out (And.intro S1.out (And.intro S2.out (And.intro S3.out S4.out))))
 clear g CC h ap aq ar af ag ah bp bq br bf bg bh
 obtain ⟨ap,aq,ar,af,ag,ah⟩ := facts A4.out
 obtain ⟨bp,bq,br,bf,bg,bh⟩ := facts B4.out
 go_wp2_with fail
 refine (constant_any C4.out).mono ?_
 intro e w5 h
 rcases h.get with ⟨lo,t5,v5,r5,rfl,rfl,CC,g⟩ | ⟨cc,aa,r5,rfl,g⟩
 rotate_left
 · exact ⟨rfl,Out.bad (by rw [typP,if_neg h0,if_neg H2.out,if_pos M.out]; (first | rw [r4] | exact r4); try rw [bindOk]; (first | (rw [r5]; done) | (rw [r5]; rfl) | exact r5)) (gtr G4.out g)⟩
 have A5 : Hid (w5.heap[w.heap.size]? = some (.cells #[pR R] 46)) := keptBut g A4.out (by have := Z5.out; omega)
 have B5 : Hid (w5.heap[w.heap.size + 1]? = some (.cells #[.string ⟨#[]⟩,.int .i64 0,.int .i64 0,.string ⟨#[]⟩,.int .i64 0,.int .i64 0,.int .i64 0,.int .i64 0,.int .i64 0,.int .i64 0,.string ⟨#[]⟩,.string ⟨#[]⟩,.int .i64 0,.slice none 0 0,.int .i64 0] 63)) := keptBut g B4.out (by have := Z5.out; omega)
 have G5 := hidI (gtr G4.out g)
 have C5 := hidI CC
 have S5 : Hid (w4.heap.size + 0 ≤ w5.heap.size) := hidI (by have := g.size; first | omega | (simp at this; omega) | (simp at this ⊢; omega))
 have Z6 := hidI (And.intro HR.out (And.intro S1.out (And.intro S2.out (And.intro S3.out (And.intro S4.out S5.out)))))
 clear g CC h ap aq ar af ag ah bp bq br bf bg bh
 have HLo := hidI (const_bd C4.out.G C4.out.ok r5)
 obtain ⟨ap,aq,ar,af,ag,ah⟩ := facts A5.out
 obtain ⟨bp,bq,br,bf,bg,bh⟩ := facts B5.out
 go_wp2_with fail
 refine (needW (C5.out.al _) _ [⟨#[46,46]⟩] _ _ _ (by simp) rfl rfl (by decide)).mono ?_
 intro e w6 h
 rcases h.get with ⟨_,t6,v6,r6,rfl,rfl,CC,g⟩ | ⟨cc,aa,r6,rfl,g⟩
 rotate_left
 · exact ⟨rfl,Out.bad (by rw [typP,if_neg h0,if_neg H2.out,if_pos M.out]; (first | rw [r4] | exact r4); try rw [bindOk]; (first | rw [r5] | exact r5); try rw [bindOk]; (first | (rw [r6]; done) | (rw [r6]; rfl) | exact r6)) (gtr (gr_alloc (gr_alloc G5.out _) _) g)⟩
 have A6 : Hid (w6.heap[w.heap.size]? = some (.cells #[pR R] 46)) := keptBut g (old (old A5.out _) _) (by have := Z6.out; omega)
 have B6 : Hid (w6.heap[w.heap.size + 1]? = some (.cells #[.string ⟨#[]⟩,.int .i64 0,.int .i64 0,.string ⟨#[]⟩,.int .i64 0,.int .i64 0,.int .i64 0,.int .i64 0,.int .i64 0,.int .i64 0,.string ⟨#[]⟩,.string ⟨#[]⟩,.int .i64 0,.slice none 0 0,.int .i64 0] 63)) := keptBut g (old (old B5.out _) _) (by have := Z6.out; omega)
 have O6 : Hid (w6.heap[w5.heap.size]? = some (.cells #[.int .i64 lo] 3)) := keptBut g (old (hp_new (by first | rfl | simp) _) _) (by have := Z6.out; omega)
 have G6 := hidI (gtr (gr_alloc (gr_alloc G5.out _) _) g)
 have C6 := hidI CC
 have S6 : Hid (w5.heap.size + 2 ≤ w6.heap.size) := hidI (by have := g.size; first | omega | (simp at this; omega) | (simp at this ⊢; omega))
 have Z7 := hidI (And.intro HR.out (And.intro S1.out (And.intro S2.out (And.intro S3.out (And.intro S4.out (And.intro S5.out S6.out))))))
 clear g CC h ap aq ar af ag ah bp bq br bf bg bh
 obtain ⟨ap,aq,ar,af,ag,ah⟩ := facts A6.out
 obtain ⟨bp,bq,br,bf,bg,bh⟩ := facts B6.out
 obtain ⟨op,oq,or,of,og,oh⟩ := facts O6.out
 have hlo := HLo.out
 have F6 := hidI (typed_fits w6 R (w5.heap.size) lo (by omega) O6.out (by have := Z7.out; omega))
 clear hlo
 go_wp2_with fail
 refine (const_any C6.out 152 _ _ enters152 F6.out).mono ?_
 intro e w7 h
 rcases h.get with ⟨hi,t7,v7,r7,rfl,rfl,CC,g⟩ | ⟨cc,aa,r7,rfl,g⟩
 rotate_left
 · exact ⟨rfl,Out.bad (by rw [typP,if_neg h0,if_neg H2.out,if_pos M.out]; (first | rw [r4] | exact r4); try rw [bindOk]; (first | rw [r5] | exact r5); try rw [bindOk]; (first | rw [r6] | exact r6); try rw [bindOk]; (first | (rw [r7]; done) | (rw [r7]; rfl) | exact r7)) (gtr G6.out g)⟩
 have A7 : Hid (w7.heap[w.heap.size]? = some (.cells #[pR R] 46)) := keptBut g A6.out (by have := Z7.out; omega)
 have B7 : Hid (w7.heap[w.heap.size + 1]? = some (.cells #[.string ⟨#[]⟩,.int .i64 0,.int .i64 0,.string ⟨#[]⟩,.int .i64 0,.int .i64 0,.int .i64 0,.int .i64 0,.int .i64 0,.int .i64 0,.string ⟨#[]⟩,.string ⟨#[]⟩,.int .i64 0,.slice none 0 0,.int .i64 0] 63)) := keptBut g B6.out (by have := Z7.out; omega)
 have O7 : Hid (w7.heap[w5.heap.size]? = some (.cells #[.int .i64 lo] 3)) := keptBut g O6.out (by have := Z7.out; omega)
 have G7 := hidI (gtr G6.out g)
 have C7 := hidI CC
 have S7 : Hid (w6.heap.size + 0 ≤ w7.heap.size) := hidI (by have := g.size; first | omega | (simp at this; omega) | (simp at this ⊢; omega))
 have Z8 := hidI (And.intro HR.out (And.intro S1.out (And.intro S2.out (And.intro S3.out (And.intro S4.out (And.intro S5.out (And.intro S6.out S7.out)))))))
 clear g CC h ap aq ar af ag ah bp bq br bf bg bh op oq or of og oh
 have HHi := hidI (const_bd C6.out.G C6.out.ok r7)
 obtain ⟨ap,aq,ar,af,ag,ah⟩ := facts A7.out
 obtain ⟨bp,bq,br,bf,bg,bh⟩ := facts B7.out
 obtain ⟨op,oq,or,of,og,oh⟩ := facts O7.out
 go_wp2_with fail
 refine (needW C7.out _ [⟨#[93]⟩] _ _ _ (by simp) rfl rfl (by decide)).mono ?_
 intro e w8 h
 rcases h.get with ⟨_,t8,v8,r8,rfl,rfl,CC,g⟩ | ⟨cc,aa,r8,rfl,g⟩
 rotate_left
 · exact ⟨rfl,Out.bad (by rw [typP,if_neg h0,if_neg H2.out,if_pos M.out]; (first | rw [r4] | exact r4); try rw [bindOk]; (first | rw [r5] | exact r5); try rw [bindOk]; (first | rw [r6] | exact r6); try rw [bindOk]; (first | rw [r7] | exact r7); try rw [bindOk]; (first | (rw [r8]; done) | (rw [r8]; rfl) | exact r8)) (gtr (gr_alloc G7.out _) g)⟩
 have A8 : Hid (w8.heap[w.heap.size]? = some (.cells #[pR R] 46)) := keptBut g (old A7.out _) (by have := Z8.out; omega)
 have B8 : Hid (w8.heap[w.heap.size + 1]? = some (.cells #[.string ⟨#[]⟩,.int .i64 0,.int .i64 0,.string ⟨#[]⟩,.int .i64 0,.int .i64 0,.int .i64 0,.int .i64 0,.int .i64 0,.int .i64 0,.string ⟨#[]⟩,.string ⟨#[]⟩,.int .i64 0,.slice none 0 0,.int .i64 0] 63)) := keptBut g (old B7.out _) (by have := Z8.out; omega)
 have O8 : Hid (w8.heap[w5.heap.size]? = some (.cells #[.int .i64 lo] 3)) := keptBut g (old O7.out _) (by have := Z8.out; omega)
 have G8 := hidI (gtr (gr_alloc G7.out _) g)
 have C8 := hidI CC
 have S8 : Hid (w7.heap.size + 1 ≤ w8.heap.size) := hidI (by have := g.size; first | omega | (simp at this; omega) | (simp at this ⊢; omega))
 have Z9 := hidI (And.intro HR.out (And.intro S1.out (And.intro S2.out (And.intro S3.out (And.intro S4.out (And.intro S5.out (And.intro S6.out (And.intro S7.out S8.out))))))))
 clear g CC h ap aq ar af ag ah bp bq br bf bg bh op oq or of og oh
 obtain ⟨ap,aq,ar,af,ag,ah⟩ := facts A8.out
 obtain ⟨bp,bq,br,bf,bg,bh⟩ := facts B8.out
 obtain ⟨op,oq,or,of,og,oh⟩ := facts O8.out
 go_wp2_with fail
 refine (needW C8.out _ [⟨#[111,102]⟩] _ _ _ (by simp) rfl rfl (by decide)).mono ?_
 intro e w9 h
 rcases h.get with ⟨_,t9,v9,r9,rfl,rfl,CC,g⟩ | ⟨cc,aa,r9,rfl,g⟩
 rotate_left
 · exact ⟨rfl,Out.bad (by rw [typP,if_neg h0,if_neg H2.out,if_pos M.out]; (first | rw [r4] | exact r4); try rw [bindOk]; (first | rw [r5] | exact r5); try rw [bindOk]; (first | rw [r6] | exact r6); try rw [bindOk]; (first | rw [r7] | exact r7); try rw [bindOk]; (first | rw [r8] | exact r8); try rw [bindOk]; (first | (rw [r9]; done) | (rw [r9]; rfl) | exact r9)) (gtr (gr_alloc G8.out _) g)⟩
 have A9 : Hid (w9.heap[w.heap.size]? = some (.cells #[pR R] 46)) := keptBut g (old A8.out _) (by have := Z9.out; omega)
 have B9 : Hid (w9.heap[w.heap.size + 1]? = some (.cells #[.string ⟨#[]⟩,.int .i64 0,.int .i64 0,.string ⟨#[]⟩,.int .i64 0,.int .i64 0,.int .i64 0,.int .i64 0,.int .i64 0,.int .i64 0,.string ⟨#[]⟩,.string ⟨#[]⟩,.int .i64 0,.slice none 0 0,.int .i64 0] 63)) := keptBut g (old B8.out _) (by have := Z9.out; omega)
 have O9 : Hid (w9.heap[w5.heap.size]? = some (.cells #[.int .i64 lo] 3)) := keptBut g (old O8.out _) (by have := Z9.out; omega)
 have G9 := hidI (gtr (gr_alloc G8.out _) g)
 have C9 := hidI CC
 have S9 : Hid (w8.heap.size + 1 ≤ w9.heap.size) := hidI (by have := g.size; first | omega | (simp at this; omega) | (simp at this ⊢; omega))
 clear g CC h ap aq ar af ag ah bp bq br bf bg bh op oq or of og oh
 obtain ⟨ap,aq,ar,af,ag,ah⟩ := facts A9.out
 obtain ⟨bp,bq,br,bf,bg,bh⟩ := facts B9.out
 obtain ⟨op,oq,or,of,og,oh⟩ := facts O9.out
 have hw1 : IntKind.i64.wrap (hi - lo) = hi - lo := IntWalk.i64_in _ (by have := HLo.out; have := HHi.out; omega)
 have hw2 : IntKind.i64.wrap (hi - lo + 1) = hi - lo + 1 := IntWalk.i64_in _ (by have := HLo.out; have := HHi.out; omega)
 go_wp2_with fail
 have C10 := hidI C9.out.drew
 have G10 := hidI (gr_drew G9.out)
 have S10 : Hid (w9.heap.size ≤ w9.drew.heap.size) := Nat.le_refl _
 have Z10 := hidI (And.intro HR.out (And.intro S1.out (And.intro S2.out (And.intro S3.out (And.intro S4.out (And.intro S5.out (And.intro S6.out (And.intro S7.out (And.intro S8.out (And.intro S9.out S10.out))))))))))
 have A10 : Hid (w9.drew.heap[w.heap.size]? = some (.cells #[pR R] 46)) := A9.out
 have B10 : Hid (w9.drew.heap[w.heap.size + 1]? = some (.cells #[.string ⟨#[]⟩,.int .i64 0,.int .i64 0,.string ⟨#[]⟩,.int .i64 0,.int .i64 0,.int .i64 0,.int .i64 0,.int .i64 0,.int .i64 0,.string ⟨#[]⟩,.string ⟨#[]⟩,.int .i64 0,.slice none 0 0,.int .i64 0] 63)) := B9.out
 have O10 : Hid (w9.drew.heap[w5.heap.size]? = some (.cells #[.int .i64 lo] 3)) := O9.out
 clear ap aq ar af ag ah bp bq br bf bg bh op oq or of og oh
 have hHeld : (fun w' : World => w'.cell? ⟨w.heap.size,0,none⟩ = some (pR R) ∧ w'.cell? ⟨w5.heap.size,0,none⟩ = some (.int .i64 lo)) w9.drew := ⟨by simpa using at_cell (A10.out) 0,by simpa using at_cell (O10.out) 0⟩
 refine wp_region_L (L := 8) (S := (fun w' : World => w'.cell? ⟨w.heap.size,0,none⟩ = some (pR R) ∧ w'.cell? ⟨w5.heap.size,0,none⟩ = some (.int .i64 lo))) (by kernel_rfl) ?_
 refine wpAnyL_take (i := 0) (v := ?_) rfl (by kernel_rfl) (by kernel_rfl) (by kernel_rfl) (fun _ _ _ h => h) (by kernel_rfl) (by kernel_rfl) (Or.inl ⟨by rfl,?_⟩) hHeld ?_
 rotate_left
 · intro w hSw
   try dsimp only at hSw
   go_simp
   try with_reducible rfl
 try simp only [Act.put,List.setIfInBounds_toArray,List.set_cons_zero,List.set_cons_succ]
 refine wpAnyL_take (i := 2) (v := ?_) rfl (by kernel_rfl) (by kernel_rfl) (by kernel_rfl) (fun _ _ _ h => h) (by kernel_rfl) (by kernel_rfl) (Or.inl ⟨by rfl,?_⟩) hHeld ?_
 rotate_left
 · intro w hSw
   try dsimp only at hSw
   go_simp
   try with_reducible rfl
 try simp only [Act.put,List.setIfInBounds_toArray,List.set_cons_zero,List.set_cons_succ]
 refine wpAnyL_free (i := 3) (v := ?_) rfl (by kernel_rfl) (by kernel_rfl) (by kernel_rfl) (fun _ _ _ h => h) (by decide) (Or.inl ⟨by rfl,?_⟩) (fun _ => hHeld) ?_
 rotate_left
 · intro w hSw
   go_simp
   try with_reducible rfl
 try simp only [Act.put,List.setIfInBounds_toArray,List.set_cons_zero,List.set_cons_succ]
 refine wpAnyL_take (i := 4) (v := ?_) rfl (by kernel_rfl) (by kernel_rfl) (by kernel_rfl) (fun _ _ _ h => h) (by kernel_rfl) (by kernel_rfl) (Or.inl ⟨by rfl,?_⟩) hHeld ?_
 rotate_left
 · intro w hSw
   try dsimp only at hSw
   go_simp
   try with_reducible rfl
 try simp only [Act.put,List.setIfInBounds_toArray,List.set_cons_zero,List.set_cons_succ]
 refine wpAnyL_free (i := 5) (v := ?_) rfl (by kernel_rfl) (by kernel_rfl) (by kernel_rfl) (fun _ _ _ h => h) (by decide) (Or.inl ⟨by rfl,?_⟩) (fun _ => hHeld) ?_
 rotate_left
 · intro w hSw
   go_simp
   try with_reducible rfl
 try simp only [Act.put,List.setIfInBounds_toArray,List.set_cons_zero,List.set_cons_succ]
 refine wpAnyL_free (i := 6) (v := ?_) rfl (by kernel_rfl) (by kernel_rfl) (by kernel_rfl) (fun _ _ _ h => h) (by decide) (Or.inl ⟨by rfl,?_⟩) (fun _ => hHeld) ?_
 rotate_left
 · intro w hSw
   go_simp
   try with_reducible rfl
 try simp only [Act.put,List.setIfInBounds_toArray,List.set_cons_zero,List.set_cons_succ]
 refine wpAnyL_one (j := 1) (by kernel_rfl) rfl (fun K hK => ?_)
 go_simp
 refine (kind_any C10.out).mono ?_
 intro e w11 h
 rcases h.get with ⟨kk,t11,v11,r11,rfl,rfl,CC,g⟩ | ⟨cc,aa,r11,rfl,g⟩
 rotate_left
 · exact ⟨rfl,Out.bad (by rw [typP,if_neg h0,if_neg H2.out,if_pos M.out]; (first | rw [r4] | exact r4); try rw [bindOk]; (first | rw [r5] | exact r5); try rw [bindOk]; (first | rw [r6] | exact r6); try rw [bindOk]; (first | rw [r7] | exact r7); try rw [bindOk]; (first | rw [r8] | exact r8); try rw [bindOk]; (first | rw [r9] | exact r9); try rw [bindOk]; (first | (rw [r11]; done) | (rw [r11]; rfl) | exact r11)) (gtr G10.out g)⟩
 have A11 : Hid (w11.heap[w.heap.size]? = some (.cells #[pR R] 46)) := keptBut g A10.out (by have := Z10.out; omega)
 have B11 : Hid (w11.heap[w.heap.size + 1]? = some (.cells #[.string ⟨#[]⟩,.int .i64 0,.int .i64 0,.string ⟨#[]⟩,.int .i64 0,.int .i64 0,.int .i64 0,.int .i64 0,.int .i64 0,.int .i64 0,.string ⟨#[]⟩,.string ⟨#[]⟩,.int .i64 0,.slice none 0 0,.int .i64 0] 63)) := keptBut g B10.out (by have := Z10.out; omega)
 have O11 : Hid (w11.heap[w5.heap.size]? = some (.cells #[.int .i64 lo] 3)) := keptBut g O10.out (by have := Z10.out; omega)
 have G11 := hidI (gtr G10.out g)
 have C11 := hidI CC
 have S11 : Hid (w9.drew.heap.size + 0 ≤ w11.heap.size) := hidI (by have := g.size; first | omega | (simp at this; omega) | (simp at this ⊢; omega))
 have Z11 := hidI (And.intro HR.out (And.intro S1.out (And.intro S2.out (And.intro S3.out (And.intro S4.out (And.intro S5.out (And.intro S6.out (And.intro S7.out (And.intro S8.out (And.intro S9.out (And.intro S10.out S11.out)))))))))))
 clear g CC h
 have hHeld11 : (fun w' : World => w'.cell? ⟨w.heap.size,0,none⟩ = some (pR R) ∧ w'.cell? ⟨w5.heap.size,0,none⟩ = some (.int .i64 lo)) w11 := ⟨by simpa using at_cell (A11.out) 0,by simpa using at_cell (O11.out) 0⟩
 go_wp2_with fail
 refine hK.out _ _ (fun _ _ => hHeld11) ?_
 clear hK K
 try simp only [Act.put,List.setIfInBounds_toArray,List.set_cons_zero,List.set_cons_succ]
 refine wpAnyL_free (i := 7) (v := ?_) rfl (by kernel_rfl) (by kernel_rfl) (by kernel_rfl) (fun _ _ _ h => h) (by decide) (Or.inl ⟨by rfl,?_⟩) (fun _ => hHeld11) ?_
 rotate_left
 · intro w hSw
   go_simp
   try with_reducible rfl
 try simp only [Act.put,List.setIfInBounds_toArray,List.set_cons_zero,List.set_cons_succ]
 obtain ⟨bp,bq,br,bf,bg,bh⟩ := facts B11.out
 refine wpAnyL_one (j := 8) (by kernel_rfl) rfl (fun K hK => ?_)
 go_simp
 refine hK.out _ _ (fun h => absurd rfl h) ?_
 clear hK K
 try simp only [Act.put,List.setIfInBounds_toArray,List.set_cons_zero,List.set_cons_succ]
 refine wpAnyL_done (by kernel_rfl) ?_ _
 go_wp2_with fail
 have hP : typP F t = .ok ({ pv0 with kind := kk,low := lo,len := hi - lo + 1 }) (t11) := by rw [typP,if_neg h0,if_neg H2.out,if_pos M.out]; (first | rw [r4] | exact r4); try rw [bindOk]; (first | rw [r5] | exact r5); try rw [bindOk]; (first | rw [r6] | exact r6); try rw [bindOk]; (first | rw [r7] | exact r7); try rw [bindOk]; (first | rw [r8] | exact r8); try rw [bindOk]; (first | rw [r9] | exact r9); try rw [bindOk]; (first | rw [r11] | exact r11); try rw [bindOk]
 refine bodyPost_ret (resBox rfl _ _ (w.heap.size + 1) _ rfl (ld63 (box15 B11.out))) rfl (Out.ok hP ?_ ?_ ?_)
 · exact ⟨rfl,rfl⟩
 · exact C11.out.gq (gr15 (World.grownBy.refl _ _)) (by have := Z11.out; omega) (by have := Z11.out; omega)
 · exact gr15o G11.out (by have := Z11.out; omega)
end
end Go.Proofs.YtdcoidmbainkmaaGreatDoor

namespace Go.Proofs.YtdcoidmbainkmaaGreatDoor
open Go.RowKit
set_option linter.unusedVariables false
set_option linter.unusedSimpArgs false
theorem Gv.add {w : World} {B : Nat} {v : Value} {l : List PV} (h : Gl kdV 63 15 w B v l) (e : PV) (he : e.init = pe0) (hn : l.length ≤ 1000000) (hB : B ≤ w.heap.size) :
 ∃ a' c' w',(Builtin.append_ #[30,30] 30 #[v,.slice (some ⟨w.heap.size,0,none⟩) 1 1]).run Tryz.prog (w.alloc (.cells (vC e (.slice none 0 0)).toArray 63)) = .ok (.slice a' (l.length + 1) c') w' ∧
  Gl kdV 63 15 w' B (.slice a' (l ++ [e]).length c') (l ++ [e]) ∧ (w.alloc (.cells (vC e (.slice none 0 0)).toArray 63)).grownBy w' v.ownBlock ∧ (∀ g,(Value.slice a' (l ++ [e]).length c').ownBlock = some g → v.ownBlock = some g ∨ g = w.heap.size + 1) := by
 obtain ⟨ks,h1,h2,h3⟩ := h
 obtain ⟨a',c',w',r1,r2,r3,r4⟩ := acc_add el30 h2 (vC e (.slice none 0 0)) (vC_len _ _) (by
  obtain ⟨e1,e2,e3,e4,e5,e6,e7,e8⟩ := e
  simp only at he; subst he
  intro u hu
  simp [vC,xC,pe0] at hu
  rcases hu with rfl | rfl | rfl | rfl | rfl | rfl | rfl | rfl | rfl | rfl | rfl | rfl | rfl | rfl | rfl <;> rfl) hn hB
 refine ⟨a',c',w',r1,⟨ks ++ [.slice none 0 0],by simp [h1],?_,?_⟩,r3,?_⟩
 · rw [List.zip_append h1.symm,List.flatMap_append]
   simpa [kdV] using r2
 · intro p hp
   rw [List.zip_append h1.symm] at hp
   rcases List.mem_append.1 hp with hp | hp
   · exact h3 p hp
   · simp at hp; subst hp
     exact ⟨by show e.init.kids = []; rw [he]; rfl,_,_,rfl⟩
 · intro g hg
   have e1 : (Value.slice a' (l ++ [e]).length c').ownBlock = (Value.slice a' (l.length + 1) c').ownBlock := by cases a' <;> rfl
   rw [e1] at hg
   rcases r4 with r4 | r4
   · exact Or.inl (by rw [← r4,hg])
   · rw [r4] at hg; injection hg with hg; exact Or.inr hg.symm
theorem lit_kids {F : Int → Tok} {t u : Tok} {e : PE} (h : litP F t = .ok e u) : e.kids = [] := by
 rw [litP] at h
 split at h
 · cases h
 split at h
 · injection h with h1 h2; subst h1; rfl
 split at h
 · injection h with h1 h2; subst h1; rfl
 obtain ⟨n,v,h1,h2⟩ := bind_ok h
 injection h2 with h3 h4; subst h3; rfl
def mid (l : List PV) (b i : Nat) (y : PV) : List PV := l.take b ++ (((l.drop b).take (i - b)).map (·.like y) ++ l.drop i)
theorem mid_len (l : List PV) (b i : Nat) (y : PV) (h1 : b ≤ i) (h2 : i ≤ l.length) : (mid l b i y).length = l.length := by
 simp [mid]; omega
theorem mid_0 (l : List PV) (b : Nat) (y : PV) : mid l b b y = l := by simp [mid]
theorem mid_end (l : List PV) (b : Nat) (y : PV) (h : b ≤ l.length) : mid l b l.length y = l.take b ++ (l.drop b).map (·.like y) := by
 rw [mid,List.drop_length,List.append_nil,List.take_of_length_le (l := l.drop b) (by simp)]
theorem mid_at (l : List PV) (b i : Nat) (y : PV) (h1 : b ≤ i) (h2 : i < l.length) : (mid l b i y)[i]? = some l[i] := by
 rw [mid,List.getElem?_append_right (by simp; omega),List.getElem?_append_right (by simp; omega)]
 simp
 rw [List.getElem?_eq_some_iff]
 exact ⟨by omega,by congr 1; omega⟩
theorem mid_set (l : List PV) (b i : Nat) (y : PV) (h1 : b ≤ i) (h2 : i < l.length) : (mid l b i y).set i (l[i].like y) = mid l b (i + 1) y := by
 have e1 : (l.drop b).take (i + 1 - b) = (l.drop b).take (i - b) ++ [l[i]] := by
  rw [show i + 1 - b = (i - b) + 1 by omega,List.take_add_one]
  congr 1
  rw [List.getElem?_drop,show b + (i - b) = i by omega,List.getElem?_eq_getElem h2]; rfl
 rw [mid,mid,e1,List.set_append_right _ _ (by simp; omega),List.set_append_right _ _ (by simp; omega)]
 rw [show i - (List.take b l).length - (((l.drop b).take (i - b)).map (·.like y)).length = 0 by simp; omega]
 rw [List.drop_eq_getElem_cons h2,List.set_cons_zero,List.map_append]
 simp only [List.map_cons,List.map_nil,List.append_assoc,List.cons_append,List.nil_append]
end Go.Proofs.YtdcoidmbainkmaaGreatDoor
