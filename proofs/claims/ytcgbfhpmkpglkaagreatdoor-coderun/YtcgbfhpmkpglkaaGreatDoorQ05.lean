/- Texts put together: M, C0, R0, R1. -/
import Derived.Test.YtcgbfhpmkpglkaaGreatDoorQ03
import Derived.Test.YtcgbfhpmkpglkaaGreatDoorQ04
set_option linter.unusedVariables false
set_option linter.unusedSimpArgs false
set_option maxHeartbeats 8000000
namespace Go.Proofs.YtcgbfhpmkpglkaaGreatDoor
open Go.RowKit
attribute [local go_sem ↓] Go.wp_at_zero Go.wp_at_succ
def kf_ (nm:ByteArray) (I O S:List (ByteArray×Int)):Prop:=
 ∀ w:World,Calls Tryz.prog 85 #[.string nm] w fun e w'=>∃ v,e=.returned (.tuple #[v,.bool true])∧Shp w w' v I O S∧w.grownBy w' none
theorem qd_ (nm:ByteArray) (P T fS:Nat) (z:Array Value) (I O S:List (ByteArray×Int))
 (hnamed:∀ w,Calls Tryz.prog 86 #[.string nm] w fun e w'=>e=.returned (.tuple #[.iface P (.pointer (some ⟨w.heap.size,0,none⟩)),.bool true])∧w'=w.alloc (.cells z T))
 (hmS:∀ (p:Nat) (w:World),(method 309 P (.pointer (some ⟨p,0,none⟩)) "plantwright/blocks.shape").run Tryz.prog w=.ok (fS,.pointer (some ⟨p,0,none⟩)) w)
 (hcS:∀(args:Array Value) (w:World),(callFunc fS args).run Tryz.prog w=.ok (.enter fS args) w)
 (hshape:∀(p:Nat) (w:World),Calls Tryz.prog fS #[.pointer (some ⟨p,0,none⟩)] w fun e w'=>∃ v,e=.returned v∧Shp w w' v I O S∧w.grownBy w' none):kf_ nm I O S:=by
 intro w;go_enter Tryz.func85,Tryz.ntmps85;go_wp2_with (go_at_call 86;refine(hnamed _).mono ?_;rintro e w' ⟨rfl,rfl⟩)
 refine(hshape _ _).mono ?_;rintro e w1 ⟨v,rfl,⟨b1,b2,b3,rfl,hb1,hb2,hb3,n12,n13,n23,hB1,hB2,hB3⟩,hg1⟩;simp at hb1 hb2 hb3;have hX:w1.heap[w.heap.size]?=some (.cells #[.slice none 0 0,.slice none 0 0,.slice none 0 0] 100):=kept hg1 ((xh_ (by simp) _).trans (heap_alloc_new _ _));have d0:=xa_ hX 0;have d1:=xa_ hX 1;have d2:=xa_ hX 2;have f0:=xc_ hX 0;have f1:=xc_ hX 1;have f2:=xc_ hX 2;simp at d0 d1 d2;have hgw:w.grownBy w1 none:=(xb_ (xb_ (World.grownBy.refl w none) _) _).trans hg1;go_wp2;refine bodyPost_ret (v:=.tuple #[.agg #[.slice (some ⟨b1,0,none⟩) I.length I.length,.slice (some ⟨b2,0,none⟩) O.length O.length,.slice (some ⟨b3,0,none⟩) S.length S.length],.bool true]) (by simp[results,Tryz.results85,go_sem,d0,d1,d2]) rfl ⟨_,rfl,⟨b1,b2,b3,rfl,by omega,by omega,by omega,n12,n13,n23,?_,?_,?_⟩,?_⟩
 ·rw[Below.heap_setCell _ _ _ _ (by simp;omega),Below.heap_setCell _ _ _ _ (by simp;omega),Below.heap_setCell _ _ _ _ (by simp;omega)];exact hB1
 ·rw[Below.heap_setCell _ _ _ _ (by simp;omega),Below.heap_setCell _ _ _ _ (by simp;omega),Below.heap_setCell _ _ _ _ (by simp;omega)];exact hB2
 ·rw[Below.heap_setCell _ _ _ _ (by simp;omega),Below.heap_setCell _ _ _ _ (by simp;omega),Below.heap_setCell _ _ _ _ (by simp;omega)];exact hB3
 ·exact yc_ (yc_ (yc_ hgw (Nat.le_refl _) _ _) (Nat.le_refl _) _ _) (Nat.le_refl _) _ _
theorem ad0_:kf_ zu_ tonI tonO tonS:=qd_ zu_ 143 147 116 #[.bool false,.int .i64 0,.bool false,.int .i64 0] _ _ _ ae3_ (fun _ _=>by kernel_rfl) (fun _ _=>by kernel_rfl) aex_
theorem ad1_:kf_ zv_ tofI tofO tofS:=qd_ zv_ 148 149 126 #[.bool false,.int .i64 0,.bool false,.int .i64 0] _ _ _ ae4_ (fun _ _=>by kernel_rfl) (fun _ _=>by kernel_rfl) aey_
theorem ae7_:kf_ qu_ tpI tpO tpS:=qd_ qu_ 150 151 130 #[.bool false,.int .i64 0,.bool false,.int .i64 0] _ _ _ ahu_ (fun _ _=>by kernel_rfl) (fun _ _=>by kernel_rfl) ahl_
theorem ad2_:kf_ zw_ ctuI ctuO ctuS:=qd_ zw_ 152 156 135 #[.bool false,.int .i64 0] _ _ _ ae5_ (fun _ _=>by kernel_rfl) (fun _ _=>by kernel_rfl) aez_
theorem ad3_:kf_ zx_ ctdI ctdO ctdS:=qd_ zx_ 157 158 140 #[.bool false,.int .i64 0] _ _ _ ae6_ (fun _ _=>by kernel_rfl) (fun _ _=>by kernel_rfl) ae0_
theorem acx_:kf_ ze_ acu_ aeu_ adt_:=qd_ ze_ 159 161 145 #[.bool false,.bool false,.int .i64 0] _ _ _ adx_ (fun _ _=>by kernel_rfl) (fun _ _=>by kernel_rfl) adu_
theorem ab2_:kf_ zb_ kd_ aar_ k7_:=qd_ zb_ 162 166 149 #[.bool false] _ _ _ acv_ (fun _ _=>by kernel_rfl) (fun _ _=>by kernel_rfl) u7_
theorem ab3_:kf_ zc_ kd_ aar_ k7_:=qd_ zc_ 167 168 149 #[.bool false] _ _ _ acw_ (fun _ _=>by kernel_rfl) (fun _ _=>by kernel_rfl) u7_
theorem ae8_:kf_ q7_ srI srO srS:=qd_ q7_ 169 173 154 #[.bool false] _ _ _ ahv_ (fun _ _=>by kernel_rfl) (fun _ _=>by kernel_rfl) ahm_
theorem ae9_:kf_ q8_ rsI rsO rsS:=qd_ q8_ 174 175 157 #[.bool false] _ _ _ ahw_ (fun _ _=>by kernel_rfl) (fun _ _=>by kernel_rfl) ahn_
theorem acy_:kf_ zo_ up_ aev_ aai_:=qd_ zo_ 176 178 161 #[.int .i64 0] _ _ _ ady_ (fun _ _=>by kernel_rfl) (fun _ _=>by kernel_rfl) adv_
theorem acz_:kf_ zp_ abi_ aew_ ab0_:=qd_ zp_ 179 180 163 #[.bool false] _ _ _ adz_ (fun _ _=>by kernel_rfl) (fun _ _=>by kernel_rfl) adw_
def stdN:List ByteArray:=[zu_,zv_,qu_,zw_,zx_,ze_,zb_,zc_,q7_,q8_,zo_,zp_]
def Stds (w:World):Prop:=∀ k,k<12→w.cell? ⟨0,k,none⟩=some (.string (stdN.getD k ByteArray.empty))
theorem Stds.grown {w w':World} (h:Stds w) (hg:w.grownBy w' none):Stds w':=fun k hk=>hg.cell (h k hk) (by simp)
def yk_ (n:Int):Int:=if n=1∨n=2∨n=3 then 8 else if n=4∨n=5 then 7 else if n=6 then 11 else if n=7∨n=8 then 3 else if n=9∨n=10∨n=11 then 4 else if n=12 then 5 else 0
def kitV (nm:ByteArray) (i o s:Nat):Value:=.agg #[.string nm,.int .i64 i,.int .i64 ((i:Int)+o),.int .i64 ((i:Int)+o+s)]
theorem zd_ (k:Nat) (nm:ByteArray) (I O S:List (ByteArray×Int)) (hC:kf_ nm I O S) (hI:I.length≤5) (hO:O.length≤5) (hL:S.length≤5) (w:World) (hk:k<12) (h0:w.cell? ⟨0,k,none⟩=some (.string nm)) :
 Calls Tryz.prog 72 #[.int .i64 ((k:Int)+1)] w fun e w'=>e=.returned (kitV nm I.length O.length S.length)∧w.grownBy w' none:=by
 have h1:∀ o,(w.alloc o).cell? ⟨0,k,none⟩=some (.string nm):=fun o=>(xb_ (World.grownBy.refl w none) o).cell h0 (by simp);obtain⟨i,hi⟩:∃ i,I.length=i:=⟨_,rfl⟩;obtain⟨o,ho⟩:∃ i,O.length=i:=⟨_,rfl⟩;obtain⟨s,hs⟩:∃ i,S.length=i:=⟨_,rfl⟩;have k0:(0:Int)≤(k:Int):=(by omega);have k1:(k:Int)<12:=(by omega);have k2:wrap64 ((k:Int)+1 - 1)=(k:Int):=(by unfold wrap64;omega);have e1:wrap64 ((i:Int)+(o:Int))=(i:Int)+o:=(by unfold wrap64;omega);have e2:wrap64 ((i:Int)+(o:Int)+(s:Int))=(i:Int)+o+s:=(by unfold wrap64;omega);rw[hi,ho,hs];clear h0;go_enter Tryz.func72,Tryz.ntmps72;go_wp2_with fail
 refine(hC _).mono ?_;rintro e w1 ⟨v,rfl,⟨b1,b2,b3,rfl,hb1,hb2,hb3,n12,n13,n23,hB1,hB2,hB3⟩,hg1⟩;rw[hi,ho,hs];simp at hb1 hb2 hb3;have hX:=kept hg1 ((xh_ (by simp) _).trans (heap_alloc_new w _));have hY:=kept hg1 (xj_ (k:=w.heap.size+1) (by simp) _);have hgw:w.grownBy w1 none:=(xb_ (xb_ (World.grownBy.refl w none) _) _).trans hg1;have hs1:=xg_ hX;have hs2:=xg_ hY;have x0:=xa_ hX 0;have x1:=xa_ hX 1;have x2:=xa_ hX 2;have x3:=xa_ hX 3;have y0:=xa_ hY 0;have y1:=xa_ hY 1;have y2:=xa_ hY 2;have y3:=xa_ hY 3;have f0:=xc_ hX 0;have f1:=xc_ hX 1;have f2:=xc_ hX 2;have f3:=xc_ hX 3;have g0:=xc_ hY 0;have g1:=xc_ hY 1;have g2:=xc_ hY 2;have g3:=xc_ hY 3;simp at x0 x1 x2 x3 y0 y1 y2 y3;have HX:Hid (_=_):=hX;clear hX hY hB1 hB2 hB3 h1;go_wp2_with fail
 have hF:=(xh_ (w:=(((((((w1.setCell ⟨w.heap.size+1,1,none⟩ (.int .i64 i)).setCell ⟨w.heap.size+1,2,none⟩ (.int .i64 ((i:Int)+o))).setCell ⟨w.heap.size+1,3,none⟩ (.int .i64 ((i:Int)+o+s))).setCell ⟨w.heap.size,0,none⟩ (.string nm)).setCell ⟨w.heap.size,1,none⟩ (.int .i64 i)).setCell ⟨w.heap.size,2,none⟩ (.int .i64 ((i:Int)+o))).setCell ⟨w.heap.size,3,none⟩ (.int .i64 ((i:Int)+o+s)))) (k:=w.heap.size) (by simpa using hs1) (.cells #[.slice (some ⟨b1,0,none⟩) i i,.slice (some ⟨b2,0,none⟩) o o,.slice (some ⟨b3,0,none⟩) s s] 100)).trans (xk_ (xk_ (xk_ (xk_ (((Below.heap_setCell _ _ _ _ (by simp)).trans ((Below.heap_setCell _ _ _ _ (by simp)).trans ((Below.heap_setCell _ _ _ _ (by simp)).trans HX.out)))) 0 (.string nm)) 1 (.int .i64 i)) 2 (.int .i64 ((i:Int)+o))) 3 (.int .i64 ((i:Int)+o+s)));have c0:=xa_ hF 0;have c1:=xa_ hF 1;have c2:=xa_ hF 2;have c3:=xa_ hF 3;simp at c0 c1 c2 c3;refine bodyPost_ret (v:=kitV nm i o s) (by simp[results,Tryz.results72,go_sem,kitV,c0,c1,c2,c3]) rfl ⟨rfl,?_⟩;clear HX hF c0 c1 c2 c3;refine xb_ (yc_ (yc_ (yc_ (yc_ (yc_ (yc_ (yc_ hgw ?_ _ _) ?_ _ _) ?_ _ _) ?_ _ _) ?_ _ _) ?_ _ _) ?_ _ _) _;all_goals omega
theorem arz_ (n:Int) (w:World) (hS:Stds w) (h1:1≤n) (h2:n≤12):Calls Tryz.prog 72 #[.int .i64 n] w fun e w'=>(∃ nm i o,e=.returned (.agg #[.string nm,.int .i64 i,.int .i64 o,.int .i64 (yk_ n)]))∧w.grownBy w' none:=by
 rcases(show n=1∨n=2∨n=3∨n=4∨n=5∨n=6∨n=7∨n=8∨n=9∨n=10∨n=11∨n=12 by omega) with rfl|rfl|rfl|rfl|rfl|rfl|rfl|rfl|rfl|rfl|rfl|rfl
 ·exact(zd_ 0 zu_ _ _ _ ad0_ (by decide) (by decide) (by decide) w (by omega) (hS 0 (by omega))).mono fun e w' h=>⟨⟨_,_,_,h.1⟩,h.2⟩
 ·exact(zd_ 1 zv_ _ _ _ ad1_ (by decide) (by decide) (by decide) w (by omega) (hS 1 (by omega))).mono fun e w' h=>⟨⟨_,_,_,h.1⟩,h.2⟩
 ·exact(zd_ 2 qu_ _ _ _ ae7_ (by decide) (by decide) (by decide) w (by omega) (hS 2 (by omega))).mono fun e w' h=>⟨⟨_,_,_,h.1⟩,h.2⟩
 ·exact(zd_ 3 zw_ _ _ _ ad2_ (by decide) (by decide) (by decide) w (by omega) (hS 3 (by omega))).mono fun e w' h=>⟨⟨_,_,_,h.1⟩,h.2⟩
 ·exact(zd_ 4 zx_ _ _ _ ad3_ (by decide) (by decide) (by decide) w (by omega) (hS 4 (by omega))).mono fun e w' h=>⟨⟨_,_,_,h.1⟩,h.2⟩
 ·exact(zd_ 5 ze_ _ _ _ acx_ (by decide) (by decide) (by decide) w (by omega) (hS 5 (by omega))).mono fun e w' h=>⟨⟨_,_,_,h.1⟩,h.2⟩
 ·exact(zd_ 6 zb_ _ _ _ ab2_ (by decide) (by decide) (by decide) w (by omega) (hS 6 (by omega))).mono fun e w' h=>⟨⟨_,_,_,h.1⟩,h.2⟩
 ·exact(zd_ 7 zc_ _ _ _ ab3_ (by decide) (by decide) (by decide) w (by omega) (hS 7 (by omega))).mono fun e w' h=>⟨⟨_,_,_,h.1⟩,h.2⟩
 ·exact(zd_ 8 q7_ _ _ _ ae8_ (by decide) (by decide) (by decide) w (by omega) (hS 8 (by omega))).mono fun e w' h=>⟨⟨_,_,_,h.1⟩,h.2⟩
 ·exact(zd_ 9 q8_ _ _ _ ae9_ (by decide) (by decide) (by decide) w (by omega) (hS 9 (by omega))).mono fun e w' h=>⟨⟨_,_,_,h.1⟩,h.2⟩
 ·exact(zd_ 10 zo_ _ _ _ acy_ (by decide) (by decide) (by decide) w (by omega) (hS 10 (by omega))).mono fun e w' h=>⟨⟨_,_,_,h.1⟩,h.2⟩
 ·exact(zd_ 11 zp_ _ _ _ acz_ (by decide) (by decide) (by decide) w (by omega) (hS 11 (by omega))).mono fun e w' h=>⟨⟨_,_,_,h.1⟩,h.2⟩
theorem jr_ (s:ByteArray) (k:Int) (w:World):Calls Tryz.prog 64 #[.string s,.int .i64 k] w fun e w'=>e=.returned (.agg #[.string s,.int .i64 k])∧w'=w.alloc (.cells #[.string s,.int .i64 k] 113):=by
 go_enter Tryz.func64,Tryz.ntmps64;go_wp2;refine bodyPost_ret (v:=.agg #[.string s,.int .i64 k]) (by simp[results,Tryz.results64,go_sem]) rfl ⟨rfl,?_⟩;first|rfl|simp
def zq_ (nm:ByteArray) (I O S:List (ByteArray×Int)):Prop:=
 ∀ w:World,Calls Tryz.prog 46 #[.string nm] w fun e w'=>∃ v,e=.returned (.tuple #[v,.bool true])∧Shp w w' v I O S∧w.grownBy w' none
set_option maxRecDepth 10000 in
theorem u8_:zq_ zu_ tonI tonO tonS:=by
 intro w;unfold zu_;go_enter Tryz.func46,Tryz.ntmps46;go_wp2_with (go_at_call 64;refine(jr_ _ _ _).mono ?_;rintro e w' ⟨rfl,rfl⟩)
 refine bodyPost_ret (v:=.tuple #[.agg #[.slice (some ⟨w.heap.size+4,0,none⟩) 2 2,.slice (some ⟨w.heap.size+7,0,none⟩) 2 2,.slice (some ⟨w.heap.size+12,0,none⟩) 4 4],.bool true]) (by simp[results,Tryz.results46,go_sem]) rfl ⟨_,rfl,⟨w.heap.size+4,w.heap.size+7,w.heap.size+12,rfl,by omega,by omega,by omega,by omega,by omega,by omega,?_,?_,?_⟩,xb_ (xb_ (xb_ (xb_ (xb_ (xb_ (xb_ (xb_ (xb_ (xb_ (xb_ (xb_ (xb_ gz_ _) _) _) _) _) _) _) _) _) _) _) _) _⟩;all_goals(repeat(first|exact xj_ (by simp) _|refine(xh_ (by simp) _).trans ?_))
set_option maxRecDepth 10000 in
theorem u9_:zq_ zv_ tofI tofO tofS:=by
 intro w;unfold zv_;go_enter Tryz.func46,Tryz.ntmps46;go_wp2_with (go_at_call 64;refine(jr_ _ _ _).mono ?_;rintro e w' ⟨rfl,rfl⟩)
 refine bodyPost_ret (v:=.tuple #[.agg #[.slice (some ⟨w.heap.size+4,0,none⟩) 2 2,.slice (some ⟨w.heap.size+7,0,none⟩) 2 2,.slice (some ⟨w.heap.size+12,0,none⟩) 4 4],.bool true]) (by simp[results,Tryz.results46,go_sem]) rfl ⟨_,rfl,⟨w.heap.size+4,w.heap.size+7,w.heap.size+12,rfl,by omega,by omega,by omega,by omega,by omega,by omega,?_,?_,?_⟩,xb_ (xb_ (xb_ (xb_ (xb_ (xb_ (xb_ (xb_ (xb_ (xb_ (xb_ (xb_ (xb_ gz_ _) _) _) _) _) _) _) _) _) _) _) _) _⟩;all_goals(repeat(first|exact xj_ (by simp) _|refine(xh_ (by simp) _).trans ?_))
set_option maxRecDepth 10000 in
theorem aat_:zq_ qu_ tpI tpO tpS:=by
 intro w;unfold qu_;go_enter Tryz.func46,Tryz.ntmps46;go_wp2_with (go_at_call 64;refine(jr_ _ _ _).mono ?_;rintro e w' ⟨rfl,rfl⟩)
 refine bodyPost_ret (v:=.tuple #[.agg #[.slice (some ⟨w.heap.size+4,0,none⟩) 2 2,.slice (some ⟨w.heap.size+7,0,none⟩) 2 2,.slice (some ⟨w.heap.size+12,0,none⟩) 4 4],.bool true]) (by simp[results,Tryz.results46,go_sem]) rfl ⟨_,rfl,⟨w.heap.size+4,w.heap.size+7,w.heap.size+12,rfl,by omega,by omega,by omega,by omega,by omega,by omega,?_,?_,?_⟩,xb_ (xb_ (xb_ (xb_ (xb_ (xb_ (xb_ (xb_ (xb_ (xb_ (xb_ (xb_ (xb_ gz_ _) _) _) _) _) _) _) _) _) _) _) _) _⟩;all_goals(repeat(first|exact xj_ (by simp) _|refine(xh_ (by simp) _).trans ?_))
set_option maxRecDepth 10000 in
theorem aaa_:zq_ zw_ ctuI ctuO ctuS:=by
 intro w;unfold zw_;go_enter Tryz.func46,Tryz.ntmps46;go_wp2_with (go_at_call 64;refine(jr_ _ _ _).mono ?_;rintro e w' ⟨rfl,rfl⟩)
 refine bodyPost_ret (v:=.tuple #[.agg #[.slice (some ⟨w.heap.size+5,0,none⟩) 3 3,.slice (some ⟨w.heap.size+8,0,none⟩) 2 2,.slice (some ⟨w.heap.size+11,0,none⟩) 2 2],.bool true]) (by simp[results,Tryz.results46,go_sem]) rfl ⟨_,rfl,⟨w.heap.size+5,w.heap.size+8,w.heap.size+11,rfl,by omega,by omega,by omega,by omega,by omega,by omega,?_,?_,?_⟩,xb_ (xb_ (xb_ (xb_ (xb_ (xb_ (xb_ (xb_ (xb_ (xb_ (xb_ (xb_ gz_ _) _) _) _) _) _) _) _) _) _) _) _⟩;all_goals(repeat(first|exact xj_ (by simp) _|refine(xh_ (by simp) _).trans ?_))
set_option maxRecDepth 10000 in
theorem aab_:zq_ zx_ ctdI ctdO ctdS:=by
 intro w;unfold zx_;go_enter Tryz.func46,Tryz.ntmps46;go_wp2_with (go_at_call 64;refine(jr_ _ _ _).mono ?_;rintro e w' ⟨rfl,rfl⟩)
 refine bodyPost_ret (v:=.tuple #[.agg #[.slice (some ⟨w.heap.size+5,0,none⟩) 3 3,.slice (some ⟨w.heap.size+8,0,none⟩) 2 2,.slice (some ⟨w.heap.size+11,0,none⟩) 2 2],.bool true]) (by simp[results,Tryz.results46,go_sem]) rfl ⟨_,rfl,⟨w.heap.size+5,w.heap.size+8,w.heap.size+11,rfl,by omega,by omega,by omega,by omega,by omega,by omega,?_,?_,?_⟩,xb_ (xb_ (xb_ (xb_ (xb_ (xb_ (xb_ (xb_ (xb_ (xb_ (xb_ (xb_ gz_ _) _) _) _) _) _) _) _) _) _) _) _⟩;all_goals(repeat(first|exact xj_ (by simp) _|refine(xh_ (by simp) _).trans ?_))
set_option maxRecDepth 10000 in
theorem uf_:zq_ ze_ acu_ aeu_ adt_:=by
 intro w;unfold ze_;go_enter Tryz.func46,Tryz.ntmps46;go_wp2_with (go_at_call 64;refine(jr_ _ _ _).mono ?_;rintro e w' ⟨rfl,rfl⟩)
 refine bodyPost_ret (v:=.tuple #[.agg #[.slice (some ⟨w.heap.size+7,0,none⟩) 5 5,.slice (some ⟨w.heap.size+11,0,none⟩) 3 3,.slice (some ⟨w.heap.size+15,0,none⟩) 3 3],.bool true]) (by simp[results,Tryz.results46,go_sem]) rfl ⟨_,rfl,⟨w.heap.size+7,w.heap.size+11,w.heap.size+15,rfl,by omega,by omega,by omega,by omega,by omega,by omega,?_,?_,?_⟩,xb_ (xb_ (xb_ (xb_ (xb_ (xb_ (xb_ (xb_ (xb_ (xb_ (xb_ (xb_ (xb_ (xb_ (xb_ (xb_ gz_ _) _) _) _) _) _) _) _) _) _) _) _) _) _) _) _⟩;all_goals(repeat(first|exact xj_ (by simp) _|refine(xh_ (by simp) _).trans ?_))
set_option maxRecDepth 10000 in
theorem q9_:zq_ zb_ kd_ aar_ k7_:=by
 intro w;unfold zb_;go_enter Tryz.func46,Tryz.ntmps46;go_wp2_with (go_at_call 64;refine(jr_ _ _ _).mono ?_;rintro e w' ⟨rfl,rfl⟩)
 refine bodyPost_ret (v:=.tuple #[.agg #[.slice (some ⟨w.heap.size+3,0,none⟩) 1 1,.slice (some ⟨w.heap.size+5,0,none⟩) 1 1,.slice (some ⟨w.heap.size+7,0,none⟩) 1 1],.bool true]) (by simp[results,Tryz.results46,go_sem]) rfl ⟨_,rfl,⟨w.heap.size+3,w.heap.size+5,w.heap.size+7,rfl,by omega,by omega,by omega,by omega,by omega,by omega,?_,?_,?_⟩,xb_ (xb_ (xb_ (xb_ (xb_ (xb_ (xb_ (xb_ gz_ _) _) _) _) _) _) _) _⟩;all_goals(repeat(first|exact xj_ (by simp) _|refine(xh_ (by simp) _).trans ?_))
set_option maxRecDepth 10000 in
theorem ja_:zq_ zc_ kd_ aar_ k7_:=by
 intro w;unfold zc_;go_enter Tryz.func46,Tryz.ntmps46;go_wp2_with (go_at_call 64;refine(jr_ _ _ _).mono ?_;rintro e w' ⟨rfl,rfl⟩)
 refine bodyPost_ret (v:=.tuple #[.agg #[.slice (some ⟨w.heap.size+3,0,none⟩) 1 1,.slice (some ⟨w.heap.size+5,0,none⟩) 1 1,.slice (some ⟨w.heap.size+7,0,none⟩) 1 1],.bool true]) (by simp[results,Tryz.results46,go_sem]) rfl ⟨_,rfl,⟨w.heap.size+3,w.heap.size+5,w.heap.size+7,rfl,by omega,by omega,by omega,by omega,by omega,by omega,?_,?_,?_⟩,xb_ (xb_ (xb_ (xb_ (xb_ (xb_ (xb_ (xb_ gz_ _) _) _) _) _) _) _) _⟩;all_goals(repeat(first|exact xj_ (by simp) _|refine(xh_ (by simp) _).trans ?_))
set_option maxRecDepth 10000 in
theorem z0_:zq_ q7_ srI srO srS:=by
 intro w;unfold q7_;go_enter Tryz.func46,Tryz.ntmps46;go_wp2_with (go_at_call 64;refine(jr_ _ _ _).mono ?_;rintro e w' ⟨rfl,rfl⟩)
 refine bodyPost_ret (v:=.tuple #[.agg #[.slice (some ⟨w.heap.size+4,0,none⟩) 2 2,.slice (some ⟨w.heap.size+6,0,none⟩) 1 1,.slice (some ⟨w.heap.size+8,0,none⟩) 1 1],.bool true]) (by simp[results,Tryz.results46,go_sem]) rfl ⟨_,rfl,⟨w.heap.size+4,w.heap.size+6,w.heap.size+8,rfl,by omega,by omega,by omega,by omega,by omega,by omega,?_,?_,?_⟩,xb_ (xb_ (xb_ (xb_ (xb_ (xb_ (xb_ (xb_ (xb_ gz_ _) _) _) _) _) _) _) _) _⟩;all_goals(repeat(first|exact xj_ (by simp) _|refine(xh_ (by simp) _).trans ?_))
set_option maxRecDepth 10000 in
theorem z1_:zq_ q8_ rsI rsO rsS:=by
 intro w;unfold q8_;go_enter Tryz.func46,Tryz.ntmps46;go_wp2_with (go_at_call 64;refine(jr_ _ _ _).mono ?_;rintro e w' ⟨rfl,rfl⟩)
 refine bodyPost_ret (v:=.tuple #[.agg #[.slice (some ⟨w.heap.size+4,0,none⟩) 2 2,.slice (some ⟨w.heap.size+6,0,none⟩) 1 1,.slice (some ⟨w.heap.size+8,0,none⟩) 1 1],.bool true]) (by simp[results,Tryz.results46,go_sem]) rfl ⟨_,rfl,⟨w.heap.size+4,w.heap.size+6,w.heap.size+8,rfl,by omega,by omega,by omega,by omega,by omega,by omega,?_,?_,?_⟩,xb_ (xb_ (xb_ (xb_ (xb_ (xb_ (xb_ (xb_ (xb_ gz_ _) _) _) _) _) _) _) _) _⟩;all_goals(repeat(first|exact xj_ (by simp) _|refine(xh_ (by simp) _).trans ?_))
set_option maxRecDepth 10000 in
theorem z2_:zq_ zo_ up_ aev_ aai_:=by
 intro w;unfold zo_;go_enter Tryz.func46,Tryz.ntmps46;go_wp2_with (go_at_call 64;refine(jr_ _ _ _).mono ?_;rintro e w' ⟨rfl,rfl⟩)
 refine bodyPost_ret (v:=.tuple #[.agg #[.slice (some ⟨w.heap.size+4,0,none⟩) 2 2,.slice (some ⟨w.heap.size+6,0,none⟩) 1 1,.slice (some ⟨w.heap.size+8,0,none⟩) 1 1],.bool true]) (by simp[results,Tryz.results46,go_sem]) rfl ⟨_,rfl,⟨w.heap.size+4,w.heap.size+6,w.heap.size+8,rfl,by omega,by omega,by omega,by omega,by omega,by omega,?_,?_,?_⟩,xb_ (xb_ (xb_ (xb_ (xb_ (xb_ (xb_ (xb_ (xb_ gz_ _) _) _) _) _) _) _) _) _⟩;all_goals(repeat(first|exact xj_ (by simp) _|refine(xh_ (by simp) _).trans ?_))
set_option maxRecDepth 10000 in
theorem jn_:zq_ zp_ abi_ aew_ ab0_:=by
 intro w;unfold zp_;go_enter Tryz.func46,Tryz.ntmps46;go_wp2_with (go_at_call 64;refine(jr_ _ _ _).mono ?_;rintro e w' ⟨rfl,rfl⟩)
 refine bodyPost_ret (v:=.tuple #[.agg #[.slice (some ⟨w.heap.size+5,0,none⟩) 3 3,.slice (some ⟨w.heap.size+7,0,none⟩) 1 1,.slice (some ⟨w.heap.size+9,0,none⟩) 1 1],.bool true]) (by simp[results,Tryz.results46,go_sem]) rfl ⟨_,rfl,⟨w.heap.size+5,w.heap.size+7,w.heap.size+9,rfl,by omega,by omega,by omega,by omega,by omega,by omega,?_,?_,?_⟩,xb_ (xb_ (xb_ (xb_ (xb_ (xb_ (xb_ (xb_ (xb_ (xb_ gz_ _) _) _) _) _) _) _) _) _) _⟩;all_goals(repeat(first|exact xj_ (by simp) _|refine(xh_ (by simp) _).trans ?_))
end Go.Proofs.YtcgbfhpmkpglkaaGreatDoor
