/- Texts put together: Fc, Fd, Ga, Gb, Gd, Ff, Fg. -/
import Derived.Test.YtcoglmaiahpooaaGreatDoorQ14
import Derived.Deep.MidRow
set_option linter.unusedVariables false
set_option linter.unusedSimpArgs false
set_option maxHeartbeats 8000000
namespace Go.Proofs.YtcoglmaiahpooaaGreatDoor
open Go.RowKit
attribute [local go_sem ↓] Go.wp_at_zero Go.wp_at_succ
theorem af1_ (e:PE) (k v:Value):(xC e k).set 7 v=xC e v:=by
 obtain⟨_,_,_,_,_,_,_,_⟩:=e;rfl
theorem kz_:∀(l:List PE) (ks:List Value) (i:Nat) (v:Value),ks.length=l.length→i<l.length→((l.zip ks).flatMap (fun p:PE×Value=>xC p.1 p.2)).set (i*8+7) v=(l.zip (ks.set i v)).flatMap (fun p:PE×Value=>xC p.1 p.2)
 | e::l,k::ks,0,v,_,_=>by
  simp only[List.zip_cons_cons,List.flatMap_cons,List.set_cons_zero];rw[List.set_append,if_pos (by rw[z8_];omega),show 0*8+7=7 by omega,af1_]
 | e::l,k::ks,i+1,v,hl,hi=>by
  simp only[List.zip_cons_cons,List.flatMap_cons,List.set_cons_succ];rw[List.set_append,if_neg (by rw[z8_];omega),z8_,show(i+1)*8+7 - 8=i*8+7 by omega,kz_ l ks i v (by simpa using hl) (by simpa using hi)]
theorem acg_ (l:List PE) (ks sp:List Value) (i:Nat) (v:Value) (hl:ks.length=l.length) (hi:i<l.length):(((l.zip ks).flatMap (fun p:PE×Value=>xC p.1 p.2)++sp).toArray.setIfInBounds (i*8+7) v)=((l.zip (ks.set i v)).flatMap (fun p:PE×Value=>xC p.1 p.2)++sp).toArray:=by
 have hlen:=ze_ (l.zip ks);have hz:(l.zip ks).length=l.length:=(by simp;omega);rw[hz] at hlen;rw[List.setIfInBounds_toArray,List.set_append,if_pos (by rw[hlen];omega),kz_ l ks i v hl hi]
theorem aa9_ (l:List PE) (ks sp:List Value) (v:Value) (hl:ks.length=l.length):(((l.zip ks).flatMap (fun p:PE×Value=>xC p.1 p.2)++sp).toArray.setIfInBounds (l.length*8+6) v)=((l.zip ks).flatMap (fun p:PE×Value=>xC p.1 p.2)++sp.set 6 v).toArray:=by
 have hlen:=ze_ (l.zip ks);have hz:(l.zip ks).length=l.length:=(by simp;omega);rw[hz] at hlen;rw[List.setIfInBounds_toArray,List.set_append,if_neg (by rw[hlen];omega),hlen,show l.length*8+6 - l.length*8=6 by omega]
def CE (W:World) (v:Value) (l:List PE):Prop:=∀ W',W.grownBy W' none→Calls Tryz.prog 43 #[v] W' fun e w'=>∃ v',e=.returned v'∧CXs w' W'.heap.size v' l∧W'.grownBy w' none
theorem ais_ {W W0:World} {ok:Nat→Prop} (x:Option Addr) (c:Nat) (l:List PE) (hg:W.grownBy W0 none) (ks:List Value) (hl:ks.length=l.length) (HKS:∀ e k,(e,k)∈l.zip ks→∃ a m c,k=.slice a m c) (hr:Row W ok 50 (.slice x l.length c) l.length ((l.zip ks).flatMap (fun p:PE×Value=>xC p.1 p.2))) :
 ∃(cur:Array Value) (w2:World) (sp:List Value),(∀ w:World,(Instr.makeSlice 48 (.int .i64 ((l.length:Int)+2)) (.int .i64 ((l.length:Int)+2))).run Tryz.prog w=.ok (.slice (some ⟨w.heap.size,0,none⟩) (l.length+2) (l.length+2)) (w.alloc (.cells cur 50)))∧
  (Builtin.copy_ #[48,48] 3 #[.slice (some ⟨W0.heap.size,0,none⟩) (l.length+2) (l.length+2),.slice x l.length c]).run Tryz.prog (W0.alloc (.cells cur 50))=.ok (.int .i64 l.length) w2∧w2.heap[W0.heap.size]?=some (.cells ((l.zip ks).flatMap (fun p:PE×Value=>xC p.1 p.2)++sp).toArray 50)∧sp.length=16∧W0.grownBy w2 none:=by
 obtain⟨a,cap,hv,hn,hrow⟩:=hr;injection hv with e1 _ e3;subst e1 e3;obtain⟨i0,hi,hz0,hz1,hz2⟩:=z7_ (P:=Tryz.prog) (e:=50) (z:=some (.agg #[.int .i64 0,.int .i64 0,.int .i64 0,.int .i64 0,.string ⟨#[]⟩,.string ⟨#[]⟩,.int .i64 0,.slice none 0 0])) (n:=8) (m:=96) (by kernel_rfl);have hs:(Tryz.prog.info? 50).map (·.size)=some 8:=(by rw[hi,Option.map_some,hz1]);have hlen:=ze_ (l.zip ks);have hz:(l.zip ks).length=l.length:=(by simp;omega);rw[hz] at hlen;obtain⟨cur,hcur⟩:∃ cur,madeCells (Value.agg #[.int .i64 0,.int .i64 0,.int .i64 0,.int .i64 0,.string ⟨#[]⟩,.string ⟨#[]⟩,.int .i64 0,.slice none 0 0]).cells ((l.length+2)*8)=cur:=⟨_,rfl⟩;have hcs:cur.size=(l.length+2)*8:=(by rw[← hcur,size_madeCells]);have hmk:∀ w:World,(Instr.makeSlice 48 (.int .i64 ((l.length:Int)+2)) (.int .i64 ((l.length:Int)+2))).run Tryz.prog w=.ok (.slice (some ⟨w.heap.size,0,none⟩) (l.length+2) (l.length+2)) (w.alloc (.cells cur 50)):=fun w=>by
  have h:=run_make (P:=Tryz.prog) w 48 50 i0 _ Tryz.underlying48 hi hz0 .i64 .i64 ((l.length:Int)+2) ((l.length:Int)+2) (by omega) (by omega) (by rw[hz2];omega) (by omega);have e:((l.length:Int)+2).toNat=l.length+2:=(by omega);rw[hz1,e,hcur] at h;exact h
 rcases hrow with⟨h0,hnil⟩|⟨b,off,rfl,_,hb,hc⟩
 · refine⟨cur,W0.alloc (.cells cur 50),cur.toList,hmk,?_,?_,by simp[hcs,h0],xf_ (gr0 _) _⟩
   ·rw[h0];exact ko_ _ 48 48 3 50 _ x _ _ c 8 Tryz.underlying48 hs
   ·rw[hnil,List.nil_append,Array.toArray_toList];exact heap_alloc_new _ _
 · have hmin:Nat.min l.length (l.length+2)=l.length:=Nat.min_eq_left (by omega);have hcell:∀ j u,((l.zip ks).flatMap (fun p:PE×Value=>xC p.1 p.2))[j]?=some u→(W0.alloc (.cells cur 50)).cell? ((⟨b,off,none⟩:Addr).add j)=some u:=fun j u hj=>by
    have hjl:j<((l.zip ks).flatMap (fun p:PE×Value=>xC p.1 p.2)).length:=by
     rcases Nat.lt_or_ge j ((l.zip ks).flatMap (fun p:PE×Value=>xC p.1 p.2)).length with h|h
     ·exact h
     ·rw[List.getElem?_eq_none h] at hj;cases hj
    rw[vu_];have h1:=(hc j hjl).trans hj;exact(World.cell?_of_block ((xf_ hg _).block b hb (by simp))).trans h1
   have hone:∀ u∈(l.zip ks).flatMap (fun p:PE×Value=>xC p.1 p.2),u.oneCell'=true:=by
    intro u hu;rw[List.mem_flatMap] at hu;obtain⟨⟨e,k⟩,hp,hu⟩:=hu;have hk:∃ a m c,k=.slice a m c:=HKS e k hp;obtain⟨a,m,c,rfl⟩:=hk;obtain⟨_,_,_,_,_,_,_,_⟩:=e;simp[xC] at hu;rcases hu with rfl|rfl|rfl|rfl|rfl|rfl|rfl|rfl <;> rfl
   have hr:=vg_ (P:=Tryz.prog) (W0.alloc (.cells cur 50)) 48 48 3 50 W0.heap.size 0 (l.length+2) (l.length+2) ⟨b,off,none⟩ l.length c l.length 8 cur 50 _ Tryz.underlying48 hs (heap_alloc_new _ _) hmin hlen hcell (by rw[hlen,hcs];omega) hone;refine⟨cur,_,cur.toList.drop (l.length*8),hmk,hr,?_,by simp[hcs];omega,?_⟩
   ·rw[setRow_heap _ _ _ _ 50 _ (heap_alloc_new _ _),hlen];simp
   ·exact zh_ (below_setRow (vt_ (xf_ (gr0 _) _)) (Nat.le_refl _) _)
set_option maxRecDepth 100000 in
theorem ait_ {W:World} {ok:Nat→Prop} {v:Value} {l:List PE} (hx:Xs W ok v l) (hI:∀(i:Nat) (hi:i<l.length) (k:Value) (W':World),W.grownBy W' none→Xs W' ok k l[i].kids→CE W' k l[i].kids):CE W v l:=by
 intro W0 hg0;have hle:=hx.le;have HX:=xa_ hx;have HI:=xa_ hI;have HG0:=xa_ hg0;clear hI;cases hx with
 | mk _ _ ks hl hr hk=>
 obtain⟨x,c,rfl⟩:∃ a c,v=.slice a l.length c:=(by obtain⟨a,c,h,_⟩:=hr;exact⟨a,c,h⟩);obtain⟨cur,w2,sp,hmk,hcp,hrow,hsp,hg2⟩:=ais_ x c l hg0 ks hl (fun e k hp=>(hk _ hp).sl.elim fun a h=>h.elim fun c h=>⟨a,_,c,h⟩) hr;have G2:=xa_ hg2;have HROW:=xa_ hrow;have hlt0:=hg2.size;have S1:Hid (W0.heap.size<w2.heap.size):=xa_ (x6_ hrow);have w1:IntKind.i64.wrap ((l.length:Int)+2)=l.length+2:=IntWalk.i64_in _ (by omega);clear hr hk hg2 hrow hg0 hlt0;go_enter Tryz.func43,Tryz.ntmps43;go_wp2_with fail
 clear hmk hcp;go_loopg [4] (l.length+1) (fun gk s4 wx=>∃(i:Nat) (ks':List Value),s4=.int .i64 (i:Int)∧Hid (W0.grownBy wx none∧W0.heap.size<wx.heap.size)∧Hid (ks'.length=l.length∧wx.heap[W0.heap.size]?=some (.cells ((l.zip ks').flatMap (fun p:PE×Value=>xC p.1 p.2)++sp).toArray 50))∧Hid (∀(j:Nat) (hj:j<l.length),j<i→∃ k,ks'[j]?=some k∧CXs wx (W0.heap.size+1) k l[j].kids)∧Hid (i≤l.length∧gk=l.length+1 - i))
 case atStart=>exact⟨0,ks,rfl,xa_ ⟨G2.out,S1.out⟩,xa_ ⟨hl,HROW.out⟩,xa_ (fun j hj h=>by omega),xa_ ⟨by omega,rfl⟩⟩
 case round=>
  clear HROW G2 S1 hl;obtain⟨i,ks',rfl,HG,HR,HK,HB⟩:=hrel;obtain⟨hi1,hgk⟩:=HB.out;obtain⟨hl',hrow⟩:=HR.out;have GX:=xa_ HG.out.1;have SX:=xa_ HG.out.2;have HROW:=xa_ hrow;have HL:=xa_ hl';have hfr:=yd_ hrow;clear HB HR HG hrow hl';by_cases hi:i<l.length;rotate_left
  · have hlt:¬((i:Int)<(l.length:Int)):=(by omega);obtain rfl:i=l.length:=(by omega);have hfin:Hid (∀ wz:World,wz=wr.setCell ⟨W0.heap.size,l.length*8+6,none⟩ (.int .i64 (-9))→CXs wz W0.heap.size (.slice (some ⟨W0.heap.size,0,none⟩) l.length (l.length+2)) l∧W0.grownBy wz none):=xa_ fun wz e=>by
     subst e;refine⟨.mk _ l ks' W0.heap.size (sp.set 6 (.int .i64 (-9))) rfl HL.out (Nat.le_refl _) hle ?_ (by simpa using hsp) (by simp[hsp]) ?_,xd_ GX.out (Nat.le_refl _) _ _⟩
     ·rw[← aa9_ l ks' sp _ HL.out];exact xj_ HROW.out _ _
     · intro p hp;obtain⟨j,hj,hpj⟩:=List.getElem_of_mem hp;have hj2:j<l.length:=(by simp at hj;omega);obtain⟨k,hk1,hk2⟩:=HK.out j hj2 hj2;have e1:p=(l[j],k):=by
        rw[← hpj];have:ks'[j]'(by have:=HL.out;omega)=k:=by
         have:=List.getElem?_eq_some_iff.1 hk1;exact this.2
        simp[this]
       rw[e1];exact((hk2.kept (w':=wr.setCell ⟨W0.heap.size,l.length*8+6,none⟩ (.int .i64 (-9))) fun b hb _=>Below.heap_setCell _ _ _ _ (by simp;omega))).mono (by omega)
    have hcell:∃ u,wr.cell? ⟨W0.heap.size,l.length*8+6,none⟩=some u:=by
     rw[xn_ HROW.out];have hlen:=ze_ (l.zip ks');have hz:(l.zip ks').length=l.length:=(by simp;have:=HL.out;omega);rw[hz] at hlen;simp only[List.getElem?_toArray];rw[List.getElem?_append_right (by rw[hlen];omega),hlen,show l.length*8+6 - l.length*8=6 by omega];exact⟨_,List.getElem?_eq_getElem (by omega)⟩
    obtain⟨u,hcell⟩:=hcell;have hf6:=hfr (l.length*8+6);have k1:(0:Int)≤(l.length:Int):=(by omega);have k2:(l.length:Int)<((l.length+2:Nat):Int):=(by omega);have k3:(l.length:Int)≤((l.length+2:Nat):Int):=(by omega);clear HK HX HI hfr HROW;go_wp2_with fail
    go_ret;exact⟨_,rfl,hfin.out _ rfl⟩
  have hlt:((i:Int)<(l.length:Int)):=(by omega);have hi0:(0:Int)≤(i:Int):=(by omega);have hlt2:((i:Int)<((l.length+2:Nat):Int)):=(by omega);have hwi:IntKind.i64.wrap ((i:Int)+1)=i+1:=IntWalk.i64_in _ (by omega);obtain⟨g,off,c',ka,kc,ex,hn,hgl,hkk,hc⟩:=HX.out.at8 i hi;injection ex with e1 _ e3;subst e1 e3;have hC:=hc wr (gtn HG0.out GX.out);have cK:=xa_ (HI.out i hi _ W (gr0 _) hkk wr (gtn HG0.out GX.out));have y7:wr.cell? ⟨g,off+i*8+7,none⟩=some (.slice ka l[i].kids.length kc):=by
   have h:=hC 7 (by decide);generalize l[i]=E at h ⊢;obtain⟨_,_,_,_,_,_,_,_⟩:=E;exact h
  have hKX:∀(wy:World) (k:Value),Hid (wr.grownBy wy none)→Hid (CXs wy wr.heap.size k l[i].kids)→∃ u,wy.cell? ⟨W0.heap.size,i*8+7,none⟩=some u∧wy.frozen? ⟨W0.heap.size,i*8+7,none⟩=false∧Hid (∃ ks2:List Value,(W0.grownBy (wy.setCell ⟨W0.heap.size,i*8+7,none⟩ k) none∧W0.heap.size<(wy.setCell ⟨W0.heap.size,i*8+7,none⟩ k).heap.size)∧(ks2.length=l.length∧(wy.setCell ⟨W0.heap.size,i*8+7,none⟩ k).heap[W0.heap.size]?=some (.cells ((l.zip ks2).flatMap (fun p:PE×Value=>xC p.1 p.2)++sp).toArray 50))∧(∀(j:Nat) (hj:j<l.length),j<i+1→∃ k2,ks2[j]?=some k2∧CXs (wy.setCell ⟨W0.heap.size,i*8+7,none⟩ k) (W0.heap.size+1) k2 l[j].kids)):=by
   intro wy k gy ck;have hrowy:=kept gy.out HROW.out;have hlen:=ze_ (l.zip ks');have hz:(l.zip ks').length=l.length:=(by simp;have:=HL.out;omega);rw[hz] at hlen;have hsz:=gy.out.size;refine⟨((l.zip ks').flatMap (fun p:PE×Value=>xC p.1 p.2)++sp)[i*8+7]'(by rw[List.length_append,hlen];omega),?_,yd_ hrowy _,xa_ ⟨ks'.set i k,⟨xd_ (gtn GX.out gy.out) (Nat.le_refl _) _ _,by have:=SX.out;simp;omega⟩,⟨by simpa using HL.out,?_⟩,?_⟩⟩
   ·rw[xn_ hrowy];simp only[List.getElem?_toArray];exact List.getElem?_eq_getElem _
   ·rw[← acg_ l ks' sp i k HL.out hi];exact xj_ hrowy _ _
   · intro j hj hji;have keepC:∀(k3:Value) (l3:List PE),CXs wy (W0.heap.size+1) k3 l3→CXs (wy.setCell ⟨W0.heap.size,i*8+7,none⟩ k) (W0.heap.size+1) k3 l3:=fun k3 l3 h=>h.kept fun b hb _=>Below.heap_setCell _ _ _ _ (by simp;omega);by_cases hij:j=i
     ·subst hij;exact⟨k,by simp[HL.out,hi],keepC _ _ (ck.out.mono (by have:=SX.out;omega))⟩
     ·obtain⟨k2,h1,h2⟩:=HK.out j hj (by omega);exact⟨k2,by rw[List.getElem?_set_ne (fun e=>hij e.symm)];exact h1,keepC _ _ (h2.gw gy.out)⟩
  have HKX:=xa_ hKX;clear hC hc hkk hKX hfr;generalize l[i].kids.length=mk at y7 cK;go_wp2_with fail
  refine cK.out.mono ?_;rintro e w3 ⟨k,rfl,ck,g3⟩;obtain⟨u,hu1,hu2,HF⟩:=HKX.out w3 k g3 ck;obtain⟨a3,m3,c3,rfl⟩:∃ a m c,k=.slice a m c:=(by obtain⟨g9,hv,_⟩:=ck.nine;exact⟨_,_,_,hv⟩);clear cK y7 ck g3 HKX HK HROW;dsimp only;go_wp2_with fail
  go_roundg (l.length+1 - (i+1))
  case measure=>omega
  case rel=>
   obtain⟨ks2,h1,h2,h3⟩:=HF.out;exact⟨i+1,ks2,by simp,xa_ h1,xa_ h2,xa_ h3,xa_ ⟨by omega,rfl⟩⟩
theorem ach_ {W:World} {ok:Nat→Prop} {v:Value} {l:List PE} (hx:Xs W ok v l):CE W v l:=by
 have key:∀(m:Nat) (l:List PE),SizeOf.sizeOf l<m→∀(W:World) (v:Value),Xs W ok v l→CE W v l:=by
  intro m;induction m with
  | zero=>intro l h;omega
  | succ m ih=>
   intro l hsz W v hx;refine ait_ hx fun i hi k W' hg hk=>ih _ ?_ W' k hk;have s1:SizeOf.sizeOf l[i]<SizeOf.sizeOf l:=List.sizeOf_lt_of_mem (List.getElem_mem hi);generalize l[i]=E at s1 ⊢;obtain⟨_,_,_,_,_,_,_,ks⟩:=E;simp at s1;show SizeOf.sizeOf ks<m
   omega
 exact key _ l (Nat.lt_succ_self _) W v hx
theorem box8 {W:World} {q:Nat} {y0 y1 y2 y3 y4 y5 y6 y7 x0 x1 x2 x3 x4 x5 x6 x7:Value} {T:TypeId} (h:W.heap[q]?=some (.cells #[y0,y1,y2,y3,y4,y5,y6,y7] T)):((((((((W.setCell ⟨q,0,none⟩ x0).setCell ⟨q,1,none⟩ x1).setCell ⟨q,2,none⟩ x2).setCell ⟨q,3,none⟩ x3).setCell ⟨q,4,none⟩ x4).setCell ⟨q,5,none⟩ x5).setCell ⟨q,6,none⟩ x6).setCell ⟨q,7,none⟩ x7).heap[q]?=some (.cells #[x0,x1,x2,x3,x4,x5,x6,x7] T):=by
 have:=(xj_ (xj_ (xj_ (xj_ (xj_ (xj_ (xj_ (xj_ h 0 x0) 1 x1) 2 x2) 3 x3) 4 x4) 5 x5) 6 x6) 7 x7);simpa using this
theorem gr8n {w W:World} {q:Nat} {x0 x1 x2 x3 x4 x5 x6 x7:Value} (h:w.grownBy W none) (hq:w.heap.size≤q):w.grownBy ((((((((W.setCell ⟨q,0,none⟩ x0).setCell ⟨q,1,none⟩ x1).setCell ⟨q,2,none⟩ x2).setCell ⟨q,3,none⟩ x3).setCell ⟨q,4,none⟩ x4).setCell ⟨q,5,none⟩ x5).setCell ⟨q,6,none⟩ x6).setCell ⟨q,7,none⟩ x7) none:=(xd_ (xd_ (xd_ (xd_ (xd_ (xd_ (xd_ (xd_ h hq _ _) hq _ _) hq _ _) hq _ _) hq _ _) hq _ _) hq _ _) hq _ _)
theorem aaf_:(Tryz.prog.info? 50).map (·.size)=some 8:=by kernel_rfl
theorem ld50 {W:World} {q:Nat} {a0 a1 a2 a3 a4 a5 a6 a7:Value} (hg:W.heap[q]?=some (.cells #[a0,a1,a2,a3,a4,a5,a6,a7] 50)):(loadVar 50 ⟨q,0,none⟩).run Tryz.prog W=.ok (.agg #[a0,a1,a2,a3,a4,a5,a6,a7]) W:=run_loadVar_row (P:=Tryz.prog) W q 50 50 _ (0,0) _ hg Tryz.underlying50 rfl aaf_
theorem vi_ {W:World} {ok:Nat→Prop} (f o kd n:Int) (nm pt:ByteArray) (a:Int) (ks:List PE) (x:Option Addr) (c:Nat) (hx:Xs W ok (.slice x ks.length c) ks):Calls Tryz.prog 18 #[xV f o kd n nm pt a (.slice x ks.length c)] W fun e w'=>∃ v',e=.returned (xV f o kd n nm pt a v')∧CXs w' W.heap.size v' ks∧W.grownBy w' none:=by
 have cE:=xa_ (ach_ hx);clear hx;go_enter Tryz.func18,Tryz.ntmps18;go_wp2_with fail
 refine(cE.out _ (xf_ (gr1 _ _) _)).mono ?_;rintro e w2 ⟨v,rfl,cv,g⟩;obtain⟨a3,m3,c3,rfl⟩:∃ a m c,v=.slice a m c:=(by obtain⟨g9,hv,_⟩:=cv.nine;exact⟨_,_,_,hv⟩);dsimp only;have AX:=xa_ (kept g (old (xe_ rfl _) _));have BX:Hid (w2.heap[W.heap.size+1]?=some (.cells #[.int .i64 0,.int .i64 0,.int .i64 0,.int .i64 0,.string ⟨#[]⟩,.string ⟨#[]⟩,.int .i64 0,.slice none 0 0] 50)):=xa_ (kept g (xe_ (by simp) _));have G2:=xa_ (gtn (xf_ (gr1 _ _) _) g);have CV:=xa_ cv;clear g cv cE;obtain⟨p1,p2,p3,p4,p5,p6⟩:=xb_ AX.out;obtain⟨q1,q2,q3,q4,q5,q6⟩:=xb_ BX.out;go_wp2_with fail
 have HB:=box8 (x0:=.int .i64 f) (x1:=.int .i64 o) (x2:=.int .i64 kd) (x3:=.int .i64 n) (x4:=.string nm) (x5:=.string pt) (x6:=.int .i64 a) (x7:=.slice a3 m3 c3) (x1_ (p:=W.heap.size) (i:=7) (v:=.slice a3 m3 c3) BX.out (by omega));refine bodyPost_ret (afn_ rfl _ _ (W.heap.size+1) _ rfl (ld50 HB)) rfl ?_;refine⟨_,rfl,(CV.out.kept fun b hb _=>?_).mono (by simp;omega),gr8n (xd_ G2.out (Nat.le_refl _) _ _) (by omega)⟩;have hb':W.heap.size+1<b:=(by simp at hb;omega);have hs:∀(w:World) (p i:Nat) (v:Value),p<b→(w.setCell ⟨p,i,none⟩ v).heap[b]?=w.heap[b]?:=fun w p i v hp=>Below.heap_setCell _ _ _ _ (by simp;omega);simp only[hs _ _ _ _ hb',hs _ _ _ _ (show W.heap.size<b by omega)]
theorem q1_ {w W:World} {p:Nat} {r:Option Nat} (h:w.grownBy W r) (hp:w.heap.size≤p) (i:Nat) (v:Value):w.grownBy (W.setCell ⟨p,i,none⟩ v) r:=
 ⟨h.os,h.tape,h.output,by simpa using h.size,fun k hk hne=>by rw[Below.heap_setCell _ _ _ _ (by simp;omega)];exact h.block k hk hne⟩
theorem y0_ {w W:World} {r:Option Nat} (h:w.grownBy W none):w.grownBy W r:=⟨h.os,h.tape,h.output,h.size,fun k hk _=>h.block k hk (by simp)⟩
theorem z1_ {a b c:World} {q:Nat} (h:a.grownBy b (some q)) (k:b.grownBy c (some q)):a.grownBy c (some q):=q0_ h k (Or.inl rfl)
def upd {β:Type} (f:Nat→β) (i:Nat) (v:β):Nat→β:=fun k=>if k=i then v else f k
theorem x9_ {β:Type} (f:Nat→β) (i:Nat) (v:β):upd f i v i=v:=by simp[upd]
theorem qk_ {β:Type} (f:Nat→β) (i:Nat) (v:β) {k:Nat} (h:k≠i):upd f i v k=f k:=by simp[upd,h]
theorem zs_ {β:Type} (f:Nat→β) (i:Nat) (v v':β):upd (upd f i v) i v'=upd f i v':=by
 funext k;by_cases h:k=i
 ·subst h;rw[x9_,x9_]
 ·rw[qk_ _ _ _ h,qk_ _ _ _ h,qk_ _ _ _ h]
def RW (w:World) (g T sz n:Nat) (f:Nat→List Value):Prop:=∃ cs:Array Value,w.heap[g]?=some (.cells cs T)∧n*sz≤cs.size∧∀ i,i<n→∀ j,j<sz→cs[i*sz+j]?=(f i)[j]?
theorem RW.cell {w:World} {g T sz n:Nat} {f:Nat→List Value} (h:RW w g T sz n f) {i j:Nat} (hi:i<n) (hj:j<sz):w.cell? ⟨g,i*sz+j,none⟩=(f i)[j]?:=by
 obtain⟨cs,h1,_,h3⟩:=h;rw[xn_ h1];exact h3 i hi j hj
theorem RW.fz {w:World} {g T sz n:Nat} {f:Nat→List Value} (h:RW w g T sz n f) (k:Nat):w.frozen? ⟨g,k,none⟩=false:=by
 obtain⟨cs,h1,_⟩:=h;exact yd_ h1 k
theorem RW.lt {w:World} {g T sz n:Nat} {f:Nat→List Value} (h:RW w g T sz n f):g<w.heap.size:=by
 obtain⟨cs,h1,_⟩:=h;exact x6_ h1
theorem RW.gw {w w':World} {g T sz n:Nat} {f:Nat→List Value} (h:RW w g T sz n f) (hg:w.grownBy w' none):RW w' g T sz n f:=by
 obtain⟨cs,h1,h2⟩:=h;exact⟨cs,kept hg h1,h2⟩
theorem af2_ {sz i j k m:Nat} (hj:j<sz) (hm:m<sz) (h:k≠i):i*sz+j≠k*sz+m:=by
 rcases Nat.lt_or_gt_of_ne h with h|h
 · have:(k+1)*sz≤i*sz:=Nat.mul_le_mul_right sz h
   rw[Nat.succ_mul] at this;omega
 · have:(i+1)*sz≤k*sz:=Nat.mul_le_mul_right sz h
   rw[Nat.succ_mul] at this;omega
theorem aci_ {sz n i j:Nat} (hi:i<n) (hj:j<sz):i*sz+j<n*sz:=by
 have:(i+1)*sz≤n*sz:=Nat.mul_le_mul_right sz hi
 rw[Nat.succ_mul] at this;omega
theorem RW.set {w:World} {g T sz n:Nat} {f:Nat→List Value} (h:RW w g T sz n f) {i j:Nat} (hi:i<n) (hj:j<sz) (hl:(f i).length=sz) (v:Value):RW (w.setCell ⟨g,i*sz+j,none⟩ v) g T sz n (upd f i ((f i).set j v)):=by
 obtain⟨cs,h1,h2,h3⟩:=h;refine⟨cs.setIfInBounds (i*sz+j) v,xj_ h1 _ _,by simpa using h2,fun k hk m hm=>?_⟩;have hb:=aci_ hi hj;by_cases hki:k=i
 · subst hki;rw[x9_];by_cases hmj:m=j
   ·subst hmj;rw[Array.getElem?_setIfInBounds_self_of_lt (by omega),List.getElem?_set_self (by omega)]
   ·rw[Array.getElem?_setIfInBounds_ne (by omega),List.getElem?_set_ne (Ne.symm hmj)];exact h3 k hk m hm
 ·rw[qk_ _ _ _ hki,Array.getElem?_setIfInBounds_ne (af2_ hj hm hki)];exact h3 k hk m hm
theorem RW.congr {w:World} {g T sz n:Nat} {f f':Nat→List Value} (h:RW w g T sz n f) (hf:∀ i,i<n→f i=f' i):RW w g T sz n f':=by
 obtain⟨cs,h1,h2,h3⟩:=h;exact⟨cs,h1,h2,fun i hi j hj=>by rw[h3 i hi j hj,hf i hi]⟩
theorem RW.set8 {w:World} {g T sz n:Nat} {f:Nat→List Value} (h:RW w g T sz n f) {i o:Nat} (hi:i<n) (ho:o+8≤sz) (hl:(f i).length=sz) (x0 x1 x2 x3 x4 x5 x6 x7:Value) (fi:List Value) (hf:(((((((((f i).set (o) x0).set (o+1) x1).set (o+2) x2).set (o+3) x3).set (o+4) x4).set (o+5) x5).set (o+6) x6).set (o+7) x7)=fi):RW ((((((((w.setCell ⟨g,i*sz+o,none⟩ x0).setCell ⟨g,i*sz+o+1,none⟩ x1).setCell ⟨g,i*sz+o+2,none⟩ x2).setCell ⟨g,i*sz+o+3,none⟩ x3).setCell ⟨g,i*sz+o+4,none⟩ x4).setCell ⟨g,i*sz+o+5,none⟩ x5).setCell ⟨g,i*sz+o+6,none⟩ x6).setCell ⟨g,i*sz+o+7,none⟩ x7) g T sz n (upd f i fi):=by
 subst hf;have h0:=RW.set h (j:=o) hi (by omega) (by exact hl) x0;have h1:=RW.set h0 (j:=o+1) hi (by omega) (by rw[x9_];simpa using hl) x1;rw[x9_,zs_] at h1;have h2:=RW.set h1 (j:=o+2) hi (by omega) (by rw[x9_];simpa using hl) x2;rw[x9_,zs_] at h2;have h3:=RW.set h2 (j:=o+3) hi (by omega) (by rw[x9_];simpa using hl) x3;rw[x9_,zs_] at h3;have h4:=RW.set h3 (j:=o+4) hi (by omega) (by rw[x9_];simpa using hl) x4;rw[x9_,zs_] at h4;have h5:=RW.set h4 (j:=o+5) hi (by omega) (by rw[x9_];simpa using hl) x5;rw[x9_,zs_] at h5;have h6:=RW.set h5 (j:=o+6) hi (by omega) (by rw[x9_];simpa using hl) x6;rw[x9_,zs_] at h6;have h7:=RW.set h6 (j:=o+7) hi (by omega) (by rw[x9_];simpa using hl) x7;rw[x9_,zs_] at h7;exact h7
theorem RW.set8s {w:World} {g T sz n:Nat} {f:Nat→List Value} (h:RW w g T sz n f) {i o:Nat} (hi:i<n) (ho:o+8≤sz) (hl:(f i).length=sz) (x0 x1 x2 x3 x4 x5 x6 x7:Value) (fi:List Value) (hf:(((((((((f i).set (o) x0).set (o+1) x1).set (o+2) x2).set (o+3) x3).set (o+4) x4).set (o+5) x5).set (o+6) x6).set (o+7) x7)=fi):RW (w.setCells g (i*sz+o) [x0,x1,x2,x3,x4,x5,x6,x7]) g T sz n (upd f i fi):=RW.set8 h hi ho hl x0 x1 x2 x3 x4 x5 x6 x7 fi hf
theorem y4_ {w:World} {g:Nat}:∀(cs:List Value) (o:Nat) (W:World),w.grownBy W (some g)→w.grownBy (W.setCells g o cs) (some g)
 | [],_,_,h=>h
 | v::cs,o,W,h=>y4_ cs (o+1) _ (xp_ h o v)
theorem RW.there {w:World} {g T sz n:Nat} {f:Nat→List Value} (h:RW w g T sz n f) {i o m:Nat} (hi:i<n) (ho:o+m≤sz) (hl:(f i).length=sz):w.there g (i*sz+o) m:=fun j hj=>by
 refine⟨?_,h.fz _⟩;rw[Nat.add_assoc,h.cell hi (by omega),List.getElem?_eq_getElem (by omega)];rfl
theorem RW.own {α Q:Type} {c:α→Q→List Value} {w:World} {B T sz:Nat} {v:Value} {l:List α} {qs:List Q} (h:w.ownsRow B T sz v l.length ((l.zip qs).flatMap fun p=>c p.1 p.2)) (h0:0<l.length) (hl:qs.length=l.length) (hsz:∀ e q,(c e q).length=sz) (f:Nat→List Value) (hf:∀(i:Nat) (h1:i<l.length) (h2:i<qs.length),f i=c l[i] qs[i]):∃ g cap,v=.slice (some ⟨g,0,none⟩) l.length cap∧B≤g∧RW w g T sz l.length f:=by
 obtain⟨hlen,⟨_,hn⟩|⟨g,cap,cur,rfl,hB,hh,hc1,hc2,hc3,hc4⟩⟩:=h
 ·omega
 ·have hz:(l.zip qs).length=l.length:=(by simp;omega);refine⟨g,cap,rfl,hB,cur,hh,by rw[hc3];exact Nat.mul_le_mul_right sz hc1,fun i hi j hj=>?_⟩;have hfl:=zp_ (fun p:α×Q=>c p.1 p.2) sz (l.zip qs) (fun x _=>hsz _ _) i j (by omega) hj;have hzi:(l.zip qs)[i]'(by omega)=(l[i],qs[i]'(by omega)):=(by simp);rw[hzi,← hc4,List.getElem?_take_of_lt (aci_ hi hj)] at hfl;rw[hf i hi (by omega),← hfl];simp
theorem RW.row {α Q:Type} {c:α→Q→List Value} {w:World} {g T sz cap:Nat} {l:List α} {f:Nat→List Value} (h:RW w g T sz l.length f) {ok:Nat→Prop} (hok:ok g) (hn:l.length≤4000000) (hp:0<sz) {qs:List Q} (hl:qs.length=l.length) (hsz:∀ e q,(c e q).length=sz) (hf:∀(i:Nat) (h1:i<l.length) (h2:i<qs.length),f i=c l[i] qs[i]):Row w ok T (.slice (some ⟨g,0,none⟩) l.length cap) l.length ((l.zip qs).flatMap fun p=>c p.1 p.2):=by
 obtain⟨cs,h1,h2,h3⟩:=h;have hz:(l.zip qs).length=l.length:=(by simp;omega);have hfl:((l.zip qs).flatMap fun p=>c p.1 p.2).length=l.length*sz:=by
  have:∀(L:List (α×Q)),(L.flatMap fun p=>c p.1 p.2).length=L.length*sz:=by
   intro L;induction L with
   | nil=>simp
   | cons x L ih=>rw[List.flatMap_cons,List.length_append,ih,hsz,List.length_cons,Nat.succ_mul];omega
  rw[this,hz]
 refine Row.of hn hok h1 (fun k hk=>?_);rw[hfl] at hk;have e:=Nat.div_add_mod k sz;have hm:=Nat.mod_lt k hp;have hd:k / sz<l.length:=Nat.div_lt_of_lt_mul (by rw[Nat.mul_comm];exact hk);have hfa:=zp_ (fun p:α×Q=>c p.1 p.2) sz (l.zip qs) (fun x _=>hsz _ _) (k / sz) (k % sz) (by omega) hm;have hzi:(l.zip qs)[k / sz]'(by omega)=(l[k / sz],qs[k / sz]'(by omega)):=(by simp);have ek:k / sz*sz+k % sz=k:=(by rw[Nat.mul_comm];exact e);rw[hzi,ek] at hfa;rw[hfa,Nat.zero_add];have:=h3 (k / sz) hd (k % sz) hm;rw[ek] at this;rw[this,hf _ hd (by omega)]
theorem aba_ {Q:Type} (q:Nat→Q) (n i:Nat) (h:i<((List.range n).map q).length):((List.range n).map q)[i]=q i:=by simp
def fL {α Q:Type} (c:α→Q→List Value) (l:List α) (q:Nat→Q):Nat→List Value:=fun i=>if h:i<l.length then c l[i] (q i) else []
theorem ql_ {α Q:Type} (c:α→Q→List Value) (l:List α) (q:Nat→Q) {i:Nat} (h:i<l.length):fL c l q i=c l[i] (q i):=dif_pos h
theorem uv_ {α Q:Type} (c:α→Q→List Value) (l:List α) (q:Nat→Q) {i:Nat} (h:i<l.length) (v:Q):upd (fL c l q) i (c l[i] v)=fL c l (upd q i v):=by
 funext k;by_cases e:k=i
 ·subst e;rw[x9_,ql_ _ _ _ h,x9_]
 · rw[qk_ _ _ _ e];by_cases hk:k<l.length
   ·rw[ql_ _ _ _ hk,ql_ _ _ _ hk,qk_ _ _ _ e]
   ·rw[fL,fL,dif_neg hk,dif_neg hk]
theorem acj_ {α Q:Type} {c:α→Q→List Value} {L:List (α×Q)} (h:∀ p,p∈L→∀ u∈c p.1 p.2,u.oneCell'=true):∀ u∈(L.flatMap fun p=>c p.1 p.2),u.oneCell'=true:=by
 intro u hu;rw[List.mem_flatMap] at hu;obtain⟨p,hp,hu⟩:=hu;exact h p hp u hu
theorem qw_ {α Q:Type} {c:α→Q→List Value} {sz:Nat} (hsz:∀ e q,(c e q).length=sz) (L:List (α×Q)):(L.flatMap fun p=>c p.1 p.2).length=L.length*sz:=by
 induction L with
 | nil=>simp
 | cons x L ih=>rw[List.flatMap_cons,List.length_append,ih,hsz,List.length_cons,Nat.succ_mul];omega
theorem vj_ {α Q:Type} {K:Kd α Q} {t e sz:Nat} {W X:World} {ok:Nat→Prop} {x:Option Addr} {c:Nat} {l:List α} (ht:Tryz.prog.underlying t=some (.slice e)) (hin:((Tryz.prog.info? e).bind fun i=>i.zero.map fun z=>(i.size,decide (i.bytes≤1000),z.cells.size))=some (sz,true,sz)) (hp:0<sz) (h:Li K e W ok (.slice x l.length c) l) (hsz:∀ e q,(K.c e q).length=sz)
 (h1:∀ a q,K.S W ok a q→∀ u∈K.c a q,u.oneCell'=true) (hg:W.grownBy X none) :
 ∃(qs:List Q) (v':Value) (w':World),qs.length=l.length∧(Builtin.append_ #[t,t] t #[.slice none 0 0,.slice x l.length c]).run Tryz.prog X=.ok v' w'∧w'.ownsRow X.heap.size e sz v' l.length ((l.zip qs).flatMap fun p=>K.c p.1 p.2)∧X.grownBy w' none∧∀(i:Nat) (h1:i<l.length) (h2:i<qs.length),K.S W ok l[i] qs[i]:=by
 obtain⟨qs,hl,hr,hS⟩:=h;obtain⟨i0,z0,e1,e2,e3,e4,e5⟩:=acc_ hin;have hz:(l.zip qs).length=l.length:=(by simp;omega);obtain⟨v',w',r1,r2,r3⟩:=ad2_ ht e1 e2 e3 rfl e5 hp e4 hr (by rw[qw_ hsz,hz]) (acj_ fun p hp=>h1 _ _ (hS p hp)) hg;refine⟨qs,v',w',hl,r1,r2,r3,fun i a b=>?_⟩;have:=hS _ (List.getElem_mem (l:=l.zip qs) (n:=i) (by omega));simpa using this
theorem af3_ (a:PArg) (k:Value) (h:∃ b n c,k=.slice b n c):∀ u∈aC a k,u.oneCell'=true:=by
 obtain⟨b,n,c,rfl⟩:=h;obtain⟨_,_,_,⟨_,_,_,_,_,_,_,_⟩,_⟩:=a;intro u hu;simp[aC,xC] at hu;rcases hu with rfl|rfl|rfl|rfl|rfl|rfl|rfl|rfl|rfl|rfl|rfl|rfl <;> rfl
theorem af4_ (a:PArm) (k1 k2 k3:Value) (h1:∃ b n c,k1=.slice b n c) (h2:∃ b n c,k2=.slice b n c) (h3:∃ b n c,k3=.slice b n c):∀ u∈mC a (k1,k2,k3),u.oneCell'=true:=by
 obtain⟨b1,n1,c1,rfl⟩:=h1;obtain⟨b2,n2,c2,rfl⟩:=h2;obtain⟨b3,n3,c3,rfl⟩:=h3;obtain⟨⟨_,_,_,_,_,_,_,_⟩,_,_⟩:=a;intro u hu;simp[mC,xC,PArm.e] at hu;rcases hu with rfl|rfl|rfl|rfl|rfl|rfl|rfl|rfl|rfl|rfl <;> rfl
theorem af5_ (a:PV) (k:Value) (h:∃ b n c,k=.slice b n c):∀ u∈vC a k,u.oneCell'=true:=by
 obtain⟨b,n,c,rfl⟩:=h;obtain⟨_,_,_,_,_,_,⟨_,_,_,_,_,_,_,_⟩,_⟩:=a;intro u hu;simp[vC,xC] at hu;rcases hu with rfl|rfl|rfl|rfl|rfl|rfl|rfl|rfl|rfl|rfl|rfl|rfl|rfl|rfl|rfl <;> rfl
theorem af6_ {W:World} {ok:Nat→Prop} (a:PArg) (q:Value) (h:kdA.S W ok a q):∀ u∈kdA.c a q,u.oneCell'=true:=by
 obtain⟨x,c,e⟩:=Xs.sl (h:Xs W ok q a.e.kids);exact af3_ a q ⟨_,_,_,e⟩
theorem af7_ {W:World} {ok:Nat→Prop} (a:PV) (q:Value) (h:kdV.S W ok a q):∀ u∈kdV.c a q,u.oneCell'=true:=by
 obtain⟨x,c,e⟩:=Xs.sl (h:Xs W ok q a.init.kids);exact af5_ a q ⟨_,_,_,e⟩
theorem af8_ {W:World} {ok:Nat→Prop} (a:Int×Int) (q:Unit) (h:kdL.S W ok a q):∀ u∈kdL.c a q,u.oneCell'=true:=by
 intro u hu;simp[kdL] at hu;rcases hu with rfl|rfl <;> rfl
theorem af9_ {W:World} {ok:Nat→Prop} (a:PArm) (q:Value×Value×Value) (h:kdM.S W ok a q):∀ u∈kdM.c a q,u.oneCell'=true:=by
 obtain⟨q1,q2,q3⟩:=q;obtain⟨⟨h1,h2⟩,h3⟩:=(h:mS W ok a (q1,q2,q3));obtain⟨x1,c1,e1⟩:=h1.sl;obtain⟨x2,c2,e2⟩:=h2.sl;obtain⟨x3,c3,e3⟩:=h3.slS;exact af4_ a q1 q2 q3 ⟨_,_,_,e1⟩ ⟨_,_,_,e2⟩ ⟨_,_,_,e3⟩
theorem vk_ {w:World} {B T sz n:Nat} {v:Value} {xs:List Value} (h:w.ownsRow B T sz v n xs):∃ a c,v=.slice a n c:=by
 obtain⟨_,⟨rfl,rfl⟩|⟨g,c,cur,rfl,_⟩⟩:=h
 ·exact⟨_,_,rfl⟩
 ·exact⟨_,_,rfl⟩
def GrS {α Q:Type} (K:Kd α Q) (T sz:Nat) (D:World→α→Q→Prop) (W:World) (ok:Nat→Prop) (H6 H7:Nat) (X:World) (v:Value) (l:List α) (q:Nat→Q) (j:Nat):Prop:=
 (l.length=0∨∃ g cap,v=.slice (some ⟨g,0,none⟩) l.length cap∧H6≤g∧g<H7∧RW X g T sz l.length (fL K.c l q))∧∀(i:Nat) (h:i<l.length),(i<j→D X l[i] (q i))∧(j≤i→K.S W ok l[i] (q i))
theorem GrS.start {α Q:Type} {K:Kd α Q} {T sz:Nat} (D:World→α→Q→Prop) {W:World} {ok:Nat→Prop} {H6:Nat} (H7:Nat) {X:World} {v:Value} {l:List α} {qs:List Q} (d:Q) (ho:X.ownsRow H6 T sz v l.length ((l.zip qs).flatMap fun p=>K.c p.1 p.2)) (hl:qs.length=l.length) (hsz:∀ e q,(K.c e q).length=sz) (hS:∀(i:Nat) (h1:i<l.length) (h2:i<qs.length),K.S W ok l[i] qs[i]) (hX:X.heap.size≤H7):∃ q,GrS K T sz D W ok H6 H7 X v l q 0:=by
 have hq:∀(i:Nat) (h2:i<qs.length),qs.getD i d=qs[i]:=fun i h2=>by simp[List.getD,List.getElem?_eq_getElem h2]
 refine⟨fun i=>qs.getD i d,?_,fun i h=>⟨fun hh=>absurd hh (Nat.not_lt_zero _),fun _=>?_⟩⟩
 · rcases Nat.eq_zero_or_pos l.length with h0|h0
   ·exact Or.inl h0
   ·obtain⟨g,cap,e,hB,hR⟩:=RW.own ho h0 hl hsz (fL K.c l fun i=>qs.getD i d) (fun i h1 h2=>by rw[ql_ _ _ _ h1,hq i h2]);exact Or.inr ⟨g,cap,e,hB,Nat.lt_of_lt_of_le hR.lt hX,hR⟩
 · show K.S W ok l[i] (qs.getD i d)
   rw[hq i (by omega)];exact hS i h (by omega)
theorem GrS.at {α Q:Type} {K:Kd α Q} {T sz:Nat} {D:World→α→Q→Prop} {W:World} {ok:Nat→Prop} {H6 H7:Nat} {X:World} {v:Value} {l:List α} {q:Nat→Q} {j:Nat} (h:GrS K T sz D W ok H6 H7 X v l q j) (hj:j<l.length):∃ g cap,v=.slice (some ⟨g,0,none⟩) l.length cap∧H6≤g∧g<H7∧RW X g T sz l.length (fL K.c l q)∧K.S W ok l[j] (q j):=by
 rcases h.1 with h0|⟨g,cap,e,h1,h2,h3⟩
 ·omega
 ·exact⟨g,cap,e,h1,h2,h3,(h.2 j hj).2 (Nat.le_refl _)⟩
theorem GrS.step {α Q:Type} {K:Kd α Q} {T sz:Nat} {D:World→α→Q→Prop} {W:World} {ok:Nat→Prop} {H6 H7:Nat} {X:World} {v:Value} {l:List α} {q:Nat→Q} {j:Nat} (h:GrS K T sz D W ok H6 H7 X v l q j) (hj:j<l.length) {g cap:Nat} (hv:v=.slice (some ⟨g,0,none⟩) l.length cap) {Y:World} {v':Q} (hR:RW Y g T sz l.length (fL K.c l (upd q j v'))) (hD:D Y l[j] v') (hk:∀ a k,D X a k→D Y a k):GrS K T sz D W ok H6 H7 Y v l (upd q j v') (j+1):=by
 refine⟨?_,fun i hi=>⟨fun hij=>?_,fun hij=>?_⟩⟩
 · rcases h.1 with h0|⟨g',cap',e,h1,h2,h3⟩
   ·omega
   ·rw[hv] at e;injection e with e1 _ e3;injection e1 with e1;injection e1 with e1;subst e1 e3;exact Or.inr ⟨g,cap,hv,h1,h2,hR⟩
 · by_cases e:i=j
   ·subst e;rw[x9_];exact hD
   ·rw[qk_ _ _ _ e];exact hk _ _ ((h.2 i hi).1 (by omega))
 ·rw[qk_ _ _ _ (by omega)];exact(h.2 i hi).2 (by omega)
theorem GrS.done {α Q:Type} {K:Kd α Q} {T sz:Nat} {D:World→α→Q→Prop} {W:World} {ok:Nat→Prop} {H6 H7:Nat} {X:World} {v:Value} {l:List α} {q:Nat→Q} (h:GrS K T sz D W ok H6 H7 X v l q l.length) (hn:l.length≤4000000) (hv:∃ a c,v=.slice a l.length c) (hp:0<sz) (hsz:∀ e q,(K.c e q).length=sz) :
 ∃ qs:List Q,qs.length=l.length∧Row X (fun b=>H6≤b) T v l.length ((l.zip qs).flatMap fun p=>K.c p.1 p.2)∧∀ p,p∈l.zip qs→D X p.1 p.2:=by
 have hlen:((List.range l.length).map q).length=l.length:=(by simp);refine⟨(List.range l.length).map q,hlen,?_,fun p hp'=>?_⟩
 · rcases h.1 with h0|⟨g,cap,e,h1,h2,h3⟩
   · obtain⟨a,c,rfl⟩:=hv;have:l=[]:=List.eq_nil_of_length_eq_zero h0
     subst this;exact⟨_,_,rfl,by simp,Or.inl ⟨rfl,rfl⟩⟩
   ·rw[e];exact h3.row (c:=K.c) h1 hn hp hlen hsz (fun i a b=>by rw[ql_ _ _ _ a,aba_])
 ·obtain⟨i,hi,rfl⟩:=List.getElem_of_mem hp';have h1:i<l.length:=(by simp at hi;omega);have:=(h.2 i h1).1 h1;simpa using this
def dA (H:Nat):World→PArg→Value→Prop:=fun X a k=>CXs X H k a.e.kids
def dV (H:Nat):World→PV→Value→Prop:=fun X a k=>CXs X H k a.init.kids
def dM (H:Nat):World→PArm→Value×Value×Value→Prop:=fun X a q=>CXs X H q.1 a.e.kids∧Li kdL 126 X (fun b=>H≤b) q.2.1 a.labels∧CSs X H q.2.2 (.inl a.body)
theorem GrS.args {W:World} {ok:Nat→Prop} {H6 H7:Nat} {X:World} {v:Value} {l:List PArg} {q:Nat→Value} (h:GrS kdA 101 12 (dA H7) W ok H6 H7 X v l q l.length) (hn:l.length≤4000000) (hv:∃ a c,v=.slice a l.length c) {B:Nat} (h6:B≤H6) (h7:B≤H7):Li kdA 101 X (fun b=>B≤b) v l:=by
 obtain⟨qs,h1,h2,h3⟩:=h.done hn hv (by omega) zn_;exact⟨qs,h1,h2.imp fun b _ hb=>Nat.le_trans h6 hb,fun p hp=>((h3 p hp:CXs X H7 p.2 p.1.e.kids).mono h7).xs⟩
theorem GrS.vars {W:World} {ok:Nat→Prop} {H6 H7:Nat} {X:World} {v:Value} {l:List PV} {q:Nat→Value} (h:GrS kdV 54 15 (dV H7) W ok H6 H7 X v l q l.length) (hn:l.length≤4000000) (hv:∃ a c,v=.slice a l.length c) {B:Nat} (h6:B≤H6) (h7:B≤H7):Li kdV 54 X (fun b=>B≤b) v l:=by
 obtain⟨qs,h1,h2,h3⟩:=h.done hn hv (by omega) zm_;exact⟨qs,h1,h2.imp fun b _ hb=>Nat.le_trans h6 hb,fun p hp=>((h3 p hp:CXs X H7 p.2 p.1.init.kids).mono h7).xs⟩
theorem GrS.ways {W:World} {ok:Nat→Prop} {H6 H7:Nat} {X:World} {v:Value} {l:List PArm} {q:Nat→Value×Value×Value} (h:GrS kdM 104 10 (dM H7) W ok H6 H7 X v l q l.length) (hn:l.length≤4000000) (hv:∃ a c,v=.slice a l.length c) {B:Nat} (h6:B≤H6) (h7:B≤H7):CSs X B v (.inr l):=by
 obtain⟨qs,h1,h2,h3⟩:=h.done hn hv (by omega) zb_;exact .ways v l qs h1 (h2.imp fun b _ hb=>Nat.le_trans h6 hb) (fun p hp=>⟨((h3 p hp).1.mono h7).xs,(h3 p hp).2.1.imp fun b _ hb=>Nat.le_trans h7 hb⟩) (fun p hp=>(h3 p hp).2.2.mono h7)
theorem ad6_ {H:Nat} {X Y:World} (hk:∀ b,H≤b→b<X.heap.size→Y.heap[b]?=X.heap[b]?) (a:PArg) (k:Value) (h:dA H X a k):dA H Y a k:=(h:CXs X H k a.e.kids).kept hk
theorem ad7_ {H:Nat} {X Y:World} (hk:∀ b,H≤b→b<X.heap.size→Y.heap[b]?=X.heap[b]?) (a:PV) (k:Value) (h:dV H X a k):dV H Y a k:=(h:CXs X H k a.init.kids).kept hk
theorem ad8_ {H:Nat} {X Y:World} (hk:∀ b,H≤b→b<X.heap.size→Y.heap[b]?=X.heap[b]?) (hz:X.heap.size≤Y.heap.size) (a:PArm) (k:Value×Value×Value) (h:dM H X a k):dM H Y a k:=⟨h.1.kept hk,h.2.1.kept hk hz,h.2.2.kept hk hz⟩
def SP (W:World) (v:Value):Prop:=∀ W',W.grownBy W' none→Calls Tryz.prog 35 #[v] W' (xs_ W' true)
set_option maxRecDepth 100000 in
theorem aiu_ {W:World} {B:Nat} {v:Value} {l:List PS} (hx:CSs W B v (.inl l)) (hL:∀(i:Nat) (hi:i<l.length) (k:Value),CSs W B k (.inl l[i].els)→SP W k) (hB:∀(i:Nat) (hi:i<l.length) (k:Value),CSs W B k (.inl l[i].body)→SP W k)
 (hM:∀(i:Nat) (hi:i<l.length) (j:Nat) (hj:j<l[i].arms.length) (k:Value),CSs W B k (.inl l[i].arms[j].body)→SP W k):SP W v:=by
 intro W0 hg0;have hle:=hx.le;obtain⟨g,hv,h9⟩:=hx.nine;have HX:=xa_ hx;have H9:=xa_ h9;have HG0:=xa_ hg0;have HL:=xa_ hL;have HB0:=xa_ hB;have HM:=xa_ hM;subst hv;clear hx h9 hg0 hL hB hM;go_enter Tryz.func35,Tryz.ntmps35;go_wp2_with fail
 go_loopg [3,4] (l.length+1) (fun gk s3 s4 wx=>∃ i:Nat,s3=.int .i64 (i:Int)∧Hid (W0.grownBy wx none)∧Hid (i≤l.length∧gk=l.length+1 - i))
 case atStart=>exact⟨0,rfl,gr0 _,xa_ ⟨by omega,rfl⟩⟩
 case round=>
  obtain⟨i,rfl,GX,HB⟩:=hrel;obtain⟨hi1,hgk⟩:=HB.out;clear HB;by_cases hi:i<l.length;rotate_left
  · have hlt:¬((i:Int)<(l.length:Int)):=(by omega);have c9:=H9.out wr (gtn HG0.out GX.out);have w1:IntKind.i64.wrap ((l.length:Int)+1)=l.length+1:=IntWalk.i64_in _ (by omega);have k1:(0:Int)≤(l.length:Int)+1:=(by omega);have k2:(l.length:Int)+1≤((l.length+2:Nat):Int):=(by omega);have k3:(l.length:Int)<(l.length:Int)+1:=(by omega);clear HX HL HB0 HM;go_wp2_with fail
    go_ret;exact⟨rfl,GX.out⟩
  have hlt:((i:Int)<(l.length:Int)):=(by omega);have hwi:IntKind.i64.wrap ((i:Int)+1)=i+1:=IntWalk.i64_in _ (by omega);obtain⟨g',q,hv,hq,hc⟩:=HX.out.at i hi;injection hv with e1 _ _;injection e1 with e1;injection e1 with e1;subst e1;obtain⟨hq1,hq2,hq3,hq4⟩:=hq;have hcr:=hc wr (gtn HG0.out GX.out);have cE:=xa_ (acb_ _ _ (Nat.lt_succ_self _) W _ hq1.1);have cL:=xa_ (HL.out i hi _ hq3);have cB:=xa_ (HB0.out i hi _ hq4);have AM:=xa_ hq2;have HMi:=xa_ (HM.out i hi);have HC:=xa_ hc;obtain⟨qe,qa,qm,ql,qb⟩:=q;have hse:=hq1.1.xs.sl;have hsm:=hq2.sl;obtain⟨gl,hsl,_⟩:=CSs.nine hq3;obtain⟨gb,hsb,_⟩:=CSs.nine hq4;obtain⟨ae,ce,rfl⟩:=hse;obtain⟨am,cm,rfl,hma⟩:=hsm;dsimp only at hsl hsb;subst hsl hsb;clear hq1 hq2 hq3 hq4 hc;have hS:∀ j,j<13→∀ u,(sC l[i] ⟨.slice ae l[i].es.length ce,qa,.slice am l[i].arms.length cm,.slice (some ⟨gl,0,none⟩) l[i].els.length (l[i].els.length+2),.slice (some ⟨gb,0,none⟩) l[i].body.length (l[i].body.length+2)⟩)[j]?=some u→∀ W',W.grownBy W' none→W'.cell? ⟨g,i*13+j,none⟩=some u:=fun j hj u hu W' hg=>by rw[HC.out W' hg j hj,hu]
  have y4:=hS 4 (by omega) (.slice ae l[i].es.length ce) (by generalize l[i]=E;obtain⟨_,_,_,_,_,_,_,_,_,_,_,_,_⟩:=E;rfl);have y6:=hS 6 (by omega) (.slice am l[i].arms.length cm) (by generalize l[i]=E;obtain⟨_,_,_,_,_,_,_,_,_,_,_,_,_⟩:=E;rfl);have y7:=hS 7 (by omega) (.slice (some ⟨gl,0,none⟩) l[i].els.length (l[i].els.length+2)) (by generalize l[i]=E;obtain⟨_,_,_,_,_,_,_,_,_,_,_,_,_⟩:=E;rfl);have y8:=hS 8 (by omega) (.slice (some ⟨gb,0,none⟩) l[i].body.length (l[i].body.length+2)) (by generalize l[i]=E;obtain⟨_,_,_,_,_,_,_,_,_,_,_,_,_⟩:=E;rfl);have Y7:=xa_ y7;have Y8:=xa_ y8;have Y6:=xa_ y6;have y4r:=y4 wr (gtn HG0.out GX.out);have gR:=xa_ (gtn HG0.out GX.out);clear hS hcr HC y4 y6 y7 y8 HX HL HB0 HM;go_wp2_with fail
  refine(cE.out _ gR.out).mono ?_;rintro e w2 ⟨rfl,g2⟩;dsimp only;have G2:=xa_ (gtn gR.out g2);have GW2:=xa_ (gtn GX.out g2);have y7:=Y7.out w2 G2.out;clear g2 cE y4r;go_wp2_with fail
  refine(cL.out _ G2.out).mono ?_;rintro e w3 ⟨rfl,g3⟩;dsimp only;have G3:=xa_ (gtn G2.out g3);have GW3:=xa_ (gtn GW2.out g3);have y8:=Y8.out w3 G3.out;clear g3 cL y7 G2 GW2;go_wp2_with fail
  refine(cB.out _ G3.out).mono ?_;rintro e w4 ⟨rfl,g4⟩;dsimp only;have G4:=xa_ (gtn G3.out g4);have GW4:=xa_ (gtn GW3.out g4);clear g4 cB y8 G3 GW3 Y7 Y8 GX gR;go_wp2_with fail
  go_loopg [4] (l[i].arms.length+1) (fun gk s4 wy=>∃ j:Nat,s4=.int .i64 (j:Int)∧Hid (W0.grownBy wy none∧W.grownBy wy none)∧Hid (j≤l[i].arms.length∧gk=l[i].arms.length+1 - j))
  case atStart=>exact⟨0,rfl,xa_ ⟨GW4.out,G4.out⟩,xa_ ⟨by omega,rfl⟩⟩
  case round=>
   obtain⟨j,rfl,GY,HJ⟩:=hrel;obtain⟨hj1,hgk2⟩:=HJ.out;clear HJ G4 GW4;have y6:=Y6.out _ GY.out.2;have hwj:IntKind.i64.wrap ((j:Int)+1)=j+1:=IntWalk.i64_in _ (by omega);by_cases hj:j<l[i].arms.length;rotate_left
   · have hjt:¬((j:Int)<(l[i].arms.length:Int)):=(by omega);clear AM HMi;go_wp2_with fail
     go_roundg (l.length+1 - (i+1))
     case measure=>omega
     case rel=>exact⟨i+1,by simp,GY.out.1,xa_ ⟨by omega,rfl⟩⟩
   have hjt:((j:Int)<(l[i].arms.length:Int)):=(by omega);obtain⟨gm,off,c,⟨k1,k2,k3⟩,hv,_,hgl,hk,hcm⟩:=AM.out.way j hj;injection hv with e1 _ e3;subst e1 e3;have cK:=xa_ (HMi.out j hj _ hk);obtain⟨gk3,hk3,_⟩:=hk.nine;dsimp only at hk3;subst hk3;have h9:=hcm 9 (by omega);have m9:=(World.cell?_of_block (a:=⟨gm,off+(j*10+9),none⟩) (GY.out.2.block gm hgl (by simp))).trans h9;have z9:(mC l[i].arms[j] (k1,k2,.slice (some ⟨gk3,0,none⟩) l[i].arms[j].body.length (l[i].arms[j].body.length+2)))[9]?=some (.slice (some ⟨gk3,0,none⟩) l[i].arms[j].body.length (l[i].arms[j].body.length+2)):=by
    generalize l[i].arms[j]=E;obtain⟨⟨_,_,_,_,_,_,_,_⟩,_,_⟩:=E;rfl
   rw[z9,show off+(j*10+9)=off+j*10+9 by omega] at m9;clear z9 h9 hcm hk AM HMi;go_wp2_with fail
   refine(cK.out _ GY.out.2).mono ?_;rintro e w5 ⟨rfl,g5⟩;dsimp only;have G5:=xa_ (gtn GY.out.2 g5);have GW5:=xa_ (gtn GY.out.1 g5);clear g5 cK m9 y6 GY;go_wp2_with fail
   go_roundg (l[i].arms.length+1 - (j+1))
   case measure=>omega
   case rel=>exact⟨j+1,by simp,xa_ ⟨GW5.out,G5.out⟩,xa_ ⟨by omega,rfl⟩⟩
theorem aga_ {B:Nat}:∀(n:Nat) (l:List PS),SizeOf.sizeOf l<n→∀(W:World) (v:Value),CSs W B v (.inl l)→SP W v:=by
 intro n;induction n with
 | zero=>intro l h;omega
 | succ n ih=>
  intro l h W v hx;have s1:∀(i:Nat) (hi:i<l.length),SizeOf.sizeOf l[i]<SizeOf.sizeOf l:=fun i hi=>List.sizeOf_lt_of_mem (List.getElem_mem hi);refine aiu_ hx (fun i hi k hk=>ih l[i].els ?_ W k hk) (fun i hi k hk=>ih l[i].body ?_ W k hk) (fun i hi j hj k hk=>ih l[i].arms[j].body ?_ W k hk)
  · have s:=s1 i hi;generalize l[i]=E at s ⊢;obtain⟨_,_,_,_,_,_,_,el,_,_,_,_,_⟩:=E;simp at s;show SizeOf.sizeOf el<n
    omega
  · have s:=s1 i hi;generalize l[i]=E at s ⊢;obtain⟨_,_,_,_,_,_,_,_,bo,_,_,_,_⟩:=E;simp at s;show SizeOf.sizeOf bo<n
    omega
  · have s:=s1 i hi;have s2:SizeOf.sizeOf l[i].arms[j]<SizeOf.sizeOf l[i].arms:=List.sizeOf_lt_of_mem (List.getElem_mem hj);have s3:SizeOf.sizeOf l[i].arms[j].body<SizeOf.sizeOf l[i].arms[j]:=by
     generalize l[i].arms[j]=M;obtain⟨e,ls,b⟩:=M;simp[PArm.body];omega
    have s4:SizeOf.sizeOf l[i].arms<SizeOf.sizeOf l[i]:=by
     generalize l[i]=E;obtain⟨_,_,_,_,_,_,ms,_,_,_,_,_,_⟩:=E;simp[PS.arms];omega
    omega
theorem agb_ {W:World} {B:Nat} {v:Value} {l:List PS} (hx:CSs W B v (.inl l)):SP W v:=aga_ _ l (Nat.lt_succ_self _) W v hx
def CUs (w:World) (B:Nat) (v:Value) (l:List PU):Prop:=
 ∃(qs:List (Value×Value)) (g:Nat) (sp:List Value),v=.slice (some ⟨g,0,none⟩) l.length (l.length+2)∧qs.length=l.length∧B≤g∧l.length≤4000000∧w.heap[g]?=some (.cells ((l.zip qs).flatMap (fun p=>uC p.1 p.2)++sp).toArray 27)∧sp.length=12∧sp[5]?=some (.int .i64 (-9))∧
  ∀ p,p∈l.zip qs→Li kdV 54 w (fun b=>B≤b) p.2.1 p.1.vars∧CSs w B p.2.2 (.inl p.1.body)
theorem CUs.kept {w w':World} {B:Nat} (hk:∀ b,B≤b→b<w.heap.size→w'.heap[b]?=w.heap[b]?) (hz:w.heap.size≤w'.heap.size) {v:Value} {l:List PU} (h:CUs w B v l):CUs w' B v l:=by
 obtain⟨qs,g,sp,hv,hl,hB,hn,hr,hs,h9,h1⟩:=h;exact⟨qs,g,sp,hv,hl,hB,hn,(hk g hB (x6_ hr)).trans hr,hs,h9,fun p hp=>⟨(h1 p hp).1.kept hk hz,(h1 p hp).2.kept hk hz⟩⟩
theorem CUs.gw {w w':World} {B:Nat} {v:Value} {l:List PU} (h:CUs w B v l) (hg:w.grownBy w' none):CUs w' B v l:=h.kept (fun b _ hl=>hg.block b hl (by simp)) hg.size
theorem CUs.le {w:World} {B:Nat} {v:Value} {l:List PU} (h:CUs w B v l):l.length≤4000000:=by
 obtain⟨qs,g,sp,hv,hl,hB,hn,_⟩:=h;exact hn
theorem v5_ (p:PU) (q:Value×Value):(uC p q).length=6:=rfl
theorem k0_ (L:List (PU×Value×Value)):(L.flatMap fun p=>uC p.1 p.2).length=L.length*6:=by
 induction L with
 | nil=>rfl
 | cons x L ih=>rw[List.flatMap_cons,List.length_append,ih,v5_,List.length_cons];omega
theorem CUs.us {w:World} {B:Nat} {v:Value} {l:List PU} (h:CUs w B v l):Li kdU 27 w (fun b=>B≤b) v l:=by
 obtain⟨qs,g,sp,hv,hl,hB,hn,hr,hs,h9,h1⟩:=h;refine⟨qs,hl,⟨_,_,hv,hn,Or.inr ⟨g,0,rfl,hB,x6_ hr,fun k hk=>?_⟩⟩,fun p hp=>⟨(h1 p hp).1,Sm.ss (h1 p hp).2.sm⟩⟩;rw[Nat.zero_add,xn_ hr];simp only[List.getElem?_toArray];exact List.getElem?_append_left hk
theorem CUs.at {w:World} {B:Nat} {v:Value} {l:List PU} (h:CUs w B v l) (i:Nat) (hi:i<l.length):∃ g q,v=.slice (some ⟨g,0,none⟩) l.length (l.length+2)∧(Li kdV 54 w (fun b=>B≤b) q.1 l[i].vars∧CSs w B q.2 (.inl l[i].body))∧∀ W',w.grownBy W' none→∀ j,j<6→W'.cell? ⟨g,i*6+j,none⟩=(uC l[i] q)[j]?:=by
 obtain⟨qs,g,sp,hv,hl,hB,hn,hr,hs,h9,h1⟩:=h;have hz:(l.zip qs).length=l.length:=(by simp;omega);have hzi:(l.zip qs)[i]'(by omega)=(l[i],qs[i]'(by omega)):=(by simp);have hm:=List.getElem_mem (l:=l.zip qs) (n:=i) (by omega);have k1:=h1 _ hm;rw[hzi] at k1;refine⟨g,qs[i]'(by omega),hv,k1,fun W' hg j hj=>?_⟩;have hf:=zp_ (fun p:PU×Value×Value=>uC p.1 p.2) 6 (l.zip qs) (fun x _=>v5_ _ _) i j (by omega) hj;rw[hzi] at hf;rw[xn_ (_root_.Go.Proofs.YtcoglmaiahpooaaGreatDoor.kept hg hr)];simp only[List.getElem?_toArray];have hlen:=k0_ (l.zip qs);rw[List.getElem?_append_left (by rw[hlen];omega),hf]
theorem CUs.nine {w:World} {B:Nat} {v:Value} {l:List PU} (h:CUs w B v l):∃ g,v=.slice (some ⟨g,0,none⟩) l.length (l.length+2)∧∀ W',w.grownBy W' none→W'.cell? ⟨g,l.length*6+5,none⟩=some (.int .i64 (-9)):=by
 obtain⟨qs,g,sp,hv,hl,hB,hn,hr,hs,h9,h1⟩:=h;refine⟨g,hv,fun W' hg=>?_⟩;rw[xn_ (_root_.Go.Proofs.YtcoglmaiahpooaaGreatDoor.kept hg hr)];simp only[List.getElem?_toArray];have hlen:=k0_ (l.zip qs);have hz:(l.zip qs).length=l.length:=(by simp;omega);rw[hz] at hlen;rw[List.getElem?_append_right (by rw[hlen];omega),hlen,show l.length*6+5 - l.length*6=5 by omega,h9]
set_option maxRecDepth 100000 in
theorem ack_ {W:World} {B:Nat} {v:Value} {l:List PU} (hx:CUs W B v l):∀ W',W.grownBy W' none→Calls Tryz.prog 12 #[v] W' (xs_ W' true):=by
 intro W0 hg0;have hle:=hx.le;obtain⟨g,hv,h9⟩:=hx.nine;have HX:=xa_ hx;have H9:=xa_ h9;have HG0:=xa_ hg0;subst hv;clear hx h9 hg0;go_enter Tryz.func12,Tryz.ntmps12;go_wp2_with fail
 go_loopg [3] (l.length+1) (fun gk s3 wx=>∃ i:Nat,s3=.int .i64 (i:Int)∧Hid (W0.grownBy wx none)∧Hid (i≤l.length∧gk=l.length+1 - i))
 case atStart=>exact⟨0,rfl,gr0 _,xa_ ⟨by omega,rfl⟩⟩
 case round=>
  obtain⟨i,rfl,GX,HB⟩:=hrel;obtain⟨hi1,hgk⟩:=HB.out;clear HB;by_cases hi:i<l.length;rotate_left
  · have hlt:¬((i:Int)<(l.length:Int)):=(by omega);have c9:=H9.out wr (gtn HG0.out GX.out);have w1:IntKind.i64.wrap ((l.length:Int)+1)=l.length+1:=IntWalk.i64_in _ (by omega);have k1:(0:Int)≤(l.length:Int)+1:=(by omega);have k2:(l.length:Int)+1≤((l.length+2:Nat):Int):=(by omega);have k3:(l.length:Int)<(l.length:Int)+1:=(by omega);clear HX;go_wp2_with fail
    go_ret;exact⟨rfl,GX.out⟩
  have hlt:((i:Int)<(l.length:Int)):=(by omega);have hwi:IntKind.i64.wrap ((i:Int)+1)=i+1:=IntWalk.i64_in _ (by omega);obtain⟨g',q,hv,⟨_,hq⟩,hc⟩:=HX.out.at i hi;injection hv with e1 _ _;injection e1 with e1;injection e1 with e1;subst e1;obtain⟨q1,q2⟩:=q;have y4:wr.cell? ⟨g,i*6+4,none⟩=some q2:=hc wr (gtn HG0.out GX.out) 4 (by omega);have cB:=xa_ (agb_ hq wr (gtn HG0.out GX.out));obtain⟨gb,hsb,_⟩:=CSs.nine hq;dsimp only at hsb;subst hsb;clear hc hq;go_wp2_with fail
  refine cB.out.mono ?_;rintro e w2 ⟨rfl,g2⟩;dsimp only;have G2:=xa_ (gtn GX.out g2);clear g2 cB y4;go_wp2_with fail
  go_roundg (l.length+1 - (i+1))
  case measure=>omega
  case rel=>exact⟨i+1,by simp,G2,xa_ ⟨by omega,rfl⟩⟩
end Go.Proofs.YtcoglmaiahpooaaGreatDoor
