/- Texts put together: N4, N5, BlL2, BlU2, N6, BlL3, N7, N8. -/
import Derived.Test.YtcgbfhpmkpglkaaGreatDoorQ14
import Derived.Test.YtcgbfhpmkpglkaaGreatDoorQ18
import Derived.Laws.CopyRow
import Derived.Test.YtcgbfhpmkpglkaaGreatDoorQ19
import Derived.Test.YtcgbfhpmkpglkaaGreatDoorQ20
set_option linter.unusedVariables false
set_option linter.unusedSimpArgs false
set_option maxHeartbeats 8000000
namespace Go.Proofs.YtcgbfhpmkpglkaaGreatDoor
open Go.RowKit
attribute [local go_sem ↓] Go.wp_at_zero Go.wp_at_succ
theorem FrAt.set {w:World} {F:Nat} {ar:List Int} (h:FrAt w F ar) (i:Nat) (v:Int):FrAt (w.setCell ⟨F,i,none⟩ (.int .i64 v)) F (ar.set i v):=by
 unfold FrAt;rw[xk_ h,yp_]
theorem MaC.other {w:World} {B M F:Nat} {pv:Value} {now:Int} {sa:Option Addr} {sc:Nat} {st:List Int} {sp fl:Int} (h:MaC w B M pv now sa sc st sp fl) (hFM:F≠M) (hFB:F<B) (i:Nat) (v:Value):MaC (w.setCell ⟨F,i,none⟩ v) B M pv now sa sc st sp fl:=by
 refine⟨by rw[Below.heap_setCell _ _ _ _ (by simpa using Ne.symm hFM)];exact h.blk,?_,h.lo⟩;exact World.ownsRow.kept h.own (x3_ (World.grownBy.refl w (some F)) _ _) (.inr fun e=>by rw[jl_] at e;have:=(h.row F e).1;omega)
theorem acq_ (M F i:Nat) (r:Option Nat) (w:World) (v:Value):Chg M (some F) r w (w.setCell ⟨F,i,none⟩ v):=⟨rfl,rfl,rfl,by simp,fun k hk _ hF _=>Below.heap_setCell _ _ _ _ (by simpa using hF)⟩
theorem ap9_ {w:World} {tb o:Nat} {x:Ins} (h:InsAt w tb o x):tb<w.heap.size:=by
 have h1:=h.d;cases hb:w.heap[tb]? with
 | none=>simp[World.cell?,hb] at h1
 | some ob=>exact xg_ hb
theorem aiq_ (c w:World) (B M F off n fc:Nat) (ar:List Int) (pv:Value) (now:Int) (sa:Option Addr) (sc:Nat) (r:List Int) (i v sp fl:Int) (tb o:Nat) (x:Ins) (h:MaC w B M pv now sa sc (r++[i]++[v]) sp fl) (hF:FrAt w F ar) (hFM:F≠M) (hFB:F<B) (hc:c.grownBy w none) (hcM:c.heap.size≤M) (hcB:c.heap.size≤B) (hcF:c.heap.size≤F) (hx:InsAt c tb o x) (hl:r.length≤800000) (hf0:0≤fl) (hf1:fl≤1000000000000)
 (ha:0≤x.a) (hab:x.a+x.b≤n) (hb:0≤x.b) (hn:off+n≤ar.length) (hn2:n≤20000) (hc1 : -4294967295≤x.c) (hc2:x.c≤4294967295) :
 Calls Tryz.prog 51 #[.pointer (some ⟨M,0,none⟩),.pointer (some ⟨tb,o,none⟩),.slice (some ⟨F,off,none⟩) n fc] w fun e w'=>e=.returned (.tuple #[])∧StP w B M (some F) pv now (sb sa) r sp (if isW i x.c (x.c+x.b - 1)=true then fl else fl+1) w'∧FrAt w' F (if isW i x.c (x.c+x.b - 1)=true then ar.set (off+(x.a+i - x.c).toNat) v else ar):=by
 have hrow:∀ y,(sb sa)=some y→c.heap.size≤y∧F<y:=fun y hy=>by have:=(h.row y hy).1;omega
 have HM:=hd_ h;have HX:=hd_ hx;have HF:=hd_ hF;have htb:tb≠F:=(by have:=ap9_ hx;omega);clear h hx hF;go_enter Tryz.func51,Tryz.ntmps51;go_wp2_with fail
 refine(vg_ HM.out (by simp;omega) _ gz_).mono ?_;rintro e w0 ⟨rfl,hm0,hk0,hn0⟩;have HM0:=hd_ hm0;have HC0:=hd_ hk0;clear hm0 hk0 hn0;go_wp2_with fail
 refine(vg_ HM0.out (by omega) _ gz_).mono ?_;rintro e w1 ⟨rfl,hm1,hk1',hn1⟩;have hk1:=HC0.out.trans (Nx.refl _ _) hk1';have hcw1:c.grownBy w1 none:=y4_ hc hk1 hcM (fun y hy=>by simp at hy) (fun y hy=>(hrow y hy).1);have HM1:=hd_ hm1;have HC1:Hid (Chg M (some F) (sb sa) w w1):=hk1.wide;have HF1:Hid (FrAt w1 F ar):=HF.out.chg hk1 hFM rfl (fun y hy=>(hrow y hy).2);obtain⟨q0,q1,q2,q3⟩:=HX.out.grown hcw1;have e1:IntKind.i64.wrap (x.c+x.b)=x.c+x.b:=IntWalk.i64_in _ (by omega);have e2:IntKind.i64.wrap (x.c+x.b - 1)=x.c+x.b - 1:=IntWalk.i64_in _ (by omega);have b1:=hm1.blk;have d4:=xa_ b1 4;simp at d4;have f4:=xc_ b1 4;have hw4:=kv_ fl hf0 hf1;clear hm1 hk1 hk1' hn1 b1 q0;go_wp2_with fail
 go_region_held3 (fun w'=>w'.cell? ⟨tb,o+1,none⟩=some (.int .i64 x.a)∧w'.cell? ⟨tb,o+2,none⟩=some (.int .i64 x.b)∧w'.cell? ⟨tb,o+3,none⟩=some (.int .i64 x.c)) (go_keep) (first
  | (go_at_call 70
     refine(yf_ _ _ _ _).mono ?_;rintro e w' ⟨rfl,rfl⟩))
 have hgd:w1.grownBy w1.drew none:=xf_ gz_;cases hW:isW i x.c (x.c+x.b - 1) with
 | false=>
  go_wp2_with fail
  all_goals first|go_end0|((try simp only[Exit.inBlock,Exit.then]);refine bodyPost_ret (results_none rfl _ _ _) rfl ?_)
  all_goals exact⟨rfl,⟨sa,sc,by have h:=(HM1.out.setF (fl+1)).kept (xf_ (World.grownBy.refl _ none));simpa using h,(HC1.out.trans (Nx.refl _ _) (q4_ M 4 _ _ w1 _)).trans (Nx.refl _ _) (Chg.of_none (xf_ (World.grownBy.refl _ none))),Nx.refl _ _⟩,by have h:=(HF1.out.chg (q4_ M 4 none none w1 (.int .i64 (fl+1))) hFM rfl (fun y hy=>by simp at hy)).grown (xf_ (World.grownBy.refl _ none));simpa using h⟩
 | true=>
  have hW':x.c≤i∧i≤x.c+x.b - 1:=(by simpa[isW] using hW);obtain⟨j,hj⟩:∃ j:Nat,(j:Int)=x.a+i - x.c:=⟨(x.a+i - x.c).toNat,by omega⟩;have hjn:j<n:=(by omega);have g1:IntKind.i64.wrap (x.a+i)=x.a+i:=IntWalk.i64_in _ (by omega);have g2:IntKind.i64.wrap (x.a+i - x.c)=(j:Int):=(by rw[← hj];exact IntWalk.i64_in _ (by omega));have i1:(0:Int)≤(j:Int):=(by omega);have i2:(j:Int)<(n:Int):=(by omega);have q5:=HF1.out.get (off+j) (by omega);have f5:=xc_ HF1.out (off+j);have ej:(x.a+i - x.c).toNat=j:=(by omega);have HEJ:=hd_ ej;generalize ar.getD (off+j) 0=y at q5;clear hj ej hW';go_wp2_with fail
  go_region_held3 (fun w'=>w'.cell? ⟨tb,o+1,none⟩=some (.int .i64 x.a)∧w'.cell? ⟨tb,o+3,none⟩=some (.int .i64 x.c)) (first|(go_keep;done)|exact⟨ade_ htb (by go_keep),ade_ htb (by go_keep)⟩) (fail)
  go_wp2_with fail
  all_goals first|go_end0|((try simp only[Exit.inBlock,Exit.then]);refine bodyPost_ret (results_none rfl _ _ _) rfl ?_)
  all_goals exact⟨rfl,⟨sa,sc,(HM1.out.other hFM hFB _ _).kept (xf_ (xf_ (World.grownBy.refl _ none))),(HC1.out.trans (Nx.refl _ _) (acq_ M F _ _ w1 _)).trans (Nx.refl _ _) (Chg.of_none (xf_ (xf_ (World.grownBy.refl _ none)))),Nx.refl _ _⟩,by rw[HEJ.out];have h:=(HF1.out.set (off+j) v).grown (xf_ (xf_ (World.grownBy.refl _ none)));simpa using h⟩
def zz_ (ar:List Int) (p k:Nat) (v:Int):List Int:=(List.range ar.length).map (fun i=>if p≤i∧i<p+k then v else ar.getD i 0)
theorem v7_ (ar:List Int) (p k:Nat) (v:Int):(zz_ ar p k v).length=ar.length:=by simp[zz_]
theorem ac2_ (ar:List Int) (p:Nat) (v:Int):zz_ ar p 0 v=ar:=by
 apply List.ext_getElem?;intro i;by_cases h:i<ar.length
 ·simp[zz_,h];omega
 ·simp[zz_,h]
theorem ac3_ (ar:List Int) (p k:Nat) (v:Int):(zz_ ar p k v).set (p+k) v=zz_ ar p (k+1) v:=by
 apply List.ext_getElem?;intro i;rw[List.getElem?_set,v7_];by_cases h:i<ar.length
 · by_cases e:p+k=i
   ·subst e;simp[zz_,h]
   ·rw[if_neg e];simp only[zz_,List.getElem?_map,List.getElem?_range h,Option.map_some];have:(p≤i∧i<p+k)↔(p≤i∧i<p+(k+1)):=(by omega);simp[this]
 · by_cases e:p+k=i
   ·subst e;simp[zz_,h]
   ·simp[zz_,h,e]
theorem aqa_ (w:World) (B M F p n fc:Nat) (ar:List Int) (pv:Value) (now:Int) (sa:Option Addr) (sc:Nat) (st:List Int) (v sp fl:Int) (h:MaC w B M pv now sa sc st sp fl) (hF:FrAt w F ar) (hFM:F≠M) (hFB:F<B) (hn:p+n≤ar.length) (hn2:n≤20000) (hs0:0≤sp) (hs1:sp≤1000000000000) :
 Calls Tryz.prog 54 #[.pointer (some ⟨M,0,none⟩),.slice (some ⟨F,p,none⟩) n fc,.int .i64 v] w fun e w'=>e=.returned (.tuple #[])∧StP w B M (some F) pv now (sb sa) st (sp+((n:Int) - 1)) fl w'∧FrAt w' F (zz_ ar p n v):=by
 have HM:=hd_ h;have HF:=hd_ hF;clear h hF;go_enter Tryz.func54,Tryz.ntmps54;go_wp2;go_loopg [9] n (fun gk s9 wx=>∃(k:Nat),s9=.int .i64 k∧k≤n∧gk=n - k∧MaC wx B M pv now sa sc st sp fl∧FrAt wx F (zz_ ar p k v)∧Chg M (some F) (sb sa) w wx)
 case atStart=>exact⟨0,rfl,Nat.zero_le _,by omega,HM.out,by rw[ac2_];exact HF.out,Chg.refl _ _ _ _⟩
 case round=>
  obtain⟨k,rfl,hk,hgk,hm,hf,hch⟩:=hrel;have HG:=hd_ hgk;have HM1:=hd_ hm;have HF1:=hd_ hf;have HC1:=hd_ hch;clear hgk;by_cases hlt:k<n
  · have q:=hf.get (p+k) (by rw[v7_];omega);have f:=xc_ hf (p+k);generalize(zz_ ar p k v).getD (p+k) 0=y at q;have i1:(0:Int)≤(k:Int):=(by omega);have i2:(k:Int)<(n:Int):=(by omega);clear hm hf hch;go_wp2;have hgl:=HG.out;go_roundg (n - (k+1))
    all_goals first|omega|exact⟨k+1,by go_num,by omega,by omega,HM1.out.other hFM hFB _ _,by rw[← ac3_];exact HF1.out.set (p+k) v,HC1.out.trans (Nx.refl _ _) (acq_ M F _ _ _ _)⟩
  · have hk':¬((k:Int)<(n:Int)):=(by omega);have hkn:k=n:=(by omega);subst hkn;have b1:=hm.blk;have d3:=xa_ b1 3;simp at d3;have f3:=xc_ b1 3;have e1:IntKind.i64.wrap ((k:Int) - 1)=(k:Int) - 1:=IntWalk.i64_in _ (by omega);have e2:IntKind.i64.wrap (sp+((k:Int) - 1))=sp+((k:Int) - 1):=IntWalk.i64_in _ (by omega);clear HG b1 hm hf hch;go_wp2;all_goals first|go_end0|((try simp only[Exit.inBlock,Exit.then]);refine bodyPost_ret (results_none rfl _ _ _) rfl ?_)
    all_goals exact⟨rfl,⟨sa,sc,by simpa using HM1.out.setS (sp+((k:Int) - 1)),HC1.out.trans (Nx.refl _ _) (q4_ M 3 _ _ wr _),Nx.refl _ _⟩,by have h:=HF1.out.chg (q4_ M 3 none none wr (.int .i64 (sp+((k:Int) - 1)))) hFM rfl (fun y hy=>by simp at hy);simpa using h⟩
end Go.Proofs.YtcgbfhpmkpglkaaGreatDoor
namespace Go.Proofs.YtcgbfhpmkpglkaaGreatDoor.Bl
open Go.RowKit
theorem ap3_ (p b T:Nat) (l:List Int) (w:World) (hp:w.heap[p]?=some (.cells #[.bool false,.int .i64 0] T)) (hb:w.heap[b]?=some (.cells (xi_ (xm_ [1,2] l)) 3)) (hne:p≠b) :
 Calls Tryz.prog 132 #[.pointer (some ⟨p,0,none⟩),.slice (some ⟨b,0,none⟩) 2 2] w fun e w'=>e=.returned (.tuple #[])∧w'.heap[p]?=some (.cells (A2 (xm_ [1,2] l)) T)∧w.grownBy w' (some p):=by
 obtain⟨a0,a1,e⟩:=qy_ 1 2 l;rw[e] at hb ⊢;exact afu_ p b T 3 _ _ _ _ w hp hb hne
theorem ap4_ (p T:Nat) (n0 n1:Int) (h0:n0=0∨n0=1) (w:World) (hp:w.heap[p]?=some (.cells (A2 [n0,n1]) T)) :
 Calls Tryz.prog 134 #[.pointer (some ⟨p,0,none⟩)] w fun e w'=>e=.returned (.slice (some ⟨w.heap.size,0,none⟩) 2 2)∧w'.heap[w.heap.size]?=some (.cells (xi_ [n0,n1]) 3)∧w.grownBy w' none:=by
 have h:=afv_ p T n1 (n0 != 0) w hp;rw[aae_ h0] at h;exact h
theorem ap5_ (p b T:Nat) (x0 x1 i0 i1 i2 now:Int) (h_x0:x0=0∨x0=1) (l_x1 : -32768≤x1) (u_x1:x1≤32767) (h_i0:i0=0∨i0=1) (h_i1:i1=0∨i1=1) (l_i2 : -32768≤i2) (u_i2:i2≤32767) (l_now:0≤now) (u_now:now≤4294967295) (w:World)
 (hp:w.heap[p]?=some (.cells (A2 [x0,x1]) T)) (hb:w.heap[b]?=some (.cells (xi_ [i0,i1,i2]) 3)) (hne:p≠b) :
 Calls Tryz.prog 136 #[.pointer (some ⟨p,0,none⟩),.slice (some ⟨b,0,none⟩) 3 3,.int .i64 now] w fun e w'=>e=.returned (.slice (some ⟨w.heap.size,0,none⟩) 2 2)∧w'.heap[w.heap.size]?=some (.cells (xi_ (qr_ [x0,x1] [i0,i1,i2] now).2) 3)∧w'.heap[p]?=some (.cells (A2 (qr_ [x0,x1] [i0,i1,i2] now).1) T)∧w.grownBy w' (some p):=by
 rcases h_i1 with rfl|rfl
 · rcases h_i0 with rfl|rfl
   ·exact(ap1_ p b T (x0 != 0) x1 0 0 i2 now w hp hb hne rfl rfl l_x1 u_x1).mono fun e w' ⟨a1,a2,a3,a4⟩=>⟨a1,a2.trans (by simp[qr_,xi_]),a3.trans (by simp[qr_,A2]),a4⟩
   · rcases h_x0 with rfl|rfl
     ·exact(avk_ p b T false x1 1 0 i2 now w hp hb hne rfl rfl l_x1 u_x1).mono fun e w' ⟨a1,a2,a3,a4⟩=>⟨a1,a2.trans (by simp[qr_,xi_]),a3.trans (by simp[qr_,A2]),a4⟩
     ·exact(ap1_ p b T true x1 1 0 i2 now w hp hb hne rfl rfl l_x1 u_x1).mono fun e w' ⟨a1,a2,a3,a4⟩=>⟨a1,a2.trans (by simp[qr_,xi_]),a3.trans (by simp[qr_,A2]),a4⟩
 ·exact(as4_ p b T (x0 != 0) _ x1 i0 1 i2 now w hp hb hne rfl rfl l_x1 u_x1).mono fun e w' ⟨a1,a2,a3,a4⟩=>⟨a1,a2.trans (by simp[qr_,xi_]),a3.trans (by simp[qr_,A2]),a4⟩
theorem ap6_ (x0 x1 i0 i1 i2 now:Int) (h_x0:x0=0∨x0=1) (h_i0:i0=0∨i0=1) (h_i1:i1=0∨i1=1) :
 ∃ n0 n1,(qr_ [x0,x1] [i0,i1,i2] now).1=[n0,n1]∧(n0=0∨n0=1):=by
 unfold qr_;simp only[];repeat' split
 all_goals exact⟨_,_,rfl,h_i0⟩
theorem ane_:ur_ zw_ 2 2 [1,2] [1,1,2] qr_:=by
 intro vs vi l li now w hr hri;obtain⟨a0,a1,e⟩:=qy_ 1 2 l;obtain⟨c0,c1,c2,e'⟩:=uq_ 1 1 2 li;have hst:∀(p b:Nat) (w:World),w.heap[p]?=some (.cells (A2 (xm_ [1,2] l)) 156)→w.heap[b]?=some (.cells (xi_ (xm_ [1,1,2] li)) 3)→p≠b→Calls Tryz.prog 136 #[.pointer (some ⟨p,0,none⟩),.slice (some ⟨b,0,none⟩) 3 3,.int .i64 (xd_ 5 now)] w fun e w'=>e=.returned (.slice (some ⟨w.heap.size,0,none⟩) 2 2)∧w'.heap[w.heap.size]?=some (.cells (xi_ (qr_ (xm_ [1,2] l) (xm_ [1,1,2] li) (xd_ 5 now)).2) 3)∧w'.heap[p]?=some (.cells (A2 (qr_ (xm_ [1,2] l) (xm_ [1,1,2] li) (xd_ 5 now)).1) 156)∧w.grownBy w' (some p):=by
  intro p b w hp hb hne;rw[e] at hp ⊢;rw[e'] at hb ⊢;exact ap5_ p b 156 _ _ _ _ _ _ (ye_ a0) (q6_ a1).1 (q6_ a1).2 (ye_ c0) (ye_ c1) (q6_ c2).1 (q6_ c2).2 (yo_ now).1 (yo_ now).2 w hp hb hne
 have hsv:∀(p:Nat) (w:World),w.heap[p]?=some (.cells (A2 (qr_ (xm_ [1,2] l) (xm_ [1,1,2] li) (xd_ 5 now)).1) 156)→Calls Tryz.prog 134 #[.pointer (some ⟨p,0,none⟩)] w fun e w'=>e=.returned (.slice (some ⟨w.heap.size,0,none⟩) 2 2)∧w'.heap[w.heap.size]?=some (.cells (xi_ (qr_ (xm_ [1,2] l) (xm_ [1,1,2] li) (xd_ 5 now)).1) 3)∧w.grownBy w' none:=by
  intro p w hp;rw[e,e'] at hp ⊢;obtain⟨n0,n1,hf,h0⟩:=ap6_ (xd_ 1 a0) (xd_ 2 a1) (xd_ 1 c0) (xd_ 1 c1) (xd_ 2 c2) (xd_ 5 now) (ye_ a0) (ye_ c0) (ye_ c1);rw[hf] at hp ⊢;exact ap4_ p 156 n0 n1 h0 w hp
 exact qx_ zw_ 152 156 135 132 136 134 #[.bool false,.int .i64 0] ctuI ctuO ctuS A2 qr_ vs vi l li now w (by decide) (by decide) ae5_
  (fun _ _=>by kernel_rfl) (fun _ _=>by kernel_rfl) (fun _ _=>by kernel_rfl) (fun _ _=>by kernel_rfl) (fun _ _=>by kernel_rfl) (fun _ _=>by kernel_rfl)
  (fun _ _=>by kernel_rfl) (fun _ _=>by kernel_rfl) (fun _ _=>by kernel_rfl) (fun _ _=>by kernel_rfl)
  aez_ (fun p b w hp hb hne=>ap3_ p b 156 l w hp hb hne) hst hsv hr hri
theorem ap7_ (p b T:Nat) (x0 x1 i0 i1 i2 now:Int) (h_x0:x0=0∨x0=1) (l_x1 : -32768≤x1) (u_x1:x1≤32767) (h_i0:i0=0∨i0=1) (h_i1:i1=0∨i1=1) (l_i2 : -32768≤i2) (u_i2:i2≤32767) (l_now:0≤now) (u_now:now≤4294967295) (w:World)
 (hp:w.heap[p]?=some (.cells (A2 [x0,x1]) T)) (hb:w.heap[b]?=some (.cells (xi_ [i0,i1,i2]) 3)) (hne:p≠b) :
 Calls Tryz.prog 141 #[.pointer (some ⟨p,0,none⟩),.slice (some ⟨b,0,none⟩) 3 3,.int .i64 now] w fun e w'=>e=.returned (.slice (some ⟨w.heap.size,0,none⟩) 2 2)∧w'.heap[w.heap.size]?=some (.cells (xi_ (qs_ [x0,x1] [i0,i1,i2] now).2) 3)∧w'.heap[p]?=some (.cells (A2 (qs_ [x0,x1] [i0,i1,i2] now).1) T)∧w.grownBy w' (some p):=by
 rcases h_i1 with rfl|rfl
 · rcases h_i0 with rfl|rfl
   ·exact(ap2_ p b T (x0 != 0) x1 0 0 i2 now w hp hb hne rfl rfl l_x1 u_x1).mono fun e w' ⟨a1,a2,a3,a4⟩=>⟨a1,a2.trans (by simp[qs_,xi_]),a3.trans (by simp[qs_,A2]),a4⟩
   · rcases h_x0 with rfl|rfl
     ·exact(avl_ p b T false x1 1 0 i2 now w hp hb hne rfl rfl l_x1 u_x1).mono fun e w' ⟨a1,a2,a3,a4⟩=>⟨a1,a2.trans (by simp[qs_,xi_]),a3.trans (by simp[qs_,A2]),a4⟩
     ·exact(ap2_ p b T true x1 1 0 i2 now w hp hb hne rfl rfl l_x1 u_x1).mono fun e w' ⟨a1,a2,a3,a4⟩=>⟨a1,a2.trans (by simp[qs_,xi_]),a3.trans (by simp[qs_,A2]),a4⟩
 ·exact(as5_ p b T (x0 != 0) _ x1 i0 1 i2 now w hp hb hne rfl rfl l_x1 u_x1).mono fun e w' ⟨a1,a2,a3,a4⟩=>⟨a1,a2.trans (by simp[qs_,xi_]),a3.trans (by simp[qs_,A2]),a4⟩
theorem ap8_ (x0 x1 i0 i1 i2 now:Int) (h_x0:x0=0∨x0=1) (h_i0:i0=0∨i0=1) (h_i1:i1=0∨i1=1) :
 ∃ n0 n1,(qs_ [x0,x1] [i0,i1,i2] now).1=[n0,n1]∧(n0=0∨n0=1):=by
 unfold qs_;simp only[];repeat' split
 all_goals exact⟨_,_,rfl,h_i0⟩
theorem anf_:ur_ zx_ 2 2 [1,2] [1,1,2] qs_:=by
 intro vs vi l li now w hr hri;obtain⟨a0,a1,e⟩:=qy_ 1 2 l;obtain⟨c0,c1,c2,e'⟩:=uq_ 1 1 2 li;have hst:∀(p b:Nat) (w:World),w.heap[p]?=some (.cells (A2 (xm_ [1,2] l)) 158)→w.heap[b]?=some (.cells (xi_ (xm_ [1,1,2] li)) 3)→p≠b→Calls Tryz.prog 141 #[.pointer (some ⟨p,0,none⟩),.slice (some ⟨b,0,none⟩) 3 3,.int .i64 (xd_ 5 now)] w fun e w'=>e=.returned (.slice (some ⟨w.heap.size,0,none⟩) 2 2)∧w'.heap[w.heap.size]?=some (.cells (xi_ (qs_ (xm_ [1,2] l) (xm_ [1,1,2] li) (xd_ 5 now)).2) 3)∧w'.heap[p]?=some (.cells (A2 (qs_ (xm_ [1,2] l) (xm_ [1,1,2] li) (xd_ 5 now)).1) 158)∧w.grownBy w' (some p):=by
  intro p b w hp hb hne;rw[e] at hp ⊢;rw[e'] at hb ⊢;exact ap7_ p b 158 _ _ _ _ _ _ (ye_ a0) (q6_ a1).1 (q6_ a1).2 (ye_ c0) (ye_ c1) (q6_ c2).1 (q6_ c2).2 (yo_ now).1 (yo_ now).2 w hp hb hne
 have hsv:∀(p:Nat) (w:World),w.heap[p]?=some (.cells (A2 (qs_ (xm_ [1,2] l) (xm_ [1,1,2] li) (xd_ 5 now)).1) 158)→Calls Tryz.prog 134 #[.pointer (some ⟨p,0,none⟩)] w fun e w'=>e=.returned (.slice (some ⟨w.heap.size,0,none⟩) 2 2)∧w'.heap[w.heap.size]?=some (.cells (xi_ (qs_ (xm_ [1,2] l) (xm_ [1,1,2] li) (xd_ 5 now)).1) 3)∧w.grownBy w' none:=by
  intro p w hp;rw[e,e'] at hp ⊢;obtain⟨n0,n1,hf,h0⟩:=ap8_ (xd_ 1 a0) (xd_ 2 a1) (xd_ 1 c0) (xd_ 1 c1) (xd_ 2 c2) (xd_ 5 now) (ye_ a0) (ye_ c0) (ye_ c1);rw[hf] at hp ⊢;exact ap4_ p 158 n0 n1 h0 w hp
 exact qx_ zx_ 157 158 140 132 141 134 #[.bool false,.int .i64 0] ctdI ctdO ctdS A2 qs_ vs vi l li now w (by decide) (by decide) ae6_
  (fun _ _=>by kernel_rfl) (fun _ _=>by kernel_rfl) (fun _ _=>by kernel_rfl) (fun _ _=>by kernel_rfl) (fun _ _=>by kernel_rfl) (fun _ _=>by kernel_rfl)
  (fun _ _=>by kernel_rfl) (fun _ _=>by kernel_rfl) (fun _ _=>by kernel_rfl) (fun _ _=>by kernel_rfl)
  ae0_ (fun p b w hp hb hne=>ap3_ p b 158 l w hp hb hne) hst hsv hr hri
def k8_ (n m:Nat) (kS kI:List Int) (F:List Int→List Int→Int→List Int×List Int):Prop:=∀ l li x,(F (xm_ kS l) (xm_ kI li) x).1.length=n∧(F (xm_ kS l) (xm_ kI li) x).2.length=m
theorem us_:k8_ 4 2 [1,5,1,5] [1,5] jy_:=fun l li x=>by
 obtain⟨a,b,c,d,e⟩:=abj_ 1 5 1 5 l;obtain⟨f,g,e'⟩:=qy_ 1 5 li;rw[e,e'];refine⟨?_,?_⟩ <;> (simp only[jy_];repeat' split) <;> rfl
theorem ut_:k8_ 4 2 [1,5,1,5] [1,5] qv_:=fun l li x=>by
 obtain⟨a,b,c,d,e⟩:=abj_ 1 5 1 5 l;obtain⟨f,g,e'⟩:=qy_ 1 5 li;rw[e,e'];refine⟨?_,?_⟩ <;> (simp only[qv_];repeat' split) <;> rfl
theorem aa9_:k8_ 4 2 [1,5,1,5] [1,5] tpF:=fun l li x=>by
 obtain⟨a,b,c,d,e⟩:=abj_ 1 5 1 5 l;obtain⟨f,g,e'⟩:=qy_ 1 5 li;rw[e,e'];refine⟨?_,?_⟩ <;> (simp only[tpF,qg_];repeat' split) <;> rfl
theorem uu_:k8_ 2 2 [1,2] [1,1,2] qr_:=fun l li x=>by
 obtain⟨a,b,e⟩:=qy_ 1 2 l;obtain⟨c,d,f,e'⟩:=uq_ 1 1 2 li;rw[e,e'];refine⟨?_,?_⟩ <;> (simp only[qr_];repeat' split) <;> rfl
theorem uv_:k8_ 2 2 [1,2] [1,1,2] qs_:=fun l li x=>by
 obtain⟨a,b,e⟩:=qy_ 1 2 l;obtain⟨c,d,f,e'⟩:=uq_ 1 1 2 li;rw[e,e'];refine⟨?_,?_⟩ <;> (simp only[qs_];repeat' split) <;> rfl
theorem vx_:k8_ 3 3 [1,1,2] [1,1,1,1,2] yn_:=fun l li x=>by
 obtain⟨a,b,c,e⟩:=uq_ 1 1 2 l;obtain⟨d,f,g,h,i,e'⟩:=apj_ 1 1 1 1 2 li;rw[e,e'];refine⟨?_,?_⟩ <;> (simp only[yn_];repeat' split) <;> rfl
theorem ky_:k8_ 1 1 [1] [1] qi_:=fun l li x=>by
 obtain⟨a,e⟩:=qp_ 1 l;obtain⟨c,e'⟩:=qp_ 1 li;rw[e,e'];exact⟨rfl,rfl⟩
theorem kz_:k8_ 1 1 [1] [1] qj_:=fun l li x=>by
 obtain⟨a,e⟩:=qp_ 1 l;obtain⟨c,e'⟩:=qp_ 1 li;rw[e,e'];exact⟨rfl,rfl⟩
theorem aba_:k8_ 1 1 [1] [1,1] srF:=fun l li x=>by
 obtain⟨a,e⟩:=qp_ 1 l;obtain⟨c,d,e'⟩:=qy_ 1 1 li;rw[e,e'];exact⟨rfl,rfl⟩
theorem abb_:k8_ 1 1 [1] [1,1] rsF:=fun l li x=>by
 obtain⟨a,e⟩:=qp_ 1 l;obtain⟨c,d,e'⟩:=qy_ 1 1 li;rw[e,e'];exact⟨rfl,rfl⟩
theorem vy_:k8_ 1 1 [2] [2,2] zl_:=fun l li x=>by
 obtain⟨a,e⟩:=qp_ 2 l;obtain⟨c,d,e'⟩:=qy_ 2 2 li;rw[e,e'];exact⟨rfl,rfl⟩
theorem vz_:k8_ 1 1 [1] [2,2,2] qh_:=fun l li x=>by
 obtain⟨a,e⟩:=qp_ 1 l;obtain⟨c,d,f,e'⟩:=uq_ 2 2 2 li;rw[e,e'];exact⟨rfl,rfl⟩
end Go.Proofs.YtcgbfhpmkpglkaaGreatDoor.Bl
namespace Go.Proofs.YtcgbfhpmkpglkaaGreatDoor
open Go.RowKit
attribute [local go_sem ↓] Go.wp_at_zero Go.wp_at_succ
def put (ar:List Int) (q:Nat) (l:List Int):List Int:=ar.take q++l++ar.drop (q+l.length)
theorem vp_ (ar:List Int) (q:Nat) (l:List Int) (h:q+l.length≤ar.length):(put ar q l).length=ar.length:=by
 simp[put];omega
def sub (ar:List Int) (q n:Nat):List Int:=(ar.drop q).take n
theorem jt_ (ar:List Int) (q n:Nat) (h:q+n≤ar.length):(sub ar q n).length=n:=by simp[sub];omega
theorem FrAt.rd {w:World} {F:Nat} {ar:List Int} (h:FrAt w F ar) (q n c:Nat) (hq:q+n≤ar.length):rd w (.slice (some ⟨F,q,none⟩) n c) (sub ar q n):=by
 refine⟨_,c,by rw[jt_ ar q n hq],.inr ⟨F,q,rfl,fun i hi=>?_⟩⟩;rw[jt_ ar q n hq] at hi;rw[h.get (q+i) (by omega)];simp[sub,List.getD,List.getElem?_take,hi]
theorem FrAt.put {w:World} {F:Nat} {ar:List Int} (h:FrAt w F ar) (q dl dc:Nat) (b sl sc:Nat) (l:List Int) (hb:w.heap[b]?=some (.cells (xi_ l) 3)) (hl:l.length=sl) (hd:sl≤dl) (hq:q+sl≤ar.length) :
 ∃ w',(Builtin.copy_ #[25,25] 3 #[.slice (some ⟨F,q,none⟩) dl dc,.slice (some ⟨b,0,none⟩) sl sc]).run Tryz.prog w=.ok (.int .i64 sl) w'∧FrAt w' F (YtcgbfhpmkpglkaaGreatDoor.put ar q l)∧(∀ k,k≠F→w'.heap[k]?=w.heap[k]?)∧w'.heap.size=w.heap.size∧w'.os=w.os∧w'.tape=w.tape∧w'.output=w.output:=by
 have hs:(Tryz.prog.info? 3).map (·.size)=some 1:=(by kernel_rfl);have hr:=run_copy_row (P:=Tryz.prog) w 25 25 3 3 F q dl dc ⟨b,0,none⟩ sl sc (xi_ ar) 3 (l.map (Value.int .i64)) Tryz.underlying25 hs h (by rw[List.length_map,hl];exact(Nat.min_eq_left hd).symm)
  (fun j v hj=>by
    rw[jc_,Nat.zero_add,xa_ hb];simpa[xi_] using hj)
  (by simp[xi_,hl];omega) (by simp[Value.oneCell'])
 rw[List.length_map,hl] at hr;obtain⟨cs,hcs⟩:∃ cs,((xi_ ar).toList.take q++l.map (Value.int .i64)++(xi_ ar).toList.drop (q+sl)).toArray=cs:=⟨_,rfl⟩;rw[hcs] at hr;have hE:cs=xi_ (YtcgbfhpmkpglkaaGreatDoor.put ar q l):=by
  rw[← hcs];simp[xi_,YtcgbfhpmkpglkaaGreatDoor.put,hl]
 refine⟨w.setRow F cs,hr,?_,?_,?_,?_,?_,?_⟩
 ·unfold FrAt;rw[← hE];exact setRow_heap _ _ _ _ 3 _ h
 ·exact fun k hk=>setRow_other _ _ _ _ hk
 ·simp[World.setRow]
 ·rfl
 ·rfl
 ·rfl
theorem acb_ {M F:Nat} {r:Option Nat} {w w':World} (h:∀ k,k≠F→w'.heap[k]?=w.heap[k]?) (hs:w'.heap.size=w.heap.size) (h1:w'.os=w.os) (h2:w'.tape=w.tape) (h3:w'.output=w.output):Chg M (some F) r w w':=⟨h1,h2,h3,by omega,fun k hk _ hF _=>h k (by simpa using hF)⟩
theorem MaC.frame {w w':World} {B M F:Nat} {pv:Value} {now:Int} {sa:Option Addr} {sc:Nat} {st:List Int} {sp fl:Int} (h:MaC w B M pv now sa sc st sp fl) (hk:∀ k,k≠F→w'.heap[k]?=w.heap[k]?) (hFM:F≠M) (hFB:F<B):MaC w' B M pv now sa sc st sp fl:=by
 refine⟨(hk M (Ne.symm hFM)).trans h.blk,⟨h.own.1,?_⟩,h.lo⟩;rcases h.own.2 with h2|⟨g,c,cur,e,hb,hg,h3⟩
 ·exact .inl h2
 ·exact .inr ⟨g,c,cur,e,hb,(hk g (by omega)).trans hg,h3⟩
def vq_ (Fn:List Int→List Int→Int→List Int×List Int) (kS kI:List Int) (ni no ns:Nat) (now:Int) (ar:List Int) (p:Nat):List Int:=
 put (put ar (p+ni) (Fn (Bl.xm_ kS (sub ar (p+(ni+no)) ns)) (Bl.xm_ kI (sub ar p ni)) (Bl.xd_ 5 now)).2) (p+(ni+no)) (Fn (Bl.xm_ kS (sub ar (p+(ni+no)) ns)) (Bl.xm_ kI (sub ar p ni)) (Bl.xd_ 5 now)).1
set_option maxRecDepth 10000 in
theorem y8_ (num:Int) (nm:ByteArray) (ni no ns:Nat) (kS kI:List Int) (Fn:List Int→List Int→Int→List Int×List Int)
 (hkit:∀ w,Stds w→Calls Tryz.prog 72 #[.int .i64 num] w fun e w'=>e=.returned (.agg #[.string nm,.int .i64 ni,.int .i64 (((ni+no:Nat):Int)),.int .i64 ((ni+no+ns:Nat):Int)])∧w.grownBy w' none)
 (hstep:Bl.ur_ nm ns no kS kI Fn) (hlen:Bl.k8_ ns no kS kI Fn)
 (w:World) (B M F p wn fc:Nat) (ar:List Int) (pv:Value) (now:Int) (sa:Option Addr) (sc:Nat) (st:List Int) (sp fl:Int) (h:MaC w B M pv now sa sc st sp fl) (hF:FrAt w F ar) (hFM:F≠M) (hFB:F<B) (hB:B≤w.heap.size) (hw:ni+no+ns≤wn) (hwf:wn≤fc) (hp:p+wn≤ar.length) (hS:Stds w) (hns:1≤ns) (hno:1≤no) :
 Calls Tryz.prog 55 #[.pointer (some ⟨M,0,none⟩),.int .i64 num,.slice (some ⟨F,p,none⟩) wn fc] w fun e w'=>e=.returned (.tuple #[])∧StP w B M (some F) pv now (sb sa) st sp fl w'∧FrAt w' F (vq_ Fn kS kI ni no ns now ar p):=by
 have HM:=hd_ h;have HF:=hd_ hF;have cK:=hkit w hS;have HST:=hd_ hstep;obtain⟨R,hR⟩:∃ R,Fn (Bl.xm_ kS (sub ar (p+(ni+no)) ns)) (Bl.xm_ kI (sub ar p ni)) (Bl.xd_ 5 now)=R:=⟨_,rfl⟩;have HR:=hd_ hR;have HLN:Hid (R.1.length=ns∧R.2.length=no):=(by have:=hlen (sub ar (p+(ni+no)) ns) (sub ar p ni) (Bl.xd_ 5 now);rw[hR] at this;exact this);clear h hF hS hkit hstep hlen hR;obtain⟨a1,ha1⟩:∃ m,ni+no=m:=⟨_,rfl⟩;obtain⟨a2,ha2⟩:∃ m,ni+no+ns=m:=⟨_,rfl⟩;have HA1:=hd_ ha1;have HA2:=hd_ ha2;have Z1:=hd_ (And.intro HA1.out HA2.out);rw[ha2] at cK hw;rw[ha1] at cK;have l1:ni≤a1:=(by omega);have l2:a1≤a2:=(by omega);clear ha1 ha2;go_enter Tryz.func55,Tryz.ntmps55;go_wp2_with fail
 refine cK.mono ?_;rintro e w1 ⟨rfl,hg1⟩;clear cK;go_wp2_with fail
 generalize hw2:w1.alloc (.cells #[.string nm,.int .i64 (ni:Int),.int .i64 (a1:Int),.int .i64 (a2:Int)] 119)=w2;have hX2:w2.heap[w1.heap.size]?=some (.cells #[.string nm,.int .i64 (ni:Int),.int .i64 (a1:Int),.int .i64 (a2:Int)] 119):=hw2▸heap_alloc_new _ _;have hg12:w.grownBy w2 none:=hg1.trans (hw2▸gr1 _ _);have HM2:Hid (MaC w2 B M pv now sa sc st sp fl):=HM.out.kept hg12;have HF2:Hid (FrAt w2 F ar):=HF.out.grown hg12;have HX2:=hd_ hX2;have k0:=xa_ hX2 0;have k1:=xa_ hX2 1;have k2:=xa_ hX2 2;have k3:=xa_ hX2 3;have m1:=xa_ HM2.out.blk 1;simp at k0 k1 k2 k3 m1;have hFX:F<w1.heap.size:=(by have:=hg1.size;omega);have n1:¬fc=a1:=(by have:=Z1.out;omega);have n2:¬fc=ni:=(by have:=Z1.out;omega);have i0:(0:Int)≤(ni:Int):=(by omega);have i1:(0:Int)≤(a1:Int):=(by omega);have i2:(a1:Int)≤(a2:Int):=(by omega);have i3:(a2:Int)≤(fc:Int):=(by omega);have i4:(ni:Int)≤(fc:Int):=(by omega);have i5:(ni:Int)≤(wn:Int):=(by omega);have i6:(a1:Int)≤(wn:Int):=(by omega);have i7:(wn:Int)≤(fc:Int):=(by omega);have cS:∀ W,w2.grownBy W none→∀ c1 c2,Calls Tryz.prog 73 #[.string nm,.slice (some ⟨F,p+a1,none⟩) (a2 - a1) c1,.slice (some ⟨F,p,none⟩) ni c2,.int .i64 now] W fun e w'=>∃ b1 b2,e=.returned (.tuple #[.slice (some ⟨b1,0,none⟩) ns ns,.slice (some ⟨b2,0,none⟩) no no])∧w'.heap[b1]?=some (.cells (xi_ R.1) 3)∧w'.heap[b2]?=some (.cells (xi_ R.2) 3)∧W.heap.size≤b1∧W.heap.size≤b2∧W.grownBy w' none:=fun W hW c1 c2=>by
  have hs:a2 - a1=ns:=(by have:=Z1.out;omega);have hf:=HF2.out.grown hW;have h1:=hf.rd (p+(ni+no)) ns c1 (by have:=Z1.out;omega);have h2:=hf.rd p ni c2 (by have:=Z1.out;omega);rw[HA1.out] at h1;rw[hs];refine(HST.out _ _ _ _ now W h1 h2).mono ?_;rintro e w' ⟨b1,b2,h3,h4,h5,h6,h7,h8,h9⟩;have hR:=HR.out;rw[HA1.out] at hR;rw[hR] at h7 h8;exact⟨b1,b2,h3,h7,h8,h4,h5,h9⟩
 clear hw2 hX2 hg1;go_region_held3 (fun w'=>w'.cell? ⟨w1.heap.size,0,none⟩=some (.string nm)∧w'.cell? ⟨w1.heap.size,1,none⟩=some (.int .i64 (ni:Int))∧w'.cell? ⟨w1.heap.size,2,none⟩=some (.int .i64 (a1:Int))∧w'.cell? ⟨w1.heap.size,3,none⟩=some (.int .i64 (a2:Int))∧w'.cell? ⟨M,1,none⟩=some (.int .i64 now)) (first|(go_keep;done)|exact HK3.out) (first
  | (go_at_call 73
     refine(cS _ (xf_ gz_) _ _).mono ?_;rintro e w3 ⟨b1,b2,rfl,hb1,hb2,hl1,hl2,hg3⟩;have HK3:Hid (w3.cell? ⟨w1.heap.size,0,none⟩=some (.string nm)∧w3.cell? ⟨w1.heap.size,1,none⟩=some (.int .i64 (ni:Int))∧w3.cell? ⟨w1.heap.size,2,none⟩=some (.int .i64 (a1:Int))∧w3.cell? ⟨w1.heap.size,3,none⟩=some (.int .i64 (a2:Int))∧w3.cell? ⟨M,1,none⟩=some (.int .i64 now)):=⟨hg3.cell k0 (by simp),hg3.cell k1 (by simp),hg3.cell k2 (by simp),hg3.cell k3 (by simp),hg3.cell m1 (by simp)⟩))
 have hg23:w2.grownBy w3 none:=(xf_ gz_).trans hg3;have HM3:Hid (MaC w3 B M pv now sa sc st sp fl):=HM2.out.kept hg23;have HF3:Hid (FrAt w3 F ar):=HF2.out.grown hg23;have hw2s:=xg_ HX2.out;have z1:a1=ni+no:=HA1.out.symm;have z2:a2=ni+no+ns:=HA2.out.symm;have hd1:w2.drew.heap.size=w2.heap.size:=rfl;obtain⟨w4,hr4,hF4,hk4,hs4,ho4,ht4,hu4⟩:=HF3.out.put (p+ni) (wn - ni) (fc - ni) b2 no no R.2 hb2 HLN.out.2 (by omega) (by omega);have hb1':w4.heap[b1]?=some (.cells (xi_ R.1) 3):=(hk4 b1 (by omega)).trans hb1;have hlp:(put ar (p+ni) R.2).length=ar.length:=vp_ _ _ _ (by rw[HLN.out.2];omega);obtain⟨w5,hr5,hF5,hk5,hs5,ho5,ht5,hu5⟩:=hF4.put (p+a1) (wn - a1) (fc - a1) b1 ns ns R.1 hb1' HLN.out.1 (by omega) (by rw[hlp];omega);have j1:=HK3.out.2.1;have j2:w4.cell? ⟨w1.heap.size,2,none⟩=some (.int .i64 (a1:Int)):=by
  rw[World.cell?_of_block (hk4 w1.heap.size (by omega))];exact HK3.out.2.2.1
 have HFIN:Hid (StP w B M (some F) pv now (sb sa) st sp fl w5):=⟨sa,sc,(HM3.out.frame hk4 hFM hFB).frame hk5 hFM hFB,((Chg.of_none (hg12.trans hg23)).trans (Nx.refl _ _) (acb_ hk4 hs4 ho4 ht4 hu4)).trans (Nx.refl _ _) (acb_ hk5 hs5 ho5 ht5 hu5),Nx.refl _ _⟩;have HFF:Hid (FrAt w5 F (vq_ Fn kS kI ni no ns now ar p)):=by
  unfold vq_;rw[HR.out,HA1.out];exact hF5
 clear hF4 hF5 hk4 hk5 hb1 hb2 hb1' z1 z2 hd1;go_wp2_with fail
 all_goals first|go_end0|((try simp only[Exit.inBlock,Exit.then]);refine bodyPost_ret (results_none rfl _ _ _) rfl ?_)
 all_goals exact⟨rfl,HFIN.out,HFF.out⟩
end Go.Proofs.YtcgbfhpmkpglkaaGreatDoor
namespace Go.Proofs.YtcgbfhpmkpglkaaGreatDoor.Bl
open Go.RowKit
theorem au0_ (p b T:Nat) (l:List Int) (w:World) (hp:w.heap[p]?=some (.cells #[.bool false,.bool false,.int .i64 0] T)) (hb:w.heap[b]?=some (.cells (xi_ (xm_ [1,1,2] l)) 3)) (hne:p≠b) :
 Calls Tryz.prog 143 #[.pointer (some ⟨p,0,none⟩),.slice (some ⟨b,0,none⟩) 3 3] w fun e w'=>e=.returned (.tuple #[])∧w'.heap[p]?=some (.cells (A3 (xm_ [1,1,2] l)) T)∧w.grownBy w' (some p):=by
 obtain⟨a0,a1,a2,e⟩:=uq_ 1 1 2 l;rw[e] at hb ⊢;exact amb_ p b T 3 _ _ _ _ _ _ w hp hb hne
theorem au1_ (p T:Nat) (n0 n1 n2:Int) (h0:n0=0∨n0=1) (h1:n1=0∨n1=1) (w:World) (hp:w.heap[p]?=some (.cells (A3 [n0,n1,n2]) T)) :
 Calls Tryz.prog 144 #[.pointer (some ⟨p,0,none⟩)] w fun e w'=>e=.returned (.slice (some ⟨w.heap.size,0,none⟩) 3 3)∧w'.heap[w.heap.size]?=some (.cells (xi_ [n0,n1,n2]) 3)∧w.grownBy w' none:=by
 have h:=amc_ p T n2 (n0 != 0) (n1 != 0) w hp;rw[aae_ h0,aae_ h1] at h;exact h
theorem am8_ (p b T:Nat) (x0 x1 x2 i0 i1 i2 i3 i4 now:Int) (h_x0:x0=0∨x0=1) (h_x1:x1=0∨x1=1) (l_x2 : -32768≤x2) (u_x2:x2≤32767) (h_i0:i0=0∨i0=1) (h_i1:i1=0∨i1=1) (h_i2:i2=0∨i2=1) (h_i3:i3=0∨i3=1) (l_i4 : -32768≤i4) (u_i4:i4≤32767) (l_now:0≤now) (u_now:now≤4294967295) (w:World)
 (hp:w.heap[p]?=some (.cells (A3 [x0,x1,x2]) T)) (hb:w.heap[b]?=some (.cells (xi_ [i0,i1,i2,i3,i4]) 3)) (hne:p≠b) :
 Calls Tryz.prog 146 #[.pointer (some ⟨p,0,none⟩),.slice (some ⟨b,0,none⟩) 5 5,.int .i64 now] w fun e w'=>e=.returned (.slice (some ⟨w.heap.size,0,none⟩) 3 3)∧w'.heap[w.heap.size]?=some (.cells (xi_ (yn_ [x0,x1,x2] [i0,i1,i2,i3,i4] now).2) 3)∧w'.heap[p]?=some (.cells (A3 (yn_ [x0,x1,x2] [i0,i1,i2,i3,i4] now).1) T)∧w.grownBy w' (some p):=by
 rcases h_i0 with rfl|rfl <;> rcases h_i1 with rfl|rfl
 · rcases h_i2 with rfl|rfl
   · rcases h_i3 with rfl|rfl
     ·exact(agk_ p b T (x0 != 0) (x1 != 0) x2 0 0 0 0 i4 now w hp hb hne rfl rfl rfl rfl l_x2 u_x2).mono fun e w' ⟨a1,a2,a3,a4⟩=>⟨a1,a2.trans (by simp[yn_,udN,xi_]),a3.trans (by simp[yn_,udN,A3]),a4⟩
     ·exact(am5_ p b T (x0 != 0) (x1 != 0) x2 0 0 0 1 i4 now w hp hb hne rfl rfl rfl rfl l_x2 u_x2).mono fun e w' ⟨a1,a2,a3,a4⟩=>⟨a1,a2.trans (by simp[yn_,udN,xi_,x1_]),a3.trans (by simp[yn_,udN,A3]),a4⟩
   ·exact(am4_ p b T (x0 != 0) (x1 != 0) x2 0 0 1 i3 i4 now w hp hb hne rfl rfl rfl l_x2 u_x2).mono fun e w' ⟨a1,a2,a3,a4⟩=>⟨a1,a2.trans (by simp[yn_,udN,xi_,x1_]),a3.trans (by simp[yn_,udN,A3]),a4⟩
 · rcases h_i2 with rfl|rfl
   · rcases h_i3 with rfl|rfl
     · rcases h_x1 with rfl|rfl
       ·exact(agj_ p b T (x0 != 0) x2 0 1 0 0 i4 now w hp hb hne rfl rfl rfl rfl l_x2 u_x2).mono fun e w' ⟨a1,a2,a3,a4⟩=>⟨a1,a2.trans (by simp[yn_,udN,xi_]),a3.trans (by simp[yn_,udN,A3]),a4⟩
       ·exact(agi_ p b T (x0 != 0) x2 0 1 0 0 i4 now w hp hb hne rfl rfl rfl rfl l_x2 u_x2).mono fun e w' ⟨a1,a2,a3,a4⟩=>⟨a1,a2.trans (by simp[yn_,udN,xi_]),a3.trans (by simp[yn_,udN,A3]),a4⟩
     ·exact(am3_ p b T (x0 != 0) (x1 != 0) x2 0 1 0 1 i4 now w hp hb hne rfl rfl rfl rfl l_x2 u_x2).mono fun e w' ⟨a1,a2,a3,a4⟩=>⟨a1,a2.trans (by simp[yn_,udN,xi_,x1_]),a3.trans (by simp[yn_,udN,A3]),a4⟩
   ·exact(am2_ p b T (x0 != 0) (x1 != 0) x2 0 1 1 i3 i4 now w hp hb hne rfl rfl rfl l_x2 u_x2).mono fun e w' ⟨a1,a2,a3,a4⟩=>⟨a1,a2.trans (by simp[yn_,udN,xi_,x1_]),a3.trans (by simp[yn_,udN,A3]),a4⟩
 · rcases h_i2 with rfl|rfl
   · rcases h_i3 with rfl|rfl
     · rcases h_x0 with rfl|rfl
       ·exact(agh_ p b T (x1 != 0) x2 1 0 0 0 i4 now w hp hb hne rfl rfl rfl rfl l_x2 u_x2).mono fun e w' ⟨a1,a2,a3,a4⟩=>⟨a1,a2.trans (by simp[yn_,udN,xi_]),a3.trans (by simp[yn_,udN,A3]),a4⟩
       ·exact(agg_ p b T (x1 != 0) x2 1 0 0 0 i4 now w hp hb hne rfl rfl rfl rfl l_x2 u_x2).mono fun e w' ⟨a1,a2,a3,a4⟩=>⟨a1,a2.trans (by simp[yn_,udN,xi_]),a3.trans (by simp[yn_,udN,A3]),a4⟩
     ·exact(am1_ p b T (x0 != 0) (x1 != 0) x2 1 0 0 1 i4 now w hp hb hne rfl rfl rfl rfl l_x2 u_x2).mono fun e w' ⟨a1,a2,a3,a4⟩=>⟨a1,a2.trans (by simp[yn_,udN,xi_,x1_]),a3.trans (by simp[yn_,udN,A3]),a4⟩
   ·exact(am0_ p b T (x0 != 0) (x1 != 0) x2 1 0 1 i3 i4 now w hp hb hne rfl rfl rfl l_x2 u_x2).mono fun e w' ⟨a1,a2,a3,a4⟩=>⟨a1,a2.trans (by simp[yn_,udN,xi_,x1_]),a3.trans (by simp[yn_,udN,A3]),a4⟩
 · rcases h_i2 with rfl|rfl
   · rcases h_i3 with rfl|rfl
     · rcases h_x0 with rfl|rfl <;> rcases h_x1 with rfl|rfl
       ·exact(agf_ p b T x2 1 1 0 0 i4 now w hp hb hne rfl rfl rfl rfl l_x2 u_x2).mono fun e w' ⟨a1,a2,a3,a4⟩=>⟨a1,a2.trans (by simp[yn_,udN,xi_]),a3.trans (by simp[yn_,udN,A3]),a4⟩
       ·exact(age_ p b T x2 1 1 0 0 i4 now w hp hb hne rfl rfl rfl rfl l_x2 u_x2).mono fun e w' ⟨a1,a2,a3,a4⟩=>⟨a1,a2.trans (by simp[yn_,udN,xi_]),a3.trans (by simp[yn_,udN,A3]),a4⟩
       ·exact(agd_ p b T x2 1 1 0 0 i4 now w hp hb hne rfl rfl rfl rfl l_x2 u_x2).mono fun e w' ⟨a1,a2,a3,a4⟩=>⟨a1,a2.trans (by simp[yn_,udN,xi_]),a3.trans (by simp[yn_,udN,A3]),a4⟩
       ·exact(agc_ p b T x2 1 1 0 0 i4 now w hp hb hne rfl rfl rfl rfl l_x2 u_x2).mono fun e w' ⟨a1,a2,a3,a4⟩=>⟨a1,a2.trans (by simp[yn_,udN,xi_]),a3.trans (by simp[yn_,udN,A3]),a4⟩
     ·exact(amz_ p b T (x0 != 0) (x1 != 0) x2 1 1 0 1 i4 now w hp hb hne rfl rfl rfl rfl l_x2 u_x2).mono fun e w' ⟨a1,a2,a3,a4⟩=>⟨a1,a2.trans (by simp[yn_,udN,xi_,x1_]),a3.trans (by simp[yn_,udN,A3]),a4⟩
   ·exact(amy_ p b T (x0 != 0) (x1 != 0) x2 1 1 1 i3 i4 now w hp hb hne rfl rfl rfl l_x2 u_x2).mono fun e w' ⟨a1,a2,a3,a4⟩=>⟨a1,a2.trans (by simp[yn_,udN,xi_,x1_]),a3.trans (by simp[yn_,udN,A3]),a4⟩
theorem am9_ (x0 x1 x2 i0 i1 i2 i3 i4 now:Int) (h_x0:x0=0∨x0=1) (h_x1:x1=0∨x1=1) (h_i0:i0=0∨i0=1) (h_i1:i1=0∨i1=1) (h_i2:i2=0∨i2=1) (h_i3:i3=0∨i3=1) :
 ∃ n0 n1 n2,(yn_ [x0,x1,x2] [i0,i1,i2,i3,i4] now).1=[n0,n1,n2]∧(n0=0∨n0=1)∧(n1=0∨n1=1):=by
 unfold yn_;simp only[];repeat' split
 all_goals exact⟨_,_,_,rfl,h_i0,h_i1⟩
theorem aka_:ur_ ze_ 3 3 [1,1,2] [1,1,1,1,2] yn_:=by
 intro vs vi l li now w hr hri;obtain⟨a0,a1,a2,e⟩:=uq_ 1 1 2 l;obtain⟨c0,c1,c2,c3,c4,e'⟩:=apj_ 1 1 1 1 2 li;have hst:∀(p b:Nat) (w:World),w.heap[p]?=some (.cells (A3 (xm_ [1,1,2] l)) 161)→w.heap[b]?=some (.cells (xi_ (xm_ [1,1,1,1,2] li)) 3)→p≠b→Calls Tryz.prog 146 #[.pointer (some ⟨p,0,none⟩),.slice (some ⟨b,0,none⟩) 5 5,.int .i64 (xd_ 5 now)] w fun e w'=>e=.returned (.slice (some ⟨w.heap.size,0,none⟩) 3 3)∧w'.heap[w.heap.size]?=some (.cells (xi_ (yn_ (xm_ [1,1,2] l) (xm_ [1,1,1,1,2] li) (xd_ 5 now)).2) 3)∧w'.heap[p]?=some (.cells (A3 (yn_ (xm_ [1,1,2] l) (xm_ [1,1,1,1,2] li) (xd_ 5 now)).1) 161)∧w.grownBy w' (some p):=by
  intro p b w hp hb hne;rw[e] at hp ⊢;rw[e'] at hb ⊢;exact am8_ p b 161 _ _ _ _ _ _ _ _ _ (ye_ a0) (ye_ a1) (q6_ a2).1 (q6_ a2).2 (ye_ c0) (ye_ c1) (ye_ c2) (ye_ c3) (q6_ c4).1 (q6_ c4).2 (yo_ now).1 (yo_ now).2 w hp hb hne
 have hsv:∀(p:Nat) (w:World),w.heap[p]?=some (.cells (A3 (yn_ (xm_ [1,1,2] l) (xm_ [1,1,1,1,2] li) (xd_ 5 now)).1) 161)→Calls Tryz.prog 144 #[.pointer (some ⟨p,0,none⟩)] w fun e w'=>e=.returned (.slice (some ⟨w.heap.size,0,none⟩) 3 3)∧w'.heap[w.heap.size]?=some (.cells (xi_ (yn_ (xm_ [1,1,2] l) (xm_ [1,1,1,1,2] li) (xd_ 5 now)).1) 3)∧w.grownBy w' none:=by
  intro p w hp;rw[e,e'] at hp ⊢;obtain⟨n0,n1,n2,hf,h0,h1⟩:=am9_ (xd_ 1 a0) (xd_ 1 a1) (xd_ 2 a2) (xd_ 1 c0) (xd_ 1 c1) (xd_ 1 c2) (xd_ 1 c3) (xd_ 2 c4) (xd_ 5 now) (ye_ a0) (ye_ a1) (ye_ c0) (ye_ c1) (ye_ c2) (ye_ c3);rw[hf] at hp ⊢;exact au1_ p 161 n0 n1 n2 h0 h1 w hp
 exact qx_ ze_ 159 161 145 143 146 144 #[.bool false,.bool false,.int .i64 0] acu_ aeu_ adt_ A3 yn_ vs vi l li now w (by decide) (by decide) adx_
  (fun _ _=>by kernel_rfl) (fun _ _=>by kernel_rfl) (fun _ _=>by kernel_rfl) (fun _ _=>by kernel_rfl) (fun _ _=>by kernel_rfl) (fun _ _=>by kernel_rfl)
  (fun _ _=>by kernel_rfl) (fun _ _=>by kernel_rfl) (fun _ _=>by kernel_rfl) (fun _ _=>by kernel_rfl)
  adu_ (fun p b w hp hb hne=>au0_ p b 161 l w hp hb hne) hst hsv hr hri
end Go.Proofs.YtcgbfhpmkpglkaaGreatDoor.Bl
namespace Go.Proofs.YtcgbfhpmkpglkaaGreatDoor
open Go.RowKit
def q0_ (num now:Int) (ar:List Int) (p:Nat):List Int:=
 if num=1 then vq_ Bl.jy_ [1,5,1,5] [1,5] 2 2 4 now ar p else
 if num=2 then vq_ Bl.qv_ [1,5,1,5] [1,5] 2 2 4 now ar p else
 if num=3 then vq_ Bl.tpF [1,5,1,5] [1,5] 2 2 4 now ar p else
 if num=4 then vq_ Bl.qr_ [1,2] [1,1,2] 3 2 2 now ar p else
 if num=5 then vq_ Bl.qs_ [1,2] [1,1,2] 3 2 2 now ar p else
 if num=6 then vq_ Bl.yn_ [1,1,2] [1,1,1,1,2] 5 3 3 now ar p else
 if num=7 then vq_ Bl.qi_ [1] [1] 1 1 1 now ar p else
 if num=8 then vq_ Bl.qj_ [1] [1] 1 1 1 now ar p else
 if num=9 then vq_ Bl.srF [1] [1,1] 2 1 1 now ar p else
 if num=10 then vq_ Bl.rsF [1] [1,1] 2 1 1 now ar p else
 if num=11 then vq_ Bl.zl_ [2] [2,2] 2 1 1 now ar p else
 if num=12 then vq_ Bl.qh_ [1] [2,2,2] 3 1 1 now ar p else
 ar
theorem y0_ (Fn:List Int→List Int→Int→List Int×List Int) (kS kI:List Int) (ni no ns:Nat) (hl:Bl.k8_ ns no kS kI Fn) (now:Int) (ar:List Int) (p:Nat) (h:p+(ni+no+ns)≤ar.length):(vq_ Fn kS kI ni no ns now ar p).length=ar.length:=by
 unfold vq_;obtain⟨h1,h2⟩:=hl (sub ar (p+(ni+no)) ns) (sub ar p ni) (Bl.xd_ 5 now);have e:(put ar (p+ni) (Fn (Bl.xm_ kS (sub ar (p+(ni+no)) ns)) (Bl.xm_ kI (sub ar p ni)) (Bl.xd_ 5 now)).2).length=ar.length:=vp_ _ _ _ (by rw[h2];omega);rw[vp_ _ _ _ (by rw[h1,e];omega),e]
theorem as6_ (w:World) (hS:Stds w):Calls Tryz.prog 72 #[.int .i64 1] w fun e w'=>e=.returned (.agg #[.string zu_,.int .i64 ((2:Nat):Int),.int .i64 ((2+2:Nat):Int),.int .i64 ((2+2+4:Nat):Int)])∧w.grownBy w' none:=
 (zd_ 0 zu_ tonI tonO tonS ad0_ (by decide) (by decide) (by decide) w om_ (hS 0 om_)).mono fun e w' h=>⟨h.1,h.2⟩
theorem as7_ (w:World) (hS:Stds w):Calls Tryz.prog 72 #[.int .i64 2] w fun e w'=>e=.returned (.agg #[.string zv_,.int .i64 ((2:Nat):Int),.int .i64 ((2+2:Nat):Int),.int .i64 ((2+2+4:Nat):Int)])∧w.grownBy w' none:=
 (zd_ 1 zv_ tofI tofO tofS ad1_ (by decide) (by decide) (by decide) w om_ (hS 1 om_)).mono fun e w' h=>⟨h.1,h.2⟩
theorem avq_ (w:World) (hS:Stds w):Calls Tryz.prog 72 #[.int .i64 3] w fun e w'=>e=.returned (.agg #[.string qu_,.int .i64 ((2:Nat):Int),.int .i64 ((2+2:Nat):Int),.int .i64 ((2+2+4:Nat):Int)])∧w.grownBy w' none:=
 (zd_ 2 qu_ tpI tpO tpS ae7_ (by decide) (by decide) (by decide) w om_ (hS 2 om_)).mono fun e w' h=>⟨h.1,h.2⟩
theorem as8_ (w:World) (hS:Stds w):Calls Tryz.prog 72 #[.int .i64 4] w fun e w'=>e=.returned (.agg #[.string zw_,.int .i64 ((3:Nat):Int),.int .i64 ((3+2:Nat):Int),.int .i64 ((3+2+2:Nat):Int)])∧w.grownBy w' none:=
 (zd_ 3 zw_ ctuI ctuO ctuS ad2_ (by decide) (by decide) (by decide) w om_ (hS 3 om_)).mono fun e w' h=>⟨h.1,h.2⟩
theorem as9_ (w:World) (hS:Stds w):Calls Tryz.prog 72 #[.int .i64 5] w fun e w'=>e=.returned (.agg #[.string zx_,.int .i64 ((3:Nat):Int),.int .i64 ((3+2:Nat):Int),.int .i64 ((3+2+2:Nat):Int)])∧w.grownBy w' none:=
 (zd_ 4 zx_ ctdI ctdO ctdS ad3_ (by decide) (by decide) (by decide) w om_ (hS 4 om_)).mono fun e w' h=>⟨h.1,h.2⟩
theorem aqf_ (w:World) (hS:Stds w):Calls Tryz.prog 72 #[.int .i64 6] w fun e w'=>e=.returned (.agg #[.string ze_,.int .i64 ((5:Nat):Int),.int .i64 ((5+3:Nat):Int),.int .i64 ((5+3+3:Nat):Int)])∧w.grownBy w' none:=
 (zd_ 5 ze_ acu_ aeu_ adt_ acx_ (by decide) (by decide) (by decide) w om_ (hS 5 om_)).mono fun e w' h=>⟨h.1,h.2⟩
theorem ani_ (w:World) (hS:Stds w):Calls Tryz.prog 72 #[.int .i64 7] w fun e w'=>e=.returned (.agg #[.string zb_,.int .i64 ((1:Nat):Int),.int .i64 ((1+1:Nat):Int),.int .i64 ((1+1+1:Nat):Int)])∧w.grownBy w' none:=
 (zd_ 6 zb_ kd_ aar_ k7_ ab2_ (by decide) (by decide) (by decide) w om_ (hS 6 om_)).mono fun e w' h=>⟨h.1,h.2⟩
theorem anj_ (w:World) (hS:Stds w):Calls Tryz.prog 72 #[.int .i64 8] w fun e w'=>e=.returned (.agg #[.string zc_,.int .i64 ((1:Nat):Int),.int .i64 ((1+1:Nat):Int),.int .i64 ((1+1+1:Nat):Int)])∧w.grownBy w' none:=
 (zd_ 7 zc_ kd_ aar_ k7_ ab3_ (by decide) (by decide) (by decide) w om_ (hS 7 om_)).mono fun e w' h=>⟨h.1,h.2⟩
theorem avr_ (w:World) (hS:Stds w):Calls Tryz.prog 72 #[.int .i64 9] w fun e w'=>e=.returned (.agg #[.string q7_,.int .i64 ((2:Nat):Int),.int .i64 ((2+1:Nat):Int),.int .i64 ((2+1+1:Nat):Int)])∧w.grownBy w' none:=
 (zd_ 8 q7_ srI srO srS ae8_ (by decide) (by decide) (by decide) w om_ (hS 8 om_)).mono fun e w' h=>⟨h.1,h.2⟩
theorem avs_ (w:World) (hS:Stds w):Calls Tryz.prog 72 #[.int .i64 10] w fun e w'=>e=.returned (.agg #[.string q8_,.int .i64 ((2:Nat):Int),.int .i64 ((2+1:Nat):Int),.int .i64 ((2+1+1:Nat):Int)])∧w.grownBy w' none:=
 (zd_ 9 q8_ rsI rsO rsS ae9_ (by decide) (by decide) (by decide) w om_ (hS 9 om_)).mono fun e w' h=>⟨h.1,h.2⟩
theorem aqg_ (w:World) (hS:Stds w):Calls Tryz.prog 72 #[.int .i64 11] w fun e w'=>e=.returned (.agg #[.string zo_,.int .i64 ((2:Nat):Int),.int .i64 ((2+1:Nat):Int),.int .i64 ((2+1+1:Nat):Int)])∧w.grownBy w' none:=
 (zd_ 10 zo_ up_ aev_ aai_ acy_ (by decide) (by decide) (by decide) w om_ (hS 10 om_)).mono fun e w' h=>⟨h.1,h.2⟩
theorem aqh_ (w:World) (hS:Stds w):Calls Tryz.prog 72 #[.int .i64 12] w fun e w'=>e=.returned (.agg #[.string zp_,.int .i64 ((3:Nat):Int),.int .i64 ((3+1:Nat):Int),.int .i64 ((3+1+1:Nat):Int)])∧w.grownBy w' none:=
 (zd_ 11 zp_ abi_ aew_ ab0_ acz_ (by decide) (by decide) (by decide) w om_ (hS 11 om_)).mono fun e w' h=>⟨h.1,h.2⟩
theorem agm_ (num:Int) (h1:1≤num) (h2:num≤12) (w:World) (B M F p wn fc:Nat) (ar:List Int) (pv:Value) (now:Int) (sa:Option Addr) (sc:Nat) (st:List Int) (sp fl:Int) (h:MaC w B M pv now sa sc st sp fl) (hF:FrAt w F ar) (hFM:F≠M) (hFB:F<B) (hB:B≤w.heap.size) (hw:yk_ num≤wn) (hwf:wn≤fc) (hp:p+wn≤ar.length) (hS:Stds w) :
 Calls Tryz.prog 55 #[.pointer (some ⟨M,0,none⟩),.int .i64 num,.slice (some ⟨F,p,none⟩) wn fc] w fun e w'=>e=.returned (.tuple #[])∧StP w B M (some F) pv now (sb sa) st sp fl w'∧FrAt w' F (q0_ num now ar p)∧(q0_ num now ar p).length=ar.length:=by
 have hn:num=1∨num=2∨num=3∨num=4∨num=5∨num=6∨num=7∨num=8∨num=9∨num=10∨num=11∨num=12:=om_;rcases hn with rfl|rfl|rfl|rfl|rfl|rfl|rfl|rfl|rfl|rfl|rfl|rfl
 ·have hw':2+2+4≤wn:=(by simp[yk_] at hw;omega);exact(y8_ 1 zu_ 2 2 4 [1,5,1,5] [1,5] Bl.jy_ as6_ Bl.am6_ Bl.us_ w B M F p wn fc ar pv now sa sc st sp fl h hF hFM hFB hB hw' hwf hp hS om_ om_).mono fun e w' ⟨g1,g2,g3⟩=>⟨g1,g2,by simpa[q0_] using g3,by have:=y0_ Bl.jy_ [1,5,1,5] [1,5] 2 2 4 Bl.us_ now ar p om_;simpa[q0_] using this⟩
 ·have hw':2+2+4≤wn:=(by simp[yk_] at hw;omega);exact(y8_ 2 zv_ 2 2 4 [1,5,1,5] [1,5] Bl.qv_ as7_ Bl.am7_ Bl.ut_ w B M F p wn fc ar pv now sa sc st sp fl h hF hFM hFB hB hw' hwf hp hS om_ om_).mono fun e w' ⟨g1,g2,g3⟩=>⟨g1,g2,by simpa[q0_] using g3,by have:=y0_ Bl.qv_ [1,5,1,5] [1,5] 2 2 4 Bl.ut_ now ar p om_;simpa[q0_] using this⟩
 ·have hw':2+2+4≤wn:=(by simp[yk_] at hw;omega);exact(y8_ 3 qu_ 2 2 4 [1,5,1,5] [1,5] Bl.tpF avq_ Bl.apo_ Bl.aa9_ w B M F p wn fc ar pv now sa sc st sp fl h hF hFM hFB hB hw' hwf hp hS om_ om_).mono fun e w' ⟨g1,g2,g3⟩=>⟨g1,g2,by simpa[q0_] using g3,by have:=y0_ Bl.tpF [1,5,1,5] [1,5] 2 2 4 Bl.aa9_ now ar p om_;simpa[q0_] using this⟩
 ·have hw':3+2+2≤wn:=(by simp[yk_] at hw;omega);exact(y8_ 4 zw_ 3 2 2 [1,2] [1,1,2] Bl.qr_ as8_ Bl.ane_ Bl.uu_ w B M F p wn fc ar pv now sa sc st sp fl h hF hFM hFB hB hw' hwf hp hS om_ om_).mono fun e w' ⟨g1,g2,g3⟩=>⟨g1,g2,by simpa[q0_] using g3,by have:=y0_ Bl.qr_ [1,2] [1,1,2] 3 2 2 Bl.uu_ now ar p om_;simpa[q0_] using this⟩
 ·have hw':3+2+2≤wn:=(by simp[yk_] at hw;omega);exact(y8_ 5 zx_ 3 2 2 [1,2] [1,1,2] Bl.qs_ as9_ Bl.anf_ Bl.uv_ w B M F p wn fc ar pv now sa sc st sp fl h hF hFM hFB hB hw' hwf hp hS om_ om_).mono fun e w' ⟨g1,g2,g3⟩=>⟨g1,g2,by simpa[q0_] using g3,by have:=y0_ Bl.qs_ [1,2] [1,1,2] 3 2 2 Bl.uv_ now ar p om_;simpa[q0_] using this⟩
 ·have hw':5+3+3≤wn:=(by simp[yk_] at hw;omega);exact(y8_ 6 ze_ 5 3 3 [1,1,2] [1,1,1,1,2] Bl.yn_ aqf_ Bl.aka_ Bl.vx_ w B M F p wn fc ar pv now sa sc st sp fl h hF hFM hFB hB hw' hwf hp hS om_ om_).mono fun e w' ⟨g1,g2,g3⟩=>⟨g1,g2,by simpa[q0_] using g3,by have:=y0_ Bl.yn_ [1,1,2] [1,1,1,1,2] 5 3 3 Bl.vx_ now ar p om_;simpa[q0_] using this⟩
 ·have hw':1+1+1≤wn:=(by simp[yk_] at hw;omega);exact(y8_ 7 zb_ 1 1 1 [1] [1] Bl.qi_ ani_ Bl.aio_ Bl.ky_ w B M F p wn fc ar pv now sa sc st sp fl h hF hFM hFB hB hw' hwf hp hS om_ om_).mono fun e w' ⟨g1,g2,g3⟩=>⟨g1,g2,by simpa[q0_] using g3,by have:=y0_ Bl.qi_ [1] [1] 1 1 1 Bl.ky_ now ar p om_;simpa[q0_] using this⟩
 ·have hw':1+1+1≤wn:=(by simp[yk_] at hw;omega);exact(y8_ 8 zc_ 1 1 1 [1] [1] Bl.qj_ anj_ Bl.aip_ Bl.kz_ w B M F p wn fc ar pv now sa sc st sp fl h hF hFM hFB hB hw' hwf hp hS om_ om_).mono fun e w' ⟨g1,g2,g3⟩=>⟨g1,g2,by simpa[q0_] using g3,by have:=y0_ Bl.qj_ [1] [1] 1 1 1 Bl.kz_ now ar p om_;simpa[q0_] using this⟩
 ·have hw':2+1+1≤wn:=(by simp[yk_] at hw;omega);exact(y8_ 9 q7_ 2 1 1 [1] [1,1] Bl.srF avr_ Bl.apz_ Bl.aba_ w B M F p wn fc ar pv now sa sc st sp fl h hF hFM hFB hB hw' hwf hp hS om_ om_).mono fun e w' ⟨g1,g2,g3⟩=>⟨g1,g2,by simpa[q0_] using g3,by have:=y0_ Bl.srF [1] [1,1] 2 1 1 Bl.aba_ now ar p om_;simpa[q0_] using this⟩
 ·have hw':2+1+1≤wn:=(by simp[yk_] at hw;omega);exact(y8_ 10 q8_ 2 1 1 [1] [1,1] Bl.rsF avs_ Bl.ap0_ Bl.abb_ w B M F p wn fc ar pv now sa sc st sp fl h hF hFM hFB hB hw' hwf hp hS om_ om_).mono fun e w' ⟨g1,g2,g3⟩=>⟨g1,g2,by simpa[q0_] using g3,by have:=y0_ Bl.rsF [1] [1,1] 2 1 1 Bl.abb_ now ar p om_;simpa[q0_] using this⟩
 ·have hw':2+1+1≤wn:=(by simp[yk_] at hw;omega);exact(y8_ 11 zo_ 2 1 1 [2] [2,2] Bl.zl_ aqg_ Bl.akh_ Bl.vy_ w B M F p wn fc ar pv now sa sc st sp fl h hF hFM hFB hB hw' hwf hp hS om_ om_).mono fun e w' ⟨g1,g2,g3⟩=>⟨g1,g2,by simpa[q0_] using g3,by have:=y0_ Bl.zl_ [2] [2,2] 2 1 1 Bl.vy_ now ar p om_;simpa[q0_] using this⟩
 ·have hw':3+1+1≤wn:=(by simp[yk_] at hw;omega);exact(y8_ 12 zp_ 3 1 1 [1] [2,2,2] Bl.qh_ aqh_ Bl.aki_ Bl.vz_ w B M F p wn fc ar pv now sa sc st sp fl h hF hFM hFB hB hw' hwf hp hS om_ om_).mono fun e w' ⟨g1,g2,g3⟩=>⟨g1,g2,by simpa[q0_] using g3,by have:=y0_ Bl.qh_ [1] [2,2,2] 3 1 1 Bl.vz_ now ar p om_;simpa[q0_] using this⟩
end Go.Proofs.YtcgbfhpmkpglkaaGreatDoor
namespace Go.Proofs.YtcgbfhpmkpglkaaGreatDoor
open Go.RowKit
attribute [local go_sem ↓] Go.wp_at_zero Go.wp_at_succ
structure Ctx (c w:World) (B M F off n fc:Nat) (ar:List Int) (pv:Value) (now:Int) (sa:Option Addr) (sc:Nat) (st:List Int) (sp fl:Int):Prop where
 ma:MaC w B M pv now sa sc st sp fl
 fr:FrAt w F ar
 fm:F≠M
 fb:F<B
 cw:c.grownBy w none
 cM:c.heap.size≤M
 cB:c.heap.size≤B
 cF:c.heap.size≤F
 bw:B≤w.heap.size
 hn:off+n≤ar.length
 nc:n≤fc
 n2:n≤20000
 sl:st.length≤800000
 f0:0≤fl
 f1:fl≤1000000000000
 s0:0≤sp
 s1:sp≤1000000000000
def DoP (w:World) (B M F:Nat) (pv:Value) (now:Int) (r0:Option Nat) (st' ar':List Int) (sp' fl':Int) (e:Ending) (w':World):Prop:=
 e=.returned (.tuple #[])∧StP w B M (some F) pv now r0 st' sp' fl' w'∧FrAt w' F ar'
theorem StP.wide {w w':World} {B M F:Nat} {pv:Value} {now:Int} {r0:Option Nat} {st:List Int} {sp fl:Int} (h:StP w B M none pv now r0 st sp fl w'):StP w B M (some F) pv now r0 st sp fl w':=by
 obtain⟨a,b,h1,h2,h3⟩:=h;exact⟨a,b,h1,h2.wide,h3⟩
theorem Ctx.frame {c w w':World} {B M F off n fc:Nat} {ar:List Int} {pv:Value} {now:Int} {sa:Option Addr} {sc:Nat} {st:List Int} {sp fl:Int} {st':List Int} {sp' fl':Int} (h:Ctx c w B M F off n fc ar pv now sa sc st sp fl) (k:StP w B M none pv now (sb sa) st' sp' fl' w'):FrAt w' F ar:=by
 obtain⟨a,b,h1,h2,h3⟩:=k;exact h.fr.chg h2 h.fm rfl (fun y hy=>by have:=(h.ma.row y hy).1;have:=h.fb;omega)
variable {c w:World} {B M F off n fc:Nat} {ar:List Int} {pv:Value} {now:Int} {sa:Option Addr} {sc:Nat} {sp fl:Int} {tb o:Nat}
set_option maxRecDepth 10000 in
theorem ata_ {st:List Int} (a:Int) (h:Ctx c w B M F off n fc ar pv now sa sc st sp fl) (hx:InsAt c tb o ⟨1,a,0,0⟩) :
 Calls Tryz.prog 32 #[.pointer (some ⟨M,0,none⟩),.pointer (some ⟨tb,o,none⟩),.slice (some ⟨F,off,none⟩) n fc] w (DoP w B M F pv now (sb sa) (st++[a]) ar sp fl):=by
 have HH:=hd_ h;have HX:=hd_ hx;obtain⟨q0,q1,q2,q3⟩:=hx.grown h.cw;dsimp only at q0 q1 q2 q3;clear h hx q2 q3;go_enter Tryz.func32,Tryz.ntmps32;go_wp2_with fail
 refine(js_ a HH.out.ma (by have:=HH.out.sl;omega) HH.out.bw _ gz_).mono ?_;rintro e w1 ⟨rfl,sa',sc',hm,hc,hn⟩;have HP:Hid (StP w B M none pv now (sb sa) (st++[a]) sp fl w1):=⟨sa',sc',hm,hc,hn⟩;go_wp2;all_goals first|go_end0|((try simp only[Exit.inBlock,Exit.then]);refine bodyPost_ret (results_none rfl _ _ _) rfl ?_)
 all_goals exact⟨rfl,HP.out.wide,HH.out.frame HP.out⟩
set_option maxRecDepth 10000 in
theorem atb_ {st:List Int} (j:Nat) (hj:j<n) (h:Ctx c w B M F off n fc ar pv now sa sc st sp fl) (hx:InsAt c tb o ⟨2,(j:Int),0,0⟩) :
 Calls Tryz.prog 32 #[.pointer (some ⟨M,0,none⟩),.pointer (some ⟨tb,o,none⟩),.slice (some ⟨F,off,none⟩) n fc] w (DoP w B M F pv now (sb sa) (st++[ar.getD (off+j) 0]) ar sp fl):=by
 have HH:=hd_ h;have HX:=hd_ hx;obtain⟨q0,q1,q2,q3⟩:=hx.grown h.cw;dsimp only at q0 q1 q2 q3;have q5:=h.fr.get (off+j) (by have:=h.hn;omega);obtain⟨y,hy⟩:∃ y,ar.getD (off+j) 0=y:=⟨_,rfl⟩;rw[hy] at q5 ⊢;have i1:(0:Int)≤(j:Int):=(by omega);have i2:(j:Int)<(n:Int):=(by omega);clear h hx q2 q3;go_enter Tryz.func32,Tryz.ntmps32;go_wp2_with fail
 refine(js_ y HH.out.ma (by have:=HH.out.sl;omega) HH.out.bw _ gz_).mono ?_;rintro e w1 ⟨rfl,sa',sc',hm,hc,hn⟩;have HP:Hid (StP w B M none pv now (sb sa) (st++[y]) sp fl w1):=⟨sa',sc',hm,hc,hn⟩;go_wp2;all_goals first|go_end0|((try simp only[Exit.inBlock,Exit.then]);refine bodyPost_ret (results_none rfl _ _ _) rfl ?_)
 all_goals exact⟨rfl,HP.out.wide,HH.out.frame HP.out⟩
set_option maxRecDepth 10000 in
theorem air_ {r:List Int} (op k a b:Int) (hop:zy_ ⟨6,op,k,0⟩=2) (h:Ctx c w B M F off n fc ar pv now sa sc (r++[a]++[b]) sp fl) (hx:InsAt c tb o ⟨6,op,k,0⟩) :
 Calls Tryz.prog 32 #[.pointer (some ⟨M,0,none⟩),.pointer (some ⟨tb,o,none⟩),.slice (some ⟨F,off,none⟩) n fc] w (DoP w B M F pv now (sb sa) (r++[Ce.doN op k a b]) ar sp (if Ce.doZ op k b=true then fl+1 else fl)):=by
 have HH:=hd_ h;have HX:=hd_ hx;obtain⟨q0,q1,q2,q3⟩:=hx.grown h.cw;dsimp only at q0 q1 q2 q3;have cW:=ao4_ c w B M pv now sa sc r a b sp fl tb o ⟨6,op,k,0⟩ h.ma h.cw h.cM h.cB hx hop (by have:=h.sl;simp at this;omega) h.bw h.f0 h.f1;dsimp only at cW;obtain⟨Z,hZ⟩:∃ Z,(if Ce.doZ op k b=true then fl+1 else fl)=Z:=⟨_,rfl⟩;rw[hZ] at cW ⊢;clear h hx q1 q2 q3 hop hZ;go_enter Tryz.func32,Tryz.ntmps32;go_wp2_with fail
 refine cW.mono ?_;rintro e w1 ⟨rfl,hp⟩;have HP:=hd_ hp;clear hp cW;go_wp2;all_goals first|go_end0|((try simp only[Exit.inBlock,Exit.then]);refine bodyPost_ret (results_none rfl _ _ _) rfl ?_)
 all_goals exact⟨rfl,HP.out.wide,HH.out.frame HP.out⟩
set_option maxRecDepth 10000 in
theorem ais_ {r:List Int} (op k a:Int) (hop:zy_ ⟨6,op,k,0⟩=1) (h:Ctx c w B M F off n fc ar pv now sa sc (r++[a]) sp fl) (hx:InsAt c tb o ⟨6,op,k,0⟩) :
 Calls Tryz.prog 32 #[.pointer (some ⟨M,0,none⟩),.pointer (some ⟨tb,o,none⟩),.slice (some ⟨F,off,none⟩) n fc] w (DoP w B M F pv now (sb sa) (r++[Ce.doN op k a 0]) ar sp (if Ce.doZ op k 0=true then fl+1 else fl)):=by
 have HH:=hd_ h;have HX:=hd_ hx;obtain⟨q0,q1,q2,q3⟩:=hx.grown h.cw;dsimp only at q0 q1 q2 q3;have cW:=ao5_ c w B M pv now sa sc r a sp fl tb o ⟨6,op,k,0⟩ h.ma h.cw h.cM h.cB hx hop (by have:=h.sl;simp at this;omega) h.bw h.f0 h.f1;dsimp only at cW;obtain⟨Z,hZ⟩:∃ Z,(if Ce.doZ op k 0=true then fl+1 else fl)=Z:=⟨_,rfl⟩;rw[hZ] at cW ⊢;clear h hx q1 q2 q3 hop hZ;go_enter Tryz.func32,Tryz.ntmps32;go_wp2_with fail
 refine cW.mono ?_;rintro e w1 ⟨rfl,hp⟩;have HP:=hd_ hp;clear hp cW;go_wp2;all_goals first|go_end0|((try simp only[Exit.inBlock,Exit.then]);refine bodyPost_ret (results_none rfl _ _ _) rfl ?_)
 all_goals exact⟨rfl,HP.out.wide,HH.out.frame HP.out⟩
set_option maxRecDepth 10000 in
theorem ank_ {r:List Int} (i a b cc:Int) (ha:0≤a) (hab:a+b≤n) (hb:0≤b) (hc1 : -4294967295≤cc) (hc2:cc≤4294967295) (h:Ctx c w B M F off n fc ar pv now sa sc (r++[i]) sp fl) (hx:InsAt c tb o ⟨4,a,b,cc⟩) :
 Calls Tryz.prog 32 #[.pointer (some ⟨M,0,none⟩),.pointer (some ⟨tb,o,none⟩),.slice (some ⟨F,off,none⟩) n fc] w (DoP w B M F pv now (sb sa) (r++[if isW i cc (cc+b - 1)=true then ar.getD (off+(a+i - cc).toNat) 0 else 0]) ar sp (if isW i cc (cc+b - 1)=true then fl else fl+1)):=by
 have HH:=hd_ h;have HX:=hd_ hx;obtain⟨q0,q1,q2,q3⟩:=hx.grown h.cw;dsimp only at q0 q1 q2 q3;have cW:=akj_ c w B M F off n fc ar pv now sa sc r i sp fl tb o ⟨4,a,b,cc⟩ h.ma h.fr h.fm h.fb h.cw h.cM h.cB hx (by have:=h.sl;simp at this;omega) h.bw h.f0 h.f1 ha hab hb h.hn h.n2 hc1 hc2;dsimp only at cW;obtain⟨Y,hY⟩:∃ Y,(if isW i cc (cc+b - 1)=true then ar.getD (off+(a+i - cc).toNat) 0 else 0)=Y:=⟨_,rfl⟩;obtain⟨Z,hZ⟩:∃ Z,(if isW i cc (cc+b - 1)=true then fl else fl+1)=Z:=⟨_,rfl⟩;rw[hY,hZ] at cW ⊢;clear h hx q1 q2 q3 hY hZ;go_enter Tryz.func32,Tryz.ntmps32;go_wp2_with fail
 refine cW.mono ?_;rintro e w1 ⟨rfl,hp⟩;have HP:=hd_ hp;clear hp cW;go_wp2;all_goals first|go_end0|((try simp only[Exit.inBlock,Exit.then]);refine bodyPost_ret (results_none rfl _ _ _) rfl ?_)
 all_goals exact⟨rfl,HP.out.wide,HH.out.frame HP.out⟩
set_option maxRecDepth 10000 in
theorem akl_ {r:List Int} (i v a b cc:Int) (ha:0≤a) (hab:a+b≤n) (hb:0≤b) (hc1 : -4294967295≤cc) (hc2:cc≤4294967295) (h:Ctx c w B M F off n fc ar pv now sa sc (r++[i]++[v]) sp fl) (hx:InsAt c tb o ⟨5,a,b,cc⟩) :
 Calls Tryz.prog 32 #[.pointer (some ⟨M,0,none⟩),.pointer (some ⟨tb,o,none⟩),.slice (some ⟨F,off,none⟩) n fc] w (DoP w B M F pv now (sb sa) r (if isW i cc (cc+b - 1)=true then ar.set (off+(a+i - cc).toNat) v else ar) sp (if isW i cc (cc+b - 1)=true then fl else fl+1)):=by
 have HH:=hd_ h;have HX:=hd_ hx;obtain⟨q0,q1,q2,q3⟩:=hx.grown h.cw;dsimp only at q0 q1 q2 q3;have cW:=aiq_ c w B M F off n fc ar pv now sa sc r i v sp fl tb o ⟨5,a,b,cc⟩ h.ma h.fr h.fm h.fb h.cw h.cM h.cB h.cF hx (by have:=h.sl;simp at this;omega) h.f0 h.f1 ha hab hb h.hn h.n2 hc1 hc2;dsimp only at cW;obtain⟨Y,hY⟩:∃ Y,(if isW i cc (cc+b - 1)=true then ar.set (off+(a+i - cc).toNat) v else ar)=Y:=⟨_,rfl⟩;obtain⟨Z,hZ⟩:∃ Z,(if isW i cc (cc+b - 1)=true then fl else fl+1)=Z:=⟨_,rfl⟩;rw[hY,hZ] at cW ⊢;clear h hx q1 q2 q3 hY hZ;go_enter Tryz.func32,Tryz.ntmps32;go_wp2_with fail
 refine cW.mono ?_;rintro e w1 ⟨rfl,hp,hf⟩;have HP:=hd_ hp;have HF:=hd_ hf;clear hp hf cW;go_wp2;all_goals first|go_end0|((try simp only[Exit.inBlock,Exit.then]);refine bodyPost_ret (results_none rfl _ _ _) rfl ?_)
 all_goals exact⟨rfl,HP.out,HF.out⟩
set_option maxRecDepth 10000 in
theorem atc_ {r:List Int} (g a b:Int) (h:Ctx c w B M F off n fc ar pv now sa sc (r++[g]++[a]++[b]) sp fl) (hx:InsAt c tb o ⟨8,0,0,0⟩) :
 Calls Tryz.prog 32 #[.pointer (some ⟨M,0,none⟩),.pointer (some ⟨tb,o,none⟩),.slice (some ⟨F,off,none⟩) n fc] w (DoP w B M F pv now (sb sa) (r++[if g=0 then a else b]) ar sp fl):=by
 have HH:=hd_ h;have HX:=hd_ hx;obtain⟨q0,q1,q2,q3⟩:=hx.grown h.cw;dsimp only at q0 q1 q2 q3;have cW:=ao6_ w B M pv now sa sc r g a b sp fl h.ma (by have:=h.sl;simp at this;omega) h.bw;obtain⟨Y,hY⟩:∃ Y,(if g=0 then a else b)=Y:=⟨_,rfl⟩;rw[hY] at cW ⊢;clear h hx q1 q2 q3 hY;go_enter Tryz.func32,Tryz.ntmps32;go_wp2_with fail
 refine cW.mono ?_;rintro e w1 ⟨rfl,hp⟩;have HP:=hd_ hp;clear hp cW;go_wp2;all_goals first|go_end0|((try simp only[Exit.inBlock,Exit.then]);refine bodyPost_ret (results_none rfl _ _ _) rfl ?_)
 all_goals exact⟨rfl,HP.out.wide,HH.out.frame HP.out⟩
set_option maxRecDepth 10000 in
theorem atd_ {r:List Int} (a:Int) (h:Ctx c w B M F off n fc ar pv now sa sc (r++[a]) sp fl) (hx:InsAt c tb o ⟨10,0,0,0⟩) :
 Calls Tryz.prog 32 #[.pointer (some ⟨M,0,none⟩),.pointer (some ⟨tb,o,none⟩),.slice (some ⟨F,off,none⟩) n fc] w (DoP w B M F pv now (sb sa) r ar sp fl):=by
 have HH:=hd_ h;have HX:=hd_ hx;obtain⟨q0,q1,q2,q3⟩:=hx.grown h.cw;dsimp only at q0 q1 q2 q3;clear h hx q1 q2 q3;go_enter Tryz.func32,Tryz.ntmps32;go_wp2_with fail
 refine(vg_ HH.out.ma (by have:=HH.out.sl;simp at this;omega) _ gz_).mono ?_;rintro e w1 ⟨rfl,hm,hc,hn⟩;have HP:Hid (StP w B M none pv now (sb sa) r sp fl w1):=⟨sa,sc,hm,hc,hn⟩;clear hm hc hn;go_wp2;all_goals first|go_end0|((try simp only[Exit.inBlock,Exit.then]);refine bodyPost_ret (results_none rfl _ _ _) rfl ?_)
 all_goals exact⟨rfl,HP.out.wide,HH.out.frame HP.out⟩
set_option maxRecDepth 10000 in
theorem ate_ {st:List Int} (h:Ctx c w B M F off n fc ar pv now sa sc st sp fl) (hx:InsAt c tb o ⟨15,0,0,0⟩) :
 Calls Tryz.prog 32 #[.pointer (some ⟨M,0,none⟩),.pointer (some ⟨tb,o,none⟩),.slice (some ⟨F,off,none⟩) n fc] w (DoP w B M F pv now (sb sa) st ar sp (fl+1)):=by
 have HH:=hd_ h;have HX:=hd_ hx;obtain⟨q0,q1,q2,q3⟩:=hx.grown h.cw;dsimp only at q0 q1 q2 q3;have b1:=h.ma.blk;have d4:=xa_ b1 4;simp at d4;have f4:=xc_ b1 4;have hw4:=kv_ fl h.f0 h.f1;have HP:Hid (StP w B M none pv now (sb sa) st sp (fl+1) (w.setCell ⟨M,4,none⟩ (.int .i64 (fl+1)))):=⟨sa,sc,h.ma.setF (fl+1),q4_ M 4 _ _ w _,Nx.refl _ _⟩;clear h hx q1 q2 q3 b1;go_enter Tryz.func32,Tryz.ntmps32;go_wp2;all_goals first|go_end0|((try simp only[Exit.inBlock,Exit.then]);refine bodyPost_ret (results_none rfl _ _ _) rfl ?_)
 all_goals exact⟨rfl,HP.out.wide,HH.out.frame HP.out⟩
end Go.Proofs.YtcgbfhpmkpglkaaGreatDoor
