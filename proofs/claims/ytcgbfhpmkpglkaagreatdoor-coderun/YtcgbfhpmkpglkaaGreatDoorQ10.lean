/- Texts put together: L2. -/
import Derived.Test.YtcgbfhpmkpglkaaGreatDoorQ08
import Derived.Deep.DeepCutAuto
import Derived.BigRegion
set_option linter.unusedVariables false
set_option linter.unusedSimpArgs false
set_option maxHeartbeats 8000000
namespace Go.Proofs.YtcgbfhpmkpglkaaGreatDoor
open Go.RowKit
attribute [local go_sem ↓] Go.wp_at_zero Go.wp_at_succ
structure NestAt (w0:World) (o H n:Nat) (t:List Ins) (av bv pv:Value) (k:Nat) (st:List (Nat×Int)) (gO cO gT cT:Nat) (wx:World):Prop where
 is:nst t k=some st
 opn:OwnI (H+3) wx gO cO (opL st)
 tms:OwnI (H+3) wx gT cT (tmL st)
 ne:gO≠gT
 blk:wx.heap[o]?=some (.cells #[av,bv,pv,.slice (some ⟨H,0,none⟩) (n+1) (n+1),.slice (some ⟨H+1,0,none⟩) n n] 87)
 beg:wx.heap[H]?=some (.cells (xi_ (v3_ t k)) 3)
 tim:wx.heap[H+1]?=some (.cells (xi_ (yo_ t k)) 3)
 cou:wx.heap[H+2]?=some (.cells (kr_ (cuL t st)) 140)
 old:w0.grownBy wx none
structure NestMid (w0:World) (o H n:Nat) (t:List Ins) (av bv pv:Value) (m:Nat) (p:Nat×Int) (r:List (Nat×Int)) (gO cO gT cT xb:Nat) (x:Ins) (wx:World):Prop where
 opn:OwnI (H+3) wx gO cO (opL (p::r))
 tms:OwnI (H+3) wx gT cT (tmL (p::r))
 ne:gO≠gT
 blk:wx.heap[o]?=some (.cells #[av,bv,pv,.slice (some ⟨H,0,none⟩) (n+1) (n+1),.slice (some ⟨H+1,0,none⟩) n n] 87)
 beg:wx.heap[H]?=some (.cells (xi_ (v3_ t m)) 3)
 tim:wx.heap[H+1]?=some (.cells (xi_ (yo_ t m)) 3)
 cou:wx.heap[H+2]?=some (.cells (kr_ (cuL t (p::r))) 140)
 old:w0.grownBy wx none
 ins:wx.heap[xb]?=some (.cells #[.int .i64 x.d,.int .i64 x.a,.int .i64 x.b,.int .i64 x.c] 40)
 fresh:H+3≤xb∧xb≠gO∧xb≠gT
theorem aav_ {W:World} {p i q:Nat} {v:Value} (h:q≠p):(W.setCell ⟨p,i,none⟩ v).heap[q]?=W.heap[q]?:=Below.heap_setCell _ _ _ _ (by simpa using h)
theorem NestMid.put {w0:World} {o H n:Nat} {t:List Ins} {av bv pv:Value} {k:Nat} {p:Nat×Int} {r:List (Nat×Int)} {gO cO gT cT xb:Nat} {x:Ins} {wx:World} (h:NestMid w0 o H n t av bv pv k p r gO cO gT cT xb x wx) (ho:o<H) (h0:w0.heap.size≤H) :
 NestMid w0 o H n t av bv pv (k+1) p r gO cO gT cT xb x ((wx.setCell ⟨H,k,none⟩ (.int .i64 (begA t k))).setCell ⟨H+1,k,none⟩ (.int .i64 (prd t (inn t (k+1) k)))).drew:=by
 have g1:=h.opn.lt;have g2:=h.tms.lt;obtain⟨x1,x2,x3⟩:=h.fresh;have s1:wx.grownBy (wx.setCell ⟨H,k,none⟩ (.int .i64 (begA t k))) (some H):=x3_ gz_ _ _;have s2:(wx.setCell ⟨H,k,none⟩ (.int .i64 (begA t k))).grownBy (((wx.setCell ⟨H,k,none⟩ (.int .i64 (begA t k))).setCell ⟨H+1,k,none⟩ (.int .i64 (prd t (inn t (k+1) k)))).drew) (some (H+1)):=xf_ (x3_ gz_ _ _);have nb:∀ q,q≠H→q≠H+1→(((wx.setCell ⟨H,k,none⟩ (.int .i64 (begA t k))).setCell ⟨H+1,k,none⟩ (.int .i64 (prd t (inn t (k+1) k)))).drew).heap[q]?=wx.heap[q]?:=fun q h1 h2=>by
  rw[xe_,aav_ h2,aav_ h1]
 refine⟨(h.opn.kept s1 (by simp;omega)).kept s2 (by simp;omega),(h.tms.kept s1 (by simp;omega)).kept s2 (by simp;omega),h.ne,?_,?_,?_,?_,?_,?_,h.fresh⟩
 ·rw[nb _ (by omega) (by omega)];exact h.blk
 ·rw[xe_,aav_ (by omega),xk_ h.beg,yp_,aoi_]
 ·rw[xe_,xk_ ((aav_ (by omega)).trans h.tim),yp_,aoj_]
 ·rw[nb _ (by omega) (by omega)];exact h.cou
 ·exact xf_ (yc_ (yc_ h.old (by omega) _ _) (by omega) _ _)
 ·rw[nb _ (by omega) (by omega)];exact h.ins
theorem NestMid.stay {w0:World} {o H n:Nat} {t:List Ins} {av bv pv:Value} {k:Nat} {p:Nat×Int} {r:List (Nat×Int)} {gO cO gT cT xb:Nat} {x:Ins} {wx:World} (h:NestMid w0 o H n t av bv pv k p r gO cO gT cT xb x wx) (hn:nst t k=some (p::r)) :
 NestAt w0 o H n t av bv pv k (p::r) gO cO gT cT wx:=⟨hn,h.opn,h.tms,h.ne,h.blk,h.beg,h.tim,h.cou,h.old⟩
theorem NestMid.pop {w0:World} {o H n:Nat} {t:List Ins} {av bv pv:Value} {k:Nat} {p:Nat×Int} {r:List (Nat×Int)} {gO cO gT cT xb:Nat} {x:Ins} {wx:World} (h:NestMid w0 o H n t av bv pv k p r gO cO gT cT xb x wx) (hn:nst t k=some r) (ho:o<H) (h0:w0.heap.size≤H) (m:Nat) (hc:(cuL t (p::r)).set m false=cuL t r) (i j:Nat) :
 NestAt w0 o H n t av bv pv k r gO cO gT cT (((wx.drewN i).setCell ⟨H+1+1,m,none⟩ (.bool false)).drewN j):=by
 have g1:=h.opn.lt;have g2:=h.tms.lt;have s1:wx.grownBy (((wx.drewN i).setCell ⟨H+1+1,m,none⟩ (.bool false)).drewN j) (some (H+1+1)):=x4_ (x3_ (x4_ gz_ _) _ _) _;have nb:∀ q,q≠H+1+1→(((wx.drewN i).setCell ⟨H+1+1,m,none⟩ (.bool false)).drewN j).heap[q]?=wx.heap[q]?:=fun q h1=>by
  show((wx.drewN i).setCell ⟨H+1+1,m,none⟩ (.bool false)).heap[q]?=_
  rw[aav_ h1];rfl
 have o1:=h.opn;have o2:=h.tms;rw[adp_] at o1;rw[adq_] at o2;refine⟨hn,o1.pop.kept s1 (by simp;omega),o2.pop.kept s1 (by simp;omega),h.ne,?_,?_,?_,?_,?_⟩
 ·rw[nb _ (by omega)];exact h.blk
 ·rw[nb _ (by omega)];exact h.beg
 ·rw[nb _ (by omega)];exact h.tim
 · show((wx.drewN i).setCell ⟨H+1+1,m,none⟩ (.bool false)).heap[H+1+1]?=_
   have hh:(wx.drewN i).heap[H+1+1]?=some (.cells (kr_ (cuL t (p::r))) 140):=h.cou;rw[xk_ hh,ads_,hc]
 ·exact x4_ (yc_ (x4_ h.old _) (by omega) _ _) _
theorem ad8_ {t:List Ins} {k:Nat} {st:List (Nat×Int)} {p:Nat×Int} {r:List (Nat×Int)} (h:nst t k=some st) (hu:un_ t k=true→um_ t st (nth t (k - 1)).a=false) (hp:qo_ t k st=p::r) :
 nst t (k+1)=if isR t k then(if (p.1:Int)=(nth t k).b then some r else none) else some (p::r):=by
 simp only[nst,h,Option.bind_some,j9_,hp];rw[if_neg]
 ·rfl
 ·intro hb;simp only[Bool.and_eq_true] at hb;rw[hu hb.1] at hb;simp at hb
theorem apb_ {t:List Ins} {k:Nat} {st:List (Nat×Int)} (h:nst t k=some st) (hb:un_ t k=true) (hu:um_ t st (nth t (k - 1)).a=true):nst t (k+1)=none:=by
 simp only[nst,h,Option.bind_some,j9_,hb,hu,Bool.and_self,if_true]
theorem ab8_ {t:List Ins} {k n:Nat} (h:nst t (k+1)=none) (hk:k<n):nst t n=none:=by
 cases h1:nst t n with
 | none=>rfl
 | some s=>
  exfalso;apply ahb_ (t:=t) (k+1) (n - (k+1)) _ h;rw[show k+1+(n - (k+1))=n by omega,h1];simp
def apc_ (w0:World) (o:Nat) (t:List Ins) (av bv pv:Value) (e:Ending) (w':World):Prop:=
 ∃ r:Bool,e=.returned (.bool r)∧(r=true↔nst t t.length≠none)∧w0.grownBy w' none∧
  (r=true→∃ bb tb,w'.heap[o]?=some (.cells #[av,bv,pv,.slice (some ⟨bb,0,none⟩) (t.length+1) (t.length+1),.slice (some ⟨tb,0,none⟩) t.length t.length] 87)∧w'.heap[bb]?=some (.cells (xi_ (v3_ t t.length)) 3)∧w'.heap[tb]?=some (.cells (xi_ (yo_ t t.length)) 3))
set_option maxRecDepth 10000 in
theorem apd_ (o pb po:Nat) (av bv s3 s4 tv:Value) (t:List Ins) (w0 w:World) (hold:w0.grownBy w none) (hfr:w0.heap.size≤o)
 (hblk:w.heap[o]?=some (.cells #[av,bv,.pointer (some ⟨pb,po,none⟩),s3,s4] 87)) (h2:w0.cell? ⟨pb,po+4,none⟩=some tv) (hT:TxtAt w0 tv t) (hl:t.length≤100000)
 (hR:RdOk t) (hB:Bs t) (hA:∀ i,isE t i=true→0≤(nth t i).a∧(nth t i).a<40) :
 Calls Tryz.prog 77 #[.pointer (some ⟨o,0,none⟩)] w (apc_ w0 o t av bv (.pointer (some ⟨pb,po,none⟩))):=by
 obtain⟨ta,tcap,rfl,hT⟩:=hT;have HT:Hid (t=[]∨∃ b off,ta=some ⟨b,off,none⟩∧∀ i,i<t.length→
  w0.cell? ⟨b,off+i*4,none⟩=some (.int .i64 (nth t i).d)∧w0.cell? ⟨b,off+i*4+1,none⟩=some (.int .i64 (nth t i).a)∧
  w0.cell? ⟨b,off+i*4+2,none⟩=some (.int .i64 (nth t i).b)∧w0.cell? ⟨b,off+i*4+3,none⟩=some (.int .i64 (nth t i).c)):=hT
 have HR:=hd_ hR;have HB:=hd_ hB;have HAA:=hd_ hA;clear hT hR hB hA;obtain⟨n,hn⟩:∃ n,t.length=n:=⟨_,rfl⟩;have HN:=hd_ hn;rw[hn] at hl h2;have h2:=hold.cell h2 (by simp);have c2:=xa_ hblk 2;simp at c2;have c3:=xa_ hblk 3;have c4:=xa_ hblk 4;simp at c3 c4;have f3:=xc_ hblk 3;have f4:=xc_ hblk 4;have ew:wrap64 ((n:Int)+1)=(n:Int)+1:=(by unfold wrap64;omega);have hmk:∀ w:World,(Instr.makeSlice 25 (.int .i64 ((n:Int)+1)) (.int .i64 ((n:Int)+1))).run Tryz.prog w=.ok (.slice (some ⟨w.heap.size,0,none⟩) (n+1) (n+1)) (w.alloc (.cells (xi_ (List.replicate (n+1) 0)) 3)):=fun w=>by
  have:=j0_ (n+1) (by omega) w;simpa using this
 have hmk2:=j0_ n (by omega);clear hn;obtain⟨H,hH⟩:∃ H,w.heap.size=H:=⟨_,rfl⟩;have hoH:o<H:=(by have:=xg_ hblk;omega);go_enter Tryz.func77,Tryz.ntmps77;go_wp2;clear hmk hmk2;go_loopg [5,6,35] n (fun gk s5 s6 s35 wx=>∃(k:Nat) (st:List (Nat×Int)) (gO cO gT cT:Nat),s35=.int .i64 k∧k≤n∧gk=n - k∧s5=.slice (some ⟨gO,0,none⟩) st.length cO∧s6=.slice (some ⟨gT,0,none⟩) st.length cT∧NestAt w0 o H n t av bv (.pointer (some ⟨pb,po,none⟩)) k st gO cO gT cT wx)
 case atStart=>
  refine⟨0,[(0,1)],H+3,1,H+4,1,rfl,Nat.zero_le _,by omega,rfl,rfl,?_⟩;obtain⟨W2,hW2⟩:∃ W2,(w.setCell { block:=o,off:=3 } (Value.slice (some { block:=H,off:=0 }) (n+1) (n+1))).setCell { block:=o,off:=4 } (Value.slice (some { block:=H+1,off:=0 }) n n)=W2:=⟨_,rfl⟩;have sz:W2.heap.size=H:=(by rw[← hW2];simp[hH]);have bl:W2.heap[o]?=some (.cells #[av,bv,.pointer (some ⟨pb,po,none⟩),.slice (some ⟨H,0,none⟩) (n+1) (n+1),.slice (some ⟨H+1,0,none⟩) n n] 87):=by
   rw[← hW2,xk_ (xk_ hblk _ _)];rfl
  have gr:w0.grownBy W2 none:=(by rw[← hW2];exact yc_ (yc_ hold hfr _ _) hfr _ _);have eb:(#[Value.bool false,Value.bool false,Value.bool false,Value.bool false,Value.bool false,Value.bool false,Value.bool false,Value.bool false,Value.bool false,Value.bool false,Value.bool false,Value.bool false,Value.bool false,Value.bool false,Value.bool false,Value.bool false,Value.bool false,Value.bool false,Value.bool false,Value.bool false,Value.bool false,Value.bool false,Value.bool false,Value.bool false,Value.bool false,Value.bool false,Value.bool false,Value.bool false,Value.bool false,Value.bool false,Value.bool false,Value.bool false,Value.bool false,Value.bool false,Value.bool false,Value.bool false,Value.bool false,Value.bool false,Value.bool false,Value.bool false]:Array Value)=kr_ (cuL t [(0,1)]):=(by rw[aol_];rfl);rw[hW2,eb];have o1:OwnI (H+3) ((((W2.alloc (.cells (xi_ (List.replicate (n+1) 0)) 3)).alloc (.cells (xi_ (List.replicate n 0)) 3)).alloc (.cells (kr_ (cuL t [(0,1)])) 140)).alloc (.cells (xi_ [0]) 3)) (H+3) 1 [0]:=by
   have:=OwnI.first (B:=H+3) (((W2.alloc (.cells (xi_ (List.replicate (n+1) 0)) 3)).alloc (.cells (xi_ (List.replicate n 0)) 3)).alloc (.cells (kr_ (cuL t [(0,1)])) 140)) [0] (by simp[sz]) (by simp);simpa[sz] using this
  have o2:OwnI (H+3) (((((W2.alloc (.cells (xi_ (List.replicate (n+1) 0)) 3)).alloc (.cells (xi_ (List.replicate n 0)) 3)).alloc (.cells (kr_ (cuL t [(0,1)])) 140)).alloc (.cells (xi_ [0]) 3)).alloc (.cells (xi_ [1]) 3)) (H+4) 1 [1]:=by
   have:=OwnI.first (B:=H+3) ((((W2.alloc (.cells (xi_ (List.replicate (n+1) 0)) 3)).alloc (.cells (xi_ (List.replicate n 0)) 3)).alloc (.cells (kr_ (cuL t [(0,1)])) 140)).alloc (.cells (xi_ [0]) 3)) [1] (by simp[sz]) (by simp);simpa[sz] using this
  refine⟨rfl,o1.kept (gr1 _ _) (by simp),o2,by omega,?_,?_,?_,?_,?_⟩
  ·rw[xh_ (by first|(simp[sz];done)|(simp[sz];omega)),xh_ (by first|(simp[sz];done)|(simp[sz];omega)),xh_ (by first|(simp[sz];done)|(simp[sz];omega)),xh_ (by first|(simp[sz];done)|(simp[sz];omega)),xh_ (by omega)];exact bl
  ·rw[xh_ (by first|(simp[sz];done)|(simp[sz];omega)),xh_ (by first|(simp[sz];done)|(simp[sz];omega)),xh_ (by first|(simp[sz];done)|(simp[sz];omega)),xh_ (by simp[sz]),xj_ sz.symm,al5_,HN.out]
  ·rw[xh_ (by first|(simp[sz];done)|(simp[sz];omega)),xh_ (by first|(simp[sz];done)|(simp[sz];omega)),xh_ (by simp[sz]),xj_ (by simp[sz]),al6_,HN.out]
  ·rw[xh_ (by first|(simp[sz];done)|(simp[sz];omega)),xh_ (by simp[sz]),xj_ (by simp[sz])]
  ·exact xb_ (xb_ (xb_ (xb_ (xb_ gr _) _) _) _) _
 case round=>
  obtain⟨k,st,gO,cO,gT,cT,rfl,hk,hgk,rfl,rfl,hNA⟩:=hrel;have HG:=hd_ hgk;have HNA:=hd_ hNA;clear hgk hNA c2 c3 c4 f3 f4 h2;by_cases hlt:k<n
  · have hkl:k<t.length:=(by rw[HN.out];exact hlt);rcases HT.out with h|⟨b',off,rfl,hc⟩
    ·subst h;simp at hkl
    obtain⟨q0,q1,q2,q3⟩:=hc k hkl;have q0:=HNA.out.old.cell q0 (by simp);have q1:=HNA.out.old.cell q1 (by simp);have q2:=HNA.out.old.cell q2 (by simp);have q3:=HNA.out.old.cell q3 (by simp);have HC:Hid (∀ i,i<t.length→wr.cell? ⟨b',off+i*4,none⟩=some (.int .i64 (nth t i).d)∧wr.cell? ⟨b',off+i*4+1,none⟩=some (.int .i64 (nth t i).a)∧wr.cell? ⟨b',off+i*4+2,none⟩=some (.int .i64 (nth t i).b)∧wr.cell? ⟨b',off+i*4+3,none⟩=some (.int .i64 (nth t i).c)):=fun i hi=>⟨HNA.out.old.cell (hc i hi).1 (by simp),HNA.out.old.cell (hc i hi).2.1 (by simp),HNA.out.old.cell (hc i hi).2.2.1 (by simp),HNA.out.old.cell (hc i hi).2.2.2 (by simp)⟩;clear hc;obtain⟨d,hd⟩:∃ d,(nth t k).d=d:=⟨_,rfl⟩;obtain⟨a,ha⟩:∃ d,(nth t k).a=d:=⟨_,rfl⟩;obtain⟨b,hb⟩:∃ d,(nth t k).b=d:=⟨_,rfl⟩;obtain⟨c,hc⟩:∃ d,(nth t k).c=d:=⟨_,rfl⟩;rw[hd] at q0;rw[ha] at q1;rw[hb] at q2;rw[hc] at q3;have HD:Hid ((nth t k).d=d∧(nth t k).a=a∧(nth t k).b=b):=⟨hd,ha,hb⟩;clear hd ha hb hc;have i1:(0:Int)≤(k:Int):=(by omega);have i2:(k:Int)<(n:Int):=(by omega);have i3:(k:Int)<((n+1:Nat):Int):=(by omega);have i4:(k:Int)<(n:Int)+1:=(by omega);by_cases hbg:un_ t k=true
    · obtain⟨g1,hE⟩:=vt_.1 hbg;obtain⟨s0,s1,s2,s3⟩:=HC.out (k - 1) (by omega);have hd13:(nth t (k - 1)).d=13:=(by simpa[isE] using hE);rw[hd13] at s0;have hae:=HAA.out _ hE;have hbe:=HB.out _ hE;obtain⟨m,hm⟩:=Int.eq_ofNat_of_zero_le hae.1;rw[hm] at s1 hae;have HMA:=hd_ hm;obtain⟨ee,hee⟩:∃ ee,(nth t (k - 1)).b=ee:=⟨_,rfl⟩;obtain⟨ec,hec⟩:∃ ec,(nth t (k - 1)).c=ec:=⟨_,rfl⟩;rw[hee] at s2 hbe;rw[hec] at s3;have HEE:=hd_ hee;have S0:∀ ob,(wr.alloc ob).cell? ⟨b',off+(k - 1)*4,none⟩=some (.int .i64 13):=fun ob=>(gr1 wr ob).cell s0 (by simp);have S1:∀ ob,(wr.alloc ob).cell? ⟨b',off+(k - 1)*4+1,none⟩=some (.int .i64 (m:Int)):=fun ob=>(gr1 wr ob).cell s1 (by simp);have S2:∀ ob,(wr.alloc ob).cell? ⟨b',off+(k - 1)*4+2,none⟩=some (.int .i64 ee):=fun ob=>(gr1 wr ob).cell s2 (by simp);have S3:∀ ob,(wr.alloc ob).cell? ⟨b',off+(k - 1)*4+3,none⟩=some (.int .i64 ec):=fun ob=>(gr1 wr ob).cell s3 (by simp);clear s0 s1 s2 s3 hee hec hm;have y0:∀ ob ob',((wr.alloc ob).alloc ob').cell? ⟨H+1+1,m,none⟩=some (.bool (um_ t st ((m:Nat):Int))):=fun ob ob'=>by
       have h:=aa3_ HNA.out.cou m (by rw[abz_];omega);rw[art_ _ _ _ (by omega)] at h;exact(xb_ (gr1 _ _) _).cell h (by simp)
      have f0:∀ ob ob',((wr.alloc ob).alloc ob').frozen? ⟨H+1+1,m,none⟩=false:=fun ob ob'=>xc_ (kept (xb_ (gr1 _ _) _) HNA.out.cou) m;have hHs:H+1+1<wr.heap.size:=xg_ HNA.out.cou;have j1:(0:Int)≤((m:Nat):Int):=(by omega);have j2:((m:Nat):Int)<40:=(by omega);by_cases hus:um_ t st ((m:Nat):Int)=true
      ·simp only[hus] at y0;have HX:=hd_ (by rw[HN.out];exact ab8_ (apb_ HNA.out.is hbg (by rw[HMA.out];exact hus)) hlt:nst t t.length=none);go_wp2;go_ret;exact⟨false,rfl,by simp[HX.out],xb_ (xb_ HNA.out.old _) _,by simp⟩
      · have hus':um_ t st ((m:Nat):Int)=false:=(by simpa using hus);simp only[hus'] at y0;obtain⟨u1,u2,u3,u4,u5⟩:=aet_ HR.out HB.out k st HNA.out.is;obtain⟨q,r,hpr⟩:∃ p r,st=p::r:=(ada_ HR.out HB.out k st HNA.out.is).ne;have htq:=(ada_ HR.out HB.out k st HNA.out.is).times q (by rw[hpr];simp);have hslen:=(ada_ HR.out HB.out k st HNA.out.is).len;have hpu:qo_ t k st=(k,min (q.2*ee) yx_)::st:=(by unfold qo_;rw[if_pos hbg,hpr,HEE.out];rfl);have HNX:Hid (nst t k=some st∧(un_ t k=true→um_ t st (nth t (k - 1)).a=false)∧qo_ t k st=(k,min (q.2*ee) yx_)::st):=⟨HNA.out.is,fun _=>by rw[HMA.out];exact hus',hpu⟩;have HDI:Hid (Dis t ((k,min (q.2*ee) yx_)::st)):=ahg_ (abn_ k _ HNA.out.is) (fun _=>by rw[HMA.out];exact hus');have HCP:Hid ((cuL t st).set m true=cuL t ((k,min (q.2*ee) yx_)::st)):=aom_ (by simpa using g1) m HMA.out;rw[hpu] at u4 u5;simp only[List.headD_cons] at u4 u5;have HE4:=hd_ u4;have HE5:=hd_ u5;have HPR:=hd_ hpr;clear u1 u2 u3 u4 u5 hpu hpr;obtain⟨gO1,gO2⟩:=HNA.out.opn.lt;obtain⟨gT1,gT2⟩:=HNA.out.tms.lt;have hg0:wr.grownBy (((wr.alloc (.cells #[.int .i64 d,.int .i64 a,.int .i64 b,.int .i64 c] 40)).alloc (.cells #[.int .i64 13,.int .i64 (m:Int),.int .i64 ee,.int .i64 ec] 40)).setCell ⟨H+1+1,m,none⟩ (.bool true)) (some (H+1+1)):=x3_ (xb_ (xb_ gz_ _) _) _ _;obtain⟨gO',cO',wb,hrun1,own1,hg1,hor1⟩:=(HNA.out.opn.kept hg0 (by simp;omega)).more ((k:Nat):Int) (by rw[jf_];omega) (by simp;have:=xg_ HNA.out.cou;omega)
        have hsz:(((wr.alloc (.cells #[.int .i64 d,.int .i64 a,.int .i64 b,.int .i64 c] 40)).alloc (.cells #[.int .i64 13,.int .i64 (m:Int),.int .i64 ee,.int .i64 ec] 40)).setCell ⟨H+1+1,m,none⟩ (.bool true)).heap.size=wr.heap.size+1+1:=(by simp);rw[hsz,jf_] at hrun1;rw[hsz] at hor1;have HRUN1:Hid (_=_):=hrun1;clear hrun1;go_wp2_with (first|(at_builtin;refine x0_ rfl _ _ 25 rfl _ _ _ wb rfl rfl HRUN1.out ?_))
        have hst1:0<st.length:=(by rw[HPR.out];simp);have tm1:OwnI (H+3) wb gT cT (tmL st):=(HNA.out.tms.kept hg0 (by simp;omega)).kept hg1 (by simp;exact HNA.out.ne);obtain⟨sl,hsl⟩:∃ sl,st.length=sl+1:=⟨st.length - 1,by omega⟩;have T1:=tm1.get sl (by rw[jg_];omega);have eT:(tmL st).getD sl 0=q.2:=by
         have h:sl=r.length:=(by rw[HPR.out] at hsl;simp at hsl;omega);rw[HPR.out,h];exact aby_ q r
        rw[eT] at T1;have HSL:=hd_ hsl;have n1:(0:Int)≤((sl:Nat):Int):=(by omega);have n2:((sl:Nat):Int)<((sl+1:Nat):Int):=(by omega);have n3:wrap64 (((sl+1:Nat):Int) - 1)=(sl:Int):=(by unfold wrap64;omega);have n4:wrap64 ((sl:Int)+1 - 1)=(sl:Int):=(by unfold wrap64;omega);have n5:(sl:Int)<(sl:Int)+1:=(by omega);have n6:wrap64 (sl:Int)=(sl:Int):=(by unfold wrap64;omega);have n7:IntKind.i64.wrap (sl:Int)=(sl:Int):=(by rw[IntWalk.i64_left];exact n6);have n8:IntKind.i64.wrap ((sl:Int)+1 - 1)=(sl:Int):=(by rw[IntWalk.i64_left];exact n4);have n9:IntKind.i64.wrap (((sl+1:Nat):Int) - 1)=(sl:Int):=(by rw[IntWalk.i64_left];exact n3);have n10:sl<sl+1:=(by omega);rw[hsl];clear hsl;have bE:wb.heap[wr.heap.size+1]?=some (.cells #[.int .i64 13,.int .i64 (m:Int),.int .i64 ee,.int .i64 ec] 40):=j7_ hg1 ((aav_ (by omega)).trans (xj_ (by simp) _)) (by omega);have E2:=xa_ bE 2;simp at E2;have mq:wrap64 (q.2*ee)=q.2*ee:=by
         have h1:=(z7_ htq.1 hbe.1).1;have h2:q.2*ee≤yx_*ee:=Int.mul_le_mul_of_nonneg_right htq.2 (by omega);have h3:yx_*ee≤yx_*10000:=Int.mul_le_mul_of_nonneg_left hbe.2 (by simp[yx_]);simp only[yx_] at h2 h3;unfold wrap64;omega
        have mq2:IntKind.i64.wrap (q.2*ee)=q.2*ee:=(by rw[IntWalk.i64_left];exact mq);have hszb:=hg1.size;rw[hsz] at hszb;have tm2:OwnI (H+3) (wb.alloc (.cells #[.int .i64 (min (q.2*ee) yx_)] 3)).drew gT cT (tmL st):=tm1.kept (xf_ (gr1 _ _)) (by simp);obtain⟨gT',cT',wd,hrun2,own2,hg2,hor2⟩:=tm2.moreAt (min (q.2*ee) yx_) wb.heap.size (heap_alloc_new wb _) (by rw[jg_];omega) (by show H+3≤(wb.alloc _).heap.size;simp;omega);rw[jg_,HSL.out] at hrun2;have HRUN2:Hid (_=_):=hrun2;clear hrun2;generalize hqq:q.2=q2 at *;have hEK:(wb.alloc (.cells #[.int .i64 (min (q2*ee) yx_)] 3)).drew.cell? ⟨wr.heap.size+1,2,none⟩=some (.int .i64 ee):=(xf_ (gr1 _ _)).cell E2 (by simp);have hneE:gT≠wr.heap.size+1:=(by omega);have HKP:Hid (wd.cell? ⟨gT,sl,none⟩=some (.int .i64 q2)∧wd.cell? ⟨wr.heap.size+1,2,none⟩=some (.int .i64 ee)):=by
         refine⟨?_,(hg2.cell hEK (by simp;omega))⟩;rcases hor2 with h|⟨_,h⟩
         ·have:=own2.get sl (by rw[List.length_append,jg_,HSL.out];simp;omega);rw[h] at this;rw[this];congr 2;rw[List.getD,List.getElem?_append_left (by rw[jg_,HSL.out];omega)];exact eT
         ·exact((xf_ (gr1 wb _)).trans h).cell T1 (by simp)
        go_region_held3 (fun w'=>w'.cell? ⟨gT,sl,none⟩=some (.int .i64 q2)∧w'.cell? ⟨wr.heap.size+1,2,none⟩=some (.int .i64 ee)) (first|(go_keep;done)|exact HKP.out) (first|(go_at_call 60;refine(v5_ _ _).mono ?_;rintro e w' ⟨rfl,rfl⟩)|(refine y7_ (by rfl) _ _ 25 (by rfl) _ _ _ wd (by rfl) (by rfl) HRUN2.out ?_))
        have own1':OwnI (H+3) wb gO' cO' (opL ((k,min (q2*ee) yx_)::st)):=(by rw[adp_];exact own1);have own2':OwnI (H+3) wd gT' cT' (tmL ((k,min (q2*ee) yx_)::st)):=(by rw[adq_];exact own2);have hne1:gO'≠gT:=(by have:=HNA.out.ne;omega);have lt1:=own1.lt;have hne2:gO'≠gT':=by
         rcases hor2 with h|⟨h,_⟩
         ·omega
         ·have h':(wb.alloc (.cells #[.int .i64 (min (q2*ee) yx_)] 3)).heap.size≤gT':=h;simp at h';omega
        have sz2:(wb.alloc (.cells #[.int .i64 (min (q2*ee) yx_)] 3)).drew.heap.size=wb.heap.size+1:=(by show(wb.alloc _).heap.size=_;simp);have hh0:=hold.size;have stp:∀ x,x<wr.heap.size+1+1→x≠gO→x≠gT→wd.heap[x]?=(((wr.alloc (.cells #[.int .i64 d,.int .i64 a,.int .i64 b,.int .i64 c] 40)).alloc (.cells #[.int .i64 13,.int .i64 (m:Int),.int .i64 ee,.int .i64 ec] 40)).setCell ⟨H+1+1,m,none⟩ (.bool true)).heap[x]?:=fun x hx h1 h2=>by
         have hw:x<wb.heap.size:=(by omega);rw[hg2.block x (by show x<(wb.alloc _).heap.size;simp;omega) (by simpa using h2)];show(wb.alloc _).heap[x]?=_
         rw[xh_ hw,hg1.block x (by rw[hsz];exact hx) (by simpa using h1)]
        have stq:∀ x,x<wr.heap.size→x≠H+1+1→x≠gO→x≠gT→wd.heap[x]?=wr.heap[x]?:=fun x hx h0 h1 h2=>by
         rw[stp x (by omega) h1 h2,aav_ h0,xh_ (by simp;omega),xh_ hx]
        have b1:=xg_ HNA.out.blk;have b2:=xg_ HNA.out.beg;have b3:=xg_ HNA.out.tim;have HY:Hid (NestMid w0 o H n t av bv (.pointer (some ⟨pb,po,none⟩)) k (k,min (q2*ee) yx_) st gO' cO' gT' cT' wr.heap.size ⟨d,a,b,c⟩ wd):=by
         refine⟨(own1'.kept (xf_ (gr1 wb _)) (by simp)).kept hg2 (by simp;omega),own2',hne2,?_,?_,?_,?_,?_,?_,by omega,by omega,by omega⟩
         ·rw[stq _ b1 (by omega) (by omega) (by omega)];exact HNA.out.blk
         ·rw[stq _ b2 (by omega) (by omega) (by omega)];exact HNA.out.beg
         ·rw[stq _ b3 (by omega) (by omega) (by omega)];exact HNA.out.tim
         ·rw[stp _ (by omega) (by omega) (by omega),xk_ (kept (xb_ (gr1 _ _) _) HNA.out.cou),ads_,HCP.out]
         ·have a1:w0.grownBy _ none:=x6_ HNA.out.old hg0 (.inr fun x hx=>by simp at hx;omega);have a2:w0.grownBy wb none:=x6_ a1 hg1 (.inr fun x hx=>by simp at hx;omega);exact x6_ (xf_ (xb_ a2 _)) hg2 (.inr fun x hx=>by simp at hx;omega)
         ·rw[stp _ (by omega) (by omega) (by omega),aav_ (by omega),xh_ (by simp),xj_ rfl]
        clear stp stq own1' own2' hg2 hg1 hg0 own1 own2 tm1 tm2 T1 E2 bE HRUN1 HRUN2 hEK HKP S0 S1 S2 S3 y0 f0 hor1 hor2 hsz mq mq2 hszb sz2;rw[← HSL.out];have l1:(0:Int)≤((st.length:Nat):Int):=(by omega);have l2:((st.length:Nat):Int)<((st.length+1:Nat):Int):=(by omega);have l3:wrap64 (((st.length+1:Nat):Int) - 1)=(st.length:Int):=(by unfold wrap64;omega);have l4:wrap64 ((st.length:Int)+1 - 1)=(st.length:Int):=(by unfold wrap64;omega);have l5:(st.length:Int)<(st.length:Int)+1:=(by omega);clear n1 n2 n3 n4 n5 n6 n7 n8 n9 n10;obtain⟨xb,hxb⟩:∃ xb,wr.heap.size=xb:=⟨_,rfl⟩;rw[hxb] at HY;rw[hxb];obtain⟨wy,hwy⟩:∃ wy,wd=wy:=⟨_,rfl⟩;rw[hwy] at HY;rw[hwy];clear hxb hwy;go_wp2;have L1:=HY.out.opn.get st.length (by rw[jf_];simp);rw[uo_] at L1;have L2:=HY.out.tms.get st.length (by rw[jg_];simp);rw[aby_] at L2;have gO1:=HY.out.opn.lt.1;have gT1:=HY.out.tms.lt.1;have z3:=xa_ HY.out.blk 3;have z4:=xa_ HY.out.blk 4;simp at z3 z4;have x0:=yz_ HY.out.beg k (by rw[aap_];omega);have x1:=yz_ HY.out.tim k (by rw[aaq_];omega);have f0:=xc_ HY.out.beg k;have f1:=xc_ HY.out.tim k;generalize(v3_ t k).getD k 0=y0 at x0;generalize(yo_ t k).getD k 0=y1 at x1;rw[show((((k,min (q2*ee) yx_):Nat×Int).1:Nat):Int)=begA t k from HE4.out] at L1;rw[show((k,min (q2*ee) yx_):Nat×Int).2=prd t (inn t (k+1) k) from HE5.out] at L2;go_region
        clear L1 L2 z3 z4 x0 x1 f0 f1;obtain⟨wz,hwz⟩:∃ wz,((wy.setCell ⟨H,k,none⟩ (.int .i64 (begA t k))).setCell ⟨H+1,k,none⟩ (.int .i64 (prd t (inn t (k+1) k)))).drew=wz:=⟨_,rfl⟩;have HZ:=HY.out.put hoH (by have:=hold.size;omega);rw[hwz] at HZ;rw[hwz];have HZ':Hid (NestMid w0 o H n t av bv (.pointer (some ⟨pb,po,none⟩)) (k+1) (k,min (q2*ee) yx_) st gO' cO' gT' cT' xb ⟨d,a,b,c⟩ wz):=HZ;clear HZ hwz HY;have L1:=HZ'.out.opn.get st.length (by rw[jf_];simp);rw[uo_] at L1;have v0:=xa_ HZ'.out.ins 0;have v1:=xa_ HZ'.out.ins 1;have v2:=xa_ HZ'.out.ins 2;simp at v0 v1 v2;have hNX:=ad8_ HNX.out.1 HNX.out.2.1 HNX.out.2.2;have HX:=hd_ hNX;clear hNX;by_cases h14:d=14
        · subst h14;have hR14:isR t k=true:=(by simp[isR,HD.out.1]);by_cases hbp:(k:Int)=b
          · have HX2:=hd_ (by rw[HX.out,if_pos hR14,HD.out.2.2,if_pos hbp]:nst t (k+1)=some st);obtain⟨rr1,rr2,rr3,rr4⟩:=HR.out.rounds k hR14;rw[HD.out.2.2,HD.out.2.1] at rr4;rw[HD.out.2.2] at rr1 rr3;have hae:=HAA.out _ rr3;rw[rr4] at hae;obtain⟨m,hm⟩:=Int.eq_ofNat_of_zero_le hae.1;subst hm;have hpos:0<k:=(by omega);have epa:(nth t (k - 1)).a=((m:Nat):Int):=(by rw[← rr4];congr 2;omega);have HCU:Hid ((cuL t ((k,min (q2*ee) yx_)::st)).set m false=cuL t st):=aft_ HDI.out hpos m epa;have y0:=aa3_ HZ'.out.cou m (by rw[abz_];omega);have f0:=xc_ HZ'.out.cou m;generalize(cuL t ((k,min (q2*ee) yx_)::st)).getD m false=bo at y0;have j1:(0:Int)≤((m:Nat):Int):=(by omega);have j2:((m:Nat):Int)<40:=(by omega);have ecO:st.length≤cO':=(by have:=HZ'.out.opn.2;rcases this with⟨h,_⟩|⟨_,_,_,h,_,_,h2,_⟩;simp at h;simp[jf_] at h h2;omega);have ecT:st.length≤cT':=(by have:=HZ'.out.tms.2;rcases this with⟨h,_⟩|⟨_,_,_,h,_,_,h2,_⟩;simp at h;simp[jg_] at h h2;omega);have hb2:((k:Nat):Int)=b:=hbp;rw[hb2] at L1;clear rr1 rr2 rr3 rr4 hae epa hbp HX;go_wp2;go_quiet (fail)
            go_wp2;go_quiet (fail)
            go_wp2;have hgl:=HG.out;have hh0:=hold.size;go_roundg (n - (k+1))
            all_goals first|omega|exact⟨k+1,st,gO',cO',gT',cT',by go_num,by omega,by omega,rfl,rfl,HZ'.out.pop HX2.out hoH (by omega) m HCU.out _ _⟩
          · have HX2:=hd_ (by rw[HN.out];exact ab8_ (by rw[HX.out,if_pos hR14,HD.out.2.2,if_neg hbp]) hlt:nst t t.length=none);have eb1:(((k:Nat):Int)==b)=false:=(by simpa using hbp);have eb2:(((k:Nat):Int) != b)=true:=(by simpa using hbp);go_wp2;go_quiet (fail)
            go_wp2;go_ret;exact⟨false,rfl,by simp[HX2.out],x4_ HZ'.out.old _,by simp⟩
        · have e14:(d==14)=false:=(by simpa using h14);have hR14:isR t k=false:=(by simp[isR,HD.out.1];exact h14);have HX2:=hd_ (by rw[HX.out,hR14];rfl:nst t (k+1)=some ((k,min (q2*ee) yx_)::st));go_wp2;have hgl:=HG.out;go_roundg (n - (k+1))
          all_goals first|omega|exact⟨k+1,(k,min (q2*ee) yx_)::st,gO',cO',gT',cT',by go_num,by omega,by omega,rfl,rfl,HZ'.out.stay HX2.out⟩
    · have HPU:=hd_ (by unfold qo_;rw[if_neg hbg]:qo_ t k st=st);obtain⟨e1,e2,e3,e4,e5⟩:=aet_ HR.out HB.out k st HNA.out.is;obtain⟨p,r,hpr⟩:∃ p r,st=p::r:=(ada_ HR.out HB.out k st HNA.out.is).ne;rw[HPU.out] at e2 e3 e4 e5;subst hpr;simp only[List.headD_cons,List.length_cons] at e3 e4 e5;have l1:(0:Int)≤((r.length:Nat):Int):=(by omega);have l2:((r.length:Nat):Int)<((r.length+1:Nat):Int):=(by omega);have l3:wrap64 (((r.length+1:Nat):Int) - 1)=(r.length:Int):=(by unfold wrap64;omega);have l4:wrap64 ((r.length:Int)+1 - 1)=(r.length:Int):=(by unfold wrap64;omega);have l5:(r.length:Int)<(r.length:Int)+1:=(by omega);have HNX:Hid (nst t k=some (p::r)∧(un_ t k=true→um_ t (p::r) (nth t (k - 1)).a=false)∧qo_ t k (p::r)=p::r):=⟨HNA.out.is,fun h=>absurd h hbg,HPU.out⟩;have HDI:Hid (Dis t (p::r)):=abn_ k _ HNA.out.is;have HM:Hid (NestMid w0 o H n t av bv (.pointer (some ⟨pb,po,none⟩)) k p r gO cO gT cT wr.heap.size ⟨d,a,b,c⟩ (wr.alloc (.cells #[.int .i64 d,.int .i64 a,.int .i64 b,.int .i64 c] 40))):=by
       have hg:=gr1 wr (.cells #[.int .i64 d,.int .i64 a,.int .i64 b,.int .i64 c] 40);have g1:=HNA.out.opn.lt;have g2:=HNA.out.tms.lt;exact⟨HNA.out.opn.kept hg (by simp),HNA.out.tms.kept hg (by simp),HNA.out.ne,kept hg HNA.out.blk,kept hg HNA.out.beg,kept hg HNA.out.tim,kept hg HNA.out.cou,HNA.out.old.trans hg,heap_alloc_new _ _,by omega,by omega,by omega⟩
      by_cases hk0:k=0
      · have g1:¬(0<k):=(by omega);have HK0:=hd_ hk0;clear hk0;go_wp2;obtain⟨xb,hxb⟩:∃ xb,wr.heap.size=xb:=⟨_,rfl⟩;obtain⟨wy,hwy⟩:∃ wy,wr.alloc (.cells #[.int .i64 d,.int .i64 a,.int .i64 b,.int .i64 c] 40)=wy:=⟨_,rfl⟩;have HM:=HM.out;rw[hxb,hwy] at HM;rw[hxb,hwy];have HY:Hid (NestMid w0 o H n t av bv (.pointer (some ⟨pb,po,none⟩)) k p r gO cO gT cT xb ⟨d,a,b,c⟩ wy):=HM;clear HM hxb hwy;have L1:=HY.out.opn.get r.length (by rw[jf_];simp);rw[uo_] at L1;have L2:=HY.out.tms.get r.length (by rw[jg_];simp);rw[aby_] at L2;have gO1:=HY.out.opn.lt.1;have gT1:=HY.out.tms.lt.1;have z3:=xa_ HY.out.blk 3;have z4:=xa_ HY.out.blk 4;simp at z3 z4;have x0:=yz_ HY.out.beg k (by rw[aap_];omega);have x1:=yz_ HY.out.tim k (by rw[aaq_];omega);have f0:=xc_ HY.out.beg k;have f1:=xc_ HY.out.tim k;generalize(v3_ t k).getD k 0=y0 at x0;generalize(yo_ t k).getD k 0=y1 at x1;rw[e4] at L1;rw[e5] at L2;go_region
        clear L1 L2 z3 z4 x0 x1 f0 f1;obtain⟨wz,hwz⟩:∃ wz,((wy.setCell ⟨H,k,none⟩ (.int .i64 (begA t k))).setCell ⟨H+1,k,none⟩ (.int .i64 (prd t (inn t (k+1) k)))).drew=wz:=⟨_,rfl⟩;have HZ:=HY.out.put hoH (by have:=hold.size;omega);rw[hwz] at HZ;rw[hwz];have HZ':Hid (NestMid w0 o H n t av bv (.pointer (some ⟨pb,po,none⟩)) (k+1) p r gO cO gT cT xb ⟨d,a,b,c⟩ wz):=HZ;clear HZ hwz HY;have L1:=HZ'.out.opn.get r.length (by rw[jf_];simp);rw[uo_] at L1;have v0:=xa_ HZ'.out.ins 0;have v1:=xa_ HZ'.out.ins 1;have v2:=xa_ HZ'.out.ins 2;simp at v0 v1 v2;have hNX:=ad8_ HNX.out.1 HNX.out.2.1 HNX.out.2.2;have HX:=hd_ hNX;clear hNX;by_cases h14:d=14
        · subst h14;have hR14:isR t k=true:=(by simp[isR,HD.out.1]);by_cases hbp:(p.1:Int)=b
          · have HX2:=hd_ (by rw[HX.out,if_pos hR14,HD.out.2.2,if_pos hbp]:nst t (k+1)=some r);obtain⟨rr1,rr2,rr3,rr4⟩:=HR.out.rounds k hR14;rw[HD.out.2.2,HD.out.2.1] at rr4;rw[HD.out.2.2] at rr1 rr3;have hae:=HAA.out _ rr3;rw[rr4] at hae;obtain⟨m,hm⟩:=Int.eq_ofNat_of_zero_le hae.1;subst hm;have hpos:0<p.1:=(by omega);have epa:(nth t (p.1 - 1)).a=((m:Nat):Int):=(by rw[← rr4];congr 2;omega);have HCU:Hid ((cuL t (p::r)).set m false=cuL t r):=aft_ HDI.out hpos m epa;have y0:=aa3_ HZ'.out.cou m (by rw[abz_];omega);have f0:=xc_ HZ'.out.cou m;generalize(cuL t (p::r)).getD m false=bo at y0;have j1:(0:Int)≤((m:Nat):Int):=(by omega);have j2:((m:Nat):Int)<40:=(by omega);have ecO:r.length≤cO:=(by have:=HZ'.out.opn.2;rcases this with⟨h,_⟩|⟨_,_,_,h,_,_,h2,_⟩;simp at h;simp[jf_] at h h2;omega);have ecT:r.length≤cT:=(by have:=HZ'.out.tms.2;rcases this with⟨h,_⟩|⟨_,_,_,h,_,_,h2,_⟩;simp at h;simp[jg_] at h h2;omega);have hb2:((p.1:Nat):Int)=b:=hbp;rw[hb2] at L1;clear rr1 rr2 rr3 rr4 hae epa hbp HX;go_wp2;go_quiet (fail)
            go_wp2;go_quiet (fail)
            go_wp2;have hgl:=HG.out;have hh0:=hold.size;go_roundg (n - (k+1))
            all_goals first|omega|exact⟨k+1,r,gO,cO,gT,cT,by go_num,by omega,by omega,rfl,rfl,HZ'.out.pop HX2.out hoH (by omega) m HCU.out _ _⟩
          · have HX2:=hd_ (by rw[HN.out];exact ab8_ (by rw[HX.out,if_pos hR14,HD.out.2.2,if_neg hbp]) hlt:nst t t.length=none);have eb1:(((p.1:Nat):Int)==b)=false:=(by simpa using hbp);have eb2:(((p.1:Nat):Int) != b)=true:=(by simpa using hbp);go_wp2;go_quiet (fail)
            go_wp2;go_ret;exact⟨false,rfl,by simp[HX2.out],x4_ HZ'.out.old _,by simp⟩
        · have e14:(d==14)=false:=(by simpa using h14);have hR14:isR t k=false:=(by simp[isR,HD.out.1];exact h14);have HX2:=hd_ (by rw[HX.out,hR14];rfl:nst t (k+1)=some (p::r));go_wp2;have hgl:=HG.out;go_roundg (n - (k+1))
          all_goals first|omega|exact⟨k+1,p::r,gO,cO,gT,cT,by go_num,by omega,by omega,rfl,rfl,HZ'.out.stay HX2.out⟩
      · have g1:0<k:=(by omega);have hne13:(nth t (k - 1)).d≠13:=fun h=>hbg (vt_.2 ⟨g1,by simp[isE,h]⟩);obtain⟨s0,s1,s2,s3⟩:=HC.out (k - 1) (by omega);have S0:∀ ob,(wr.alloc ob).cell? ⟨b',off+(k - 1)*4,none⟩=some (.int .i64 (nth t (k - 1)).d):=fun ob=>(gr1 wr ob).cell s0 (by simp);have ed:((nth t (k - 1)).d==13)=false:=(by simpa using hne13);generalize(nth t (k - 1)).d=d' at *;clear s0 s1 s2 s3 hk0;go_wp2;obtain⟨xb,hxb⟩:∃ xb,wr.heap.size=xb:=⟨_,rfl⟩;obtain⟨wy,hwy⟩:∃ wy,wr.alloc (.cells #[.int .i64 d,.int .i64 a,.int .i64 b,.int .i64 c] 40)=wy:=⟨_,rfl⟩;have HM:=HM.out;rw[hxb,hwy] at HM;rw[hxb,hwy];have HY:Hid (NestMid w0 o H n t av bv (.pointer (some ⟨pb,po,none⟩)) k p r gO cO gT cT xb ⟨d,a,b,c⟩ wy):=HM;clear HM hxb hwy;have L1:=HY.out.opn.get r.length (by rw[jf_];simp);rw[uo_] at L1;have L2:=HY.out.tms.get r.length (by rw[jg_];simp);rw[aby_] at L2;have gO1:=HY.out.opn.lt.1;have gT1:=HY.out.tms.lt.1;have z3:=xa_ HY.out.blk 3;have z4:=xa_ HY.out.blk 4;simp at z3 z4;have x0:=yz_ HY.out.beg k (by rw[aap_];omega);have x1:=yz_ HY.out.tim k (by rw[aaq_];omega);have f0:=xc_ HY.out.beg k;have f1:=xc_ HY.out.tim k;generalize(v3_ t k).getD k 0=y0 at x0;generalize(yo_ t k).getD k 0=y1 at x1;rw[e4] at L1;rw[e5] at L2;go_region
        clear L1 L2 z3 z4 x0 x1 f0 f1;obtain⟨wz,hwz⟩:∃ wz,((wy.setCell ⟨H,k,none⟩ (.int .i64 (begA t k))).setCell ⟨H+1,k,none⟩ (.int .i64 (prd t (inn t (k+1) k)))).drew=wz:=⟨_,rfl⟩;have HZ:=HY.out.put hoH (by have:=hold.size;omega);rw[hwz] at HZ;rw[hwz];have HZ':Hid (NestMid w0 o H n t av bv (.pointer (some ⟨pb,po,none⟩)) (k+1) p r gO cO gT cT xb ⟨d,a,b,c⟩ wz):=HZ;clear HZ hwz HY;have L1:=HZ'.out.opn.get r.length (by rw[jf_];simp);rw[uo_] at L1;have v0:=xa_ HZ'.out.ins 0;have v1:=xa_ HZ'.out.ins 1;have v2:=xa_ HZ'.out.ins 2;simp at v0 v1 v2;have hNX:=ad8_ HNX.out.1 HNX.out.2.1 HNX.out.2.2;have HX:=hd_ hNX;clear hNX;by_cases h14:d=14
        · subst h14;have hR14:isR t k=true:=(by simp[isR,HD.out.1]);by_cases hbp:(p.1:Int)=b
          · have HX2:=hd_ (by rw[HX.out,if_pos hR14,HD.out.2.2,if_pos hbp]:nst t (k+1)=some r);obtain⟨rr1,rr2,rr3,rr4⟩:=HR.out.rounds k hR14;rw[HD.out.2.2,HD.out.2.1] at rr4;rw[HD.out.2.2] at rr1 rr3;have hae:=HAA.out _ rr3;rw[rr4] at hae;obtain⟨m,hm⟩:=Int.eq_ofNat_of_zero_le hae.1;subst hm;have hpos:0<p.1:=(by omega);have epa:(nth t (p.1 - 1)).a=((m:Nat):Int):=(by rw[← rr4];congr 2;omega);have HCU:Hid ((cuL t (p::r)).set m false=cuL t r):=aft_ HDI.out hpos m epa;have y0:=aa3_ HZ'.out.cou m (by rw[abz_];omega);have f0:=xc_ HZ'.out.cou m;generalize(cuL t (p::r)).getD m false=bo at y0;have j1:(0:Int)≤((m:Nat):Int):=(by omega);have j2:((m:Nat):Int)<40:=(by omega);have ecO:r.length≤cO:=(by have:=HZ'.out.opn.2;rcases this with⟨h,_⟩|⟨_,_,_,h,_,_,h2,_⟩;simp at h;simp[jf_] at h h2;omega);have ecT:r.length≤cT:=(by have:=HZ'.out.tms.2;rcases this with⟨h,_⟩|⟨_,_,_,h,_,_,h2,_⟩;simp at h;simp[jg_] at h h2;omega);have hb2:((p.1:Nat):Int)=b:=hbp;rw[hb2] at L1;clear rr1 rr2 rr3 rr4 hae epa hbp HX;go_wp2;go_quiet (fail)
            go_wp2;go_quiet (fail)
            go_wp2;have hgl:=HG.out;have hh0:=hold.size;go_roundg (n - (k+1))
            all_goals first|omega|exact⟨k+1,r,gO,cO,gT,cT,by go_num,by omega,by omega,rfl,rfl,HZ'.out.pop HX2.out hoH (by omega) m HCU.out _ _⟩
          · have HX2:=hd_ (by rw[HN.out];exact ab8_ (by rw[HX.out,if_pos hR14,HD.out.2.2,if_neg hbp]) hlt:nst t t.length=none);have eb1:(((p.1:Nat):Int)==b)=false:=(by simpa using hbp);have eb2:(((p.1:Nat):Int) != b)=true:=(by simpa using hbp);go_wp2;go_quiet (fail)
            go_wp2;go_ret;exact⟨false,rfl,by simp[HX2.out],x4_ HZ'.out.old _,by simp⟩
        · have e14:(d==14)=false:=(by simpa using h14);have hR14:isR t k=false:=(by simp[isR,HD.out.1];exact h14);have HX2:=hd_ (by rw[HX.out,hR14];rfl:nst t (k+1)=some (p::r));go_wp2;have hgl:=HG.out;go_roundg (n - (k+1))
          all_goals first|omega|exact⟨k+1,p::r,gO,cO,gT,cT,by go_num,by omega,by omega,rfl,rfl,HZ'.out.stay HX2.out⟩
  · have hkn:k=n:=(by omega);subst hkn;have hk':¬((k:Int)<(k:Int)):=(by omega);clear HG;go_wp2;go_ret;refine⟨true,rfl,by rw[HN.out,HNA.out.is];simp,HNA.out.old,fun _=>⟨H,H+1,?_,?_,?_⟩⟩
    ·rw[HN.out];exact HNA.out.blk
    ·rw[HN.out];exact HNA.out.beg
    ·rw[HN.out];exact HNA.out.tim
end Go.Proofs.YtcgbfhpmkpglkaaGreatDoor
