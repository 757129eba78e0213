/- Texts put together: Mk, Ml. -/
import Derived.Test.YtcoglmaiahpooaaGreatDoorQ08
import Derived.Test.YtcoglmaiahpooaaGreatDoorQ09
set_option linter.unusedVariables false
set_option linter.unusedSimpArgs false
set_option maxHeartbeats 8000000
namespace Go.Proofs.YtcoglmaiahpooaaGreatDoor
open Go.RowKit
attribute [local go_sem ↓] Go.wp_at_zero Go.wp_at_succ
theorem afv_ {V W:World} (hT:Tabs V) (hV:Vs V W) {ok:Nat→Prop} {x:Option Addr} {c:Nat} (f o kd n:Int) (nm pt:ByteArray) (a:Int) (ks:List PE) (hs1:nm.size≤4000000) (hs2:pt.size≤4000000) (hx:Xs W ok (.slice x ks.length c) ks) (d:Int) (hd0:0≤d) (hd:d≤100)
 (hI:∀(i:Nat) (hi:i<ks.length) (ka:Option Addr) (kc:Nat) (W':World),W.grownBy W' none→Xs W' ok (.slice ka ks[i].kids.length kc) ks[i].kids→EC W' ks[i] (.slice ka ks[i].kids.length kc)) :
 Calls Tryz.prog 87 #[xV f o kd n nm pt a (.slice x ks.length c),.int .i64 d] W (xs_ W (xr_ d (.mk f o kd n nm pt a ks))):=by
 by_cases h1:f=1
 ·subst h1;exact ex_1 hT hV o kd n nm pt a ks hs1 hs2 hx d hd0 hd hI
 by_cases h2:f=2
 ·subst h2;exact ex_2 hT hV o kd n nm pt a ks hs1 hs2 hx d hd0 hd hI
 by_cases h3:f=3
 ·subst h3;exact ex_3 hT hV o kd n nm pt a ks hs1 hs2 hx d hd0 hd hI
 by_cases h4:f=4
 ·subst h4;exact ex_4 hT hV o kd n nm pt a ks hs1 hs2 hx d hd0 hd hI
 by_cases h5:f=5
 ·subst h5;exact ex_5 hT hV o kd n nm pt a ks hs1 hs2 hx d hd0 hd hI
 by_cases h6:f=6
 ·subst h6;exact ex_6 hT hV o kd n nm pt a ks hs1 hs2 hx d hd0 hd hI
 by_cases h7:f=7
 ·subst h7;exact ex_7 hT hV o kd n nm pt a ks hs1 hs2 hx d hd0 hd hI
 have e:xr_ d (.mk f o kd n nm pt a ks)=false:=by
  rw[xr_,hdB];simp[h1,h2,h3,h4,h5,h6,h7]
 rw[e];clear hx hI hV hT e;have g1:(f==1)=false:=(by simpa using h1);have g2:(f==2)=false:=(by simpa using h2);have g3:(f==3)=false:=(by simpa using h3);have g4:(f==4)=false:=(by simpa using h4);have g5:(f==5)=false:=(by simpa using h5);have g6:(f==6)=false:=(by simpa using h6);have g7:(f==7)=false:=(by simpa using h7);go_enter Tryz.func87,Tryz.ntmps87;go_wp2_with fail
 go_region
 by_cases h40:d≤40;all_goals
  go_wp2_with fail
  go_ret;exact⟨rfl,xi_ (xf_ (gr1 _ _) _)⟩
theorem aik_ {V:World} (hT:Tabs V):∀(n:Nat) (e:PE),SizeOf.sizeOf e<n→∀(W:World) (ok:Nat→Prop) (k:Value),Vs V W→Xs W ok k e.kids→yj_ e≤4000000→EC W e k:=by
 intro n;induction n with
 | zero=>intro e h;omega
 | succ n ih=>
  intro e h W ok k hV hx hc d h0 h1 W' hg;obtain⟨x,c,rfl⟩:=hx.sl;obtain⟨f,o,kd,nn,nm,pt,a,ks⟩:=e;rw[yj_] at hc;refine afv_ hT (hV.gr hg) f o kd nn nm pt a ks (by omega) (by omega) (hx.gw hg) d h0 h1 ?_;intro i hi ka kc W2 h2 hk;refine ih ks[i] ?_ W2 ok _ ((hV.gr hg).gr h2) hk ?_
  ·have s1:SizeOf.sizeOf ks[i]<SizeOf.sizeOf ks:=List.sizeOf_lt_of_mem (List.getElem_mem hi);simp at h;omega
  ·have:=qa_ ks i hi;omega
theorem qi_ {V W:World} (hT:Tabs V) (hV:Vs V W) {ok:Nat→Prop} {k:Value} {e:PE} (hx:Xs W ok k e.kids) (hc:yj_ e≤4000000):EC W e k:=aik_ hT _ e (Nat.lt_succ_self _) W ok k hV hx hc
theorem gr0 (w:World):w.grownBy w none:=gz_
theorem Li.le {α Q:Type} {K:Kd α Q} {T:Nat} {w:World} {ok:Nat→Prop} {v:Value} {l:List α} (h:Li K T w ok v l):l.length≤4000000:=by
 obtain⟨_,_,⟨_,_,_,hn,_⟩,_⟩:=h;exact hn
theorem Li.atG {α Q:Type} {K:Kd α Q} {T sz:Nat} {W:World} {ok:Nat→Prop} {v:Value} {l:List α} (h:Li K T W ok v l) (hsz:∀ e q,(K.c e q).length=sz) (h0:0<sz) (i:Nat) (hi:i<l.length):∃ g off c q,v=.slice (some ⟨g,off,none⟩) l.length c∧g<W.heap.size∧K.S W ok l[i] q∧∀ W',W.grownBy W' none→∀ j,j<sz→W'.cell? ⟨g,off+i*sz+j,none⟩=(K.c l[i] q)[j]?:=by
 obtain⟨g,off,c,q,hv,hn,hg,hk,hc⟩:=h.pick hsz h0 i hi;refine⟨g,off,c,q,hv,hg,hk,fun W' hW j hj=>?_⟩;rw[Nat.add_assoc,← hc j hj];exact World.cell?_of_block (hW.block g hg (by simp))
theorem aaa_ (n:Int) (W:World):Calls Tryz.prog 122 #[.int .i64 n] W (xs_ W (xu_ n)):=(jw_ n W).mono fun _ _ h=>⟨h.1,h.2▸gz_⟩
theorem abz_ (n:Int) (W:World):Calls Tryz.prog 128 #[.int .i64 n] W (xs_ W (yw_ n)):=(adt_ n W).mono fun _ _ h=>⟨h.1,h.2▸gz_⟩
theorem kd_g (n:Int) (W:World):Calls Tryz.prog 44 #[.int .i64 n] W (xs_ W (kdB n)):=(adu_ n W).mono fun _ _ h=>⟨h.1,h.2▸gz_⟩
theorem afa_ (lo n:Int) (W:World):Calls Tryz.prog 88 #[.int .i64 lo,.int .i64 n] W (xs_ W (qh_ lo n)):=(adv_ lo n W).mono fun _ _ h=>⟨h.1,h.2▸gz_⟩
theorem ab0_ (lo hi:Int) (W:World) (h1:xu_ lo=true) (h2:xu_ hi=true):Calls Tryz.prog 172 #[.int .i64 lo,.int .i64 hi] W (xs_ W (decide (hi - lo+1≤10000))):=(uq_ lo hi W h1 h2).mono fun _ _ h=>⟨h.1,h.2▸gz_⟩
theorem aay_ (p q:Int) (W:World):Calls Tryz.prog 171 #[.agg #[.int .i64 p,.int .i64 q]] W (xs_ W (y2_ (p,q))):=by
 show Calls _ _ _ _ (xs_ W (xu_ p && xu_ q && decide (p≤q)))
 rw[Bool.and_assoc];have c1:=xa_ (aaa_ p);have c2:=xa_ (aaa_ q);generalize xu_ p=v1 at c1 ⊢;generalize xu_ q=v2 at c2 ⊢;obtain⟨v3,h3⟩:∃ b,decide (p≤q)=b:=⟨_,rfl⟩;rw[h3];obtain⟨Z,hZ⟩:∃ Z,(v1 && (v2 && v3))=Z:=⟨_,rfl⟩;rw[hZ];have HZ:=xa_ hZ;clear hZ;go_enter Tryz.func171,Tryz.ntmps171;go_wp2_with fail
 refine(c1.out _).mono ?_;rintro e W1 ⟨rfl,g⟩;have A1:Hid (W1.heap[W.heap.size]?=some (.cells #[.int .i64 p,.int .i64 q] 126)):=kept g (xe_ (by first|rfl|simp) _);have G1:=xa_ (gtn (xf_ (gr0 _) _) g);clear g;obtain⟨a1a,a1b,a1c,a1d,a1e,a1f⟩:=xb_ A1.out;cases v1 with
 | false=>
  have e:Z=false:=HZ.out.symm;subst e;clear HZ;go_wp2_with fail
  go_ret;exact⟨rfl,G1.out⟩
 | true=>
 have HZ0:=xa_ ((Bool.true_and _).symm.trans HZ.out);clear HZ;have HZ:=HZ0;clear HZ0;go_wp2_with fail
 refine(c2.out _).mono ?_;rintro e W2 ⟨rfl,g⟩;have A2:Hid (W2.heap[W.heap.size]?=some (.cells #[.int .i64 p,.int .i64 q] 126)):=kept g A1.out;have G2:=xa_ (gtn G1.out g);clear g a1a a1b a1c a1d a1e a1f;obtain⟨a2a,a2b,a2c,a2d,a2e,a2f⟩:=xb_ A2.out;cases v2 with
 | false=>
  have e:Z=false:=HZ.out.symm;subst e;clear HZ;go_wp2_with fail
  go_ret;exact⟨rfl,G2.out⟩
 | true=>
 have HZ0:=xa_ ((Bool.true_and _).symm.trans HZ.out);clear HZ;have HZ:=HZ0;clear HZ0;have e:Z=v3:=HZ.out.symm;subst e;clear HZ;go_wp2_with fail
 go_ret;exact⟨xw_ (by first|exact h3|rfl),G2.out⟩
theorem us_ {W:World} {ok:Nat→Prop} {x:Option Addr} {c:Nat} {l:List (Int×Int)} (hx:Li kdL 102 W ok (.slice x l.length c) l) (P:(Int×Int)→Bool) (caps:Array Value)
 (hP:∀(i:Nat) (hi:i<l.length) (q:Unit) (W':World),W.grownBy W' none→kdL.S W' ok l[i] q→Calls Tryz.prog 171 (#[.agg (kdL.c l[i] q).toArray]++caps) W' (xs_ W' (P l[i]))) :
 Calls Tryz.prog 170 #[.slice x l.length c,.func (.func 171) #[] caps] W (xs_ W (l.all P)):=by
 obtain⟨Z,hZ⟩:∃ Z,l.all P=Z:=⟨_,rfl⟩;rw[hZ];have HZ:=xa_ hZ;have HX:=xa_ hx;have HP:=xa_ hP;have hle:=hx.le;clear hZ hx hP;go_enter Tryz.func170,Tryz.ntmps170;go_wp2_with fail
 have LS:Hid (∃ i:Nat,Value.int .i64 0=.int .i64 (i:Int)∧Hid (i≤l.length∧l.length+1=l.length+1 - i∧W.grownBy W none∧(l.drop i).all P=Z)):=⟨0,rfl,xa_ ⟨by omega,rfl,gr0 _,by simpa using HZ.out⟩⟩;clear HZ;go_loopg [9] (l.length+1) (fun gk s1 wx=>∃ i:Nat,s1=.int .i64 (i:Int)∧Hid (i≤l.length∧gk=l.length+1 - i∧W.grownBy wx none∧(l.drop i).all P=Z))
 case atStart=>exact LS.out
 case round=>
  obtain⟨i,rfl,HH⟩:=hrel;obtain⟨hi1,hgk,hg,hm⟩:=HH.out;clear HH LS;have HG:=xa_ hg;by_cases hi:i<l.length;rotate_left
  · have hlt:¬((i:Int)<(l.length:Int)):=(by omega);rw[List.drop_eq_nil_of_le (by omega)] at hm;have e:Z=true:=hm.symm;subst e;clear hg hm HP HX;go_wp2_with fail
    go_ret;exact⟨rfl,HG.out⟩
  have hlt:((i:Int)<(l.length:Int)):=(by omega);have hwi:IntKind.i64.wrap ((i:Int)+1)=i+1:=IntWalk.i64_in _ (by omega);rw[List.drop_eq_getElem_cons hi,List.all_cons] at hm;obtain⟨g,off,c',q,ex,hgl,hk,hc⟩:=HX.out.atG (sz:=2) (fun _ _=>rfl) (by decide) i hi;injection ex with e1 _ e3;subst e1 e3;have hC:=hc wr hg;have HK:=xa_ hk;have cP:=fun W' h=>HP.out i hi q W' h ((kdL.keep hk (fun b _ hl=>h.block b hl (by simp)) h.size));have HM:=xa_ hm;clear hc hk hm hg;generalize l[i]=E at hC cP HM HK;obtain⟨p,q2⟩:=E;cases q;have cP2:=xa_ cP;have y0:wr.cell? ⟨g,off+i*2,none⟩=some (.int .i64 p):=hC 0 (by decide);have y1:wr.cell? ⟨g,off+i*2+1,none⟩=some (.int .i64 q2):=hC 1 (by decide);clear hC cP HK;generalize hr:P (p,q2)=r at cP2 HM;clear hr;go_wp2_with fail
  refine(cP2.out _ (xf_ HG.out _)).mono ?_;rintro e w2 ⟨rfl,g2⟩;have G2:=xa_ (gtn (xf_ HG.out _) g2);clear g2;cases r
  · have e:Z=false:=(by rw[← HM.out];rfl);subst e;clear HM cP2;go_wp2_with fail
    go_ret;exact⟨rfl,G2.out⟩
  · have HM2:=xa_ ((Bool.true_and _).symm.trans HM.out);clear HM cP2;go_wp2_with fail
    go_roundg (l.length+1 - (i+1))
    case measure=>omega
    case rel=>exact⟨i+1,by simp,xa_ ⟨by omega,rfl,G2.out,HM2.out⟩⟩
end Go.Proofs.YtcoglmaiahpooaaGreatDoor
