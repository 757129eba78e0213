/- Texts put together: Eb. -/
import Derived.Test.YtcoglmaiahpooaaGreatDoorQ14
import Derived.Test.YtcoglmaiahpooaaGreatDoorQ26
import Derived.Lib.AppendZeros
set_option linter.unusedVariables false
set_option linter.unusedSimpArgs false
set_option maxHeartbeats 8000000
namespace Go.Proofs.YtcoglmaiahpooaaGreatDoor
open Go.RowKit
attribute [local go_sem ↓] Go.wp_at_zero Go.wp_at_succ
def qq_ (f o:Int) (i:Nat) (e:PE):Tx:=if brB f o i e=true then [40]++(shE e++[41]) else shE e
def k5_ (f o:Int) (i:Nat):List PE→List ByteArray
 | []=>[]
 | e::l=>bs (qq_ f o i e)::k5_ f o (i+1) l
theorem k6_ (f o:Int):∀(l:List PE) (i:Nat),(k5_ f o i l).length=l.length
 | [],_=>rfl
 | e::l,i=>by rw[k5_,List.length_cons,k6_ f o l,List.length_cons]
theorem ug_ (f o:Int):∀(l:List PE) (i j:Nat) (hj:j<l.length),(k5_ f o i l)[j]?=some (bs (qq_ f o (i+j) l[j]))
 | e::l,i,0,hj=>rfl
 | e::l,i,j+1,hj=>by
  rw[k5_,List.getElem?_cons_succ,ug_ f o l (i+1) j (by simpa using hj)];simp[Nat.add_assoc,Nat.add_comm 1 j]
theorem qr_ (sep:Tx) (f o:Int) (i:Nat) (e:PE) (l:List PE):shK sep f o i (e::l)=(if i=0 then [] else sep)++(qq_ f o i e++shK sep f o (i+1) l):=by
 rw[shK,qq_]
def SX (W:World) (e:PE) (k:Value):Prop:=∀ W',W.grownBy W' none→Calls Tryz.prog 31 #[exV e k] W' (xv_ W' (bs (shE e)))
def jO (o:Int):Nat:=if o=1 then 0 else if o=2 then 1 else if o=3 then 0 else if o=4 then 1 else if o=5 then 2 else if o=6 then 0 else if o=7 then 0 else if o=8 then 0 else if o=9 then 0 else if o=10 then 1 else if o=11 then 0 else if o=13 then 1 else if o=12 then 2 else 3
theorem afg_ (o:Int) (h1:1≤o) (h14:o≤14):jO o<(opL (lvS o)).length∧(sgL (lvS o)).length=(opL (lvS o)).length∧(opL (lvS o)).length≤4:=by
 have ho:o=1∨o=2∨o=3∨o=4∨o=5∨o=6∨o=7∨o=8∨o=9∨o=10∨o=11∨o=12∨o=13∨o=14:=(by omega);rcases ho with rfl|rfl|rfl|rfl|rfl|rfl|rfl|rfl|rfl|rfl|rfl|rfl|rfl|rfl <;> decide
theorem ajg_ (o:Int) (h1:1≤o) (h14:o≤14) (i:Nat) (hi:i<(opL (lvS o)).length) (hs:i<(sgL (lvS o)).length):(((opL (lvS o))[i]==o) && ((sgL (lvS o))[i] != [38]))=decide (i=jO o):=by
 have hl:=(afg_ o h1 h14).2.2;have ho:o=1∨o=2∨o=3∨o=4∨o=5∨o=6∨o=7∨o=8∨o=9∨o=10∨o=11∨o=12∨o=13∨o=14:=(by omega);have hi4:i=0∨i=1∨i=2∨i=3:=(by omega);rcases ho with rfl|rfl|rfl|rfl|rfl|rfl|rfl|rfl|rfl|rfl|rfl|rfl|rfl|rfl <;> rcases hi4 with rfl|rfl|rfl|rfl <;> first|rfl|(exfalso;revert hi;decide)
theorem aew_ (o:Int) (h1:1≤o) (h14:o≤14):(sgL (lvS o))[jO o]?.map upL=some (opT o):=by
 have ho:o=1∨o=2∨o=3∨o=4∨o=5∨o=6∨o=7∨o=8∨o=9∨o=10∨o=11∨o=12∨o=13∨o=14:=(by omega);rcases ho with rfl|rfl|rfl|rfl|rfl|rfl|rfl|rfl|rfl|rfl|rfl|rfl|rfl|rfl <;> decide
theorem ajh_ {W:World} {q:Nat} {l:Int} (h:W.heap[q]?=some (sgO l)) (i:Nat) (hi:i<(sgL l).length):W.cell? ⟨q,i,none⟩=some (.string ⟨((sgL l)[i]'hi).toArray⟩):=by
 rw[xn_ h];simp[hi]
theorem aji_ {α:Type} {l:List α} (h:l.length=2):∃ a b,l=[a,b]:=by
 match l,h with
 | [a,b],_=>exact⟨a,b,rfl⟩
theorem adc_ {o:Int} (h:0<lvS o):1≤o∧o≤14:=by
 by_cases hh:0≤o∧o≤14
 · have:o≠0:=(by rintro rfl;revert h;decide)
   omega
 ·rw[va_ hh] at h;omega
set_option maxRecDepth 100000 in
theorem ah2_ {W:World} {ok:Nat→Prop} {x:Option Addr} {c:Nat} (f o kd n:Int) (nm pt:ByteArray) (a:Int) (ks:List PE) (hx:Xs W ok (.slice x ks.length c) ks) (hnm:nm.size≤4000000) (hpt:pt.size≤4000000) (hS:∀(i:Nat) (hi:i<ks.length),(shE ks[i]).length≤400000000)
 (hH:hdB f o kd n nm pt ks.length=true) (hI:∀(i:Nat) (hi:i<ks.length) (ka:Option Addr) (kc:Nat) (W':World),W.grownBy W' none→Xs W' ok (.slice ka ks[i].kids.length kc) ks[i].kids→SX W' ks[i] (.slice ka ks[i].kids.length kc)) :
 Calls Tryz.prog 31 #[xV f o kd n nm pt a (.slice x ks.length c)] W (xv_ W (bs (shE (.mk f o kd n nm pt a ks)))):=by
 obtain⟨T,hT⟩:∃ T,shE (.mk f o kd n nm pt a ks)=T:=⟨_,rfl⟩;rw[hT];have HT:=xa_ hT;have HX:=xa_ hx;have HS:=xa_ hS;have HH:=xa_ hH;have HI:=xa_ hI;have hle:=hx.le;have h62:Hid (f=6→ks.length≤2):=xa_ fun h=>by
  subst h;rw[hdB] at hH;simp at hH;omega
 have h6o:Hid (f=6→0<lvS o∧ks.length=2):=xa_ fun h=>by
  subst h;rw[hdB] at hH;simp at hH;exact⟨hH.2.1,hH.2.2.2⟩
 clear hT hx hS hH hI;obtain⟨KL,hKL⟩:∃ K,k5_ f o 0 ks=K:=⟨_,rfl⟩;have HK:Hid (∀(i:Nat) (hi:i<ks.length),KL[i]?=some (bs (qq_ f o i ks[i]))):=xa_ fun i hi=>by rw[← hKL,ug_ f o ks 0 i hi,Nat.zero_add]
 have hKn:KL.length=ks.length:=(by rw[← hKL,k6_]);clear hKL;obtain⟨W1,hW1⟩:∃ X,X=W.alloc (.cells #[.int .i64 f,.int .i64 o,.int .i64 kd,.int .i64 n,.string nm,.string pt,.int .i64 a,.slice x ks.length c] 50):=⟨_,rfl⟩;have A1:Hid (W1.heap[W.heap.size]?=some (.cells #[.int .i64 f,.int .i64 o,.int .i64 kd,.int .i64 n,.string nm,.string pt,.int .i64 a,.slice x ks.length c] 50)):=hW1▸xe_ rfl _;have G1:Hid (W.grownBy W1 none):=hW1▸gr1 _ _;have HW:=xa_ hW1;clear hW1;go_enter Tryz.func31,Tryz.ntmps31;go_upto_block 0 with fail
 rw[← HW.out];clear HW;obtain⟨p1,p2,p3,p4,p5,p6⟩:=xb_ A1.out;go_cut [3] from 11 (fun s3 wx=>∃(a0:Option Addr) (cap:Nat),s3=.slice a0 ks.length cap∧Hid (W1.grownBy wx none∧OwnS W1.heap.size wx a0 ks.length cap (KL)))
 case first=>
  as_aux_lemma=>
   go_wp2_with fail
   go_loopg [3,4,5] (ks.length+1) (fun gk s3 s4 _ wx=>∃(i:Nat) (a0:Option Addr) (cap:Nat),s3=.slice a0 i cap∧s4=.int .i64 (i:Int)∧Hid (i≤ks.length∧gk=ks.length+1 - i)∧Hid (W1.grownBy wx none∧OwnS W1.heap.size wx a0 i cap (KL.take i)))
   case atStart=>exact⟨0,none,0,rfl,rfl,xa_ ⟨by omega,rfl⟩,xa_ ⟨gr0 _,OwnS.none _ _⟩⟩
   case round=>
    clear p1 p2 p3 p4 p5 p6;obtain⟨i,a0,cap,rfl,rfl,HB,HR⟩:=hrel;obtain⟨hi1,hgk⟩:=HB.out;obtain⟨gX,oX⟩:=HR.out;clear HB HR;have GX:=xa_ gX;have OX:=xa_ oX;have AX:=xa_ (kept gX A1.out);have GW:=xa_ (gtn G1.out gX);clear gX oX;obtain⟨p1,p2,p3,p4,p5,p6⟩:=xb_ AX.out;by_cases hi:i<ks.length;rotate_left
    · have hlt:¬((i:Int)<(ks.length:Int)):=(by omega);obtain rfl:i=ks.length:=(by omega);go_wp2_with fail
      go_meet
      case rel=>exact⟨a0,cap,rfl,xa_ ⟨GX.out,by have:=OX.out;rw[List.take_of_length_le (by omega)] at this;exact this⟩⟩
    have hlt:((i:Int)<(ks.length:Int)):=(by omega);have hwi:IntKind.i64.wrap ((i:Int)+1)=i+1:=IntWalk.i64_in _ (by omega);obtain⟨g,off,c',ka,kc,ex,hn,hgl,hk,hc⟩:=HX.out.at8 i hi;injection ex with e1 _ e3;subst e1 e3;have hC:=hc wr GW.out;have cE:=xa_ (HI.out i hi ka kc W (gr0 _) hk);have cB:=xa_ (fun X (h:W.grownBy X none)=>uw_ f o kd n nm pt a ks (HX.out.gw h) i hi (fun h6=>by have:=h62.out h6;omega));have hkT:=HK.out i hi;have hlen:=HS.out i hi;clear hc hk;rw[qq_] at hkT;generalize ks[i]=E at hC cE cB hkT hlen;obtain⟨kf,ko,kk,kn,knm,kpt,kat,kks⟩:=E;obtain⟨y0,y1,y2,y3,y4,y5,y6,y7⟩:=hC.all;clear hC;obtain⟨TE,hTE⟩:∃ T,shE (.mk kf ko kk kn knm kpt kat kks)=T:=⟨_,rfl⟩;have cE1:Hid (∀ X,W.grownBy X none→Calls Tryz.prog 31 #[xV kf ko kk kn knm kpt kat (.slice ka kks.length kc)] X (xv_ X (bs TE))):=xa_ fun X h=>hTE▸cE.out X h;rw[hTE] at hkT hlen;clear hTE cE;obtain⟨S,hSB⟩:∃ S,bs TE=S:=⟨_,rfl⟩;have hSz:S.size≤400000000:=(by rw[← hSB];exact hlen);have hSd:S.data.toList=TE:=(by rw[← hSB]);rw[hSB] at cE1;have HSB:=xa_ hSB;clear hSB hlen;generalize brB f o i (.mk kf ko kk kn knm kpt kat kks)=bb at cB hkT;go_wp2_with fail
    refine(cE1.out _ GW.out).mono ?_;rintro e w2 ⟨rfl,g⟩;dsimp only;have GX2:=xa_ (gtn GX.out g);have GW2:=xa_ (gtn GW.out g);have OX2:=xa_ (OX.out.kept g);have AX2:=xa_ (kept g AX.out);clear g GX GW OX AX p1 p2 p3 p4 p5 p6 y0 y1 y2 y3 y4 y5 y6 y7;obtain⟨p1,p2,p3,p4,p5,p6⟩:=xb_ AX2.out;go_wp2_with fail
    refine(cB.out _ GW2.out).mono ?_;rintro e w3 ⟨rfl,g⟩;dsimp only;have GX:=xa_ (gtn GX2.out g);have GW:=xa_ (gtn GW2.out g);have OX:=xa_ (OX2.out.kept g);have AX:=xa_ (kept g AX2.out);clear g GX2 GW2 OX2 AX2 p1 p2 p3 p4 p5 p6 cB cE1;obtain⟨p1,p2,p3,p4,p5,p6⟩:=xb_ AX.out;have tk:∀ s,KL[i]?=some s→KL.take (i+1)=KL.take i++[s]:=fun s h=>by
     rw[List.take_add_one,h];rfl
    cases bb with
    | false=>
     have hk2:KL[i]?=some S:=(by rw[← HSB.out];simpa using hkT);have htk:=xa_ (tk S hk2);clear hkT tk hk2;obtain⟨a1,cap1,w4,r1,r2,r3⟩:=OX.out.more S (by omega) GX.out.size;have R2:=xa_ r2;have R3:=xa_ r3;have HRUN:=xa_ r1;clear r1 r2 r3;go_wp2_with (first|(at_builtin;go_must (refine Lib.wpList_append_run _ rfl _ _ 70 70 rfl _ _ rfl rfl _ _ HRUN.out ?_)))
     go_roundg (ks.length+1 - (i+1))
     case measure=>omega
     case rel=>exact⟨i+1,a1,cap1,rfl,by simp,xa_ ⟨by omega,rfl⟩,xa_ ⟨R3.out _ (Nat.le_refl _) GX.out,by rw[htk.out];exact R2.out⟩⟩
    | true=>
     have z1:((⟨#[40]⟩:ByteArray)++S).size=1+S.size:=ByteArray.size_append;have z2:((⟨#[40]⟩:ByteArray)++S++(⟨#[41]⟩:ByteArray)).size=1+S.size+1:=(by rw[ByteArray.size_append,z1];rfl);have hk2:KL[i]?=some ((⟨#[40]⟩:ByteArray)++S++(⟨#[41]⟩:ByteArray)):=by
      rw[hkT];congr 1;rw[if_pos rfl];exact(yp_ (by simp[ByteArray.data_append,hSd])).symm
     have htk:=xa_ (tk _ hk2);clear hkT tk hk2;obtain⟨a1,cap1,w4,r1,r2,r3⟩:=OX.out.more ((⟨#[40]⟩:ByteArray)++S++(⟨#[41]⟩:ByteArray)) (by omega) GX.out.size;have R2:=xa_ r2;have R3:=xa_ r3;have HRUN:=xa_ r1;clear r1 r2 r3;go_wp2_with (first|(at_builtin;go_must (refine Lib.wpList_append_run _ rfl _ _ 70 70 rfl _ _ rfl rfl _ _ HRUN.out ?_)))
     go_roundg (ks.length+1 - (i+1))
     case measure=>omega
     case rel=>exact⟨i+1,a1,cap1,rfl,by simp,xa_ ⟨by omega,rfl⟩,xa_ ⟨R3.out _ (Nat.le_refl _) GX.out,by rw[htk.out];exact R2.out⟩⟩
 case rest=>
  obtain⟨a0,cap,rfl,HC⟩:=hcut;obtain⟨gX,oX⟩:=HC.out;clear HC p1 p2 p3 p4 p5 p6 HX HI;have GX:=xa_ gX;have OX:=xa_ oX;have AX:=xa_ (kept gX A1.out);have GW:=xa_ (gtn G1.out gX);clear gX oX A1 G1;obtain⟨p1,p2,p3,p4,p5,p6⟩:=xb_ AX.out;have hf:=hd_f HH.out;have HKz:Hid (∀(i:Nat) (hi:i<ks.length),(qq_ f o i ks[i]).length≤400000002):=xa_ fun i hi=>by
   have:=HS.out i hi;rw[qq_];split <;> simp <;> omega
  rcases hf with rfl|rfl|rfl|rfl|rfl|rfl|rfl
  · as_aux_lemma=>
     have hl:yk_ kd n=true:=(by have:=HH.out;rw[hdB,if_pos rfl,Bool.and_eq_true] at this;exact this.1);have HE:Hid (T=yf_ kd n):=(by show _=_;rw[← HT.out,shE,if_pos rfl]);by_cases k0:kd=0
     · subst k0;have hn:xu_ n=true:=(by simpa[yk_] using hl);have cD:=xa_ (qz_ n hn);have HE:Hid (T=Lib.itoa n):=(by show _=_;rw[HE.out];simp[yf_]);clear hl hn;go_wp2_with fail
       refine(cD.out _).mono ?_;rintro e w2 ⟨rfl,g⟩;dsimp only;have G:=xa_ (gtn GW.out g);clear g;go_wp2_with fail
       go_ret;exact⟨by first|(rw[HE.out];done)|(rw[HE.out];rfl),G.out⟩
     · have cD:=xa_ (abd_ kd n hl k0);have j0:(kd==0)=false:=(by rw[beq_eq_false_iff_ne];exact k0);clear hl k0;go_wp2_with fail
       refine(cD.out _).mono ?_;rintro e w2 ⟨rfl,g⟩;dsimp only;have G:=xa_ (gtn GW.out g);clear g;go_wp2_with fail
       go_ret;exact⟨by first|(rw[HE.out];done)|(rw[HE.out];rfl),G.out⟩
  · as_aux_lemma=>
     have HE:Hid (bs T=nm):=(by show _=_;rw[← HT.out,shE,if_neg (by decide),if_pos rfl]);go_wp2_with fail
     go_ret;exact⟨by first|(rw[HE.out];done)|(rw[HE.out];rfl),GW.out⟩
  · as_aux_lemma=>
     have hn1:ks.length=1:=(by have:=HH.out;simp[hdB] at this;omega);have hL0:=HK.out 0 (by omega);have hz0:=HKz.out 0 (by omega);have hTe:shK [] 3 o 0 ks=qq_ 3 o 0 (ks[0]'(by omega)):=by
      obtain⟨e,rfl⟩:∃ e,ks=[e]:=List.length_eq_one_iff.1 hn1;rw[qr_,shK];simp
     obtain⟨TK,hTK⟩:∃ T,qq_ 3 o 0 (ks[0]'(by omega))=T:=⟨_,rfl⟩;rw[hTK] at hL0 hz0 hTe;clear hTK;have hKl:0<KL.length:=(by omega);obtain⟨g0,rfl,hg0,hc0⟩:=OX.out.at 0 hKl;rw[List.getElem?_eq_getElem hKl,Option.some.injEq] at hL0;rw[hL0] at hc0;obtain⟨K0,hK0⟩:∃ K,bs TK=K:=⟨_,rfl⟩;have hKd:K0.data.toList=TK:=(by rw[← hK0]);have hKs:K0.size≤400000002:=(by rw[← hK0];exact hz0);rw[hK0] at hc0;clear hK0 hL0 hz0 hKl;have hn1':(0:Int)<(ks.length:Int):=(by omega);have z1:(nm++(⟨#[91]⟩:ByteArray)).size=nm.size+1:=ByteArray.size_append;have z2:(nm++(⟨#[91]⟩:ByteArray)++K0).size=nm.size+1+K0.size:=(by rw[ByteArray.size_append,z1]);have z3:(nm++(⟨#[91]⟩:ByteArray)++K0++(⟨#[93]⟩:ByteArray)).size=nm.size+1+K0.size+1:=(by rw[ByteArray.size_append,z2];rfl);have HE:Hid (bs T=nm++(⟨#[91]⟩:ByteArray)++K0++(⟨#[93]⟩:ByteArray)):=by
      show _=_
      rw[← HT.out,shE,if_neg (by decide),if_neg (by decide),if_pos rfl,hTe];exact(yp_ (by simp[ByteArray.data_append,hKd])).symm
     clear hTe HK HKz HS HT HH;go_wp2_with fail
     go_quiet (fail)
     go_wp2_with fail
     go_ret;exact⟨by first|(rw[HE.out];done)|(rw[HE.out];rfl),xt_ GW.out _⟩
  · as_aux_lemma=>
     have z1:(nm++(⟨#[46]⟩:ByteArray)).size=nm.size+1:=ByteArray.size_append;have z2:(nm++(⟨#[46]⟩:ByteArray)++pt).size=nm.size+1+pt.size:=(by rw[ByteArray.size_append,z1]);have HE:Hid (bs T=nm++(⟨#[46]⟩:ByteArray)++pt):=by
      show _=_
      rw[← HT.out,shE,if_neg (by decide),if_neg (by decide),if_neg (by decide),if_pos rfl];exact(yp_ (by simp[ByteArray.data_append])).symm
     clear HK HKz HS HT HH;go_wp2_with fail
     go_ret;exact⟨by first|(rw[HE.out];done)|(rw[HE.out];rfl),GW.out⟩
  · as_aux_lemma=>
     have hn1:ks.length=1:=(by have:=HH.out;simp[hdB] at this;omega);have hL0:=HK.out 0 (by omega);have hz0:=HKz.out 0 (by omega);have hTe:shK [] 5 o 0 ks=qq_ 5 o 0 (ks[0]'(by omega)):=by
      obtain⟨e,rfl⟩:∃ e,ks=[e]:=List.length_eq_one_iff.1 hn1;rw[qr_,shK];simp
     obtain⟨TK,hTK⟩:∃ T,qq_ 5 o 0 (ks[0]'(by omega))=T:=⟨_,rfl⟩;rw[hTK] at hL0 hz0 hTe;clear hTK;have hKl:0<KL.length:=(by omega);obtain⟨g0,rfl,hg0,hc0⟩:=OX.out.at 0 hKl;rw[List.getElem?_eq_getElem hKl,Option.some.injEq] at hL0;rw[hL0] at hc0;obtain⟨K0,hK0⟩:∃ K,bs TK=K:=⟨_,rfl⟩;have hKd:K0.data.toList=TK:=(by rw[← hK0]);have hKs:K0.size≤400000002:=(by rw[← hK0];exact hz0);rw[hK0] at hc0;clear hK0 hL0 hz0 hKl;have hn1':(0:Int)<(ks.length:Int):=(by omega);have ho:o=21∨o=22:=(by have:=HH.out;simp[hdB] at this;omega);have z1:((⟨#[78,79,84,32]⟩:ByteArray)++K0).size=4+K0.size:=ByteArray.size_append;have z2:((⟨#[45]⟩:ByteArray)++K0).size=1+K0.size:=ByteArray.size_append;rcases ho with rfl|rfl
     · have HE:Hid (bs T=(⟨#[78,79,84,32]⟩:ByteArray)++K0):=by
        show _=_
        rw[← HT.out,shE,if_neg (by decide),if_neg (by decide),if_neg (by decide),if_neg (by decide),if_pos rfl,if_pos rfl,hTe];exact(yp_ (by simp[ByteArray.data_append,hKd])).symm
       clear hTe HK HKz HS HT HH;go_wp2_with fail
       go_ret;exact⟨by first|(rw[HE.out];done)|(rw[HE.out];rfl),GW.out⟩
     · have HE:Hid (bs T=(⟨#[45]⟩:ByteArray)++K0):=by
        show _=_
        rw[← HT.out,shE,if_neg (by decide),if_neg (by decide),if_neg (by decide),if_neg (by decide),if_pos rfl,if_neg (by decide),hTe];exact(yp_ (by simp[ByteArray.data_append,hKd])).symm
       clear hTe HK HKz HS HT HH;go_wp2_with fail
       go_ret;exact⟨by first|(rw[HE.out];done)|(rw[HE.out];rfl),GW.out⟩
  · as_aux_lemma=>
     obtain⟨hlo,hn2⟩:=h6o.out rfl;obtain⟨ho1,ho14⟩:=adc_ hlo;obtain⟨hj1,hj2,hj4⟩:=afg_ o ho1 ho14;have hJ:=xa_ (ajg_ o ho1 ho14);have hJT:=xa_ (aew_ o ho1 ho14);have hL0:=HK.out 0 (by omega);have hL1:=HK.out 1 (by omega);have hz0:=HKz.out 0 (by omega);have hz1:=HKz.out 1 (by omega);have hTe:shK (32::(opT o++[32])) 6 o 0 ks=qq_ 6 o 0 (ks[0]'(by omega))++((32::(opT o++[32]))++qq_ 6 o 1 (ks[1]'(by omega))):=by
      obtain⟨e1,e2,rfl⟩:∃ e1 e2,ks=[e1,e2]:=aji_ hn2;rw[qr_,qr_,shK];simp
     generalize qq_ 6 o 0 (ks[0]'(by omega))=TK at hL0 hz0 hTe;generalize qq_ 6 o 1 (ks[1]'(by omega))=TL at hL1 hz1 hTe;have hKl0:0<KL.length:=(by omega);have hKl1:1<KL.length:=(by omega);obtain⟨g0,rfl,hg0,hc0⟩:=OX.out.at 0 hKl0;obtain⟨g1,eg,_,hc1⟩:=OX.out.at 1 hKl1;injection eg with eg;injection eg with eg;subst eg;rw[List.getElem?_eq_getElem hKl0,Option.some.injEq] at hL0;rw[List.getElem?_eq_getElem hKl1,Option.some.injEq] at hL1;rw[hL0] at hc0;rw[hL1] at hc1;obtain⟨K0,hK0⟩:∃ K,bs TK=K:=⟨_,rfl⟩;obtain⟨K1,hK1⟩:∃ K,bs TL=K:=⟨_,rfl⟩;have hKd0:K0.data.toList=TK:=(by rw[← hK0]);have hKd1:K1.data.toList=TL:=(by rw[← hK1]);have hKs0:K0.size≤400000002:=(by rw[← hK0];exact hz0);have hKs1:K1.size≤400000002:=(by rw[← hK1];exact hz1);rw[hK0] at hc0;rw[hK1] at hc1;have C0:Hid (∀ X,wc.grownBy X none→X.cell? ⟨g0,0,none⟩=some (.string K0)):=xa_ fun X g=>(World.cell?_of_block (g.block _ hg0 (by simp))).trans hc0;have C1:Hid (∀ X,wc.grownBy X none→X.cell? ⟨g0,1,none⟩=some (.string K1)):=xa_ fun X g=>(World.cell?_of_block (g.block _ hg0 (by simp))).trans hc1;clear hK0 hK1 hL0 hL1 hz0 hz1 hKl0 hKl1 hc0 hc1 hg0;have cR:=xa_ (ja_ 6 o kd n nm pt a (.slice x ks.length c));rw[show rkI 6 o=lvS o by rw[rkI,if_pos rfl]] at cR;have hl7:=vm_ o;have cS:=xa_ (k1_ (lvS o) (by omega) hl7);have HTe:Hid (bs T=K0++(⟨#[32]⟩:ByteArray)++bs (opT o)++(⟨#[32]⟩:ByteArray)++K1):=by
      show _=_
      rw[← HT.out,shE,if_neg (by decide),if_neg (by decide),if_neg (by decide),if_neg (by decide),if_neg (by decide),if_pos rfl,hTe];exact(yp_ (by simp[ByteArray.data_append,hKd0,hKd1])).symm
     have ho3:=aai_ o;have hp0:(0:Int)<(ks.length:Int):=(by omega);have hp1:(1:Int)<(ks.length:Int):=(by omega);have hp0':0<ks.length:=(by omega);have hp1':1<ks.length:=(by omega);clear hTe HK HKz HS HT HH hlo hn2;generalize lvS o=l at cR cS hJ hJT hj1 hj2 hj4 hl7;go_wp2_with fail
     refine(cR.out _).mono ?_;rintro e w2 ⟨rfl,g⟩;dsimp only;have GX2:=xa_ g;have GW2:=xa_ (gtn GW.out g);have AX2:=xa_ (kept g AX.out);clear g AX p1 p2 p3 p4 p5 p6 cR;obtain⟨p1,p2,p3,p4,p5,p6⟩:=xb_ AX2.out;go_wp2_with fail
     refine(cS.out _).mono ?_;rintro e w3 ⟨rfl,g,sq,oq⟩;dsimp only;have GX3:=xa_ (gtn GX2.out g);have GW3:=xa_ (gtn GW2.out g);have AX3:=xa_ (kept g AX2.out);obtain⟨q,hq⟩:∃ q,w2.heap.size=q:=⟨_,rfl⟩;rw[hq] at sq oq ⊢;have SQ:=xa_ sq;have OQ:=xa_ oq;clear g AX2 p1 p2 p3 p4 p5 p6 cS GX2 GW2 sq oq hq;obtain⟨p1,p2,p3,p4,p5,p6⟩:=xb_ AX3.out;obtain⟨M,hM⟩:∃ M,(opL l).length=M:=⟨_,rfl⟩;have HM:=xa_ hM;rw[hj2,hM];rw[hM] at hj1 hj2 hj4;have HJ2:=xa_ hj2;clear hj2 hM;have hw1:IntKind.i64.wrap ((M:Int) - 1)=M - 1:=IntWalk.i64_in _ (by omega);go_wp2_with fail
     go_loopg [8] M (fun gk s8 wx=>∃ i:Nat,s8=.int .i64 (i:Int)∧Hid (w3.grownBy wx none)∧Hid (i<M∧jO o≤i∧gk=i+1))
     case atStart=>exact⟨M - 1,by rw[show((M - 1:Nat):Int)=(M:Int) - 1 by omega],gr0 _,xa_ ⟨by omega,by omega,by omega⟩⟩
     case round=>
      obtain⟨i,rfl,GY,HB⟩:=hrel;obtain⟨hi1,hi2,hgk⟩:=HB.out;have HJi:=xa_ hi2;clear HB p1 p2 p3 p4 p5 p6 hi2;have GXr:=xa_ (gtn GX3.out GY.out);have GWr:=xa_ (gtn GW3.out GY.out);have AXr:=xa_ (kept GY.out AX3.out);have SQr:=xa_ (kept GY.out SQ.out);have OQr:=xa_ (kept GY.out OQ.out);obtain⟨p1,p2,p3,p4,p5,p6⟩:=xb_ AXr.out;have hi0:(0:Int)≤(i:Int):=(by omega);have hiM:(i:Int)<(M:Int):=(by omega);have hiO:i<(opL l).length:=(by rw[HM.out];exact hi1);have hiS:i<(sgL l).length:=(by rw[HJ2.out];exact hi1);have ho:=afc_ OQr.out i hiO;have hs:=ajh_ SQr.out i hiS;have hj:=hJ.out i hiO hiS;have hjt:Hid (i=jO o→upL ((sgL l)[i]'hiS)=opT o):=xa_ fun e=>by
       have h:=hJT.out;rw[← e,List.getElem?_eq_getElem hiS] at h;simpa using h
      generalize(opL l)[i]'hiO=OP at ho hj;generalize(sgL l)[i]'hiS=SL at hs hj hjt;obtain⟨SG,hSG⟩:∃ S:ByteArray,⟨SL.toArray⟩=S:=⟨_,rfl⟩;have hSd:SG.data.toList=SL:=(by rw[← hSG]);rw[hSG] at hs;clear hSG;obtain⟨b1,h1⟩:∃ b,(OP==o)=b:=⟨_,rfl⟩;obtain⟨b2,h2⟩:∃ b,(SG.toList==[38])=b:=⟨_,rfl⟩;have n2:(SG.toList != [38])=!b2:=(by rw[bne,h2]);have hjb:(b1 && !b2)=decide (i=jO o):=by
       rw[← hj,h1,← n2,zj_,hSd]
      clear hj;have hSC:=xa_ (C0.out wr GXr.out);have hfr:∀ j,wr.frozen? ⟨q,j,none⟩=false:=yd_ SQr.out;cases b1 with
      | false=>
       have HN:Hid (i≠jO o):=by
        show _≠_
        intro e;rw[decide_eq_true e] at hjb;simp at hjb
       clear hjb hjt;have hwi:IntKind.i64.wrap ((i:Int) - 1)=i - 1:=IntWalk.i64_in _ (by omega);go_wp2_with fail
       go_quiet (fail)
       go_wp2_with fail
       go_roundg i
       case measure=>omega
       case rel=>exact⟨i - 1,by have:=HJi.out;have:=HN.out;rw[show((i - 1:Nat):Int)=(i:Int) - 1 by omega],xt_ GY.out _,xa_ ⟨by omega,by have:=HJi.out;have:=HN.out;omega,by have:=HJi.out;have:=HN.out;omega⟩⟩
      | true=>
      cases b2 with
      | true=>
       have HN:Hid (i≠jO o):=by
        show _≠_
        intro e;rw[decide_eq_true e] at hjb;simp at hjb
       clear hjb hjt;have hwi:IntKind.i64.wrap ((i:Int) - 1)=i - 1:=IntWalk.i64_in _ (by omega);go_wp2_with fail
       go_quiet (fail)
       go_wp2_with fail
       go_roundg i
       case measure=>omega
       case rel=>exact⟨i - 1,by have:=HJi.out;have:=HN.out;rw[show((i - 1:Nat):Int)=(i:Int) - 1 by omega],xt_ GY.out _,xa_ ⟨by omega,by have:=HJi.out;have:=HN.out;omega,by have:=HJi.out;have:=HN.out;omega⟩⟩
      | false=>
       have he:i=jO o:=(by simpa using hjb.symm);have hup:=hjt.out he;clear hjb hjt he;have cU:Hid (∀ X,wr.grownBy X none→Calls Tryz.prog 65 #[.string SG] X (fun e w'=>e=.returned (.string (bs (opT o)))∧wr.grownBy w' none)):=xa_ fun X g=>(aa8_ SG X (by
        rw[qp_,hSd];have:=congrArg List.length hup;rw[upL,List.length_map] at this;omega)).mono fun e w' h=>⟨by rw[h.1,hSd,hup],gtn g h.2⟩
       clear hup;obtain⟨OT,hOT⟩:∃ S,bs (opT o)=S:=⟨_,rfl⟩;have hOs:OT.size≤3:=(by rw[← hOT];exact ho3);rw[hOT] at cU HTe;clear hOT ho3;have z1:(K0++(⟨#[32]⟩:ByteArray)).size=K0.size+1:=ByteArray.size_append;have z2:(K0++(⟨#[32]⟩:ByteArray)++OT).size=K0.size+1+OT.size:=(by rw[ByteArray.size_append,z1]);have z3:(K0++(⟨#[32]⟩:ByteArray)++OT++(⟨#[32]⟩:ByteArray)).size=K0.size+1+OT.size+1:=(by rw[ByteArray.size_append,z2];rfl);have z4:(K0++(⟨#[32]⟩:ByteArray)++OT++(⟨#[32]⟩:ByteArray)++K1).size=K0.size+1+OT.size+1+K1.size:=(by rw[ByteArray.size_append,z3]);have yq5:¬9223372036854775807<K0.size+1:=(by omega);have yq5b:K0.size+1≤9223372036854775807:=(by omega);have yq6:¬9223372036854775807<K0.size+1+OT.size+1:=(by omega);have yq6b:K0.size+1+OT.size+1≤9223372036854775807:=(by omega);have yq1:¬9223372036854775806<K0.size:=(by omega);have yq1b:K0.size≤9223372036854775806:=(by omega);have yq2:¬9223372036854775807<K0.size+1+OT.size:=(by omega);have yq2b:K0.size+1+OT.size≤9223372036854775807:=(by omega);have yq3:¬9223372036854775806<K0.size+1+OT.size:=(by omega);have yq3b:K0.size+1+OT.size≤9223372036854775806:=(by omega);have yq4:¬9223372036854775807<K0.size+1+OT.size+1+K1.size:=(by omega);have yq4b:K0.size+1+OT.size+1+K1.size≤9223372036854775807:=(by omega);have HCC:Hid (∀ X,wr.grownBy X none→X.cell? ⟨g0,0,none⟩=some (.string K0)∧X.cell? ⟨g0,1,none⟩=some (.string K1)∧X.cell? ⟨q,i,none⟩=some (.string SG)):=xa_ fun X g=>⟨C0.out X (gtn GXr.out g),C1.out X (gtn GXr.out g),(by have:=kept g SQr.out;rw[xn_ this,← xn_ SQr.out];exact hs)⟩;go_wp2_with fail
       go_quiet (fail)
       go_upto_region 30 with fail;go_region_held3 (fun X=>X.cell? ⟨g0,0,none⟩=some (.string K0)∧X.cell? ⟨g0,1,none⟩=some (.string K1)∧X.cell? ⟨q,i,none⟩=some (.string SG)) (first|exact HCC.out _ (by assumption)|exact HCC.out _ (xi_ (xt_ (gr0 _) _))|exact HCC.out _ (xt_ (gr0 _) _)|exact HCC.out _ (gr0 _)) (first
        | (go_at_call 65;refine(cU.out _ (by first | assumption | exact xi_ (xt_ (gr0 _) _) | exact xt_ (gr0 _) _)).mono ?_;rintro e w5 ⟨rfl,g5⟩))
       all_goals
        go_wp2_with fail
        go_ret;exact⟨by first|(rw[HTe.out];done)|(rw[HTe.out];rfl),gtn GWr.out (by assumption)⟩
  · as_aux_lemma=>
     have hn8:1≤ks.length∧ks.length≤8:=(by have:=HH.out;simp[hdB] at this;omega);have HE0:Hid (bs T=bs (nm.data.toList++([40]++(shK [44,32] 7 o 0 ks++[41])))):=by
      show _=_
      rw[← HT.out,shE,if_neg (by decide),if_neg (by decide),if_neg (by decide),if_neg (by decide),if_neg (by decide),if_neg (by decide)]
     have hA:(nm++(⟨#[40]⟩:ByteArray)).size=nm.size+1:=ByteArray.size_append;have HA:Hid ((nm++(⟨#[40]⟩:ByteArray)).data.toList++(shK [44,32] 7 o 0 (ks.drop 0)++[41])=nm.data.toList++([40]++(shK [44,32] 7 o 0 ks++[41]))∧(nm++(⟨#[40]⟩:ByteArray)).size≤5000000+0*500000000):=xa_ ⟨by simp[ByteArray.data_append],by omega⟩;generalize nm.data.toList++([40]++(shK [44,32] 7 o 0 ks++[41]))=TT at HA HE0;clear HT HH HS;go_wp2_with fail
     go_loopg [9,10] (ks.length+1) (fun gk s9 s10 wx=>∃(i:Nat) (A:ByteArray),s9=.string A∧s10=.int .i64 (i:Int)∧Hid (wc.grownBy wx none)∧Hid (A.data.toList++(shK [44,32] 7 o i (ks.drop i)++[41])=TT∧A.size≤5000000+i*500000000)∧Hid (i≤ks.length∧gk=ks.length+1 - i))
     case atStart=>exact⟨0,_,rfl,rfl,gr0 _,HA,xa_ ⟨by omega,rfl⟩⟩
     case round=>
      clear HA hA p1 p2 p3 p4 p5 p6;obtain⟨i,A,rfl,rfl,GY,HA,HB⟩:=hrel;obtain⟨hi1,hgk⟩:=HB.out;have hAs:=HA.out.2;clear HB;have GWr:=xa_ (gtn GW.out GY.out);by_cases hi:i<ks.length;rotate_left
      · have hlt:¬((i:Int)<(ks.length:Int)):=(by omega);have z1:(A++(⟨#[41]⟩:ByteArray)).size=A.size+1:=ByteArray.size_append;have HE:Hid (bs T=A++(⟨#[41]⟩:ByteArray)):=by
         show _=_
         rw[HE0.out];have h:=HA.out.1;rw[List.drop_eq_nil_of_le (by omega),shK] at h;rw[← h];exact(yp_ (by simp[ByteArray.data_append])).symm
        have hA8:A.size≤5000000000:=(by omega);clear hAs;go_wp2_with fail
        go_ret;exact⟨by first|(rw[HE.out];done)|(rw[HE.out];rfl),GWr.out⟩
      have hlt:((i:Int)<(ks.length:Int)):=(by omega);have hwi:IntKind.i64.wrap ((i:Int)+1)=i+1:=IntWalk.i64_in _ (by omega);have hLi:=HK.out i hi;have hzi:=HKz.out i hi;have hA1:=HA.out.1;rw[List.drop_eq_getElem_cons hi,qr_] at hA1;generalize qq_ 7 o i ks[i]=TK at hLi hzi hA1;have hKl:i<KL.length:=(by omega);obtain⟨g0,e0,hg0,hc0⟩:=(OX.out.kept GY.out).at i hKl;subst e0;rw[List.getElem?_eq_getElem hKl,Option.some.injEq] at hLi;rw[hLi] at hc0;obtain⟨K0,hK0⟩:∃ K,bs TK=K:=⟨_,rfl⟩;have hKd:K0.data.toList=TK:=(by rw[← hK0]);have hKs:K0.size≤400000002:=(by rw[← hK0];exact hzi);rw[hK0] at hc0;have HA1:=xa_ hA1;clear hK0 hLi hzi hKl hA1 HA;have hA8:A.size≤5000000000:=(by omega);have HAs:=xa_ hAs;clear hAs;by_cases h0:i=0
      · subst h0;have z1:(A++K0).size=A.size+K0.size:=ByteArray.size_append;go_wp2_with fail
        go_roundg (ks.length+1 - (0+1))
        case measure=>omega
        case rel=>exact⟨1,A++K0,rfl,rfl,GY,xa_ ⟨by rw[← HA1.out];simp[ByteArray.data_append,hKd],by rw[z1];have:=HAs.out;omega⟩,xa_ ⟨by omega,rfl⟩⟩
      · have hp1:0<i:=(by omega);have hp2:(0:Int)<(i:Int):=(by omega);have z0:(A++(⟨#[44,32]⟩:ByteArray)).size=A.size+2:=ByteArray.size_append;have z1:(A++(⟨#[44,32]⟩:ByteArray)++K0).size=A.size+2+K0.size:=(by rw[ByteArray.size_append,z0]);have HE:=xa_ (HA1.out);rw[if_neg h0] at HE;clear HA1 h0;go_wp2_with fail
        go_roundg (ks.length+1 - (i+1))
        case measure=>omega
        case rel=>exact⟨i+1,A++(⟨#[44,32]⟩:ByteArray)++K0,rfl,by simp,GY,xa_ ⟨by rw[← HE.out];simp[ByteArray.data_append,hKd],by rw[z1];have:=HAs.out;omega⟩,xa_ ⟨by omega,rfl⟩⟩
theorem ah3_:∀(m:Nat) (e:PE),SizeOf.sizeOf e<m→∀(d:Int),xr_ d e=true→yj_ e≤4000000→∀(W:World) (ok:Nat→Prop) (k:Value),Xs W ok k e.kids→SX W e k:=by
 intro m;induction m with
 | zero=>intro e h;omega
 | succ m ih=>
  intro e h d hd hc W ok k hx W' hg;obtain⟨x,c,rfl⟩:=hx.sl;obtain⟨f,o,kd,nn,nm,pt,a,ks⟩:=e;have hd0:=hd;rw[xr_,Bool.and_eq_true,Bool.and_eq_true] at hd;rw[yj_] at hc;have hK:∀(i:Nat) (hi:i<ks.length),∃ d',xr_ d' ks[i]=true:=fun i hi=>vo_ f o _ ks 0 hd.2 i hi;refine ah2_ f o kd nn nm pt a ks (hx.gw hg) (by omega) (by omega) ?_ hd.1.2 ?_
  ·intro i hi;obtain⟨d',h'⟩:=hK i hi;have:=qd_ ks[i] d' h';have:=qa_ ks i hi;omega
  intro i hi ka kc W2 h2 hk;obtain⟨d',h'⟩:=hK i hi;refine ih ks[i] ?_ d' h' ?_ W2 ok _ hk
  ·have s1:SizeOf.sizeOf ks[i]<SizeOf.sizeOf ks:=List.sizeOf_lt_of_mem (List.getElem_mem hi);simp at h;omega
  ·have:=qa_ ks i hi;omega
theorem sx {W:World} {ok:Nat→Prop} {k:Value} {e:PE} {d:Int} (hd:xr_ d e=true) (hc:yj_ e≤4000000) (hx:Xs W ok k e.kids):SX W e k:=ah3_ _ e (Nat.lt_succ_self _) d hd hc W ok k hx
end Go.Proofs.YtcoglmaiahpooaaGreatDoor
