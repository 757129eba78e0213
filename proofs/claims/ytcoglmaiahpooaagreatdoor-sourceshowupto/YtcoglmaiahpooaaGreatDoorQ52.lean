/- Texts put together: Ed4. -/
import Derived.Test.YtcoglmaiahpooaaGreatDoorQ45
set_option linter.unusedVariables false
set_option linter.unusedSimpArgs false
set_option maxHeartbeats 8000000
namespace Go.Proofs.YtcoglmaiahpooaaGreatDoor
open Go.RowKit
attribute [local go_sem ↓] Go.wp_at_zero Go.wp_at_succ
theorem ado_ (p:Int×Int) (u:Unit):(kdL.c p u).length=2:=rfl
set_option maxRecDepth 100000 in
theorem ss_4 {W:World} {ok:Nat→Prop} (x1 x2 x3 x4 x5:Option Addr) (c1 c2 c3 c4 c5:Nat) (sa:Int) (nm:ByteArray) (it:Bool) (es:List PE) (ps:List PArg) (ms:List PArm) (el bo:List PS) (lo hi by1 ti:Int) (n:Nat) (hn:n≤1000) (hnm:nm.size≤4000000) (hb:SL W (.slice x5 bo.length c5) bo (n+2)) (hbl:(shL (n+2) bo).length≤100000000000) (hx3:Li kdM 104 W ok (.slice x3 ms.length c3) ms) (hM:∀(i:Nat) (hi:i<ms.length),∀ p∈ms[i].labels,y2_ p=true) (hB3:∀(i:Nat) (hi:i<ms.length) (k:Value) (W':World),W.grownBy W' none→Sm W' ok k (.inl ms[i].body)→SL W' k ms[i].body (n+4)) (hel:SL W (.slice x4 el.length c4) el (n+2)) (hell:(shL (n+2) el).length≤100000000000) (hTl:(shS n (.mk 4 sa nm it es ps ms el bo lo hi by1 ti)).length≤100000000000) (hx1:Xs W ok (.slice x1 es.length c1) es) (hE:∀(i:Nat) (hi:i<es.length),∃ d,xr_ d es[i]=true∧yj_ es[i]≤4000000) (hes:es.length=1) :
 Calls Tryz.prog 66 #[sV 4 sa nm it (.slice x1 es.length c1) (.slice x2 ps.length c2) (.slice x3 ms.length c3) (.slice x4 el.length c4) (.slice x5 bo.length c5) lo hi by1 ti,.string (bs (sp n))] W (xv_ W (bs (shS n (.mk 4 sa nm it es ps ms el bo lo hi by1 ti)))):=by
 obtain⟨T,hT⟩:∃ T,shS n (.mk 4 sa nm it es ps ms el bo lo hi by1 ti)=T:=⟨_,rfl⟩;rw[hT];rw[hT] at hTl;have HT:=xa_ hT;clear hT;obtain⟨PA,hPA⟩:∃ P,bs (sp n)=P:=⟨_,rfl⟩;have hPs:PA.size≤1000:=(by rw[← hPA,z2_];exact hn);have hPd:PA.data.toList=sp n:=(by rw[← hPA]);obtain⟨BB,hBB⟩:∃ P,bs (shL (n+2) bo)=P:=⟨_,rfl⟩;have hBs:BB.size≤100000000000:=(by rw[← hBB];exact hbl);have hBd:BB.data.toList=shL (n+2) bo:=(by rw[← hBB]);have cB:Hid (∀ X,W.grownBy X none→Calls Tryz.prog 32 #[.slice x5 bo.length c5,.string (PA++(⟨#[32,32]⟩:ByteArray))] X (xv_ X BB)):=xa_ fun X g=>by
  rw[← hPA,y8_ n 2 _ rfl,← hBB];exact hb X g
 rw[hPA];have zp:(PA++(⟨#[32,32]⟩:ByteArray)).size=PA.size+2:=ByteArray.size_append;have qp:PA.size≤9223372036854775805:=(by omega);obtain⟨RT,hRT⟩:∃ R,qs_ n el++(sp n++[69,78,68,95,67,65,83,69,59,10])=R:=⟨_,rfl⟩;obtain⟨g0,off0,f0,o0,kd0,m0,nm0,pt0,a0,ka0,l0,kc0,E0,hx0,hEd0,hEs0,hC0,hE0⟩:=jn_ hx1 0 (by omega) (hE 0 (by omega));have HC0:=xa_ hC0;have cE0:=xa_ hE0;clear hC0 hE0;have HA0:Hid ((PA++(⟨#[67,65,83,69,32]⟩:ByteArray)++E0++(⟨#[32,79,70,10]⟩:ByteArray)).data.toList++(shA 4 n 0 ms++RT)=T):=by
  show _=_
  rw[← HT.out,shS,if_neg (by decide),if_neg (by decide),if_neg (by decide),if_pos rfl,← hRT];simp[ByteArray.data_append,hPd,hEd0,qs_]
 have cEl:Hid (∀ X,W.grownBy X none→Calls Tryz.prog 102 #[.slice x4 el.length c4,.string PA] X (xv_ X (bs (qs_ n el)))):=xa_ fun X g=>by
  rw[← hPA];exact uh_ x4 c4 el n hn hell (fun X2 g2=>hel X2 (gtn g g2))
 have hels:(qs_ n el).length≤100000002000:=by
  rw[qs_];split
  ·simp
  ·have:=hell;simp[sp];omega
 obtain⟨EL,hEL⟩:∃ P,bs (qs_ n el)=P:=⟨_,rfl⟩;have hELs:EL.size≤100000002000:=(by rw[← hEL];exact hels);have hELd:EL.data.toList=qs_ n el:=(by rw[← hEL]);rw[hEL] at cEl;have HX3:=xa_ hx3;have HMM:=xa_ hM;have HB3:=xa_ hB3;have HPA:=xa_ hPA;have HRT:=xa_ hRT;have hle:=hx3.le;have z5_0:(PA++(⟨#[67,65,83,69,32]⟩:ByteArray)).size=PA.size+5:=ByteArray.size_append;have qz5_0:¬9223372036854775807<PA.size+5:=(by omega);have uz5_0:PA.size+5≤9223372036854775807:=(by omega);have rz5_0:¬9223372036854775802<PA.size:=(by omega);have wz5_0:PA.size≤9223372036854775802:=(by omega);have z5_1:(PA++(⟨#[67,65,83,69,32]⟩:ByteArray)++E0).size=PA.size+5+E0.size:=(by rw[ByteArray.size_append,z5_0]);have qz5_1:¬9223372036854775807<PA.size+5+E0.size:=(by omega);have uz5_1:PA.size+5+E0.size≤9223372036854775807:=(by omega);have z5_2:(PA++(⟨#[67,65,83,69,32]⟩:ByteArray)++E0++(⟨#[32,79,70,10]⟩:ByteArray)).size=PA.size+5+E0.size+4:=(by rw[ByteArray.size_append,z5_1];rfl);have qz5_2:¬9223372036854775807<PA.size+5+E0.size+4:=(by omega);have uz5_2:PA.size+5+E0.size+4≤9223372036854775807:=(by omega);have rz5_2:¬9223372036854775803<PA.size+5+E0.size:=(by omega);have wz5_2:PA.size+5+E0.size≤9223372036854775803:=(by omega);have hp0:(0:Int)<(es.length:Int):=(by omega);have hp0n:0<es.length:=(by omega);clear hes;subst hx0;clear hx1;clear hb hbl hPA hBB hx3 hM HT hB3 hel hell hels hEL hRT;go_enter Tryz.func66,Tryz.ntmps66;go_wp2_with fail
 refine(cB.out _ (gr1 _ _)).mono ?_;rintro e w2 ⟨rfl,g⟩;dsimp only;have AX:=xa_ (kept g (xe_ (by first|rfl|simp) _));have GX:=xa_ (gtn (gr1 _ _) g);clear g cB zp qp;obtain⟨p1,p2,p3,p4,p5,p6⟩:=xb_ AX.out;obtain⟨v0,v1,v2,v3,v4,v5,v6,v7⟩:=HC0.out w2 GX.out;simp only[Nat.zero_mul,Nat.add_zero] at v0 v1 v2 v3 v4 v5 v6 v7;go_wp2_with fail
 refine(cE0.out _ GX.out).mono ?_;rintro e w3 ⟨rfl,g⟩;dsimp only;have AX3:=xa_ (kept g AX.out);have GX3:=xa_ (gtn GX.out g);clear g AX GX v0 v1 v2 v3 v4 v5 v6 v7 p1 p2 p3 p4 p5 p6 cE0;have AX:=AX3;have GX:=GX3;clear AX3 GX3;obtain⟨p1,p2,p3,p4,p5,p6⟩:=xb_ AX.out;go_upto_block 5 with fail
 go_cut [12] from 17 (fun s12 wx=>∃ A:ByteArray,s12=.string A∧Hid (w3.grownBy wx none)∧Hid (A.data.toList++RT=T))
 case first=>
  as_aux_lemma=>
   go_wp2_with fail
   generalize(PA++(⟨#[67,65,83,69,32]⟩:ByteArray)++E0++(⟨#[32,79,70,10]⟩:ByteArray))=A0 at HA0 ⊢;have LS:Hid (∃(i:Nat) (A:ByteArray),Value.string A0=.string A∧Value.int .i64 0=.int .i64 (i:Int)∧Hid (w3.grownBy w3 none)∧Hid (A.data.toList++(shA 4 n i (ms.drop i)++RT)=T)∧Hid (i≤ms.length∧ms.length+1=ms.length+1 - i)):=⟨0,A0,rfl,rfl,gr0 _,HA0.out,xa_ ⟨by omega,rfl⟩⟩;clear HA0 p1 p2 p3 p4 p5 p6;go_loopg [12,13,14,15] (ms.length+1) (fun gk s12 s13 _ _ wx=>∃(i:Nat) (A:ByteArray),s12=.string A∧s13=.int .i64 (i:Int)∧Hid (w3.grownBy wx none)∧Hid (A.data.toList++(shA 4 n i (ms.drop i)++RT)=T)∧Hid (i≤ms.length∧gk=ms.length+1 - i))
   case atStart=>exact LS.out
   case round=>
    clear LS;obtain⟨i,A,rfl,rfl,GY,HA,HB⟩:=hrel;obtain⟨hi1,hgk⟩:=HB.out;clear HB;have AXr:=xa_ (kept GY.out AX.out);have GXr:=xa_ (gtn GX.out GY.out);obtain⟨p1,p2,p3,p4,p5,p6⟩:=xb_ AXr.out;by_cases hiM:i<ms.length;rotate_left
    · have hlt:¬((i:Int)<(ms.length:Int)):=(by omega);have HA1:Hid (A.data.toList++RT=T):=xa_ (by have h:=HA.out;rw[List.drop_eq_nil_of_le (by omega),shA] at h;exact h);clear HA;go_wp2_with fail
      go_meet
      case rel=>exact⟨A,rfl,GY,HA1⟩
    have hlt:((i:Int)<(ms.length:Int)):=(by omega);have hi0:(0:Int)≤(i:Int):=(by omega);have hwi:IntKind.i64.wrap ((i:Int)+1)=i+1:=IntWalk.i64_in _ (by omega);have hMl:=HMM.out i hiM;obtain⟨g,off,c',⟨q,ql,bv⟩,ex,hgl,hk,hc⟩:=HX3.out.atG (sz:=10) zb_ (by decide) i hiM;injection ex with e1 _ e3;subst e1 e3;have hkE:Xs W ok q ms[i].e.kids:=hk.1.1;have hkL:Li kdL 126 W ok ql ms[i].labels:=hk.1.2;have hkB:Sm W ok bv (.inl ms[i].body):=hk.2;obtain⟨ka,kc,rfl⟩:=hkE.sl;obtain⟨la,lc,rfl⟩:=hkL.sl;obtain⟨xb,cb,rfl⟩:=hkB.slS;have cL:=xa_ (HB3.out i hiM _ W (gr0 _) hkB);have HLs:=xa_ hkL;have hlL:=hkL.le;have hA1:=HA.out;rw[List.drop_eq_getElem_cons hiM,shA] at hA1;have HC:=xa_ (fun X (h:W.grownBy X none)=>hc X h);clear hc hk hkE hkL hkB HA;generalize ms[i]=P at HC cL hA1 hMl HLs hlL;obtain⟨⟨f,o,kd,m,nm2,pt,a,ks⟩,ls,bo2⟩:=P;rw[shM,if_neg (by decide)] at hA1;have HLs1:Hid (Li kdL 126 W ok (.slice la ls.length lc) ls):=HLs;have hlL1:ls.length≤4000000:=hlL;have HLB:=hd_ hMl;clear HLs hlL hMl;obtain⟨TB,hTB⟩:∃ T,shL (n+4) bo2=T:=⟨_,rfl⟩;rw[hTB] at hA1;obtain⟨B,hBb⟩:∃ P,bs TB=P:=⟨_,rfl⟩;have hBd2:B.data.toList=TB:=(by rw[← hBb]);have cL2:Hid (∀ X,W.grownBy X none→Calls Tryz.prog 32 #[.slice xb bo2.length cb,.string (PA++(⟨#[32,32,32,32]⟩:ByteArray))] X (xv_ X B)):=xa_ fun X g=>by
     have:=cL.out X g;rw[← hBb,← hTB,← HPA.out,y8_ n 4 _ rfl];exact this
    have hPn:PA.size=n:=(by rw[← HPA.out,z2_]);have hsum:A.size+n+B.size≤100000000000:=by
     have h:=congrArg List.length hA1;simp only[List.length_append,← hBd2,← qp_] at h;have h6:(sp (n+2)).length=n+2:=(by simp[sp]);simp at h;omega
    have hAs:A.size≤100000000000:=(by omega);have hB2s:B.size≤100000000000:=(by omega);obtain⟨RB,hRB⟩:∃ R,[58,10]++TB++(shA 4 n (i+1) (ms.drop (i+1))++RT)=R:=⟨_,rfl⟩;have HA1:Hid ((A++(PA++(⟨#[32,32]⟩:ByteArray))).data.toList++(yq_ zq_ 0 ls++RB)=T):=by
     show _=_
     rw[← hA1,← hRB];have:sp (n+2)=sp n++sp 2:=(by show List.replicate (n+2) 32=List.replicate n 32++List.replicate 2 32;rw[List.replicate_append_replicate])
     rw[this];simp[ByteArray.data_append,hPd,sp,List.replicate]
    have HRB:=xa_ hRB;clear hTB hBb cL hsum hA1 hPn hRB;have zp:(PA++(⟨#[32,32]⟩:ByteArray)).size=PA.size+2:=ByteArray.size_append;have qp:¬9223372036854775805<PA.size:=(by omega);have qp2:PA.size≤9223372036854775805:=(by omega);have zq:(A++(PA++(⟨#[32,32]⟩:ByteArray))).size=A.size+(PA.size+2):=(by rw[ByteArray.size_append,zp]);have qq:¬9223372036854775807<A.size+(PA.size+2):=(by omega);have qq2:A.size+(PA.size+2)≤9223372036854775807:=(by omega);have zr:(PA++(⟨#[32,32,32,32]⟩:ByteArray)).size=PA.size+4:=ByteArray.size_append;have qr:¬9223372036854775803<PA.size:=(by omega);have qr2:PA.size≤9223372036854775803:=(by omega);have hYa:∀ j,j<10→wr.cell? ⟨g,off+i*10+j,none⟩=_:=HC.out wr GXr.out;have y8:wr.cell? ⟨g,off+i*10+8,none⟩=some (.slice la ls.length lc):=hYa 8 (by decide);clear hYa;go_upto_block 7 with fail
    go_cut [12] from 158 to 220 (fun s12 wx=>∃ A:ByteArray,s12=.string A∧Hid (w3.grownBy wx none)∧Hid (A.data.toList++RB=T))
    case first=>
     as_aux_lemma=>
      go_wp2_with fail
      generalize(A++(PA++(⟨#[32,32]⟩:ByteArray)))=A1 at HA1 ⊢;have LS:Hid (∃(j:Nat) (A:ByteArray),Value.string A1=.string A∧Value.int .i64 0=.int .i64 (j:Int)∧Hid (w3.grownBy wr none)∧Hid (A.data.toList++(yq_ zq_ j (ls.drop j)++RB)=T)∧Hid (j≤ls.length∧ls.length+1=ls.length+1 - j)):=⟨0,A1,rfl,rfl,GY,HA1,xa_ ⟨by omega,rfl⟩⟩;clear HA1 y8 p1 p2 p3 p4 p5 p6 zp zq zr qp qq qr hAs;go_loopg [12,14,15] (ls.length+1) (fun gk s12 s14 _ wx=>∃(j:Nat) (A:ByteArray),s12=.string A∧s14=.int .i64 (j:Int)∧Hid (w3.grownBy wx none)∧Hid (A.data.toList++(yq_ zq_ j (ls.drop j)++RB)=T)∧Hid (j≤ls.length∧gk=ls.length+1 - j))
      case atStart=>exact LS.out
      case round=>
       clear LS AXr GXr GY;obtain⟨j,A,rfl,rfl,GY,HA,HB⟩:=hrel;obtain⟨hj1,hgk2⟩:=HB.out;clear HB;have AXr:=xa_ (kept GY.out AX.out);have GXr:=xa_ (gtn GX.out GY.out);obtain⟨p1,p2,p3,p4,p5,p6⟩:=xb_ AXr.out;have hYa:∀ j,j<10→wr.cell? ⟨g,off+i*10+j,none⟩=_:=HC.out wr GXr.out;have y8:wr.cell? ⟨g,off+i*10+8,none⟩=some (.slice la ls.length lc):=hYa 8 (by decide);clear hYa;by_cases hj:j<ls.length;rotate_left
       · have hlt2:¬((j:Int)<(ls.length:Int)):=(by omega);have HA2:Hid (A.data.toList++RB=T):=xa_ (by have h:=HA.out;rw[List.drop_eq_nil_of_le (by omega),yq_] at h;exact h);clear HA;go_wp2_with fail
         go_meet
         case rel=>exact⟨A,rfl,GY,HA2⟩
       have hlt2:((j:Int)<(ls.length:Int)):=(by omega);have hj0:(0:Int)≤(j:Int):=(by omega);have hwj:IntKind.i64.wrap ((j:Int)+1)=j+1:=IntWalk.i64_in _ (by omega);obtain⟨g2,off2,c2',u,ex,hgl2,hk2,hc2⟩:=HLs1.out.atG (sz:=2) ado_ (by decide) j hj;injection ex with e1 _ e3;subst e1 e3;have hC:=hc2 wr GXr.out;have hlb:=HLB.out ls[j] (List.getElem_mem hj);have hA2:=HA.out;rw[List.drop_eq_getElem_cons hj,yq_] at hA2;clear hc2 hk2 HA;generalize ls[j]=P at hC hlb hA2;obtain⟨ln,lm⟩:=P;have u0:wr.cell? ⟨g2,off2+j*2,none⟩=some (.int .i64 ln):=hC 0 (by decide);have u1:wr.cell? ⟨g2,off2+j*2+1,none⟩=some (.int .i64 lm):=hC 1 (by decide);clear hC;rw[y2_,Bool.and_eq_true,Bool.and_eq_true,decide_eq_true_eq] at hlb;obtain⟨⟨hn1,hn2⟩,hn3⟩:=hlb;obtain⟨D1,hD1⟩:∃ P,bs (Lib.itoa ln)=P:=⟨_,rfl⟩;obtain⟨D2,hD2⟩:∃ P,bs (Lib.itoa lm)=P:=⟨_,rfl⟩;have hD1s:D1.size≤11:=(by rw[← hD1];exact qf_ ln hn1);have hD2s:D2.size≤11:=(by rw[← hD2];exact qf_ lm hn2);have hD1d:D1.data.toList=Lib.itoa ln:=(by rw[← hD1]);have hD2d:D2.data.toList=Lib.itoa lm:=(by rw[← hD2]);have cD1:Hid (∀ X,Calls Tryz.prog 30 #[.int .i64 ln] X (xv_ X D1)):=xa_ fun X=>by rw[← hD1];exact qz_ ln hn1 X
       have cD2:Hid (∀ X,Calls Tryz.prog 30 #[.int .i64 lm] X (xv_ X D2)):=xa_ fun X=>by rw[← hD2];exact qz_ lm hn2 X
       have hAs:A.size≤100000000000:=by
        have h:=congrArg List.length hA2;simp only[List.length_append,← qp_] at h;omega
       have HA2:=xa_ hA2;have HN3:=xa_ hn3;clear hA2 hn1 hn2 hn3 hD1 hD2;by_cases h0:j=0
       · subst h0;simp only[Nat.zero_mul,Nat.add_zero] at u0 u1;have za:(A++D1).size=A.size+D1.size:=(by rw[ByteArray.size_append]);have qa:¬9223372036854775807<A.size+D1.size:=(by omega);have qa2:A.size+D1.size≤9223372036854775807:=(by omega);go_wp2_with fail
         refine(cD1.out _).mono ?_;rintro e w5 ⟨rfl,g5⟩;dsimp only;have G5:=xa_ (gtn (xf_ GY.out _) g5);have L5:Hid (w5.heap[wr.heap.size]?=some (.cells #[.int .i64 ln,.int .i64 lm] 126)):=xa_ (kept g5 (xe_ rfl _));clear g5 p1 p2 p3 p4 p5 p6 u0 u1 y8 cD1;obtain⟨q1,q2,q3,q4,q5,q6⟩:=xb_ L5.out;by_cases heq:ln=lm
         · have j1:(lm==ln)=true:=(by rw[heq,beq_self_eq_true]);have nj1:(lm != ln)=false:=(by rw[bne,j1];rfl);have HAT:Hid (zq_ (ln,lm)=Lib.itoa ln):=(by show _=_;rw[zq_,if_neg (by simp[heq])]);clear heq;go_wp2_with fail
           go_roundg (ls.length+1 - (0+1))
           case measure=>omega
           case rel=>exact⟨1,A++D1,rfl,rfl,G5,xa_ (by rw[← HA2.out,HAT.out];simp[ByteArray.data_append,hD1d]),xa_ ⟨by omega,rfl⟩⟩
         · have j1:(lm==ln)=false:=(by rw[beq_eq_false_iff_ne];exact fun e=>heq e.symm);have nj1:(lm != ln)=true:=(by rw[bne,j1];rfl);have HAT:Hid (zq_ (ln,lm)=Lib.itoa ln++([46,46]++Lib.itoa lm)):=by
            show _=_
            have:=HN3.out;have hlt3:ln<lm:=(by omega);rw[zq_,if_pos hlt3]
           clear heq;have zb:((⟨#[46,46]⟩:ByteArray)++D2).size=2+D2.size:=ByteArray.size_append;have qb:¬9223372036854775807<2+D2.size:=(by omega);have qb2:2+D2.size≤9223372036854775807:=(by omega);have ze:(A++D1++((⟨#[46,46]⟩:ByteArray)++D2)).size=A.size+D1.size+(2+D2.size):=(by rw[ByteArray.size_append,za,zb]);have qe:¬9223372036854775807<A.size+D1.size+(2+D2.size):=(by omega);have qe2:A.size+D1.size+(2+D2.size)≤9223372036854775807:=(by omega);go_wp2_with fail
           refine(cD2.out _).mono ?_;rintro e w6 ⟨rfl,g6⟩;dsimp only;have G6:=xa_ (gtn G5.out g6);clear g6 cD2;go_wp2_with fail
           go_roundg (ls.length+1 - (0+1))
           case measure=>omega
           case rel=>exact⟨1,A++D1++((⟨#[46,46]⟩:ByteArray)++D2),rfl,rfl,G6,xa_ (by rw[← HA2.out,HAT.out];simp[ByteArray.data_append,hD1d,hD2d]),xa_ ⟨by omega,rfl⟩⟩
       · have H0:=xa_ h0;have hp1:0<j:=(by omega);have hp2:(0:Int)<(j:Int):=(by omega);have zc:(A++(⟨#[44,32]⟩:ByteArray)).size=A.size+2:=ByteArray.size_append;have qc:¬9223372036854775805<A.size:=(by omega);have qd:A.size≤9223372036854775805:=(by omega);clear h0;have za:((A++(⟨#[44,32]⟩:ByteArray))++D1).size=A.size+2+D1.size:=(by rw[ByteArray.size_append,zc]);have qa:¬9223372036854775807<A.size+2+D1.size:=(by omega);have qa2:A.size+2+D1.size≤9223372036854775807:=(by omega);go_wp2_with fail
         refine(cD1.out _).mono ?_;rintro e w5 ⟨rfl,g5⟩;dsimp only;have G5:=xa_ (gtn (xf_ GY.out _) g5);have L5:Hid (w5.heap[wr.heap.size]?=some (.cells #[.int .i64 ln,.int .i64 lm] 126)):=xa_ (kept g5 (xe_ rfl _));clear g5 p1 p2 p3 p4 p5 p6 u0 u1 y8 cD1;obtain⟨q1,q2,q3,q4,q5,q6⟩:=xb_ L5.out;by_cases heq:ln=lm
         · have j1:(lm==ln)=true:=(by rw[heq,beq_self_eq_true]);have nj1:(lm != ln)=false:=(by rw[bne,j1];rfl);have HAT:Hid (zq_ (ln,lm)=Lib.itoa ln):=(by show _=_;rw[zq_,if_neg (by simp[heq])]);clear heq;go_wp2_with fail
           go_roundg (ls.length+1 - (j+1))
           case measure=>omega
           case rel=>exact⟨j+1,(A++(⟨#[44,32]⟩:ByteArray))++D1,rfl,by simp,G5,xa_ (by rw[← HA2.out,HAT.out];simp[ByteArray.data_append,hD1d,H0.out]),xa_ ⟨by omega,rfl⟩⟩
         · have j1:(lm==ln)=false:=(by rw[beq_eq_false_iff_ne];exact fun e=>heq e.symm);have nj1:(lm != ln)=true:=(by rw[bne,j1];rfl);have HAT:Hid (zq_ (ln,lm)=Lib.itoa ln++([46,46]++Lib.itoa lm)):=by
            show _=_
            have:=HN3.out;have hlt3:ln<lm:=(by omega);rw[zq_,if_pos hlt3]
           clear heq;have zb:((⟨#[46,46]⟩:ByteArray)++D2).size=2+D2.size:=ByteArray.size_append;have qb:¬9223372036854775807<2+D2.size:=(by omega);have qb2:2+D2.size≤9223372036854775807:=(by omega);have ze:((A++(⟨#[44,32]⟩:ByteArray))++D1++((⟨#[46,46]⟩:ByteArray)++D2)).size=A.size+2+D1.size+(2+D2.size):=(by rw[ByteArray.size_append,za,zb]);have qe:¬9223372036854775807<A.size+2+D1.size+(2+D2.size):=(by omega);have qe2:A.size+2+D1.size+(2+D2.size)≤9223372036854775807:=(by omega);go_wp2_with fail
           refine(cD2.out _).mono ?_;rintro e w6 ⟨rfl,g6⟩;dsimp only;have G6:=xa_ (gtn G5.out g6);clear g6 cD2;go_wp2_with fail
           go_roundg (ls.length+1 - (j+1))
           case measure=>omega
           case rel=>exact⟨j+1,(A++(⟨#[44,32]⟩:ByteArray))++D1++((⟨#[46,46]⟩:ByteArray)++D2),rfl,by simp,G6,xa_ (by rw[← HA2.out,HAT.out];simp[ByteArray.data_append,hD1d,hD2d,H0.out]),xa_ ⟨by omega,rfl⟩⟩
    case rest=>
    clear zq qq qq2 HA1 y8 p1 p2 p3 p4 p5 p6 GY AXr GXr hAs;obtain⟨A,rfl,GY,HA⟩:=hcut;have AXr:=xa_ (kept GY.out AX.out);have GXr:=xa_ (gtn GX.out GY.out);obtain⟨p1,p2,p3,p4,p5,p6⟩:=xb_ AXr.out;have hYa:∀ j,j<10→wc.cell? ⟨g,off+i*10+j,none⟩=_:=HC.out wc GXr.out;have y9:wc.cell? ⟨g,off+i*10+9,none⟩=some (.slice xb bo2.length cb):=hYa 9 (by decide);clear hYa;have hAs:A.size≤100000000000:=by
     have h:=congrArg List.length HA.out;simp only[List.length_append,← qp_] at h;omega
    have z1:((⟨#[58,10]⟩:ByteArray)++B).size=2+B.size:=ByteArray.size_append;have q1:¬9223372036854775807<2+B.size:=(by omega);have q1':2+B.size≤9223372036854775807:=(by omega);have z2:(A++((⟨#[58,10]⟩:ByteArray)++B)).size=A.size+(2+B.size):=(by rw[ByteArray.size_append,z1]);have q2:¬9223372036854775807<A.size+(2+B.size):=(by omega);have q2':A.size+(2+B.size)≤9223372036854775807:=(by omega);go_wp2_with fail
    refine(cL2.out _ GXr.out).mono ?_;rintro e w5 ⟨rfl,g5⟩;dsimp only;have G5:=xa_ (gtn GY.out g5);clear g5 cL2;go_wp2_with fail
    go_roundg (ms.length+1 - (i+1))
    case measure=>omega
    case rel=>exact⟨i+1,A++((⟨#[58,10]⟩:ByteArray)++B),rfl,by simp,G5,xa_ (by rw[← HA.out,← HRB.out];simp[ByteArray.data_append,hBd2]),xa_ ⟨by omega,rfl⟩⟩
 case rest=>
 obtain⟨A,rfl,GY,HA⟩:=hcut;have GXr:=xa_ (gtn GX.out GY.out);have AXr:=xa_ (kept GY.out AX.out);have hAs:A.size≤100000000000:=by
  have h:=congrArg List.length HA.out;rw[List.length_append] at h;rw[qp_];omega
 have z6_0:(A++EL).size=A.size+EL.size:=ByteArray.size_append;have qz6_0:¬9223372036854775807<A.size+EL.size:=(by omega);have uz6_0:A.size+EL.size≤9223372036854775807:=(by omega);have z6_1:(A++EL++PA).size=A.size+EL.size+PA.size:=(by rw[ByteArray.size_append,z6_0]);have qz6_1:¬9223372036854775807<A.size+EL.size+PA.size:=(by omega);have uz6_1:A.size+EL.size+PA.size≤9223372036854775807:=(by omega);have z6_2:(A++EL++PA++(⟨#[69,78,68,95,67,65,83,69,59,10]⟩:ByteArray)).size=A.size+EL.size+PA.size+10:=(by rw[ByteArray.size_append,z6_1];rfl);have qz6_2:¬9223372036854775807<A.size+EL.size+PA.size+10:=(by omega);have uz6_2:A.size+EL.size+PA.size+10≤9223372036854775807:=(by omega);have rz6_2:¬9223372036854775797<A.size+EL.size+PA.size:=(by omega);have wz6_2:A.size+EL.size+PA.size≤9223372036854775797:=(by omega);have HE:Hid (bs T=A++EL++PA++(⟨#[69,78,68,95,67,65,83,69,59,10]⟩:ByteArray)):=by
  show _=_
  rw[← HA.out,← HRT.out];exact(yp_ (by simp[ByteArray.data_append,hELd,hPd])).symm
 clear p1 p2 p3 p4 p5 p6 HA HMM HX3 HB3 HA0;obtain⟨p1,p2,p3,p4,p5,p6⟩:=xb_ AXr.out;go_wp2_with fail
 refine(cEl.out _ GXr.out).mono ?_;rintro e w4 ⟨rfl,g⟩;dsimp only;have G4:=xa_ (gtn GXr.out g);clear g cEl;go_wp2_with fail
 go_ret;exact⟨by first|(rw[HE.out];done)|(rw[HE.out];rfl),G4.out⟩
end Go.Proofs.YtcoglmaiahpooaaGreatDoor
