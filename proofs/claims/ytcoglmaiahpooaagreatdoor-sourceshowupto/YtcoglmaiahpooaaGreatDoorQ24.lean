/- Texts put together: Wj. -/
import Derived.Test.YtcoglmaiahpooaaGreatDoorQ22
set_option linter.unusedVariables false
set_option linter.unusedSimpArgs false
set_option maxHeartbeats 8000000
namespace Go.Proofs.YtcoglmaiahpooaaGreatDoor
open Go.RowKit
attribute [local go_sem ↓] Go.wp_at_zero Go.wp_at_succ
set_option maxRecDepth 100000 in
theorem ag8_ {W:World} {B b:Nat} {l:List UInt8} (o kd n:Int) (nm pt:ByteArray) (a:Int) (ks:List PE) (x:Option Addr) (c:Nat) (h:WB B b l W) (hBW:B≤W.heap.size) (hx:Xs W (fun q=>q<B) (.slice x ks.length c) ks) (hE':∀(i:Nat) (hi:i<ks.length) W',Wr B b W W'→∀ ka kc,Xs W' (fun q=>q<B) (.slice ka ks[i].kids.length kc) ks[i].kids→EW B b W' ks[i] (.slice ka ks[i].kids.length kc)) (hl:l.length+(nm.data.toList++((40:UInt8)::(shK [44,32] 7 o 0 ks++[41]))).length≤70368744177664) :
 Calls Tryz.prog 213 #[.pointer (some ⟨b,0,none⟩),xV 7 o kd n nm pt a (.slice x ks.length c)] W (wrt B b (l++(nm.data.toList++((40:UInt8)::(shK [44,32] 7 o 0 ks++[41])))) W):=by
 have HX:=xa_ hx;have HE:=xa_ hE';have hle:=hx.le;obtain⟨TK,hTK⟩:∃ TK,shK [44,32] 7 o 0 ks=TK:=⟨_,rfl⟩;rw[hTK] at hl ⊢;have HTK:=xa_ hTK;have H0:=xa_ h;have HB:=xa_ hBW;have Hb:=xa_ h.lt;have HL:=xa_ hl;clear h hBW hl hx hE' hTK;go_enter Tryz.func213,Tryz.ntmps213;go_wp2_with fail
 refine(xo_ (W:=(W.alloc (.cells #[.int .i64 7,.int .i64 o,.int .i64 kd,.int .i64 n,.string nm,.string pt,.int .i64 a,.slice x ks.length c] 50))) (H0.out.gn (gr1 _ _)) (by have:=HB.out;first|omega|(simp;omega)) [nm,⟨#[40]⟩] 2 rfl 2 #[.string nm,.string ⟨#[40]⟩] rfl _ (by first|rfl|simp) (by have:=HL.out;simp[cat] at this ⊢;omega) (by simp)).mono ?_;rintro e W1 ⟨rfl,h,r⟩;have A1:Hid (W1.heap[W.heap.size]?=some (.cells #[.int .i64 7,.int .i64 o,.int .i64 kd,.int .i64 n,.string nm,.string pt,.int .i64 a,.slice x ks.length c] 50)):=r.box (xe_ (by first|rfl|simp) _) (by decide) (by have:=Hb.out;omega);have H1:=xa_ h;have R1:=xa_ (((Wr.refl B b W).al HB.out _).trans r);clear h r;obtain⟨a1a,a1b,a1c,a1d,a1e,a1f⟩:=xb_ A1.out;go_wp2_with fail
 have LS:Hid (∃ i:Nat,Value.int .i64 0=.int .i64 (i:Int)∧Hid (i≤ks.length∧ks.length+1=ks.length+1 - i∧Wr B b W W1∧∃ m,WB B b m W1∧m++shK [44,32] 7 o i (ks.drop i)=l++(nm.data.toList++(40::TK)))):=⟨0,rfl,xa_ ⟨by omega,rfl,R1.out,_,H1.out,by rw[List.drop_zero,HTK.out];simp[cat]⟩⟩;go_loopg [14] (ks.length+1) (fun gk s1 wx=>∃ i:Nat,s1=.int .i64 (i:Int)∧Hid (i≤ks.length∧gk=ks.length+1 - i∧Wr B b W wx∧∃ m,WB B b m wx∧m++shK [44,32] 7 o i (ks.drop i)=l++(nm.data.toList++(40::TK))))
 case atStart=>exact LS.out
 case round=>
  obtain⟨i,rfl,HH⟩:=hrel;obtain⟨hi1,hgk,hr,m,hm,he⟩:=HH.out;clear HH LS a1a a1b a1c a1d a1e a1f;by_cases hi:i<ks.length;rotate_left
  · have hlt:¬((i:Int)<(ks.length:Int)):=(by omega);rw[List.drop_eq_nil_of_le (by omega),shK,List.append_nil] at he;have hlm:m.length+1≤140737488355328:=by
     have h1:=congrArg List.length he;have h2:=HL.out;simp at h1 h2;omega
    have cP:=xa_ (xo_ hm (by have:=hr.size;have:=HB.out;omega) [⟨#[41]⟩] 1 rfl 1 #[.string ⟨#[41]⟩] rfl _ rfl (by simpa[cat] using hlm) (by simp));have HR:=xa_ hr;have HEq:=xa_ he;clear hr hm he;go_wp2_with fail
    refine cP.out.mono ?_;rintro e w2 ⟨rfl,h2,r2⟩;have H2:=xa_ h2;have R2:=xa_ (HR.out.trans r2);clear h2 r2;go_wp2_with fail
    go_end0;refine⟨rfl,?_,R2.out⟩;have:=H2.out;rw[HEq.out] at this;simpa[cat,List.append_assoc] using this
  have hlt:((i:Int)<(ks.length:Int)):=(by omega);have hwi:IntKind.i64.wrap ((i:Int)+1)=i+1:=IntWalk.i64_in _ (by omega);rw[List.drop_eq_getElem_cons hi,shK] at he;obtain⟨gb,off,c',ka,kc,ex,hk,hC⟩:=HX.out.atw i hi;injection ex with e1 _ e3;have hC2:=hC wr b hr;have hkw:=Xs.kept (w':=wr) (fun k hk _=>hr.low k hk) hr.size hk;have cE0:=HE.out i hi wr hr ka kc hkw;subst e1 e3;have hbr:brB 7 o i ks[i]=false:=by
   obtain⟨_,_,_,_,_,_,_,_⟩:=ks[i];simp[brB]
  rw[hbr] at he;simp only[Bool.false_eq_true,if_false] at he;clear hC hbr hk hkw;generalize ks[i]=E at cE0 hC2 he;obtain⟨kf,ko,kk,kn,knm,kpt,kat,kks⟩:=E;obtain⟨x0,x1,x2,x3,x4,x5,x6,x7⟩:=hC2.all;have cE:=xa_ cE0;have HR:=xa_ hr;have HM:=xa_ hm;have HEq:=xa_ he;have hlm:m.length+((if i=0 then [] else [44,32])++shE (.mk kf ko kk kn knm kpt kat kks)).length≤70368744177664:=by
   have h1:=congrArg List.length he;have h2:=HL.out;simp at h1 h2 ⊢;omega
  have HLM:=xa_ hlm;clear hr hm he cE0 hC2 hlm;by_cases hi0:i=0
  · have hneg:¬((0:Int)<(i:Int)):=(by omega);have HE2:=HEq.out;rw[if_pos hi0,List.nil_append] at HE2;have HE3:=xa_ HE2;have HL3:=xa_ (show m.length+(shE (.mk kf ko kk kn knm kpt kat kks)).length≤70368744177664 by have:=HLM.out;rw[if_pos hi0] at this;simpa using this);clear HE2 HEq HLM hi0;go_wp2_with fail
    refine(cE.out m _ ((Wr.refl B b wr).al (by have:=HR.out.size;have:=HB.out;omega) _) (HM.out.gn (gr1 _ _)) (by have:=HR.out.size;have:=HB.out;simp;omega) HL3.out).mono ?_;rintro e w2 ⟨rfl,h2,r2⟩;have H2:=xa_ h2;have R2:=xa_ ((HR.out.al HB.out _).trans r2);clear h2 r2;go_wp2_with fail
    go_roundg (ks.length+1 - (i+1))
    case measure=>omega
    case rel=>exact⟨i+1,by simp,xa_ ⟨by omega,rfl,R2.out,_,H2.out,by rw[List.append_assoc];exact HE3.out⟩⟩
  · have hpos:(0:Int)<(i:Int):=(by omega);have HE2:=HEq.out;rw[if_neg hi0] at HE2;have HE3:=xa_ HE2;have HL3:=xa_ (show m.length+(2+(shE (.mk kf ko kk kn knm kpt kat kks)).length)≤70368744177664 by have:=HLM.out;rw[if_neg hi0] at this;simp at this;omega);clear HE2 HEq HLM hi0;go_wp2_with fail
    refine(xo_ (W:=wr.alloc (.cells #[.int .i64 kf,.int .i64 ko,.int .i64 kk,.int .i64 kn,.string knm,.string kpt,.int .i64 kat,.slice ka kks.length kc] 50)) (HM.out.gn (gr1 _ _)) (by have:=HR.out.size;have:=HB.out;simp;omega) [⟨#[44,32]⟩] 1 rfl 1 #[.string ⟨#[44,32]⟩] rfl _ (by simp) (by have:=HL3.out;simp[cat];omega) (by simp)).mono ?_;rintro e w2 ⟨rfl,h2,r2⟩;have A2:Hid (w2.heap[wr.heap.size]?=some (.cells #[.int .i64 kf,.int .i64 ko,.int .i64 kk,.int .i64 kn,.string knm,.string kpt,.int .i64 kat,.slice ka kks.length kc] 50)):=r2.box (xe_ rfl _) (by decide) (by have:=Hb.out;have:=HR.out.size;omega);have H2:=xa_ h2;have R2:=xa_ (((Wr.refl B b wr).al (by have:=HR.out.size;have:=HB.out;omega) _).trans r2);clear h2 r2 x0 x1 x2 x3 x4 x5 x6 x7;obtain⟨z1,z2,z3,z4,z5,z6⟩:=xb_ A2.out;go_wp2_with fail
    refine(cE.out _ _ R2.out H2.out (by have:=HR.out.size;have:=R2.out.size;have:=HB.out;omega) (by have:=HL3.out;simp[cat];omega)).mono ?_;rintro e w3 ⟨rfl,h3,r3⟩;have H3:=xa_ h3;have R3:=xa_ (HR.out.trans (R2.out.trans r3));clear h3 r3;go_wp2_with fail
    go_roundg (ks.length+1 - (i+1))
    case measure=>omega
    case rel=>exact⟨i+1,by simp,xa_ ⟨by omega,rfl,R3.out,_,H3.out,by have:=HE3.out;simpa[cat,List.append_assoc] using this⟩⟩
end Go.Proofs.YtcoglmaiahpooaaGreatDoor
