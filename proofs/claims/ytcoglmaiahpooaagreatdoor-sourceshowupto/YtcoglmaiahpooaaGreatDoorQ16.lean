/- Texts put together: Dc, Dd, Mm. -/
import Derived.Test.YtcoglmaiahpooaaGreatDoorQ10
set_option linter.unusedVariables false
set_option linter.unusedSimpArgs false
set_option maxHeartbeats 8000000
namespace Go.Proofs.YtcoglmaiahpooaaGreatDoor
open Go.RowKit
attribute [local go_sem ↓] Go.wp_at_zero Go.wp_at_succ
def sgL (l:Int):List (List UInt8):=if l=1 then [[111,114]] else if l=2 then [[120,111,114]] else if l=3 then [[97,110,100],[38]] else if l=4 then [[61],[60,62]] else if l=5 then [[60],[62],[60,61],[62,61]] else if l=6 then [[43],[45]] else [[42],[47],[109,111,100]]
def opL (l:Int):List Int:=if l=1 then [7] else if l=2 then [8] else if l=3 then [6,6] else if l=4 then [9,10] else if l=5 then [11,13,12,14] else if l=6 then [1,2] else [3,4,5]
def sgO (l:Int):Obj:=.cells ((sgL l).map fun s=>Value.string ⟨s.toArray⟩).toArray 9
def opO (l:Int):Obj:=.cells ((opL l).map fun n=>Value.int .i64 n).toArray 47
theorem k1_ (l:Int) (h1:1≤l) (h7:l≤7) (W:World):Calls Tryz.prog 64 #[.int .i64 l] W fun e w'=>e=.returned (.tuple #[.slice (some ⟨W.heap.size,0,none⟩) (sgL l).length (sgL l).length,.slice (some ⟨W.heap.size+1,0,none⟩) (opL l).length (opL l).length])∧W.grownBy w' none∧w'.heap[W.heap.size]?=some (sgO l)∧w'.heap[W.heap.size+1]?=some (opO l):=by
 have hl:l=1∨l=2∨l=3∨l=4∨l=5∨l=6∨l=7:=(by omega);rcases hl with rfl|rfl|rfl|rfl|rfl|rfl|rfl
 all_goals
  clear h1 h7;go_enter Tryz.func64,Tryz.ntmps64;go_wp2_with fail
  go_ret2;exact⟨by simp[sgL,opL],xf_ (gr1 _ _) _,old (xe_ rfl _) _,xe_ (by simp) _⟩
theorem agj_ (o l:Int) (h1:1≤l) (h7:l≤7):(opL l).contains o=decide (lvS o=l):=by
 have hl:l=1∨l=2∨l=3∨l=4∨l=5∨l=6∨l=7:=(by omega);rw[Bool.eq_iff_iff];simp only[List.contains_iff_mem,decide_eq_true_eq];rcases hl with rfl|rfl|rfl|rfl|rfl|rfl|rfl
 all_goals
  simp only[opL,lvS];simp;repeat' split
  all_goals omega
theorem vm_ (o:Int):lvS o≤7:=by
 unfold lvS;repeat' split
 all_goals omega
theorem ad9_ (l:Int):(opL l).length≤4:=by
 unfold opL;repeat' split
 all_goals simp
def rkI (f o:Int):Int:=if f=6 then lvS o else 8
theorem afc_ {W:World} {q:Nat} {l:Int} (h:W.heap[q]?=some (opO l)) (i:Nat) (hi:i<(opL l).length):W.cell? ⟨q,i,none⟩=some (.int .i64 ((opL l)[i]'hi)):=by
 rw[xn_ h];simp[hi]
theorem ja_ (f o kd n:Int) (nm pt:ByteArray) (a:Int) (k:Value) (W:World):Calls Tryz.prog 53 #[xV f o kd n nm pt a k] W fun e w'=>e=.returned (.int .i64 (rkI f o))∧W.grownBy w' none:=by
 by_cases hf:f=6;rotate_left
 · rw[rkI,if_neg hf];have hf':(f==6)=false:=(by simpa using hf);go_enter Tryz.func53,Tryz.ntmps53;go_wp2_with fail
   go_ret;exact⟨rfl,gr1 _ _⟩
 subst hf;rw[rkI,if_pos rfl];obtain⟨R,hR⟩:∃ R,lvS o=R:=⟨_,rfl⟩;have HB:Hid (0≤R∧R≤7):=⟨hR▸abw_ o,hR▸vm_ o⟩;have HO:Hid (∀ l,1≤l→l≤7→(opL l).contains o=decide (R=l)):=fun l h1 h7=>hR▸agj_ o l h1 h7;rw[hR];clear hR;obtain⟨W1,hW1⟩:∃ W1,W1=W.alloc (.cells #[.int .i64 6,.int .i64 o,.int .i64 kd,.int .i64 n,.string nm,.string pt,.int .i64 a,k] 50):=⟨_,rfl⟩;have G1:Hid (W.grownBy W1 none):=hW1▸gr1 _ _;have A1:Hid (W1.heap[W.heap.size]?=some (.cells #[.int .i64 6,.int .i64 o,.int .i64 kd,.int .i64 n,.string nm,.string pt,.int .i64 a,k] 50)):=hW1▸xe_ rfl _;have HW1:=xa_ hW1;clear hW1;go_enter Tryz.func53,Tryz.ntmps53;go_wp2_with fail
 rw[← HW1.out];clear HW1;go_loopg [3,4,5,6] 9 (fun gk s3 s4 s5 s6 wx=>∃ l:Int,s3=.int .i64 l∧Hid (W.grownBy wx none)∧Hid (wx.heap[W.heap.size]?=some (.cells #[.int .i64 6,.int .i64 o,.int .i64 kd,.int .i64 n,.string nm,.string pt,.int .i64 a,k] 50))∧Hid (1≤l∧l≤8∧(gk:Int)=9 - l+1∧(R=0∨l≤R)))
 case atStart=>exact⟨1,rfl,G1,A1,xa_ ⟨by omega,by omega,rfl,by have:=HB.out;omega⟩⟩
 case round=>
  obtain⟨l,rfl,GX,AX,HH⟩:=hrel;obtain⟨hl1,hl8,hgk,hr⟩:=HH.out;have HR:=xa_ hr;clear hr HH G1 A1;by_cases hlt:l≤7;rotate_left
  · have e:R=0:=(by have:=HR.out;have:=HB.out;omega);subst e;clear HR HB HO;go_wp2_with fail
    go_ret;exact⟨rfl,GX.out⟩
  have cS:=xa_ (k1_ l hl1 hlt);have hwl:IntKind.i64.wrap (l+1)=l+1:=IntWalk.i64_in _ (by omega);have hO:=HO.out l hl1 hlt;have hM:=ad9_ l;go_wp2_with fail
  refine(cS.out _).mono ?_;rintro e w2 ⟨rfl,g,_,ho⟩;have G2:=xa_ (gtn GX.out g);have A2:=xa_ (kept g AX.out);clear g cS AX GX HO;obtain⟨q,hq⟩:∃ q,wr.heap.size+1=q:=⟨_,rfl⟩;rw[hq] at ho ⊢;have O2:=xa_ ho;clear ho hq;have HC:=xa_ hO;clear hO;obtain⟨M,hMl⟩:∃ M,(opL l).length=M:=⟨_,rfl⟩;have HM:=xa_ hMl;rw[hMl] at hM ⊢;clear hMl;go_wp2_with fail
  go_loopg [6] (M+1) (fun gk s6 wy=>∃ i:Nat,s6=.int .i64 (i:Int)∧Hid (w2.grownBy wy none)∧Hid (i≤M∧gk=M+1 - i∧((opL l).drop i).contains o=decide (R=l)))
  case atStart=>exact⟨0,rfl,gr0 _,xa_ ⟨by omega,rfl,HC.out⟩⟩
  case round=>
   obtain⟨i,rfl,GY,HH⟩:=hrel;obtain⟨hi1,hgk2,hc⟩:=HH.out;have HC2:=xa_ hc;clear hc HH HC;have A3:=xa_ (kept GY.out A2.out);have O3:=kept GY.out O2.out;have G3:=xa_ (gtn G2.out GY.out);have hwi:IntKind.i64.wrap ((i:Int)+1)=i+1:=IntWalk.i64_in _ (by omega);obtain⟨p1,p2,p3,p4,p5,p6⟩:=xb_ A3.out;by_cases hi:i<M;rotate_left
   · have hlt2:¬((i:Int)<(M:Int)):=(by omega);have hN:Hid (R≠l):=by
      have h:=HC2.out;rw[List.drop_eq_nil_of_le (by rw[HM.out];omega)] at h;show R≠l
      intro e;rw[e] at h;simp at h
     clear HC2 O3 p1 p2 p3 p4 p5 p6 O2 A2;go_wp2_with fail
     go_roundg (9 - (l+1)+1).toNat
     case measure=>omega
     case rel=>exact⟨l+1,by simp,G3,A3,xa_ ⟨by omega,by omega,by omega,by have:=HR.out;have:=hN.out;omega⟩⟩
   have hlt2:((i:Int)<(M:Int)):=(by omega);have hiL:i<(opL l).length:=(by rw[HM.out];exact hi);have ho:=afc_ O3 i hiL;have hof:=yd_ O3 i;have HZ:Hid (decide (R=l)=(((opL l)[i]'hiL==o) ||((opL l).drop (i+1)).contains o)):=by
    show _=_
    rw[← HC2.out,List.drop_eq_getElem_cons hiL,List.contains_cons];congr 1;exact BEq.comm
   generalize(opL l)[i]'hiL=E at ho HZ;obtain⟨b,hb⟩:∃ b,(E==o)=b:=⟨_,rfl⟩;rw[hb] at HZ;clear HC2;cases b with
   | true=>
    have e:R=l:=(by have:=HZ.out;simpa using this);subst e;clear HZ HR;go_wp2_with fail
    go_quiet (fail)
    go_wp2_with fail
    go_ret;exact⟨rfl,xt_ G3.out _⟩
   | false=>
    have HZ2:Hid (((opL l).drop (i+1)).contains o=decide (R=l)):=(by have:=HZ.out;rw[Bool.false_or] at this;exact this.symm);clear HZ;go_wp2_with fail
    go_quiet (fail)
    go_wp2_with fail
    go_roundg (M+1 - (i+1))
    case measure=>omega
    case rel=>exact⟨i+1,by simp,xt_ GY.out _,xa_ ⟨by omega,rfl,HZ2.out⟩⟩
theorem aiz_ (kf ko o:Int) (i:Nat) (hi:i≤1):(decide (kf=6) && (decide (lvS ko<lvS o) ||decide (i=1) && decide (lvS ko=lvS o)))=(if i=0 then decide (rkI kf ko<rkI 6 o) else decide (rkI kf ko≤rkI 6 o)):=by
 have h1:=vm_ o;have h2:=vm_ ko;have e:rkI 6 o=lvS o:=(by rw[rkI,if_pos rfl]);rw[e];by_cases h:kf=6
 · subst h;rw[show rkI 6 ko=lvS ko by rw[rkI,if_pos rfl],Bool.eq_iff_iff];have hi':i=0∨i=1:=(by omega);rcases hi' with rfl|rfl
   ·simp
   ·simp;omega
 ·rw[show rkI kf ko=8 by rw[rkI,if_neg h],Bool.eq_iff_iff];have hi':i=0∨i=1:=(by omega);rcases hi' with rfl|rfl <;> simp[h] <;> omega
set_option maxRecDepth 4000 in
theorem uw_ {W:World} {ok:Nat→Prop} {x:Option Addr} {c:Nat} (f o kd n:Int) (nm pt:ByteArray) (a:Int) (ks:List PE) (hx:Xs W ok (.slice x ks.length c) ks) (i:Nat) (hi:i<ks.length) (hf2:f=6→i≤1) :
 Calls Tryz.prog 54 #[xV f o kd n nm pt a (.slice x ks.length c),.int .i64 i] W (xs_ W (brB f o i ks[i])):=by
 obtain⟨g,off,c',ka,kc,ex,hn,hg,hk,hc⟩:=hx.at8 i hi;injection ex with e1 _ e3;subst e1 e3;have hC:=hc _ (gr1 W (.cells #[.int .i64 f,.int .i64 o,.int .i64 kd,.int .i64 n,.string nm,.string pt,.int .i64 a,.slice (some ⟨g,off,none⟩) ks.length c] 50));have hlt:(i:Int)<(ks.length:Int):=(by omega);clear hc hk;generalize ks[i]=E at hC ⊢;generalize ks.length=L at hlt hC ⊢;obtain⟨kf,ko,kk,kn,knm,kpt,kat,kks⟩:=E;obtain⟨x0,x1,x2,x3,x4,x5,x6,x7⟩:=hC.all;clear hC hx;simp only[brB];by_cases hf:f=5
 · subst hf;rw[if_pos rfl];have key:∀ b1 b2 b3 b4 b5,(kf==6)=b1→(o==22)=b2→(kf==1)=b3→(kk==0)=b4→decide (0≤kn)=b5→Calls Tryz.prog 54 #[xV 5 o kd n nm pt a (.slice (some ⟨g,off,none⟩) L c),.int .i64 i] W (xs_ W (b1 ||b2 && (b3 && (b4 && b5)))):=by
    intro b1 b2 b3 b4 b5 h1 h2 h3 h4 h5;cases b2 with
    | false=>
     clear h3 h4 h5;cases b1;all_goals
      go_enter Tryz.func54,Tryz.ntmps54;go_wp2_with fail
      go_ret;exact⟨rfl,xf_ (gr1 _ _) _⟩
    | true=>
    cases b3 with
    | false=>
     clear h4 h5;cases b1;all_goals
      go_enter Tryz.func54,Tryz.ntmps54;go_wp2_with fail
      go_ret;exact⟨rfl,xf_ (gr1 _ _) _⟩
    | true=>
    cases b4 with
    | false=>
     clear h5;cases b1;all_goals
      go_enter Tryz.func54,Tryz.ntmps54;go_wp2_with fail
      go_ret;exact⟨rfl,xf_ (gr1 _ _) _⟩
    | true=>
    cases b5;all_goals simp only[decide_eq_true_eq,decide_eq_false_iff_not] at h5
    all_goals cases b1
    all_goals
     go_enter Tryz.func54,Tryz.ntmps54;go_wp2_with fail
     go_ret;exact⟨rfl,xf_ (gr1 _ _) _⟩
   have hi:∀ z q:Int,(z==q)=decide (z=q):=fun z q=>rfl;exact key _ _ _ _ _ (hi _ _) (hi _ _) (hi _ _) (hi _ _) rfl
 rw[if_neg hf];have hf':(f==5)=false:=(by simpa using hf);by_cases hg6:f=6;rotate_left
 · rw[if_neg hg6];have hg':(f==6)=false:=(by simpa using hg6);go_enter Tryz.func54,Tryz.ntmps54;go_wp2_with fail
   go_ret;exact⟨rfl,xf_ (gr1 _ _) _⟩
 subst hg6;rw[if_pos rfl,aiz_ kf ko o i (hf2 rfl)];have cK:=xa_ (ja_ kf ko kk kn knm kpt kat (.slice ka kks.length kc));have cE:=xa_ (ja_ 6 o kd n nm pt a (.slice (some ⟨g,off,none⟩) L c));generalize rkI kf ko=R1 at cK ⊢;generalize rkI 6 o=R2 at cE ⊢;obtain⟨W2,hW2⟩:∃ X,X=((W.alloc (.cells #[.int .i64 6,.int .i64 o,.int .i64 kd,.int .i64 n,.string nm,.string pt,.int .i64 a,.slice (some ⟨g,off,none⟩) L c] 50)).alloc (.cells #[.int .i64 kf,.int .i64 ko,.int .i64 kk,.int .i64 kn,.string knm,.string kpt,.int .i64 kat,.slice ka kks.length kc] 50)):=⟨_,rfl⟩;have A2:Hid (W2.heap[W.heap.size]?=some (.cells #[.int .i64 6,.int .i64 o,.int .i64 kd,.int .i64 n,.string nm,.string pt,.int .i64 a,.slice (some ⟨g,off,none⟩) L c] 50)):=hW2▸old (xe_ rfl _) _;have B2:Hid (W2.heap[W.heap.size+1]?=some (.cells #[.int .i64 kf,.int .i64 ko,.int .i64 kk,.int .i64 kn,.string knm,.string kpt,.int .i64 kat,.slice ka kks.length kc] 50)):=hW2▸xe_ (by simp) _;have G2:Hid (W.grownBy W2 none):=hW2▸xf_ (gr1 _ _) _;have HW:=xa_ hW2;clear hW2
 have HK:Hid (∀ X,W2.grownBy X none→X.cell? ⟨W.heap.size,0,none⟩=some (.int .i64 6)∧X.cell? ⟨W.heap.size,1,none⟩=some (.int .i64 o)∧X.cell? ⟨W.heap.size,2,none⟩=some (.int .i64 kd)∧X.cell? ⟨W.heap.size,3,none⟩=some (.int .i64 n)∧X.cell? ⟨W.heap.size,4,none⟩=some (.string nm)∧X.cell? ⟨W.heap.size,5,none⟩=some (.string pt)∧X.cell? ⟨W.heap.size,6,none⟩=some (.int .i64 a)∧X.cell? ⟨W.heap.size,7,none⟩=some (.slice (some ⟨g,off,none⟩) L c)∧X.cell? ⟨W.heap.size+1,0,none⟩=some (.int .i64 kf)∧X.cell? ⟨W.heap.size+1,1,none⟩=some (.int .i64 ko)∧X.cell? ⟨W.heap.size+1,2,none⟩=some (.int .i64 kk)∧X.cell? ⟨W.heap.size+1,3,none⟩=some (.int .i64 kn)∧X.cell? ⟨W.heap.size+1,4,none⟩=some (.string knm)∧X.cell? ⟨W.heap.size+1,5,none⟩=some (.string kpt)∧X.cell? ⟨W.heap.size+1,6,none⟩=some (.int .i64 kat)∧X.cell? ⟨W.heap.size+1,7,none⟩=some (.slice ka kks.length kc)):=xa_ fun X g=>by
  have p:=xn_ (kept g A2.out);have q:=xn_ (kept g B2.out);exact⟨(p 0).trans rfl,(p 1).trans rfl,(p 2).trans rfl,(p 3).trans rfl,(p 4).trans rfl,(p 5).trans rfl,(p 6).trans rfl,(p 7).trans rfl,(q 0).trans rfl,(q 1).trans rfl,(q 2).trans rfl,(q 3).trans rfl,(q 4).trans rfl,(q 5).trans rfl,(q 6).trans rfl,(q 7).trans rfl⟩
 have cK2:Hid (∀ X,W2.grownBy X none→Calls Tryz.prog 53 #[xV kf ko kk kn knm kpt kat (.slice ka kks.length kc)] X fun e w'=>e=.returned (.int .i64 R1)∧W2.grownBy w' none):=xa_ fun X g=>(cK.out X).mono fun e w2 h=>⟨h.1,gtn g h.2⟩;have cE2:Hid (∀ X,W2.grownBy X none→Calls Tryz.prog 53 #[xV 6 o kd n nm pt a (.slice (some ⟨g,off,none⟩) L c)] X fun e w'=>e=.returned (.int .i64 R2)∧W2.grownBy w' none):=xa_ fun X g=>(cE.out X).mono fun e w2 h=>⟨h.1,gtn g h.2⟩;clear cK cE;have h0':((i:Int)==0)=decide (i=0):=(by rw[Bool.eq_iff_iff];simp);simp only[PE.kids] at x7;by_cases h0:i=0
 · rw[if_pos h0];rw[decide_eq_true h0] at h0';subst h0;simp only[Nat.zero_mul,Nat.add_zero] at x0 x1 x2 x3 x4 x5 x6 x7;go_enter Tryz.func54,Tryz.ntmps54;go_wp2_with fail
   rw[← HW.out];clear x0 x1 x2 x3 x4 x5 x6 x7;go_region_held3 (fun X=>X.cell? ⟨W.heap.size,0,none⟩=some (.int .i64 6)∧X.cell? ⟨W.heap.size,1,none⟩=some (.int .i64 o)∧X.cell? ⟨W.heap.size,2,none⟩=some (.int .i64 kd)∧X.cell? ⟨W.heap.size,3,none⟩=some (.int .i64 n)∧X.cell? ⟨W.heap.size,4,none⟩=some (.string nm)∧X.cell? ⟨W.heap.size,5,none⟩=some (.string pt)∧X.cell? ⟨W.heap.size,6,none⟩=some (.int .i64 a)∧X.cell? ⟨W.heap.size,7,none⟩=some (.slice (some ⟨g,off,none⟩) L c)∧X.cell? ⟨W.heap.size+1,0,none⟩=some (.int .i64 kf)∧X.cell? ⟨W.heap.size+1,1,none⟩=some (.int .i64 ko)∧X.cell? ⟨W.heap.size+1,2,none⟩=some (.int .i64 kk)∧X.cell? ⟨W.heap.size+1,3,none⟩=some (.int .i64 kn)∧X.cell? ⟨W.heap.size+1,4,none⟩=some (.string knm)∧X.cell? ⟨W.heap.size+1,5,none⟩=some (.string kpt)∧X.cell? ⟨W.heap.size+1,6,none⟩=some (.int .i64 kat)∧X.cell? ⟨W.heap.size+1,7,none⟩=some (.slice ka kks.length kc)) (first|exact HK.out _ (by assumption)|exact HK.out _ (xi_ gz_)|exact HK.out _ gz_) (first
    | (go_at_call 53;with_reducible refine(cK2.out _ (by first | assumption | exact xi_ gz_ | exact gz_)).mono ?_;rintro e w2 ⟨rfl,g1⟩)
    | (go_at_call 53;with_reducible refine(cE2.out _ (by first | assumption | exact xi_ gz_ | exact gz_)).mono ?_;rintro e w2 ⟨rfl,g1⟩))
   all_goals
    go_wp2_with fail
    go_ret;exact⟨rfl,gtn G2.out (by assumption)⟩
 · rw[if_neg h0];rw[decide_eq_false h0] at h0';clear h0;go_enter Tryz.func54,Tryz.ntmps54;go_wp2_with fail
   rw[← HW.out];clear x0 x1 x2 x3 x4 x5 x6 x7;go_region_held3 (fun X=>X.cell? ⟨W.heap.size,0,none⟩=some (.int .i64 6)∧X.cell? ⟨W.heap.size,1,none⟩=some (.int .i64 o)∧X.cell? ⟨W.heap.size,2,none⟩=some (.int .i64 kd)∧X.cell? ⟨W.heap.size,3,none⟩=some (.int .i64 n)∧X.cell? ⟨W.heap.size,4,none⟩=some (.string nm)∧X.cell? ⟨W.heap.size,5,none⟩=some (.string pt)∧X.cell? ⟨W.heap.size,6,none⟩=some (.int .i64 a)∧X.cell? ⟨W.heap.size,7,none⟩=some (.slice (some ⟨g,off,none⟩) L c)∧X.cell? ⟨W.heap.size+1,0,none⟩=some (.int .i64 kf)∧X.cell? ⟨W.heap.size+1,1,none⟩=some (.int .i64 ko)∧X.cell? ⟨W.heap.size+1,2,none⟩=some (.int .i64 kk)∧X.cell? ⟨W.heap.size+1,3,none⟩=some (.int .i64 kn)∧X.cell? ⟨W.heap.size+1,4,none⟩=some (.string knm)∧X.cell? ⟨W.heap.size+1,5,none⟩=some (.string kpt)∧X.cell? ⟨W.heap.size+1,6,none⟩=some (.int .i64 kat)∧X.cell? ⟨W.heap.size+1,7,none⟩=some (.slice ka kks.length kc)) (first|exact HK.out _ (by assumption)|exact HK.out _ (xi_ gz_)|exact HK.out _ gz_) (first
    | (go_at_call 53;with_reducible refine(cK2.out _ (by first | assumption | exact xi_ gz_ | exact gz_)).mono ?_;rintro e w2 ⟨rfl,g1⟩)
    | (go_at_call 53;with_reducible refine(cE2.out _ (by first | assumption | exact xi_ gz_ | exact gz_)).mono ?_;rintro e w2 ⟨rfl,g1⟩))
   all_goals
    go_wp2_with fail
    go_ret;exact⟨rfl,gtn G2.out (by assumption)⟩
def za_ (a:PArg):Nat:=1+a.name.size+a.to.size+yj_ a.e
theorem qn_ {α:Type} (f:α→Nat):∀(l:List α) (i:Nat) (hi:i<l.length),f l[i]≤(l.map f).sum
 | a::l,0,_=>by simp
 | a::l,i+1,hi=>by
  have:=qn_ f l i (by simpa using hi);simp only[List.getElem_cons_succ,List.map_cons,List.sum_cons];omega
theorem aea_ {V W:World} (hT:Tabs V) (hV:Vs V W) {ok:Nat→Prop} (s1 s2:ByteArray) (f o kd n:Int) (nm pt:ByteArray) (a:Int) (ks:List PE) (x:Option Addr) (c:Nat) (at1:Int) (d:Int) (D:Nat) (h0:0≤d) (h1:d≤100) (hs1:s1.size≤4000000) (hs2:s2.size≤4000000) (hx:Xs W ok (.slice x ks.length c) ks) (hc:yj_ (.mk f o kd n nm pt a ks)≤4000000) (hD:W.heap[D]?=some (.cells #[.int .i64 d] 3)) :
 Calls Tryz.prog 167 #[.agg #[.string s1,.bool true,.string s2,.int .i64 f,.int .i64 o,.int .i64 kd,.int .i64 n,.string nm,.string pt,.int .i64 a,.slice x ks.length c,.int .i64 at1],.pointer (some ⟨D,0,none⟩)] W (xs_ W (nmB s1 && (nmB s2 && xz_ (.mk f o kd n nm pt a ks)))):=by
 have c1:=xa_ (yi_ s1 hs1);have c2:=xa_ (yi_ s2 hs2);have c3:=xa_ (fun W'=>yr_ f o kd n nm pt a ks x c W');generalize nmB s1=v1 at c1 ⊢;generalize nmB s2=v2 at c2 ⊢;generalize xz_ (.mk f o kd n nm pt a ks)=v3 at c3 ⊢;obtain⟨Z,hZ⟩:∃ Z,(v1 && (v2 && v3))=Z:=⟨_,rfl⟩;rw[hZ];have HZ:=xa_ hZ;clear hZ;clear hx hV hT hc hs1 hs2;have D0:=hd_ hD;clear hD;have hDlt:=x6_ D0.out;obtain⟨d0a,d0b,d0c,d0d,d0e,d0f⟩:=xb_ D0.out;go_enter Tryz.func167,Tryz.ntmps167;go_wp2_with fail
 refine(c1.out _).mono ?_;rintro e W1 ⟨rfl,g⟩;have D1:Hid (W1.heap[D]?=some (.cells #[.int .i64 d] 3)):=kept g (old D0.out _);have B1:Hid (W1.heap[W.heap.size]?=some (.cells #[.string s1,.bool true,.string s2,.int .i64 f,.int .i64 o,.int .i64 kd,.int .i64 n,.string nm,.string pt,.int .i64 a,.slice x ks.length c,.int .i64 at1] 101)):=kept g (xe_ (by first|rfl|simp) _);have G1:=xa_ (gtn (xf_ (gr0 _) _) g);clear g d0a d0b d0c d0d d0e d0f;obtain⟨d1a,d1b,d1c,d1d,d1e,d1f⟩:=xb_ D1.out;obtain⟨b1a,b1b,b1c,b1d,b1e,b1f⟩:=xb_ B1.out;cases v1 with
 | false=>
  have e:Z=false:=HZ.out.symm;subst e;clear HZ;go_wp2_with fail
  go_ret;exact⟨rfl,G1.out⟩
 | true=>
 have HZ0:=xa_ ((Bool.true_and _).symm.trans HZ.out);clear HZ;have HZ:=HZ0;clear HZ0;go_wp2_with fail
 refine(c2.out _).mono ?_;rintro e W2 ⟨rfl,g⟩;have D2:Hid (W2.heap[D]?=some (.cells #[.int .i64 d] 3)):=kept g D1.out;have B2:Hid (W2.heap[W.heap.size]?=some (.cells #[.string s1,.bool true,.string s2,.int .i64 f,.int .i64 o,.int .i64 kd,.int .i64 n,.string nm,.string pt,.int .i64 a,.slice x ks.length c,.int .i64 at1] 101)):=kept g B1.out;have G2:=xa_ (gtn G1.out g);clear g d1a d1b d1c d1d d1e d1f b1a b1b b1c b1d b1e b1f;obtain⟨d2a,d2b,d2c,d2d,d2e,d2f⟩:=xb_ D2.out;obtain⟨b2a,b2b,b2c,b2d,b2e,b2f⟩:=xb_ B2.out;cases v2 with
 | false=>
  have e:Z=false:=HZ.out.symm;subst e;clear HZ;go_wp2_with fail
  go_ret;exact⟨rfl,G2.out⟩
 | true=>
 have HZ0:=xa_ ((Bool.true_and _).symm.trans HZ.out);clear HZ;have HZ:=HZ0;clear HZ0;go_wp2_with fail
 refine(c3.out _).mono ?_;rintro e W3 ⟨rfl,g⟩;have D3:Hid (W3.heap[D]?=some (.cells #[.int .i64 d] 3)):=kept g D2.out;have B3:Hid (W3.heap[W.heap.size]?=some (.cells #[.string s1,.bool true,.string s2,.int .i64 f,.int .i64 o,.int .i64 kd,.int .i64 n,.string nm,.string pt,.int .i64 a,.slice x ks.length c,.int .i64 at1] 101)):=kept g B2.out;have G3:=xa_ (gtn G2.out g);clear g d2a d2b d2c d2d d2e d2f b2a b2b b2c b2d b2e b2f;obtain⟨d3a,d3b,d3c,d3d,d3e,d3f⟩:=xb_ D3.out;obtain⟨b3a,b3b,b3c,b3d,b3e,b3f⟩:=xb_ B3.out;have e:Z=v3:=HZ.out.symm;subst e;clear HZ;go_wp2_with fail
 go_ret;exact⟨rfl,G3.out⟩
theorem agk_ {V W:World} (hT:Tabs V) (hV:Vs V W) {ok:Nat→Prop} (s1 s2:ByteArray) (f o kd n:Int) (nm pt:ByteArray) (a:Int) (ks:List PE) (x:Option Addr) (c:Nat) (at1:Int) (d:Int) (D:Nat) (h0:0≤d) (h1:d≤100) (hs1:s1.size≤4000000) (hs2:s2.size≤4000000) (hx:Xs W ok (.slice x ks.length c) ks) (hc:yj_ (.mk f o kd n nm pt a ks)≤4000000) (hD:W.heap[D]?=some (.cells #[.int .i64 d] 3)) :
 Calls Tryz.prog 167 #[.agg #[.string s1,.bool false,.string s2,.int .i64 f,.int .i64 o,.int .i64 kd,.int .i64 n,.string nm,.string pt,.int .i64 a,.slice x ks.length c,.int .i64 at1],.pointer (some ⟨D,0,none⟩)] W (xs_ W (nmB s1 && (decide (s2=nob) && xr_ d (.mk f o kd n nm pt a ks)))):=by
 have c1:=xa_ (yi_ s1 hs1);have c3:=xa_ (fun W' (hg:W.grownBy W' none)=>qi_ hT (hV.gr hg) (e:=.mk f o kd n nm pt a ks) (hx.gw hg) hc d h0 h1 W' (gr0 _));have e2:decide (s2=nob)=(s2.toList==[]):=(eqN s2).symm;rw[e2];obtain⟨v2,h2⟩:∃ b,(s2.toList==[])=b:=⟨_,rfl⟩;rw[h2];generalize nmB s1=v1 at c1 ⊢;generalize xr_ d (.mk f o kd n nm pt a ks)=v3 at c3 ⊢;obtain⟨Z,hZ⟩:∃ Z,(v1 && (v2 && v3))=Z:=⟨_,rfl⟩;rw[hZ];have HZ:=xa_ hZ;clear hZ;clear hx hV hT hc hs1 hs2;have D0:=hd_ hD;clear hD;have hDlt:=x6_ D0.out;obtain⟨d0a,d0b,d0c,d0d,d0e,d0f⟩:=xb_ D0.out;go_enter Tryz.func167,Tryz.ntmps167;go_wp2_with fail
 refine(c1.out _).mono ?_;rintro e W1 ⟨rfl,g⟩;have D1:Hid (W1.heap[D]?=some (.cells #[.int .i64 d] 3)):=kept g (old D0.out _);have B1:Hid (W1.heap[W.heap.size]?=some (.cells #[.string s1,.bool false,.string s2,.int .i64 f,.int .i64 o,.int .i64 kd,.int .i64 n,.string nm,.string pt,.int .i64 a,.slice x ks.length c,.int .i64 at1] 101)):=kept g (xe_ (by first|rfl|simp) _);have G1:=xa_ (gtn (xf_ (gr0 _) _) g);clear g d0a d0b d0c d0d d0e d0f;obtain⟨d1a,d1b,d1c,d1d,d1e,d1f⟩:=xb_ D1.out;obtain⟨b1a,b1b,b1c,b1d,b1e,b1f⟩:=xb_ B1.out;cases v1 with
 | false=>
  have e:Z=false:=HZ.out.symm;subst e;clear HZ;go_wp2_with fail
  go_ret;exact⟨rfl,G1.out⟩
 | true=>
 have HZ0:=xa_ ((Bool.true_and _).symm.trans HZ.out);clear HZ;have HZ:=HZ0;clear HZ0;cases v2 with
 | false=>
  have e:Z=false:=HZ.out.symm;subst e;clear HZ;go_wp2_with fail
  go_ret;exact⟨rfl,G1.out⟩
 | true=>
 have HZ0:=xa_ ((Bool.true_and _).symm.trans HZ.out);clear HZ;have HZ:=HZ0;clear HZ0;go_wp2_with fail
 refine(c3.out _ G1.out).mono ?_;rintro e W2 ⟨rfl,g⟩;have D2:Hid (W2.heap[D]?=some (.cells #[.int .i64 d] 3)):=kept g D1.out;have B2:Hid (W2.heap[W.heap.size]?=some (.cells #[.string s1,.bool false,.string s2,.int .i64 f,.int .i64 o,.int .i64 kd,.int .i64 n,.string nm,.string pt,.int .i64 a,.slice x ks.length c,.int .i64 at1] 101)):=kept g B1.out;have G2:=xa_ (gtn G1.out g);clear g d1a d1b d1c d1d d1e d1f b1a b1b b1c b1d b1e b1f;obtain⟨d2a,d2b,d2c,d2d,d2e,d2f⟩:=xb_ D2.out;obtain⟨b2a,b2b,b2c,b2d,b2e,b2f⟩:=xb_ B2.out;have e:Z=v3:=HZ.out.symm;subst e;clear HZ;go_wp2_with fail
 go_ret;exact⟨rfl,G2.out⟩
theorem aeb_ {V W:World} (hT:Tabs V) (hV:Vs V W) {ok:Nat→Prop} (p:PArg) (k:Value) (d:Int) (D:Nat) (h0:0≤d) (h1:d≤100) (hx:kdA.S W ok p k) (hc:za_ p≤4000000) (hD:W.heap[D]?=some (.cells #[.int .i64 d] 3)) :
 Calls Tryz.prog 167 (#[.agg (kdA.c p k).toArray]++#[.pointer (some ⟨D,0,none⟩)]) W (xs_ W (yl_ d p)):=by
 obtain⟨s1,out,s2,⟨f,o,kd,n,nm,pt,a,ks⟩,at1⟩:=p;have hx':Xs W ok k ks:=hx;obtain⟨x,c,rfl⟩:=hx'.sl;simp only[za_] at hc;cases out
 ·exact agk_ hT hV s1 s2 f o kd n nm pt a ks x c at1 d D h0 h1 (by omega) (by omega) hx' (by omega) hD
 ·exact aea_ hT hV s1 s2 f o kd n nm pt a ks x c at1 d D h0 h1 (by omega) (by omega) hx' (by omega) hD
theorem acl_ {W:World} {ok:Nat→Prop} {x:Option Addr} {c:Nat} {l:List PArg} (hx:Li kdA 96 W ok (.slice x l.length c) l) (P:PArg→Bool) (caps:Array Value)
 (hP:∀(i:Nat) (hi:i<l.length) (q:Value) (W':World),W.grownBy W' none→kdA.S W' ok l[i] q→Calls Tryz.prog 167 (#[.agg (kdA.c l[i] q).toArray]++caps) W' (xs_ W' (P l[i]))) :
 Calls Tryz.prog 166 #[.slice x l.length c,.func (.func 167) #[] caps] W (xs_ W (l.all P)):=by
 obtain⟨Z,hZ⟩:∃ Z,l.all P=Z:=⟨_,rfl⟩;rw[hZ];have HZ:=xa_ hZ;have HX:=xa_ hx;have HP:=xa_ hP;have hle:=hx.le;clear hZ hx hP;go_enter Tryz.func166,Tryz.ntmps166;go_wp2_with fail
 have LS:Hid (∃ i:Nat,Value.int .i64 0=.int .i64 (i:Int)∧Hid (i≤l.length∧l.length+1=l.length+1 - i∧W.grownBy W none∧(l.drop i).all P=Z)):=⟨0,rfl,xa_ ⟨by omega,rfl,gr0 _,by simpa using HZ.out⟩⟩;clear HZ;go_loopg [9] (l.length+1) (fun gk s1 wx=>∃ i:Nat,s1=.int .i64 (i:Int)∧Hid (i≤l.length∧gk=l.length+1 - i∧W.grownBy wx none∧(l.drop i).all P=Z))
 case atStart=>exact LS.out
 case round=>
  obtain⟨i,rfl,HH⟩:=hrel;obtain⟨hi1,hgk,hg,hm⟩:=HH.out;clear HH LS;have HG:=xa_ hg;by_cases hi:i<l.length;rotate_left
  · have hlt:¬((i:Int)<(l.length:Int)):=(by omega);rw[List.drop_eq_nil_of_le (by omega)] at hm;have e:Z=true:=hm.symm;subst e;clear hg hm HP HX;go_wp2_with fail
    go_ret;exact⟨rfl,HG.out⟩
  have hlt:((i:Int)<(l.length:Int)):=(by omega);have hwi:IntKind.i64.wrap ((i:Int)+1)=i+1:=IntWalk.i64_in _ (by omega);rw[List.drop_eq_getElem_cons hi,List.all_cons] at hm;obtain⟨g,off,c',q,ex,hgl,hk,hc⟩:=HX.out.atG (sz:=12) zn_ (by decide) i hi;injection ex with e1 _ e3;subst e1 e3;have hC:=hc wr hg;have HK:=xa_ hk;have cP:=fun W' h=>HP.out i hi q W' h ((kdA.keep hk (fun b _ hl=>h.block b hl (by simp)) h.size));have HM:=xa_ hm;clear hc hk hm hg;generalize l[i]=E at hC cP HM HK;obtain⟨s1,out,s2,⟨f,o,kd,n,nm,pt,a,ks⟩,at1⟩:=E;obtain⟨x,c,rfl⟩:=Xs.sl (show Xs W ok q ks from HK.out);have cP2:=xa_ cP;have y0:wr.cell? ⟨g,off+i*12,none⟩=some (.string s1):=hC 0 (by decide);have y1:wr.cell? ⟨g,off+i*12+1,none⟩=some (.bool out):=hC 1 (by decide);have y2:wr.cell? ⟨g,off+i*12+2,none⟩=some (.string s2):=hC 2 (by decide);have y3:wr.cell? ⟨g,off+i*12+3,none⟩=some (.int .i64 f):=hC 3 (by decide);have y4:wr.cell? ⟨g,off+i*12+4,none⟩=some (.int .i64 o):=hC 4 (by decide);have y5:wr.cell? ⟨g,off+i*12+5,none⟩=some (.int .i64 kd):=hC 5 (by decide);have y6:wr.cell? ⟨g,off+i*12+6,none⟩=some (.int .i64 n):=hC 6 (by decide);have y7:wr.cell? ⟨g,off+i*12+7,none⟩=some (.string nm):=hC 7 (by decide);have y8:wr.cell? ⟨g,off+i*12+8,none⟩=some (.string pt):=hC 8 (by decide);have y9:wr.cell? ⟨g,off+i*12+9,none⟩=some (.int .i64 a):=hC 9 (by decide);have y10:wr.cell? ⟨g,off+i*12+10,none⟩=some (.slice x ks.length c):=hC 10 (by decide);have y11:wr.cell? ⟨g,off+i*12+11,none⟩=some (.int .i64 at1):=hC 11 (by decide);clear hC cP HK;generalize hr:P ⟨s1,out,s2,.mk f o kd n nm pt a ks,at1⟩=r at cP2 HM;clear hr
  go_wp2_with fail
  refine(cP2.out _ (xf_ HG.out _)).mono ?_;rintro e w2 ⟨rfl,g2⟩;have G2:=xa_ (gtn (xf_ HG.out _) g2);clear g2;cases r
  · have e:Z=false:=(by rw[← HM.out];rfl);subst e;clear HM cP2;go_wp2_with fail
    go_ret;exact⟨rfl,G2.out⟩
  · have HM2:=xa_ ((Bool.true_and _).symm.trans HM.out);clear HM cP2;go_wp2_with fail
    go_roundg (l.length+1 - (i+1))
    case measure=>omega
    case rel=>exact⟨i+1,by simp,xa_ ⟨by omega,rfl,G2.out,HM2.out⟩⟩
theorem acm_ {V W:World} (hT:Tabs V) (hV:Vs V W) {ok:Nat→Prop} (ps:List PArg) (x:Option Addr) (c:Nat) (d:Int) (h0:0≤d) (h1:d≤100) (hx:Li kdA 96 W ok (.slice x ps.length c) ps) (hc:(ps.map za_).sum≤4000000) :
 Calls Tryz.prog 124 #[.slice x ps.length c,.int .i64 d] W (xs_ W (decide ((ps.length:Int)≤16) && ps.all (yl_ d))):=by
 have c2:∀ W' D,W.grownBy W' none→W'.heap[D]?=some (.cells #[.int .i64 d] 3)→Calls Tryz.prog 166 #[.slice x ps.length c,.func (.func 167) #[] #[.pointer (some ⟨D,0,none⟩)]] W' (xs_ W' (ps.all (yl_ d))):=fun W' D hg hD=>
  acl_ (hx.gw hg) (yl_ d) _ fun i hi q W2 h2 hk=>aeb_ hT ((hV.gr hg).gr h2) ps[i] q d D h0 h1 hk (by have:=qn_ za_ ps i hi;omega) (kept h2 hD)
 have c3:=xa_ c2;obtain⟨v1,h1'⟩:∃ b,decide ((ps.length:Int)≤16)=b:=⟨_,rfl⟩;rw[h1'];generalize ps.all (yl_ d)=v2 at c3 ⊢;clear c2 hx hV hT hc;obtain⟨Z,hZ⟩:∃ Z,(v1 && v2)=Z:=⟨_,rfl⟩;rw[hZ];have HZ:=xa_ hZ;clear hZ;cases v1
 · simp only[decide_eq_false_iff_not] at h1';have e:Z=false:=HZ.out.symm;subst e;clear HZ;go_enter Tryz.func124,Tryz.ntmps124;go_wp2_with fail
   go_ret;exact⟨rfl,gr1 _ _⟩
 · simp only[decide_eq_true_eq] at h1';have e:Z=v2:=HZ.out.symm;subst e;clear HZ;go_enter Tryz.func124,Tryz.ntmps124;go_wp2_with fail
   refine(c3.out _ _ (gr1 _ _) (xe_ rfl _)).mono ?_;rintro e w2 ⟨rfl,g2⟩;go_wp2_with fail
   go_ret;exact⟨rfl,gtn (gr1 _ _) g2⟩
end Go.Proofs.YtcoglmaiahpooaaGreatDoor
