/- Texts put together: Db, Gh. -/
import Derived.Test.YtcoglmaiahpooaaGreatDoorQ10
import Derived.Test.YtcoglmaiahpooaaGreatDoorQ12
import Derived.Test.YtcoglmaiahpooaaGreatDoorRows
import Derived.Lib.LaidTab
import Derived.Lay
import Derived.LaidOnce
import Derived.SevenTiedAt
import Derived.Shelf.Vars
import Derived.MakeChecks
import Derived.Lib.LaidU8
set_option linter.unusedVariables false
set_option linter.unusedSimpArgs false
set_option maxHeartbeats 8000000
namespace Go.Proofs.YtcoglmaiahpooaaGreatDoor
open Go.RowKit
attribute [local go_sem ↓] Go.wp_at_zero Go.wp_at_succ
def resO:Obj:=.cells ((resW.map fun l=>Value.string ⟨l.toArray⟩).toArray) 9
theorem afz_ {W:World} {q:Nat} (h:W.heap[q]?=some resO) (i:Nat) (hi:i<resW.length):W.cell? ⟨q,i,none⟩=some (.string ⟨(resW[i]'hi).toArray⟩):=by
 rw[xn_ h];simp[hi]
theorem aa2_ (W:World):Calls Tryz.prog 90 #[] W fun e w'=>e=.returned (.slice (some ⟨W.heap.size,0,none⟩) 53 53)∧w'=W.alloc resO:=by
 go_enter Tryz.func90,Tryz.ntmps90;go_wp2;go_ret;exact⟨rfl,rfl⟩
theorem ve_ (x:ByteArray) (W:World):Calls Tryz.prog 51 #[.string x] W (xs_ W (x4_ x)):=by
 obtain⟨Z,hZ⟩:∃ Z,x4_ x=Z:=⟨_,rfl⟩;rw[hZ];have HZ:=xa_ hZ;clear hZ;have hN:resW.length=53:=rfl;go_enter Tryz.func51,Tryz.ntmps51;go_wp2_with fail
 refine(aa2_ _).mono ?_;rintro e w1 ⟨rfl,hw1⟩;have G1:Hid (W.grownBy w1 none):=hw1▸gr1 _ _;have X1:Hid (w1.heap[W.heap.size]?=some resO):=hw1▸xe_ rfl _;clear hw1;go_wp2_with fail
 go_loopg [4] 54 (fun gk s4 wx=>∃ i:Nat,s4=.int .i64 (i:Int)∧w1=wx∧Hid (i≤53∧gk=54 - i∧(resW.drop i).contains x.toList=Z))
 case atStart=>exact⟨0,rfl,rfl,xa_ ⟨by omega,rfl,HZ.out⟩⟩
 case round=>
  obtain⟨i,rfl,rfl,HH⟩:=hrel;obtain⟨hp,hgk,hr⟩:=HH.out;have HR:=xa_ hr;clear hr HH HZ;by_cases hlt:i<53;rotate_left
  · have hi:¬((i:Int)<53):=(by omega);have e:Z=false:=(by rw[← HR.out,List.drop_eq_nil_of_le (by omega)];rfl);subst e;clear HR;go_wp2_with fail
    go_ret;exact⟨rfl,G1.out⟩
  have hi:(i:Int)<53:=(by omega);have hc:=afz_ X1.out i (by omega);have hf:=yd_ X1.out i;obtain⟨A,hA⟩:∃ A:ByteArray,⟨(resW[i]'(by omega)).toArray⟩=A:=⟨_,rfl⟩;rw[hA] at hc;have hw:IntKind.i64.wrap ((i:Int)+1)=i+1:=IntWalk.i64_in _ (by omega);obtain⟨b,hb⟩:∃ b,(A.toList==x.toList)=b:=⟨_,rfl⟩;have hz:Hid (Z=(b ||(resW.drop (i+1)).contains x.toList)):=by
   show _=_
   rw[← HR.out,List.drop_eq_getElem_cons (by omega),List.contains_cons,← hb,← hA];have e0:(⟨(resW[i]'(by omega)).toArray⟩:ByteArray).toList=resW[i]'(by omega):=(by rw[zj_]);rw[e0];congr 1;exact BEq.comm
  clear HR hA;cases b with
  | true=>
   have e:Z=true:=hz.out;subst e;clear hz;go_wp2_with fail
   go_ret;exact⟨rfl,G1.out⟩
  | false=>
   go_wp2_with fail
   go_roundg (54 - (i+1))
   case measure=>omega
   case rel=>exact⟨i+1,by simp,rfl,xa_ ⟨by omega,rfl,hz.out.symm⟩⟩
theorem af0_ {s:ByteArray} (h:0<s.size) (h37:(s[0]'h).toNat=37):nmB s=q2_ s.data.toList:=by
 have hd:=yh_ (s:=s) (i:=0) h;rw[List.drop_zero] at hd;rw[nmB];have:isW s.data.toList=false:=by
  rw[hd,isW,y5_,List.all_cons,h37];simp[okI,grI,ltI,smI,dgI]
 rw[this];rfl
theorem ad0_ {s:ByteArray} (h:0<s.size) (h37:(s[0]'h).toNat≠37) (h24:s.size≤24):nmB s=((!dgI (s[0]'h).toNat && y5_ s.data.toList) && !x4_ s):=by
 have hd:=yh_ (s:=s) (i:=0) h;rw[List.drop_zero] at hd;have hl1:(s.data.toList.drop 1).length=s.size - 1:=(by simp);rw[nmB];have:q2_ s.data.toList=false:=by
  rw[hd];cases hh:s.data.toList.drop (0+1) with
  | nil=>rfl
  | cons b l=>simp[q2_,h37]
 rw[this,Bool.or_false];congr 1;conv=>lhs;rw[hd,isW,hl1,decide_eq_true (by omega),Bool.true_and,← hd]
theorem ad1_ {s:ByteArray} (h:24<s.size):nmB s=false:=by
 have hd:=yh_ (s:=s) (i:=0) (by omega);rw[List.drop_zero] at hd;have hd1:=yh_ (s:=s) (i:=1) (by omega);have hl1:(s.data.toList.drop 1).length=s.size - 1:=(by simp);have hl2:(s.data.toList.drop 2).length=s.size - 2:=(by simp);rw[nmB];have e1:isW s.data.toList=false:=(by rw[hd,isW,hl1,decide_eq_false (by omega)];rfl);have e2:q2_ s.data.toList=false:=by
  rw[un_ (by omega),q2_,hl2,decide_eq_false (p:=s.size - 2≤8) (by omega)];simp
 rw[e1,e2];rfl
theorem aac_ (c:Int) (W:World):Calls Tryz.prog 49 #[.int .u8 c] W (xs_ W (dgI c)):=(aaw_ c W).mono fun _ _ h=>⟨h.1,h.2▸gr0 _⟩
theorem ab6_ (c:Int) (W:World):Calls Tryz.prog 50 #[.int .u8 c] W (xs_ W (ltI c)):=(um_ c W).mono fun _ _ h=>⟨h.1,h.2▸gr0 _⟩
theorem v0_ (s:ByteArray) (W:World) (hs0:0<s.size) (h24:s.size≤24) (h37:((s[0]'hs0).toNat:Int)=37):Calls Tryz.prog 21 #[.string s] W (xs_ W (q2_ s.data.toList)):=by
 obtain⟨Z,hZ⟩:∃ Z,q2_ s.data.toList=Z:=⟨_,rfl⟩;rw[hZ];have k0:((s.size:Int)==0)=false:=(by rw[beq_eq_false_iff_ne];omega);have k24:¬(24:Int)<s.size:=(by omega);have k37:(((s[0]'hs0).toNat:Int)==37)=true:=(by simpa using h37);by_cases h2:(s.size:Int)<2
 · have e:Z=false:=(by rw[← hZ,kt_ (by omega)]);subst e;clear hZ h37;go_enter Tryz.func21,Tryz.ntmps21;go_wp2_with fail
   go_ret;exact⟨rfl,gr0 _⟩
 have hl2:(s.data.toList.drop 2).length=s.size - 2:=(by simp);rw[un_ (by omega),q2_,hl2] at hZ;by_cases h10:(10:Int)<s.size
 · have e:Z=false:=(by rw[← hZ,decide_eq_false (p:=s.size - 2≤8) (by omega),Bool.and_false,Bool.false_and]);subst e;clear hZ hl2 h37;go_enter Tryz.func21,Tryz.ntmps21;go_wp2_with fail
   go_ret;exact⟨rfl,gr0 _⟩
 rw[decide_eq_true (p:=s.size - 2≤8) (by omega),Bool.and_true] at hZ;have hs1:1<s.size:=(by omega);rw[decide_eq_true (p:=(s[0]'hs0).toNat=37) (by omega),Bool.true_and] at hZ;have hd1:=yh_ hs1;have hw1:jh_ (s.data.toList.drop 1)=(dgI ((s[1]'hs1).toNat:Int) && jh_ (s.data.toList.drop 2)):=(by rw[hd1];rfl);rw[← hw1] at hZ;by_cases hz2:(s[1]'hs1).toNat=48∧2<s.size
 · have e:Z=false:=(by rw[← hZ,decide_eq_true hz2.1,decide_eq_false (p:=s.size - 2=0) (by omega)];simp);subst e;have g1:(((s[1]'hs1).toNat:Int)==48)=true:=(by rw[hz2.1];rfl);have g2:(2:Int)<s.size:=(by omega);clear hZ hl2 h37 hd1 hw1 hz2;go_enter Tryz.func21,Tryz.ntmps21;go_wp2_with fail
   go_ret;exact⟨rfl,gr0 _⟩
 have hZ2:Hid (jh_ (s.data.toList.drop 1)=Z):=by
  show _=_
  rw[← hZ];by_cases h48:(s[1]'hs1).toNat=48
  ·rw[decide_eq_true h48,decide_eq_true (p:=s.size - 2=0) (by omega)];simp
  ·rw[decide_eq_false h48];simp
 have way:Hid ((((s[1]'hs1).toNat:Int)==48)=false∨(((s[1]'hs1).toNat:Int)==48)=true∧¬(2:Int)<s.size):=by
  show _∨_
  by_cases h48:(s[1]'hs1).toNat=48
  ·right;exact⟨by rw[h48];rfl,by omega⟩
  ·left;simp;omega
 clear hZ hw1 hd1 hl2 h37 hz2;go_enter Tryz.func21,Tryz.ntmps21;rcases way.out with g1|⟨g1,g2⟩
 all_goals
  clear way;go_wp2_with fail
  go_loopg [3] (s.size+1 - 1) (fun gk s1 wx=>∃ i:Nat,s1=.int .i64 (i:Int)∧Hid (W.grownBy wx none)∧Hid (1≤i∧i≤s.size∧gk=s.size+1 - i∧jh_ (s.data.toList.drop i)=Z))
  case atStart=>exact⟨1,rfl,gr0 _,xa_ ⟨by omega,by omega,rfl,hZ2.out⟩⟩
  case round=>
   obtain⟨i,rfl,GW,HH⟩:=hrel;obtain⟨hp0,hp,hgk,hr⟩:=HH.out;have HR:=xa_ hr;clear hr HH hZ2;by_cases hlt:i<s.size;rotate_left
   · have hi:¬((i:Int)<(s.size:Int)):=(by omega);have e:Z=true:=(by rw[← HR.out,zi_ hlt];rfl);subst e;clear HR;go_wp2_with fail
     go_ret;exact⟨rfl,GW.out⟩
   have hi:((i:Int)<(s.size:Int)):=(by omega);obtain⟨G,hG⟩:∃ G,dgI ((s[i]'hlt).toNat:Int)=G:=⟨_,rfl⟩;have cG:∀ W,Calls Tryz.prog 49 #[.int .u8 ((s[i]'hlt).toNat:Int)] W (xs_ W G):=fun W=>hG▸aac_ _ W;have hw:IntKind.i64.wrap ((i:Int)+1)=i+1:=IntWalk.i64_in _ (by omega);have hz:=HR.out;rw[yh_ hlt] at hz;have hz2:Z=(G && jh_ (s.data.toList.drop (i+1))):=by
    rw[← hz,← hG];rfl
   have HZ:=xa_ hz2;clear hz hz2 HR hG;cases G with
   | false=>
    have e:Z=false:=HZ.out;subst e;clear HZ;go_wp2_with fail
    refine(cG _).mono ?_;rintro e w2 ⟨rfl,g⟩;have GG:=xa_ (gtn GW.out g);clear g;go_wp2_with fail
    go_ret;exact⟨rfl,GG.out⟩
   | true=>
    go_wp2_with fail
    refine(cG _).mono ?_;rintro e w2 ⟨rfl,g⟩;have GG:=xa_ (gtn GW.out g);clear g;go_wp2_with fail
    go_roundg (s.size+1 - (i+1))
    case measure=>omega
    case rel=>exact⟨i+1,by simp,GG,xa_ ⟨by omega,by omega,rfl,HZ.out.symm⟩⟩
def okAt (i:Nat) (b:Int):Bool:=!grI b && (ltI b ||dgI b && decide (0<i))
theorem ab7_ (b:Int):(!dgI b && okI b)=okAt 0 b:=by
 have:dgI b=true→ltI b=false∧grI b=false:=(by simp[dgI,ltI,smI,grI];omega)
 rw[okI,okAt];cases h:dgI b
 ·simp
 ·rw[(this h).1,(this h).2];rfl
theorem ab8_ {i:Nat} (h:0<i) (b:Int):okI b=okAt i b:=by simp[okI,okAt,h]
theorem vf_ (s:ByteArray) (W:World) (hs0:0<s.size) (h24:s.size≤24) (h37:((s[0]'hs0).toNat:Int)≠37):Calls Tryz.prog 21 #[.string s] W (xs_ W ((!dgI (s[0]'hs0).toNat && y5_ s.data.toList) && !x4_ s)):=by
 obtain⟨Z,hZ⟩:∃ Z,(!dgI (s[0]'hs0).toNat && y5_ s.data.toList)=Z:=⟨_,rfl⟩;have c1:=xa_ (ve_ s);rw[hZ];generalize x4_ s=r at c1 ⊢;obtain⟨Y,hY⟩:∃ Y,(Z && !r)=Y:=⟨_,rfl⟩;rw[hY];have k0:((s.size:Int)==0)=false:=(by rw[beq_eq_false_iff_ne];omega);have k24:¬(24:Int)<s.size:=(by omega);have k37:(((s[0]'hs0).toNat:Int)==37)=false:=(by simpa using h37);have HZ:=hd_ hZ;have HY:=xa_ hY;clear hZ hY h37;go_enter Tryz.func21,Tryz.ntmps21;go_wp2_with fail
 go_loopg [4] (s.size+1) (fun gk s1 wx=>∃ i:Nat,s1=.int .i64 (i:Int)∧Hid (W.grownBy wx none)∧Hid (i≤s.size∧gk=s.size+1 - i∧(if i=0 then(!dgI (s[0]'hs0).toNat && y5_ s.data.toList) else y5_ (s.data.toList.drop i))=Z))
 case atStart=>exact⟨0,rfl,gr0 _,xa_ ⟨by omega,rfl,HZ.out⟩⟩
 case round=>
  obtain⟨i,rfl,GW,HH⟩:=hrel;obtain⟨hp,hgk,hr⟩:=HH.out;have HR:=xa_ hr;clear hr HH HZ;by_cases hlt:i<s.size;rotate_left
  · have hi:¬((i:Int)<(s.size:Int)):=(by omega);have e:Z=true:=(by rw[← HR.out,if_neg (by omega),zi_ hlt];rfl);subst e;clear HR;have e:Y=!r:=HY.out.symm;subst e;clear HY;go_wp2_with fail
    refine(c1.out _).mono ?_;rintro e w2 ⟨rfl,g⟩;have GG:=xa_ (gtn GW.out g);clear g c1;go_wp2_with fail
    go_ret;exact⟨rfl,GG.out⟩
  have hi:((i:Int)<(s.size:Int)):=(by omega);obtain⟨L,hL⟩:∃ L,ltI ((s[i]'hlt).toNat:Int)=L:=⟨_,rfl⟩;obtain⟨G,hG⟩:∃ G,dgI ((s[i]'hlt).toNat:Int)=G:=⟨_,rfl⟩;have cL:∀ W,Calls Tryz.prog 50 #[.int .u8 ((s[i]'hlt).toNat:Int)] W (xs_ W L):=fun W=>hL▸ab6_ _ W;have cG:∀ W,Calls Tryz.prog 49 #[.int .u8 ((s[i]'hlt).toNat:Int)] W (xs_ W G):=fun W=>hG▸aac_ _ W;have hw:IntKind.i64.wrap ((i:Int)+1)=i+1:=IntWalk.i64_in _ (by omega);have hz:Z=(okAt i ((s[i]'hlt).toNat:Int) && y5_ (s.data.toList.drop (i+1))):=by
   rw[← HR.out];by_cases h0:i=0
   · subst h0;rw[if_pos rfl,← ab7_,Bool.and_assoc];congr 1;have:=yh_ (s:=s) (i:=0) hs0;rw[List.drop_zero] at this;conv=>lhs;rw[this]
     rfl
   ·rw[if_neg h0,yh_ hlt,← ab8_ (by omega)];rfl
  rw[okAt,hL,hG] at hz;have HZ:=xa_ hz;clear hz HR hL hG;generalize hb:(s[i]'hlt).toNat=b at cL cG HZ;have way:Hid ((65:Int)≤b∧(b:Int)≤90∨¬(65:Int)≤b∨(65:Int)≤b∧¬(b:Int)≤90):=by
   show _∨_
   omega
  rcases way.out with⟨g1,g2⟩|gg
  · have e:Z=false:=(by rw[HZ.out,grI,decide_eq_true g1,decide_eq_true g2];rfl);subst e;clear HZ way;have e:Y=false:=HY.out.symm;subst e;clear HY;go_wp2_with fail
    go_ret;exact⟨rfl,GW.out⟩
  have e:grI (b:Int)=false:=by
   rw[grI];rcases gg with g1|⟨g1,g2⟩
   ·rw[decide_eq_false g1];rfl
   ·rw[decide_eq_false g2,Bool.and_false]
  have HZ2:Hid (Z=((L ||G && decide (0<i)) && y5_ (s.data.toList.drop (i+1)))):=(by show _=_;rw[HZ.out,e];rfl);clear HZ e way;cases L with
  | true=>
   have HZ:Hid (y5_ (s.data.toList.drop (i+1))=Z):=(by show _=_;rw[HZ2.out];rfl);clear HZ2;rcases gg with g1|⟨g1,g2⟩
   all_goals
    go_wp2_with fail
    refine(cL _).mono ?_;rintro e w2 ⟨rfl,g⟩;have GG:=xa_ (gtn GW.out g);clear g;go_wp2_with fail
    go_roundg (s.size+1 - (i+1))
   all_goals first|omega|exact⟨i+1,by simp,GG,xa_ ⟨by omega,rfl,by rw[if_neg (by omega)];exact HZ.out⟩⟩
  | false=>
  cases G with
  | false=>
   have e:Z=false:=(by rw[HZ2.out];rfl);subst e;clear HZ2;have e:Y=false:=HY.out.symm;subst e;clear HY;rcases gg with g1|⟨g1,g2⟩
   all_goals
    go_wp2_with fail
    refine(cL _).mono ?_;rintro e w2 ⟨rfl,g⟩;have GG:=xa_ (gtn GW.out g);clear g;go_wp2_with fail
    refine(cG _).mono ?_;rintro e w3 ⟨rfl,g⟩;have GH:=xa_ (gtn GG.out g);clear g;go_wp2_with fail
    go_ret;exact⟨rfl,GH.out⟩
  | true=>
  obtain⟨p,hpp⟩:∃ p,decide (0<i)=p:=⟨_,rfl⟩;rw[hpp] at HZ2;cases p with
  | false=>
   have e:Z=false:=(by rw[HZ2.out];rfl);subst e;clear HZ2;have e:Y=false:=HY.out.symm;subst e;clear HY;rcases gg with g1|⟨g1,g2⟩
   all_goals
    go_wp2_with fail
    refine(cL _).mono ?_;rintro e w2 ⟨rfl,g⟩;have GG:=xa_ (gtn GW.out g);clear g;go_wp2_with fail
    refine(cG _).mono ?_;rintro e w3 ⟨rfl,g⟩;have GH:=xa_ (gtn GG.out g);clear g;go_wp2_with fail
    go_ret;exact⟨rfl,GH.out⟩
  | true=>
   have HZ:Hid (y5_ (s.data.toList.drop (i+1))=Z):=(by show _=_;rw[HZ2.out];rfl);clear HZ2;rcases gg with g1|⟨g1,g2⟩
   all_goals
    go_wp2_with fail
    refine(cL _).mono ?_;rintro e w2 ⟨rfl,g⟩;have GG:=xa_ (gtn GW.out g);clear g;go_wp2_with fail
    refine(cG _).mono ?_;rintro e w3 ⟨rfl,g⟩;have GH:=xa_ (gtn GG.out g);clear g;go_wp2_with fail
    go_roundg (s.size+1 - (i+1))
   all_goals first|omega|exact⟨i+1,by simp,GH,xa_ ⟨by omega,rfl,by rw[if_neg (by omega)];exact HZ.out⟩⟩
theorem zk_ (s:ByteArray) (W:World):Calls Tryz.prog 21 #[.string s] W (xs_ W (nmB s)):=by
 by_cases h0:s.size=0
 ·have e:s=⟨#[]⟩:=abp_ h0;subst e;rw[show nmB ⟨#[]⟩=false from rfl];go_enter Tryz.func21,Tryz.ntmps21;go_wp2;go_ret;exact⟨rfl,gr0 _⟩
 by_cases h24:24<s.size
 · have k0:((s.size:Int)==0)=false:=(by rw[beq_eq_false_iff_ne];omega);have k24:(24:Int)<s.size:=(by omega);rw[ad1_ h24];clear h24;go_enter Tryz.func21,Tryz.ntmps21;go_wp2_with fail
   go_ret;exact⟨rfl,gr0 _⟩
 by_cases h37:(s[0]'(by omega)).toNat=37
 ·rw[af0_ (by omega) h37];exact v0_ s W (by omega) (by omega) (by omega)
 ·rw[ad0_ (by omega) h37 (by omega)];exact vf_ s W (by omega) (by omega) (by omega)
end Go.Proofs.YtcoglmaiahpooaaGreatDoor
namespace Go.Proofs.YtcoglmaiahpooaaGreatDoor
open Go.RowKit
attribute [local go_sem ↓] Go.wp_at_zero Go.wp_at_succ
open Go.Lib Go.Shelf
def ab9_:List (String×DataW Unit):=[("math/bits.deBruijn32tab",Rows.laid_math_bits_deBruijn32tab),("math/bits.deBruijn64tab",Rows.laid_math_bits_deBruijn64tab),("internal/strconv.uint64pow10",Rows.laid_internal_strconv_uint64pow10),("unicode/utf8.acceptRanges",Rows.laid_unicode_utf8_acceptRanges),("plantwright/source.unitWords",Rows.laid_plantwright_source_unitWords),("plantwright/source.kindWords",Rows.laid_plantwright_source_kindWords),("plantwright/source.roleWords",Rows.laid_plantwright_source_roleWords),("plantwright/source.opWords",Rows.laid_plantwright_source_opWords),("plantwright/source.opLevels",Rows.laid_plantwright_source_opLevels),("unicode.CaseRanges",Rows.laid_unicode_CaseRanges),("unicode/utf8.first",Rows.laid_unicode_utf8_first)]
theorem qv_ {W:World} {name:String} {g:Nat} {t:TypeId} {n:Nat} {ls:List (List UInt8)} (hg:Tryz.prog.globalNamed name=some g) (hty:(Tryz.prog.globals[g]?).map (·.type)=some t)
 (ht:Tryz.prog.underlying t=some (.array n 9)) (hct:Tryz.prog.cellsOf t=n) (h:VarReads Tryz.prog W name (.agg (ls.map fun l=>.lit (.string l)))) :
 W.var? Tryz.prog name=some (ls.map fun l=>Value.string ⟨l.toArray⟩).toArray:=by
 obtain⟨g',t',cs,fuel,p,hg',ht',hvar,hd⟩:=h;obtain rfl:=Option.some.inj (hg.symm.trans hg');obtain rfl:=Option.some.inj (hty.symm.trans ht');have c9:Tryz.prog.cellsOf 9=1:=(by kernel_rfl);obtain⟨xs,m,_,hx,hl,hxl,hf⟩:=DataW.trod_array ht hd;have hx1:xs.map (·.1)=ls.map fun l=>(.lit (.string l):DataW Unit):=by
  have:=congrArg Prod.fst hx;simp only[DataW.agg.injEq] at this;exact this.symm
 have hln:ls.length=n:=by
  have:=congrArg List.length hx1;simp at this;omega
 rw[hct] at hl;rw[hvar];refine congrArg some (Array.ext' ?_);apply List.ext_getElem?;intro i;by_cases hi:i<n
 · have h1:=hf i hi;rw[c9,Nat.mul_one] at h1;have hxi:i<xs.length:=(by omega);have hli:i<ls.length:=(by omega);rw[List.getElem?_eq_getElem hxi] at h1;obtain⟨s,hs1,hs2,_⟩:=DataW.trod_string Tryz.underlying9 h1;have h2:(xs.map (·.1))[i]?=some (.lit (.string s.data.toList)):=(by rw[List.getElem?_map,List.getElem?_eq_getElem hxi,Option.map_some,hs2]);rw[hx1,List.getElem?_map,List.getElem?_eq_getElem hli,Option.map_some] at h2;have h3:ls[i]=s.data.toList:=(by simpa using h2);have h4:cs.toList[i]?=some (.string s):=by
    have h5:(cs.toList.drop i)[0]?=((cs.toList.drop i).take 1)[0]?:=(by simp);rw[hs1] at h5;simpa using h5
   rw[h4,List.getElem?_map,List.getElem?_eq_getElem hli,Option.map_some,h3]
 ·rw[List.getElem?_eq_none (by omega),List.getElem?_eq_none (by simp;omega)]
theorem v1_ {W:World} {name:String} {g:Nat} {t e:TypeId} {n:Nat} {k:IntKind} {zs:List Int} (hg:Tryz.prog.globalNamed name=some g) (hty:(Tryz.prog.globals[g]?).map (·.type)=some t)
 (ht:Tryz.prog.underlying t=some (.array n e)) (he:Tryz.prog.underlying e=some (.int k)) (hce:Tryz.prog.cellsOf e=1) (hct:Tryz.prog.cellsOf t=n) (h:VarReads Tryz.prog W name (tabData k zs)) :
 W.var? Tryz.prog name=some (zs.map fun z=>Value.int k z).toArray:=by
 obtain⟨g',t',cs,fuel,p,hg',ht',hvar,hd⟩:=h;obtain rfl:=Option.some.inj (hg.symm.trans hg');obtain rfl:=Option.some.inj (hty.symm.trans ht');rw[hvar,← cells_of_tab ht he hce hct hd]
theorem jl_ {W:World} (hsh:W.ShapedOpen Tryz.prog) {name:String} {g:Nat} {zero cs:Array Value} {t:TypeId} (hg:Tryz.prog.globalNamed name=some g) (hlt:g<Tryz.prog.globals.size)
 (h0:((begin Tryz.prog (fun _ _=>0) default).world.heap[g]?).bind Obj.row?=some (zero,t)) (hv:W.var? Tryz.prog name=some cs):W.heap[g]?=some (.cells cs t):=by
 obtain⟨cs',hh,_⟩:=hsh.1 g zero t hlt h0;simp only[World.var?,hg,Option.bind_some,hh] at hv;rw[hh,Option.some.inj hv]
set_option maxRecDepth 100000 in
theorem aca_ {W:World} (h:laidMetH Tryz.prog ab9_ W) (hsh:W.ShapedOpen Tryz.prog):Tabs W∧TabP W∧Vs W W:=by
 rw[MakeChecks.laidMetH_plain _ _ _ (by kernel_rfl)] at h;refine⟨⟨?_,?_,?_,?_,?_⟩,⟨?_⟩,?_,fun _ _=>rfl⟩
 · exact jl_ hsh (name:= "plantwright/source.opWords") (zero:=Array.replicate 15 (.string ⟨#[]⟩)) (by kernel_rfl) (of_decide_eq_true (by kernel_rfl)) (by kernel_rfl)
    (qv_ (g:=9) (ls:=[[],[43],[45],[42],[47],[109,111,100],[97,110,100],[111,114],[120,111,114],[61],[60,62],[60],[60,61],[62],[62,61]]) (t:=250) (n:=15) (by kernel_rfl) (by kernel_rfl) Tryz.underlying250 (by kernel_rfl)
     (show VarReads Tryz.prog W "plantwright/source.opWords" Rows.laid_plantwright_source_opWords from Lib.laidMet.reads h (.tail _ (.tail _ (.tail _ (.tail _ (.tail _ (.tail _ (.tail _ (.head _))))))))))
 · exact jl_ hsh (name:= "plantwright/source.opLevels") (zero:=Array.replicate 15 (.int .i64 0)) (by kernel_rfl) (of_decide_eq_true (by kernel_rfl)) (by kernel_rfl)
    (v1_ (g:=4) (zs:=[0,6,6,7,7,7,3,1,2,4,4,5,5,5,5]) (t:=206) (n:=15) (e:=3) (k:=.i64) (by kernel_rfl) (by kernel_rfl) Tryz.underlying206 Tryz.underlying3 (by kernel_rfl) (by kernel_rfl)
     (show VarReads Tryz.prog W "plantwright/source.opLevels" Rows.laid_plantwright_source_opLevels from Lib.laidMet.reads h (.tail _ (.tail _ (.tail _ (.tail _ (.tail _ (.tail _ (.tail _ (.tail _ (.head _)))))))))))
 · exact jl_ hsh (name:= "plantwright/source.kindWords") (zero:=Array.replicate 6 (.string ⟨#[]⟩)) (by kernel_rfl) (of_decide_eq_true (by kernel_rfl)) (by kernel_rfl)
    (qv_ (g:=2) (ls:=[[],[98,111,111,108],[105,110,116],[100,105,110,116],[119,111,114,100],[116,105,109,101]]) (t:=140) (n:=6) (by kernel_rfl) (by kernel_rfl) Tryz.underlying140 (by kernel_rfl)
     (show VarReads Tryz.prog W "plantwright/source.kindWords" Rows.laid_plantwright_source_kindWords from Lib.laidMet.reads h (.tail _ (.tail _ (.tail _ (.tail _ (.tail _ (.head _))))))))
 · exact jl_ hsh (name:= "plantwright/source.roleWords") (zero:=Array.replicate 6 (.string ⟨#[]⟩)) (by kernel_rfl) (of_decide_eq_true (by kernel_rfl)) (by kernel_rfl)
    (qv_ (g:=3) (ls:=[[],[118,97,114],[118,97,114,95,105,110,112,117,116],[118,97,114,95,111,117,116,112,117,116],[118,97,114,95,101,120,116,101,114,110,97,108],[118,97,114,32,114,101,116,97,105,110]]) (t:=140) (n:=6) (by kernel_rfl) (by kernel_rfl) Tryz.underlying140 (by kernel_rfl)
     (show VarReads Tryz.prog W "plantwright/source.roleWords" Rows.laid_plantwright_source_roleWords from Lib.laidMet.reads h (.tail _ (.tail _ (.tail _ (.tail _ (.tail _ (.tail _ (.head _)))))))))
 · exact jl_ hsh (name:= "plantwright/source.unitWords") (zero:=Array.replicate 4 (.string ⟨#[]⟩)) (by kernel_rfl) (of_decide_eq_true (by kernel_rfl)) (by kernel_rfl)
    (qv_ (g:=0) (ls:=[[],[112,114,111,103,114,97,109],[102,117,110,99,116,105,111,110],[102,117,110,99,116,105,111,110,95,98,108,111,99,107]]) (t:=113) (n:=4) (by kernel_rfl) (by kernel_rfl) Tryz.underlying113 (by kernel_rfl)
     (show VarReads Tryz.prog W "plantwright/source.unitWords" Rows.laid_plantwright_source_unitWords from Lib.laidMet.reads h (.tail _ (.tail _ (.tail _ (.tail _ (.head _)))))))
 · exact jl_ hsh (name:= "internal/strconv.uint64pow10") (zero:=Array.replicate 20 (.int .u64 0)) (by kernel_rfl) (of_decide_eq_true (by kernel_rfl)) (by kernel_rfl)
    (v1_ (g:=10) (zs:=[1,10,100,1000,10000,100000,1000000,10000000,100000000,1000000000,10000000000,100000000000,1000000000000,10000000000000,100000000000000,1000000000000000,10000000000000000,100000000000000000,1000000000000000000,10000000000000000000]) (t:=330) (n:=20) (e:=253) (k:=.u64) (by kernel_rfl) (by kernel_rfl) Tryz.underlying330 Tryz.underlying253 (by kernel_rfl) (by kernel_rfl)
     (show VarReads Tryz.prog W "internal/strconv.uint64pow10" Rows.laid_internal_strconv_uint64pow10 from Lib.laidMet.reads h (.tail _ (.tail _ (.head _)))))
 ·obtain⟨cs,hh,_⟩:=hsh.1 12 (Array.replicate 64 (.int .u8 0)) 346 (of_decide_eq_true (by kernel_rfl)) (by kernel_rfl);have:=(Array.getElem?_eq_some_iff.1 hh).1;omega
end Go.Proofs.YtcoglmaiahpooaaGreatDoor
