/- Texts put together: Dp, Dw, Dq, Ms, Mt, Pl, Pn. -/
import Derived.Test.YtcoglmaiahpooaaGreatDoorQ19
import Derived.Test.YtcoglmaiahpooaaGreatDoorQ20
import Derived.Test.YtcoglmaiahpooaaGreatDoorQ25
set_option linter.unusedVariables false
set_option linter.unusedSimpArgs false
set_option maxHeartbeats 8000000
namespace Go.Proofs.YtcoglmaiahpooaaGreatDoor
def usL (nm:ByteArray) (it:Bool) (es azz ms el b:Nat) (lo hi by' ti:Int):List UInt8:=
 (if nm=nob then [] else [110])++((if it=true then [105] else [])++((if es=0 then [] else [101])++((if azz=0 then [] else [97])++((if ms=0 then [] else [109])++((if el=0 then [] else [108])++((if b=0 then [] else [98])++((if lo=0 then [] else [102])++((if hi=0 then [] else [116])++((if by'=0 then [] else [121])++(if ti=0 then [] else [120]))))))))))
def wiL (s all:List UInt8):Bool:=s.all fun c=>all.contains c
def zo_ (v:Int):List UInt8:=
 if v=1 then [110,105,101] else if v=2 then [110,97] else if v=3 then [109,108] else if v=4 then [101,109,108] else if v=5 then [110,98,102,116,121] else if v=6∨v=7 then [101,98,120] else []
def cnV (v:Int) (it:Bool):Nat:=if v=1 then(if it=true then 2 else 1) else if v=4∨v=6∨v=7 then 1 else 0
def zz_ (v:Int):Bool:=decide (v=1) ||(decide (v=2) ||decide (v=5))
def z5_ (v:Int):Bool:=decide (v=6) ||decide (v=7)
def qc_ (v:Int):Bool:=decide (v=3) ||decide (v=4)
def ke_ (lo hi by':Int):Bool:=xu_ lo && (xu_ hi && (decide (hi - lo+1≤10000) && (decide (1≤by') && decide (by'≤10000))))
def docS (d v:Int) (nm:ByteArray) (it:Bool) (es:List PE) (azz:List PArg) (ms:List PArm) (el b:List PS) (lo hi by' ti:Int):Bool:=
 (decide (1≤v) && decide (v≤10)) && (wiL (usL nm it es.length azz.length ms.length el.length b.length lo hi by' ti) (zo_ v) && (decide (es.length=cnV v it) && (es.all (xr_ d) && ((!zz_ v ||nmB nm) && ((!decide (v=5) ||ke_ lo hi by') && ((!z5_ v ||(decide (1≤ti) && decide (ti≤10000))) && (xq_ d b && (xq_ d el && (decide (azz.length≤16) && (azz.all (yl_ d) && ((!qc_ v || !decide (ms.length=0)) && ms.all (x5_ v d))))))))))))
theorem ua_ (v d:Int):∀ l:List PArm,y6_ v d l=l.all (x5_ v d)
 | []=>by rw[y6_];rfl
 | a::l=>by rw[y6_,ua_ v d l];rfl
theorem ifL {α:Type} (c:Prop) [Decidable c] (x:α) (f:α→Bool):(if c then [] else [x]).all f=(decide c ||f x):=by
 by_cases h:c <;> simp[h]
theorem ifR {α:Type} (c:Prop) [Decidable c] (x:α) (f:α→Bool):(if c then [x] else []).all f=(!decide c ||f x):=by
 by_cases h:c <;> simp[h]
theorem afe_ (M:List UInt8) (nm:ByteArray) (it:Bool) (es azz ms el b:Nat) (lo hi by' ti:Int):wiL (usL nm it es azz ms el b lo hi by' ti) M =
 ((decide (nm=nob) ||M.contains 110) && ((!decide (it=true) ||M.contains 105) && ((decide (es=0) ||M.contains 101) && ((decide (azz=0) ||M.contains 97) && ((decide (ms=0) ||M.contains 109) && ((decide (el=0) ||M.contains 108) && ((decide (b=0) ||M.contains 98) && ((decide (lo=0) ||M.contains 102) && ((decide (hi=0) ||M.contains 116) && ((decide (by'=0) ||M.contains 121) && (decide (ti=0) ||M.contains 120))))))))))):=by
 simp only[wiL,usL,List.all_append,ifL,ifR]
theorem nil0 {α:Type} {l:List α} (h:l.length=0):l=[]:=List.length_eq_zero_iff.1 h
theorem ahj_ (d v sa:Int) (nm:ByteArray) (it:Bool) (es:List PE) (azz:List PArg) (ms:List PArm) (el b:List PS) (lo hi by' ti:Int) :
 docS d v nm it es azz ms el b lo hi by' ti=ye_ d (.mk v sa nm it es azz ms el b lo hi by' ti):=by
 rw[ye_,ua_,docS,afe_];have nn:nmB nob=false:=(by decide);have key:∀(B1 B2 B3 B4 B5:Bool),(es.length=0→B1=true)→(azz.length=0→B2=true)→(ms.length=0→B3=true)→(el.length=0→B4=true)→(b.length=0→B5=true)→∀ a1 a2 a3 a4 a5,es.length=a1→azz.length=a2→ms.length=a3→el.length=a4→b.length=a5→
  ((decide (1≤v) && decide (v≤10)) && (((decide (nm=nob) ||(zo_ v).contains 110) && ((!decide (it=true) ||(zo_ v).contains 105) && ((decide (a1=0) ||(zo_ v).contains 101) && ((decide (a2=0) ||(zo_ v).contains 97) && ((decide (a3=0) ||(zo_ v).contains 109) && ((decide (a4=0) ||(zo_ v).contains 108) && ((decide (a5=0) ||(zo_ v).contains 98) && ((decide (lo=0) ||(zo_ v).contains 102) && ((decide (hi=0) ||(zo_ v).contains 116) && ((decide (by'=0) ||(zo_ v).contains 121) && (decide (ti=0) ||(zo_ v).contains 120))))))))))) && (decide (a1=cnV v it) && (B1 && ((!zz_ v ||nmB nm) && ((!decide (v=5) ||ke_ lo hi by') && ((!z5_ v ||(decide (1≤ti) && decide (ti≤10000))) && (B5 && (B4 && (decide (a2≤16) && (B2 && ((!qc_ v || !decide (a3=0)) && B3)))))))))))) =
  (yb_ v nm it a1 a2 a3 a4 a5 lo hi by' ti && B1 && B2 && B3 && B4 && B5):=by
  intro B1 B2 B3 B4 B5 h1 h2 h3 h4 h5 a1 a2 a3 a4 a5 e1 e2 e3 e4 e5;rw[e1] at h1;rw[e2] at h2;rw[e3] at h3;rw[e4] at h4;rw[e5] at h5;have hit:it=true∨it=false:=(by cases it <;> simp);by_cases hv:1≤v∧v≤10
  · have hv':v=1∨v=2∨v=3∨v=4∨v=5∨v=6∨v=7∨v=8∨v=9∨v=10:=(by omega);rcases hv' with rfl|rfl|rfl|rfl|rfl|rfl|rfl|rfl|rfl|rfl
    all_goals
     rw[Bool.eq_iff_iff];simp[zo_,yb_,cnV,zz_,z5_,qc_,ke_,yw_];rcases hit with rfl|rfl <;> simp <;> grind
  · have hs:yb_ v nm it a1 a2 a3 a4 a5 lo hi by' ti=false:=by
     simp only[yb_];rw[if_neg (by omega),if_neg (by omega),if_neg (by omega),if_neg (by omega),if_neg (by omega),if_neg (by omega),if_neg (by omega)]
    rw[hs];have:(decide (1≤v) && decide (v≤10))=false:=by
     rw[Bool.and_eq_false_iff];simp;omega
    rw[this];simp
 exact key _ _ _ _ _ (fun h=>by rw[nil0 h];rfl) (fun h=>by rw[nil0 h];rfl) (fun h=>by rw[nil0 h];rfl) (fun h=>by rw[nil0 h,xq_]) (fun h=>by rw[nil0 h,xq_]) _ _ _ _ _ rfl rfl rfl rfl rfl
end Go.Proofs.YtcoglmaiahpooaaGreatDoor
namespace Go.Proofs.YtcoglmaiahpooaaGreatDoor
open Go.RowKit
attribute [local go_sem ↓] Go.wp_at_zero Go.wp_at_succ
theorem act_ (a b:UInt8):((a.toNat:Int)==(b.toNat:Int))=(a==b):=by
 rw[Bool.eq_iff_iff];simp only[beq_iff_eq];exact⟨fun h=>UInt8.toNat_inj.1 (by omega),fun h=>by rw[h]⟩
theorem uz_ (s all:ByteArray) (hs:s.size≤1000) (ha:all.size≤1000) (W:World):Calls Tryz.prog 92 #[.string s,.string all] W (xs_ W (wiL s.data.toList all.data.toList)):=by
 obtain⟨Z,hZ⟩:∃ Z,wiL s.data.toList all.data.toList=Z:=⟨_,rfl⟩;rw[hZ];have HZ:=xa_ hZ;clear hZ;go_enter Tryz.func92,Tryz.ntmps92;go_wp2_with fail
 go_loopg [5,6,7] (s.size+1) (fun gk s5 s6 s7 wx=>∃ i:Nat,s5=.int .i64 (i:Int)∧Hid (W.grownBy wx none)∧Hid (i≤s.size∧gk=s.size+1 - i∧wiL (s.data.toList.drop i) all.data.toList=Z))
 case atStart=>exact⟨0,rfl,gr0 _,xa_ ⟨by omega,rfl,HZ.out⟩⟩
 case round=>
  obtain⟨i,rfl,GX,HH⟩:=hrel;obtain⟨hp,hgk,hr⟩:=HH.out;have HR:=xa_ hr;clear hr HH HZ;by_cases hlt:i<s.size;rotate_left
  · have hi:¬((i:Int)<(s.size:Int)):=(by omega);have e:Z=true:=(by rw[← HR.out,zi_ hlt];rfl);subst e;clear HR;go_wp2_with fail
    go_ret;exact⟨rfl,GX.out⟩
  have hi:((i:Int)<(s.size:Int)):=(by omega);have hwi:IntKind.i64.wrap ((i:Int)+1)=i+1:=IntWalk.i64_in _ (by omega);obtain⟨T,hT⟩:∃ T,all.data.toList.contains (s[i]'hlt)=T:=⟨_,rfl⟩;have hz:=HR.out;rw[yh_ hlt,wiL,List.all_cons,hT] at hz;have HT:=xa_ hT;have HZ2:=hd_ hz;clear hz HR hT;generalize hc:s[i]'hlt=c at HT;go_wp2_with fail
  go_loopg [6,7] (all.size+1) (fun gk s6 s7 wy=>∃(j:Nat) (b:Bool),s6=.bool b∧s7=.int .i64 (j:Int)∧Hid (W.grownBy wy none)∧Hid (j≤all.size∧gk=all.size+1 - j∧(b ||(all.data.toList.drop j).contains c)=T))
  case atStart=>exact⟨0,false,rfl,rfl,GX,xa_ ⟨by omega,rfl,HT.out⟩⟩
  case round=>
   obtain⟨j,b,rfl,rfl,GY,HH⟩:=hrel;obtain⟨hp2,hgk2,hr2⟩:=HH.out;have HR:=xa_ hr2;clear hr2 HH HT;by_cases hlt2:j<all.size;rotate_left
   · have hj:¬((j:Int)<(all.size:Int)):=(by omega);have e:b=T:=(by have h:=HR.out;rw[zi_ hlt2] at h;simpa using h);subst e;clear HR;cases b with
     | false=>
      have e:Z=false:=HZ2.out.symm;subst e;clear HZ2;go_wp2_with fail
      go_ret;exact⟨rfl,GY.out⟩
     | true=>
      go_wp2_with fail
      go_roundg (s.size+1 - (i+1))
      case measure=>omega
      case rel=>exact⟨i+1,by simp,GY,xa_ ⟨by omega,rfl,(Bool.true_and _).symm.trans HZ2.out⟩⟩
   have hj:((j:Int)<(all.size:Int)):=(by omega);have hwj:IntKind.i64.wrap ((j:Int)+1)=j+1:=IntWalk.i64_in _ (by omega);have hr:=HR.out;rw[yh_ hlt2,List.contains_cons] at hr;obtain⟨y,hy⟩:∃ y,((c.toNat:Int)==((all[j]'hlt2).toNat:Int))=y:=⟨_,rfl⟩;rw[act_] at hy;have HR2:Hid ((b ||(y ||(all.data.toList.drop (j+1)).contains c))=T):=(by show _=_;rw[← hy];exact hr);rw[← act_] at hy;clear hr HR;cases y with
   | true=>
    go_wp2_with fail
    go_quiet (fail)
    go_wp2_with fail
    go_roundg (all.size+1 - (j+1))
    case measure=>omega
    case rel=>exact⟨j+1,true,rfl,by simp,xt_ GY.out _,xa_ ⟨by omega,rfl,by have:=HR2.out;rw[Bool.true_or,Bool.or_true] at this;rw[Bool.true_or];exact this⟩⟩
   | false=>
    go_wp2_with fail
    go_quiet (fail)
    go_wp2_with fail
    go_roundg (all.size+1 - (j+1))
    case measure=>omega
    case rel=>exact⟨j+1,b,rfl,by simp,xt_ GY.out _,xa_ ⟨by omega,rfl,HR2.out⟩⟩
theorem acu_ (v sa:Int) (nm:ByteArray) (it:Bool) (x1 x2 x3 x4 x5:Option Addr) (n1 n2 n3 n4 n5 c1 c2 c3 c4 c5:Nat) (lo hi by1 ti:Int) (W:World):Calls Tryz.prog 93 #[.agg #[.int .i64 v,.int .i64 sa,.string nm,.bool it,.slice x1 n1 c1,.slice x2 n2 c2,.slice x3 n3 c3,.slice x4 n4 c4,.slice x5 n5 c5,.int .i64 lo,.int .i64 hi,.int .i64 by1,.int .i64 ti]] W fun e w'=>∃ S:ByteArray,e=.returned (.string S)∧S.data.toList=usL nm it n1 n2 n3 n4 n5 lo hi by1 ti∧S.size≤11∧W.grownBy w' none:=by
 obtain⟨U,hU⟩:∃ U,usL nm it n1 n2 n3 n4 n5 lo hi by1 ti=U:=⟨_,rfl⟩;rw[hU];have HU:=hd_ hU;clear hU;obtain⟨W1,hW1⟩:∃ X,X=W.alloc (.cells #[.int .i64 v,.int .i64 sa,.string nm,.bool it,.slice x1 n1 c1,.slice x2 n2 c2,.slice x3 n3 c3,.slice x4 n4 c4,.slice x5 n5 c5,.int .i64 lo,.int .i64 hi,.int .i64 by1,.int .i64 ti] 99):=⟨_,rfl⟩;have A1:Hid (W1.heap[W.heap.size]?=some (.cells #[.int .i64 v,.int .i64 sa,.string nm,.bool it,.slice x1 n1 c1,.slice x2 n2 c2,.slice x3 n3 c3,.slice x4 n4 c4,.slice x5 n5 c5,.int .i64 lo,.int .i64 hi,.int .i64 by1,.int .i64 ti] 99)):=hW1▸xe_ rfl _;have G1:Hid (W.grownBy W1 none):=hW1▸gr1 _ _;have HW:=xa_ hW1;clear hW1;obtain⟨b0,hb0⟩:∃ b,(nm.toList==[])=b:=⟨_,rfl⟩;have hd:decide (nm=nob)=b0:=(by rw[← hb0,eqN]);obtain⟨b2,hb2⟩:∃ b,decide (0<n1)=b:=⟨_,rfl⟩;obtain⟨b3,hb3⟩:∃ b,decide (0<n2)=b:=⟨_,rfl⟩;obtain⟨b4,hb4⟩:∃ b,decide (0<n3)=b:=⟨_,rfl⟩;obtain⟨b5,hb5⟩:∃ b,decide (0<n4)=b:=⟨_,rfl⟩;obtain⟨b6,hb6⟩:∃ b,decide (0<n5)=b:=⟨_,rfl⟩;obtain⟨b7,hb7⟩:∃ b,(lo==0)=b:=⟨_,rfl⟩;obtain⟨b8,hb8⟩:∃ b,(hi==0)=b:=⟨_,rfl⟩;obtain⟨b9,hb9⟩:∃ b,(by1==0)=b:=⟨_,rfl⟩;obtain⟨b10,hb10⟩:∃ b,(ti==0)=b:=⟨_,rfl⟩;go_enter Tryz.func93,Tryz.ntmps93;go_upto_if 6 with fail;rw[← HW.out];clear HW;obtain⟨p1,p2,p3,p4,p5,p6⟩:=xb_ A1.out
 have HS:Hid ((⟨#[]⟩:ByteArray).data.toList++((if nm=nob then [] else [110])++((if it=true then [105] else [])++((if n1=0 then [] else [101])++((if n2=0 then [] else [97])++((if n3=0 then [] else [109])++((if n4=0 then [] else [108])++((if n5=0 then [] else [98])++((if lo=0 then [] else [102])++((if hi=0 then [] else [116])++((if by1=0 then [] else [121])++(if ti=0 then [] else [120])))))))))))=U∧(⟨#[]⟩:ByteArray).size≤0):=⟨HU.out,by decide⟩;clear HU;have hsz:(⟨#[]⟩:ByteArray).size≤100:=(by have:=HS.out.2;omega);go_cut [3] from 4 (fun s3 wx=>∃ S:ByteArray,s3=.string S∧W1=wx∧Hid (S.data.toList++((if it=true then [105] else [])++((if n1=0 then [] else [101])++((if n2=0 then [] else [97])++((if n3=0 then [] else [109])++((if n4=0 then [] else [108])++((if n5=0 then [] else [98])++((if lo=0 then [] else [102])++((if hi=0 then [] else [116])++((if by1=0 then [] else [121])++(if ti=0 then [] else [120]))))))))))=U∧S.size≤1))
 case first=>
  have hsA:((⟨#[]⟩:ByteArray)++(⟨#[110]⟩:ByteArray)).size=(⟨#[]⟩:ByteArray).size+1:=ByteArray.size_append;cases b0;all_goals
   go_wp2_with fail
   go_meet
  case rel=>exact⟨_,rfl,rfl,xa_ ⟨by have h:=HS.out.1;rw[if_neg (by have:=hd;simpa using this)] at h;rw[ByteArray.data_append,Array.toList_append,List.append_assoc];exact h,by rw[hsA];have:=HS.out.2;omega⟩⟩
  case rel=>exact⟨_,rfl,rfl,xa_ ⟨by have h:=HS.out.1;rw[if_pos (by have:=hd;simpa using this)] at h;exact h,by have:=HS.out.2;omega⟩⟩
 case rest=>
 obtain⟨S1,rfl,rfl,HS⟩:=hcut;go_upto_if 10 with fail;have hsz:S1.size≤100:=(by have:=HS.out.2;omega);go_cut [3] from 4 (fun s3 wx=>∃ S:ByteArray,s3=.string S∧W1=wx∧Hid (S.data.toList++((if n1=0 then [] else [101])++((if n2=0 then [] else [97])++((if n3=0 then [] else [109])++((if n4=0 then [] else [108])++((if n5=0 then [] else [98])++((if lo=0 then [] else [102])++((if hi=0 then [] else [116])++((if by1=0 then [] else [121])++(if ti=0 then [] else [120])))))))))=U∧S.size≤2))
 case first=>
  have hsA:(S1++(⟨#[105]⟩:ByteArray)).size=S1.size+1:=ByteArray.size_append;have hd:decide (it=true)=it:=(by cases it <;> rfl);cases it;all_goals
   go_wp2_with fail
   go_meet
  case rel=>exact⟨_,rfl,rfl,xa_ ⟨by have h:=HS.out.1;rw[if_neg (by simp)] at h;exact h,by have:=HS.out.2;omega⟩⟩
  case rel=>exact⟨_,rfl,rfl,xa_ ⟨by have h:=HS.out.1;rw[if_pos (by simp)] at h;rw[ByteArray.data_append,Array.toList_append,List.append_assoc];exact h,by rw[hsA];have:=HS.out.2;omega⟩⟩
 case rest=>
 obtain⟨S2,rfl,rfl,HS⟩:=hcut;go_upto_if 16 with fail;have hsz:S2.size≤100:=(by have:=HS.out.2;omega);go_cut [3] from 4 (fun s3 wx=>∃ S:ByteArray,s3=.string S∧W1=wx∧Hid (S.data.toList++((if n2=0 then [] else [97])++((if n3=0 then [] else [109])++((if n4=0 then [] else [108])++((if n5=0 then [] else [98])++((if lo=0 then [] else [102])++((if hi=0 then [] else [116])++((if by1=0 then [] else [121])++(if ti=0 then [] else [120]))))))))=U∧S.size≤3))
 case first=>
  have hsA:(S2++(⟨#[101]⟩:ByteArray)).size=S2.size+1:=ByteArray.size_append;cases b2;all_goals
   go_wp2_with fail
   go_meet
  case rel=>exact⟨_,rfl,rfl,xa_ ⟨by have h:=HS.out.1;rw[if_pos (by have:=of_decide_eq_false hb2;omega)] at h;exact h,by have:=HS.out.2;omega⟩⟩
  case rel=>exact⟨_,rfl,rfl,xa_ ⟨by have h:=HS.out.1;rw[if_neg (by have:=of_decide_eq_true hb2;omega)] at h;rw[ByteArray.data_append,Array.toList_append,List.append_assoc];exact h,by rw[hsA];have:=HS.out.2;omega⟩⟩
 case rest=>
 obtain⟨S3,rfl,rfl,HS⟩:=hcut;go_upto_if 22 with fail;have hsz:S3.size≤100:=(by have:=HS.out.2;omega);go_cut [3] from 4 (fun s3 wx=>∃ S:ByteArray,s3=.string S∧W1=wx∧Hid (S.data.toList++((if n3=0 then [] else [109])++((if n4=0 then [] else [108])++((if n5=0 then [] else [98])++((if lo=0 then [] else [102])++((if hi=0 then [] else [116])++((if by1=0 then [] else [121])++(if ti=0 then [] else [120])))))))=U∧S.size≤4))
 case first=>
  have hsA:(S3++(⟨#[97]⟩:ByteArray)).size=S3.size+1:=ByteArray.size_append;cases b3;all_goals
   go_wp2_with fail
   go_meet
  case rel=>exact⟨_,rfl,rfl,xa_ ⟨by have h:=HS.out.1;rw[if_pos (by have:=of_decide_eq_false hb3;omega)] at h;exact h,by have:=HS.out.2;omega⟩⟩
  case rel=>exact⟨_,rfl,rfl,xa_ ⟨by have h:=HS.out.1;rw[if_neg (by have:=of_decide_eq_true hb3;omega)] at h;rw[ByteArray.data_append,Array.toList_append,List.append_assoc];exact h,by rw[hsA];have:=HS.out.2;omega⟩⟩
 case rest=>
 obtain⟨S4,rfl,rfl,HS⟩:=hcut;go_upto_if 28 with fail;have hsz:S4.size≤100:=(by have:=HS.out.2;omega);go_cut [3] from 4 (fun s3 wx=>∃ S:ByteArray,s3=.string S∧W1=wx∧Hid (S.data.toList++((if n4=0 then [] else [108])++((if n5=0 then [] else [98])++((if lo=0 then [] else [102])++((if hi=0 then [] else [116])++((if by1=0 then [] else [121])++(if ti=0 then [] else [120]))))))=U∧S.size≤5))
 case first=>
  have hsA:(S4++(⟨#[109]⟩:ByteArray)).size=S4.size+1:=ByteArray.size_append;cases b4;all_goals
   go_wp2_with fail
   go_meet
  case rel=>exact⟨_,rfl,rfl,xa_ ⟨by have h:=HS.out.1;rw[if_pos (by have:=of_decide_eq_false hb4;omega)] at h;exact h,by have:=HS.out.2;omega⟩⟩
  case rel=>exact⟨_,rfl,rfl,xa_ ⟨by have h:=HS.out.1;rw[if_neg (by have:=of_decide_eq_true hb4;omega)] at h;rw[ByteArray.data_append,Array.toList_append,List.append_assoc];exact h,by rw[hsA];have:=HS.out.2;omega⟩⟩
 case rest=>
 obtain⟨S5,rfl,rfl,HS⟩:=hcut;go_upto_if 34 with fail;have hsz:S5.size≤100:=(by have:=HS.out.2;omega);go_cut [3] from 4 (fun s3 wx=>∃ S:ByteArray,s3=.string S∧W1=wx∧Hid (S.data.toList++((if n5=0 then [] else [98])++((if lo=0 then [] else [102])++((if hi=0 then [] else [116])++((if by1=0 then [] else [121])++(if ti=0 then [] else [120])))))=U∧S.size≤6))
 case first=>
  have hsA:(S5++(⟨#[108]⟩:ByteArray)).size=S5.size+1:=ByteArray.size_append;cases b5;all_goals
   go_wp2_with fail
   go_meet
  case rel=>exact⟨_,rfl,rfl,xa_ ⟨by have h:=HS.out.1;rw[if_pos (by have:=of_decide_eq_false hb5;omega)] at h;exact h,by have:=HS.out.2;omega⟩⟩
  case rel=>exact⟨_,rfl,rfl,xa_ ⟨by have h:=HS.out.1;rw[if_neg (by have:=of_decide_eq_true hb5;omega)] at h;rw[ByteArray.data_append,Array.toList_append,List.append_assoc];exact h,by rw[hsA];have:=HS.out.2;omega⟩⟩
 case rest=>
 obtain⟨S6,rfl,rfl,HS⟩:=hcut;go_upto_if 40 with fail;have hsz:S6.size≤100:=(by have:=HS.out.2;omega);go_cut [3] from 4 (fun s3 wx=>∃ S:ByteArray,s3=.string S∧W1=wx∧Hid (S.data.toList++((if lo=0 then [] else [102])++((if hi=0 then [] else [116])++((if by1=0 then [] else [121])++(if ti=0 then [] else [120]))))=U∧S.size≤7))
 case first=>
  have hsA:(S6++(⟨#[98]⟩:ByteArray)).size=S6.size+1:=ByteArray.size_append;cases b6;all_goals
   go_wp2_with fail
   go_meet
  case rel=>exact⟨_,rfl,rfl,xa_ ⟨by have h:=HS.out.1;rw[if_pos (by have:=of_decide_eq_false hb6;omega)] at h;exact h,by have:=HS.out.2;omega⟩⟩
  case rel=>exact⟨_,rfl,rfl,xa_ ⟨by have h:=HS.out.1;rw[if_neg (by have:=of_decide_eq_true hb6;omega)] at h;rw[ByteArray.data_append,Array.toList_append,List.append_assoc];exact h,by rw[hsA];have:=HS.out.2;omega⟩⟩
 case rest=>
 obtain⟨S7,rfl,rfl,HS⟩:=hcut;go_upto_if 45 with fail;have hsz:S7.size≤100:=(by have:=HS.out.2;omega);go_cut [3] from 4 (fun s3 wx=>∃ S:ByteArray,s3=.string S∧W1=wx∧Hid (S.data.toList++((if hi=0 then [] else [116])++((if by1=0 then [] else [121])++(if ti=0 then [] else [120])))=U∧S.size≤8))
 case first=>
  have hsA:(S7++(⟨#[102]⟩:ByteArray)).size=S7.size+1:=ByteArray.size_append;cases b7;all_goals
   go_wp2_with fail
   go_meet
  case rel=>exact⟨_,rfl,rfl,xa_ ⟨by have h:=HS.out.1;rw[if_neg (by intro e;rw[e] at hb7;cases hb7)] at h;rw[ByteArray.data_append,Array.toList_append,List.append_assoc];exact h,by rw[hsA];have:=HS.out.2;omega⟩⟩
  case rel=>exact⟨_,rfl,rfl,xa_ ⟨by have h:=HS.out.1;rw[if_pos (by simpa using hb7)] at h;exact h,by have:=HS.out.2;omega⟩⟩
 case rest=>
 obtain⟨S8,rfl,rfl,HS⟩:=hcut;go_upto_if 50 with fail;have hsz:S8.size≤100:=(by have:=HS.out.2;omega);go_cut [3] from 4 (fun s3 wx=>∃ S:ByteArray,s3=.string S∧W1=wx∧Hid (S.data.toList++((if by1=0 then [] else [121])++(if ti=0 then [] else [120]))=U∧S.size≤9))
 case first=>
  have hsA:(S8++(⟨#[116]⟩:ByteArray)).size=S8.size+1:=ByteArray.size_append;cases b8;all_goals
   go_wp2_with fail
   go_meet
  case rel=>exact⟨_,rfl,rfl,xa_ ⟨by have h:=HS.out.1;rw[if_neg (by intro e;rw[e] at hb8;cases hb8)] at h;rw[ByteArray.data_append,Array.toList_append,List.append_assoc];exact h,by rw[hsA];have:=HS.out.2;omega⟩⟩
  case rel=>exact⟨_,rfl,rfl,xa_ ⟨by have h:=HS.out.1;rw[if_pos (by simpa using hb8)] at h;exact h,by have:=HS.out.2;omega⟩⟩
 case rest=>
 obtain⟨S9,rfl,rfl,HS⟩:=hcut;go_upto_if 55 with fail;have hsz:S9.size≤100:=(by have:=HS.out.2;omega);go_cut [3] from 4 (fun s3 wx=>∃ S:ByteArray,s3=.string S∧W1=wx∧Hid (S.data.toList++(if ti=0 then [] else [120])=U∧S.size≤10))
 case first=>
  have hsA:(S9++(⟨#[121]⟩:ByteArray)).size=S9.size+1:=ByteArray.size_append;cases b9;all_goals
   go_wp2_with fail
   go_meet
  case rel=>exact⟨_,rfl,rfl,xa_ ⟨by have h:=HS.out.1;rw[if_neg (by intro e;rw[e] at hb9;cases hb9)] at h;rw[ByteArray.data_append,Array.toList_append,List.append_assoc];exact h,by rw[hsA];have:=HS.out.2;omega⟩⟩
  case rel=>exact⟨_,rfl,rfl,xa_ ⟨by have h:=HS.out.1;rw[if_pos (by simpa using hb9)] at h;exact h,by have:=HS.out.2;omega⟩⟩
 case rest=>
 obtain⟨S10,rfl,rfl,HS⟩:=hcut;go_upto_if 60 with fail;have hsz:S10.size≤100:=(by have:=HS.out.2;omega);go_cut [3] from 4 (fun s3 wx=>∃ S:ByteArray,s3=.string S∧W1=wx∧Hid (S.data.toList++([]:List UInt8)=U∧S.size≤11))
 case first=>
  have hsA:(S10++(⟨#[120]⟩:ByteArray)).size=S10.size+1:=ByteArray.size_append;cases b10;all_goals
   go_wp2_with fail
   go_meet
  case rel=>exact⟨_,rfl,rfl,xa_ ⟨by have h:=HS.out.1;rw[if_neg (by intro e;rw[e] at hb10;cases hb10)] at h;rw[ByteArray.data_append,Array.toList_append,List.append_assoc,List.append_nil];exact h,by rw[hsA];have:=HS.out.2;omega⟩⟩
  case rel=>exact⟨_,rfl,rfl,xa_ ⟨by have h:=HS.out.1;rw[if_pos (by simpa using hb10)] at h;exact h,by have:=HS.out.2;omega⟩⟩
 case rest=>
 obtain⟨S11,rfl,rfl,HS⟩:=hcut;go_wp2_with fail
 go_ret;exact⟨S11,rfl,by have:=HS.out.1;simpa using this,by have:=HS.out.2;omega,G1.out⟩
end Go.Proofs.YtcoglmaiahpooaaGreatDoor
namespace Go.Proofs.YtcoglmaiahpooaaGreatDoor
def jv_ (e:PE):Bool:=xz_ e ||(decide (e.form=1) && xr_ 2 e)
def docR (low len:Int):Bool:=decide (0≤len) && (decide (len≤1000) && ((!decide (len=0) ||decide (low=0)) && (xu_ low && (!decide (0<len) ||xu_ (low+len - 1)))))
def vp_ (kd:Int) (of:ByteArray) (low len:Int):Bool:=if of=nob then kdB kd && docR low len else nmB of && (decide (kd=0) && (decide (low=0) && decide (len=0)))
def zu_ (v:PV):Bool:=(nmB v.name && (decide (1≤v.role) && decide (v.role≤5))) && (vp_ v.kind v.of v.low v.len && jv_ v.init)
def docU (u:PU):Bool:=(decide (1≤u.kind) && decide (u.kind≤3)) && ((nmB u.name && decide (u.vars.length≤200)) && ((if u.kind=2 then kdB u.result else decide (u.result=0)) && (u.vars.all zu_ && xq_ 1 u.body)))
theorem vq_ (d:Int) (o k n:Int) (nm pt:ByteArray) (a:Int) (ks:List PE):xr_ d (.mk 1 o k n nm pt a ks)=(decide (d≤40) && (yk_ k n && (decide (o=0) && (decide (nm=nob) && (decide (pt=nob) && decide (ks.length=0)))))):=by
 rw[xr_,hdB];rw[if_pos rfl];cases ks with
 | nil=>rw[yg_];simp[Bool.and_assoc]
 | cons a l=>simp
theorem ael_ (e:PE):jv_ e=km_ e:=by
 obtain⟨f,o,k,n,nm,pt,a,ks⟩:=e;rw[jv_,km_];show _=if f=1 then _ else _
 by_cases h:f=1
 ·subst h;rw[if_pos rfl,vq_,vq_];simp[xz_,PE.form]
 · rw[if_neg h];have:PE.form (.mk f o k n nm pt a ks)=f:=rfl
   simp[this,h]
theorem aem_ (v:PV):zu_ v=yo_ v:=by
 have nn:nmB nob=false:=(by decide);rw[zu_,yo_,ael_,vp_,docR];obtain⟨nm,ro,kd,of,lo,ln,ini,a⟩:=v;generalize km_ ini=I;simp only[qh_,js_,kdB,xu_];rw[Bool.eq_iff_iff];by_cases h1:of=nob
 · subst h1;by_cases h2:kd=0
   ·subst h2;simp[nn]
   ·simp[h2];grind
 · by_cases h2:kd=0
   ·subst h2;simp[h1];grind
   ·simp[h1,h2]
theorem ub_ (u:PU):docU u=yx_ u:=by
 rw[docU,yx_];have:u.vars.all zu_=u.vars.all yo_:=by
  congr 1;funext v;exact aem_ v
 rw[this];generalize u.vars.all yo_=A;generalize xq_ 1 u.body=B;generalize nmB u.name=C;by_cases h:1≤u.kind∧u.kind≤3
 ·have h':u.kind=1∨u.kind=2∨u.kind=3:=(by omega);rcases h' with h|h|h <;> simp[h] <;> cases A <;> cases B <;> cases C <;> simp <;> grind
 · have e:(decide (1≤u.kind) && decide (u.kind≤3))=false:=by
    rw[Bool.and_eq_false_iff];simp;omega
   rw[e,if_neg (by omega),if_neg (by omega)];simp;intro h2;omega
theorem kf_ {d:Int} (h:¬d≤40) (e:PE):xr_ d e=false:=by
 obtain⟨f,o,k,n,nm,pt,a,ks⟩:=e;rw[xr_,decide_eq_false h];rfl
end Go.Proofs.YtcoglmaiahpooaaGreatDoor
namespace Go.Proofs.YtcoglmaiahpooaaGreatDoor
open Go.RowKit
attribute [local go_sem ↓] Go.wp_at_zero Go.wp_at_succ
theorem agw_ {V W:World} (hT:Tabs V) (hV:Vs V W) {ok:Nat→Prop} (x1 x2 x3 x4 x5:Option Addr) (c1 c2 c3 c4 c5:Nat) (v:Int) (sa:Int) (nm:ByteArray) (it:Bool) (es:List PE) (ps:List PArg) (ms:List PArm) (el bo:List PS) (lo hi by1 ti:Int) (hn:nm.size≤4000000) (hx1:Xs W ok (.slice x1 es.length c1) es) (hc1:y9_ es≤4000000) (hx2:Li kdA 96 W ok (.slice x2 ps.length c2) ps) (hc2:(ps.map za_).sum≤4000000)
 (hx3:Li kdM 97 W ok (.slice x3 ms.length c3) ms) (hc3:yv_ ms≤4000000) (hb4:el.length≤4000000) (hb5:bo.length≤4000000)
 (hL3:∀(i:Nat) (hi:i<ms.length) (k:Value) (W':World),W.grownBy W' none→Sm W' ok k (.inl ms[i].body)→LC W' k ms[i].body) (hL4:LC W (.slice x4 el.length c4) el) (hL5:LC W (.slice x5 bo.length c5) bo) (d:Int) (h0:0≤d) (h1:d≤100) :
 Calls Tryz.prog 89 #[sV v sa nm it (.slice x1 es.length c1) (.slice x2 ps.length c2) (.slice x3 ms.length c3) (.slice x4 el.length c4) (.slice x5 bo.length c5) lo hi by1 ti,.int .i64 d] W (xs_ W (ye_ d (.mk v sa nm it es ps ms el bo lo hi by1 ti))):=by
 by_cases e1:v=1
 ·subst e1;exact st_1 hT hV x1 x2 x3 x4 x5 c1 c2 c3 c4 c5 sa nm it es ps ms el bo lo hi by1 ti hn hx1 hc1 hx2 hc2 hx3 hc3 hb4 hb5 hL3 hL4 hL5 d h0 h1
 by_cases e2:v=2
 ·subst e2;exact st_2 hT hV x1 x2 x3 x4 x5 c1 c2 c3 c4 c5 sa nm it es ps ms el bo lo hi by1 ti hn hx1 hc1 hx2 hc2 hx3 hc3 hb4 hb5 hL3 hL4 hL5 d h0 h1
 by_cases e3:v=3
 ·subst e3;exact st_3 hT hV x1 x2 x3 x4 x5 c1 c2 c3 c4 c5 sa nm it es ps ms el bo lo hi by1 ti hn hx1 hc1 hx2 hc2 hx3 hc3 hb4 hb5 hL3 hL4 hL5 d h0 h1
 by_cases e4:v=4
 ·subst e4;exact st_4 hT hV x1 x2 x3 x4 x5 c1 c2 c3 c4 c5 sa nm it es ps ms el bo lo hi by1 ti hn hx1 hc1 hx2 hc2 hx3 hc3 hb4 hb5 hL3 hL4 hL5 d h0 h1
 by_cases e5:v=5
 ·subst e5;exact st_5 hT hV x1 x2 x3 x4 x5 c1 c2 c3 c4 c5 sa nm it es ps ms el bo lo hi by1 ti hn hx1 hc1 hx2 hc2 hx3 hc3 hb4 hb5 hL3 hL4 hL5 d h0 h1
 by_cases e6:v=6
 ·subst e6;exact st_6 hT hV x1 x2 x3 x4 x5 c1 c2 c3 c4 c5 sa nm it es ps ms el bo lo hi by1 ti hn hx1 hc1 hx2 hc2 hx3 hc3 hb4 hb5 hL3 hL4 hL5 d h0 h1
 by_cases e7:v=7
 ·subst e7;exact st_7 hT hV x1 x2 x3 x4 x5 c1 c2 c3 c4 c5 sa nm it es ps ms el bo lo hi by1 ti hn hx1 hc1 hx2 hc2 hx3 hc3 hb4 hb5 hL3 hL4 hL5 d h0 h1
 by_cases e8:v=8
 ·subst e8;exact st_8 hT hV x1 x2 x3 x4 x5 c1 c2 c3 c4 c5 sa nm it es ps ms el bo lo hi by1 ti hn hx1 hc1 hx2 hc2 hx3 hc3 hb4 hb5 hL3 hL4 hL5 d h0 h1
 by_cases e9:v=9
 ·subst e9;exact st_9 hT hV x1 x2 x3 x4 x5 c1 c2 c3 c4 c5 sa nm it es ps ms el bo lo hi by1 ti hn hx1 hc1 hx2 hc2 hx3 hc3 hb4 hb5 hL3 hL4 hL5 d h0 h1
 by_cases e10:v=10
 ·subst e10;exact ai1_ hT hV x1 x2 x3 x4 x5 c1 c2 c3 c4 c5 sa nm it es ps ms el bo lo hi by1 ti hn hx1 hc1 hx2 hc2 hx3 hc3 hb4 hb5 hL3 hL4 hL5 d h0 h1
 have e:ye_ d (.mk v sa nm it es ps ms el bo lo hi by1 ti)=false:=by
  rw[ye_,yb_];simp[e1,e2,e3,e4,e5,e6,e7,e8,e9,e10]
 rw[e];clear hx1 hx2 hx3 hV hT hc1 hc2 hc3 hL3 hL4 hL5 hb4 hb5 hn e;have g1:(v==1)=false:=(by simpa using e1);have g2:(v==2)=false:=(by simpa using e2);have g3:(v==3)=false:=(by simpa using e3);have g4:(v==4)=false:=(by simpa using e4);have g5:(v==5)=false:=(by simpa using e5);have g6:(v==6)=false:=(by simpa using e6);have g7:(v==7)=false:=(by simpa using e7);have g8:(v==8)=false:=(by simpa using e8);have g9:(v==9)=false:=(by simpa using e9);have g10:(v==10)=false:=(by simpa using e10);go_enter Tryz.func89,Tryz.ntmps89;go_wp2_with fail
 go_region
 go_wp2_with fail
 go_ret;exact⟨rfl,xi_ (xf_ (gr1 _ _) _)⟩
def SC (W:World) (s:PS) (q:Sq):Prop:=∀(d:Int),0≤d→d≤100→∀ W',W.grownBy W' none→Calls Tryz.prog 89 #[.agg (sC s q).toArray,.int .i64 d] W' (xs_ W' (ye_ d s))
theorem aef_ {W:World} {ok:Nat→Prop} {x:Option Addr} {c:Nat} {l:List PS} (hx:Li kdS 99 W ok (.slice x l.length c) l)
 (hP:∀(i:Nat) (hi:i<l.length) (q:Sq) (W':World),W.grownBy W' none→kdS.S W' ok l[i] q→SC W' l[i] q):LC W (.slice x l.length c) l:=by
 intro d h0 h1 W0 hg0;obtain⟨Z,hZ⟩:∃ Z,xq_ d l=Z:=⟨_,rfl⟩;rw[hZ];have HZ:=xa_ hZ;have HX:=xa_ (hx.gw hg0);have HP:=xa_ (fun i hi q W' (h:W0.grownBy W' none) hk=>hP i hi q W' (gtn hg0 h) hk);have hle:=hx.le;have hwd:IntKind.i64.wrap (d+1)=d+1:=IntWalk.i64_in _ (by omega);clear hZ hx hP hg0;go_enter Tryz.func48,Tryz.ntmps48;go_wp2_with fail
 have LS:Hid (∃ i:Nat,Value.int .i64 0=.int .i64 (i:Int)∧Hid (i≤l.length∧l.length+1=l.length+1 - i∧W0.grownBy W0 none∧xq_ d (l.drop i)=Z)):=⟨0,rfl,xa_ ⟨by omega,rfl,gr0 _,by simpa using HZ.out⟩⟩;clear HZ;go_loopg [9] (l.length+1) (fun gk s1 wx=>∃ i:Nat,s1=.int .i64 (i:Int)∧Hid (i≤l.length∧gk=l.length+1 - i∧W0.grownBy wx none∧xq_ d (l.drop i)=Z))
 case atStart=>exact LS.out
 case round=>
  obtain⟨i,rfl,HH⟩:=hrel;obtain⟨hi1,hgk,hg,hm⟩:=HH.out;clear HH LS;have HG:=xa_ hg;by_cases hi:i<l.length;rotate_left
  · have hlt:¬((i:Int)<(l.length:Int)):=(by omega);rw[List.drop_eq_nil_of_le (by omega),xq_] at hm;have e:Z=true:=hm.symm;subst e;clear hg hm HP HX;go_wp2_with fail
    go_ret;exact⟨rfl,HG.out⟩
  have hlt:((i:Int)<(l.length:Int)):=(by omega);have hwi:IntKind.i64.wrap ((i:Int)+1)=i+1:=IntWalk.i64_in _ (by omega);rw[List.drop_eq_getElem_cons hi,xq_] at hm;obtain⟨g,off,c',q,ex,hgl,hk,hc⟩:=HX.out.atG (sz:=13) y1_ (by decide) i hi;injection ex with e1 _ e3;subst e1 e3;have hC:=hc wr hg;have cP:=fun W' h=>HP.out i hi q W' h ((kdS.keep hk (fun b _ hl=>h.block b hl (by simp)) h.size));have HM:=xa_ hm;have HK:=xa_ hk;clear hc hm hg hk;generalize l[i]=E at hC cP HM HK;obtain⟨v,sa,nm,it,es,ps,ms,el,bo,lo,hi',by1,ti⟩:=E;obtain⟨xa1,xc1,xa2,xc2,xa3,xc3,xa4,xc4,xa5,xc5,rfl⟩:=qg_ HK.out;have cP2:=xa_ cP;have y0:wr.cell? ⟨g,off+i*13,none⟩=some (.int .i64 v):=hC 0 (by decide);have y1:wr.cell? ⟨g,off+i*13+1,none⟩=some (.int .i64 sa):=hC 1 (by decide);have y2:wr.cell? ⟨g,off+i*13+2,none⟩=some (.string nm):=hC 2 (by decide);have y3:wr.cell? ⟨g,off+i*13+3,none⟩=some (.bool it):=hC 3 (by decide);have y4:wr.cell? ⟨g,off+i*13+4,none⟩=some (.slice xa1 es.length xc1):=hC 4 (by decide);have y5:wr.cell? ⟨g,off+i*13+5,none⟩=some (.slice xa2 ps.length xc2):=hC 5 (by decide);have y6:wr.cell? ⟨g,off+i*13+6,none⟩=some (.slice xa3 ms.length xc3):=hC 6 (by decide);have y7:wr.cell? ⟨g,off+i*13+7,none⟩=some (.slice xa4 el.length xc4):=hC 7 (by decide);have y8:wr.cell? ⟨g,off+i*13+8,none⟩=some (.slice xa5 bo.length xc5):=hC 8 (by decide);have y9:wr.cell? ⟨g,off+i*13+9,none⟩=some (.int .i64 lo):=hC 9 (by decide);have y10:wr.cell? ⟨g,off+i*13+10,none⟩=some (.int .i64 hi'):=hC 10 (by decide);have y11:wr.cell? ⟨g,off+i*13+11,none⟩=some (.int .i64 by1):=hC 11 (by decide)
  have y12:wr.cell? ⟨g,off+i*13+12,none⟩=some (.int .i64 ti):=hC 12 (by decide);clear hC cP HK;by_cases h40:d≤40;rotate_left
  · have e:Z=false:=(by rw[← HM.out,decide_eq_false h40];rfl);have h41:(40:Int)<d:=(by omega);subst e;clear HM cP2 HP HX;go_wp2_with fail
    go_ret;exact⟨rfl,xf_ HG.out _⟩
  have HM1:=xa_ (show(ye_ (d+1) (.mk v sa nm it es ps ms el bo lo hi' by1 ti) && xq_ d (l.drop (i+1)))=Z by rw[← HM.out,decide_eq_true h40,Bool.true_and]);have cP3:=xa_ (cP2.out _ (xf_ HG.out (.cells #[.int .i64 v,.int .i64 sa,.string nm,.bool it,.slice xa1 es.length xc1,.slice xa2 ps.length xc2,.slice xa3 ms.length xc3,.slice xa4 el.length xc4,.slice xa5 bo.length xc5,.int .i64 lo,.int .i64 hi',.int .i64 by1,.int .i64 ti] 99)) (d+1) (by omega) (by omega) _ (gr0 _));clear HM cP2;generalize ye_ (d+1) (.mk v sa nm it es ps ms el bo lo hi' by1 ti)=r at cP3 HM1;go_wp2_with fail
  refine cP3.out.mono ?_;rintro e w2 ⟨rfl,g2⟩;have G2:=xa_ (gtn (xf_ HG.out _) g2);clear g2;cases r
  · have e:Z=false:=(by rw[← HM1.out];rfl);subst e;clear HM1 cP3;go_wp2_with fail
    go_ret;exact⟨rfl,G2.out⟩
  · have HM2:=xa_ ((Bool.true_and _).symm.trans HM1.out);clear HM1 cP3;go_wp2_with fail
    go_roundg (l.length+1 - (i+1))
    case measure=>omega
    case rel=>exact⟨i+1,by simp,xa_ ⟨by omega,rfl,G2.out,HM2.out⟩⟩
theorem agx_ {V:World} (hT:Tabs V):∀(n:Nat) (l:List PS),SizeOf.sizeOf l<n→∀(W:World) (ok:Nat→Prop) (k:Value),Vs V W→Sm W ok k (.inl l)→ys_ l≤4000000→LC W k l:=by
 intro n;induction n with
 | zero=>intro l h;omega
 | succ n ih=>
  intro l h W ok k hV hx hc;obtain⟨x,c,rfl⟩:=(Sm.ss hx).sl;refine aef_ (Sm.ss hx) ?_;intro i hi q W' hg hk d h0 h1 W2 hg2;have hce:=kd_ l i hi;have s1:SizeOf.sizeOf l[i]<SizeOf.sizeOf l:=List.sizeOf_lt_of_mem (List.getElem_mem hi);generalize l[i]=E at hk hce s1 ⊢;have hk2:kdS.S W2 ok E q:=kdS.keep hk (fun b _ hl=>hg2.block b hl (by simp)) hg2.size;have hV2:=(hV.gr hg).gr hg2;obtain⟨v,sa,nm,it,es,ps,ms,el,bo,lo,hi',by1,ti⟩:=E;rw[jb_] at hce;obtain⟨xa1,xc1,xa2,xc2,xa3,xc3,xa4,xc4,xa5,xc5,rfl⟩:=qg_ hk2;obtain⟨⟨k1,k2⟩,k3,k4,k5⟩:=hk2;simp at s1;refine agw_ hT hV2 xa1 xa2 xa3 xa4 xa5 xc1 xc2 xc3 xc4 xc5 v sa nm it es ps ms el bo lo hi' by1 ti (by omega) k1 (by omega) k2 (by omega) (Sm.ms k3) (by omega) (Sm.ss k4).le (Sm.ss k5).le ?_ (ih el (by omega) W2 ok _ hV2 k4 (by omega)) (ih bo (by omega) W2 ok _ hV2 k5 (by omega)) d h0 h1;intro j hj k W3 hg3 hk3;have hcm:=qo_ ms j hj;have s2:SizeOf.sizeOf ms[j]<SizeOf.sizeOf ms:=List.sizeOf_lt_of_mem (List.getElem_mem hj);generalize ms[j]=M at hk3 hcm s2 ⊢;obtain⟨e,ls,b⟩:=M;rw[jm_] at hcm;simp at s2;exact ih b (by omega) W3 ok k (hV2.gr hg3) hk3 (by omega)
theorem jc_ {V W:World} (hT:Tabs V) (hV:Vs V W) {ok:Nat→Prop} {k:Value} {l:List PS} (hx:Li kdS 99 W ok k l) (hc:ys_ l≤4000000):LC W k l:=agx_ hT _ l (Nat.lt_succ_self _) W ok k hV hx.ss hc
def ju_ (u:PU):Nat:=1+u.name.size+(u.vars.map zt_).sum+ys_ u.body
theorem acr_ (n:Nat):decide ((n:Int)≤200)=decide (n≤200):=by rw[Bool.eq_iff_iff];simp;omega
theorem agy_ {V W:World} (hT:Tabs V) (hV:Vs V W) {ok:Nat→Prop} (s1:ByteArray) (ur:Int) (vs:List PV) (xv:Option Addr) (cv:Nat) (bo:List PS) (xb:Option Addr) (cb:Nat) (at1:Int) (hs1:s1.size≤4000000) (hv:Li kdV 24 W ok (.slice xv vs.length cv) vs) (hcv:(vs.map zt_).sum≤4000000) (hb:Li kdS 99 W ok (.slice xb bo.length cb) bo) (hcb:ys_ bo≤4000000) :
 Calls Tryz.prog 20 #[.agg #[.int .i64 1,.string s1,.int .i64 ur,.slice xv vs.length cv,.slice xb bo.length cb,.int .i64 at1]] W (xs_ W ((ur==0) && (nmB s1 && (decide ((vs.length:Int)≤200) && (vs.all yo_ && xq_ 1 bo))))):=by
 have k1:=xa_ (yi_ s1 hs1);have k2:=xa_ (fun W' (hg:W.grownBy W' none)=>q9_ (hv.gw hg) yo_ #[] (fun i hi q W2 h2 hk=>j0_ hT ((hV.gr hg).gr h2) vs[i] q hk (by have:=qn_ zt_ vs i hi;omega)));have k3:=xa_ (jc_ hT hV hb hcb 1 (by omega) (by omega));obtain⟨r2,h2⟩:∃ b,decide ((vs.length:Int)≤200)=b:=⟨_,rfl⟩;rw[h2];generalize nmB s1=v1 at k1 ⊢;generalize vs.all yo_=v2 at k2 ⊢;generalize xq_ 1 bo=v3 at k3 ⊢;obtain⟨v0,e0⟩:∃ b,(ur==0)=b:=⟨_,rfl⟩;rw[e0];obtain⟨Z,hZ⟩:∃ Z,(v0 && (v1 && (r2 && (v2 && v3))))=Z:=⟨_,rfl⟩;rw[hZ];have HZ:=xa_ hZ;clear hZ;clear hv hb hV hT hcv hcb hs1;go_enter Tryz.func20,Tryz.ntmps20;cases v0 with
 | false=>
  have e:Z=false:=HZ.out.symm;subst e;clear HZ;go_wp2_with fail
  go_ret;exact⟨rfl,(xf_ (gr0 _) _)⟩
 | true=>
 have HZ0:=xa_ ((Bool.true_and _).symm.trans HZ.out);clear HZ;have HZ:=HZ0;clear HZ0;go_wp2_with fail
 refine(k1.out _).mono ?_;rintro e W1 ⟨rfl,g⟩;have A1:Hid (W1.heap[W.heap.size]?=some (.cells #[.int .i64 1,.string s1,.int .i64 ur,.slice xv vs.length cv,.slice xb bo.length cb,.int .i64 at1] 27)):=kept g (xe_ (by first|rfl|simp) _);have G1:=xa_ (gtn (xf_ (gr0 _) _) g);clear g;obtain⟨a1a,a1b,a1c,a1d,a1e,a1f⟩:=xb_ A1.out;cases v1 with
 | false=>
  have e:Z=false:=HZ.out.symm;subst e;clear HZ;go_wp2_with fail
  go_ret;exact⟨rfl,G1.out⟩
 | true=>
 have HZ0:=xa_ ((Bool.true_and _).symm.trans HZ.out);clear HZ;have HZ:=HZ0;clear HZ0;cases r2 with
 | false=>
  simp only[decide_eq_false_iff_not] at h2;have e:Z=false:=HZ.out.symm;subst e;clear HZ;go_wp2_with fail
  go_ret;exact⟨rfl,G1.out⟩
 | true=>
 simp only[decide_eq_true_eq] at h2;have HZ0:=xa_ ((Bool.true_and _).symm.trans HZ.out);clear HZ;have HZ:=HZ0;clear HZ0;go_wp2_with fail
 refine(k2.out _ G1.out).mono ?_;rintro e W2 ⟨rfl,g⟩;have A2:Hid (W2.heap[W.heap.size]?=some (.cells #[.int .i64 1,.string s1,.int .i64 ur,.slice xv vs.length cv,.slice xb bo.length cb,.int .i64 at1] 27)):=kept g A1.out;have G2:=xa_ (gtn G1.out g);clear g a1a a1b a1c a1d a1e a1f;obtain⟨a2a,a2b,a2c,a2d,a2e,a2f⟩:=xb_ A2.out;cases v2 with
 | false=>
  have e:Z=false:=HZ.out.symm;subst e;clear HZ;go_wp2_with fail
  go_ret;exact⟨rfl,G2.out⟩
 | true=>
 have HZ0:=xa_ ((Bool.true_and _).symm.trans HZ.out);clear HZ;have HZ:=HZ0;clear HZ0;go_wp2_with fail
 refine(k3.out _ G2.out).mono ?_;rintro e W3 ⟨rfl,g⟩;have A3:Hid (W3.heap[W.heap.size]?=some (.cells #[.int .i64 1,.string s1,.int .i64 ur,.slice xv vs.length cv,.slice xb bo.length cb,.int .i64 at1] 27)):=kept g A2.out;have G3:=xa_ (gtn G2.out g);clear g a2a a2b a2c a2d a2e a2f;obtain⟨a3a,a3b,a3c,a3d,a3e,a3f⟩:=xb_ A3.out;have e:Z=v3:=HZ.out.symm;subst e;clear HZ;go_wp2_with fail
 go_ret;exact⟨rfl,G3.out⟩
theorem agz_ {V W:World} (hT:Tabs V) (hV:Vs V W) {ok:Nat→Prop} (s1:ByteArray) (ur:Int) (vs:List PV) (xv:Option Addr) (cv:Nat) (bo:List PS) (xb:Option Addr) (cb:Nat) (at1:Int) (hs1:s1.size≤4000000) (hv:Li kdV 24 W ok (.slice xv vs.length cv) vs) (hcv:(vs.map zt_).sum≤4000000) (hb:Li kdS 99 W ok (.slice xb bo.length cb) bo) (hcb:ys_ bo≤4000000) :
 Calls Tryz.prog 20 #[.agg #[.int .i64 2,.string s1,.int .i64 ur,.slice xv vs.length cv,.slice xb bo.length cb,.int .i64 at1]] W (xs_ W (kdB ur && (nmB s1 && (decide ((vs.length:Int)≤200) && (vs.all yo_ && xq_ 1 bo))))):=by
 have k1:=xa_ (yi_ s1 hs1);have k2:=xa_ (fun W' (hg:W.grownBy W' none)=>q9_ (hv.gw hg) yo_ #[] (fun i hi q W2 h2 hk=>j0_ hT ((hV.gr hg).gr h2) vs[i] q hk (by have:=qn_ zt_ vs i hi;omega)));have k3:=xa_ (jc_ hT hV hb hcb 1 (by omega) (by omega));obtain⟨r2,h2⟩:∃ b,decide ((vs.length:Int)≤200)=b:=⟨_,rfl⟩;rw[h2];generalize nmB s1=v1 at k1 ⊢;generalize vs.all yo_=v2 at k2 ⊢;generalize xq_ 1 bo=v3 at k3 ⊢;have k0:=xa_ (kd_g ur);generalize kdB ur=v0 at k0 ⊢;obtain⟨Z,hZ⟩:∃ Z,(v0 && (v1 && (r2 && (v2 && v3))))=Z:=⟨_,rfl⟩;rw[hZ];have HZ:=xa_ hZ;clear hZ;clear hv hb hV hT hcv hcb hs1;go_enter Tryz.func20,Tryz.ntmps20;go_wp2_with fail
 refine(k0.out _).mono ?_;rintro e W1 ⟨rfl,g⟩;have A1:Hid (W1.heap[W.heap.size]?=some (.cells #[.int .i64 2,.string s1,.int .i64 ur,.slice xv vs.length cv,.slice xb bo.length cb,.int .i64 at1] 27)):=kept g (xe_ (by first|rfl|simp) _);have G1:=xa_ (gtn (xf_ (gr0 _) _) g);clear g;obtain⟨a1a,a1b,a1c,a1d,a1e,a1f⟩:=xb_ A1.out;cases v0 with
 | false=>
  have e:Z=false:=HZ.out.symm;subst e;clear HZ;go_wp2_with fail
  go_ret;exact⟨rfl,G1.out⟩
 | true=>
 have HZ0:=xa_ ((Bool.true_and _).symm.trans HZ.out);clear HZ;have HZ:=HZ0;clear HZ0;go_wp2_with fail
 refine(k1.out _).mono ?_;rintro e W2 ⟨rfl,g⟩;have A2:Hid (W2.heap[W.heap.size]?=some (.cells #[.int .i64 2,.string s1,.int .i64 ur,.slice xv vs.length cv,.slice xb bo.length cb,.int .i64 at1] 27)):=kept g A1.out;have G2:=xa_ (gtn G1.out g);clear g a1a a1b a1c a1d a1e a1f;obtain⟨a2a,a2b,a2c,a2d,a2e,a2f⟩:=xb_ A2.out;cases v1 with
 | false=>
  have e:Z=false:=HZ.out.symm;subst e;clear HZ;go_wp2_with fail
  go_ret;exact⟨rfl,G2.out⟩
 | true=>
 have HZ0:=xa_ ((Bool.true_and _).symm.trans HZ.out);clear HZ;have HZ:=HZ0;clear HZ0;cases r2 with
 | false=>
  simp only[decide_eq_false_iff_not] at h2;have e:Z=false:=HZ.out.symm;subst e;clear HZ;go_wp2_with fail
  go_ret;exact⟨rfl,G2.out⟩
 | true=>
 simp only[decide_eq_true_eq] at h2;have HZ0:=xa_ ((Bool.true_and _).symm.trans HZ.out);clear HZ;have HZ:=HZ0;clear HZ0;go_wp2_with fail
 refine(k2.out _ G2.out).mono ?_;rintro e W3 ⟨rfl,g⟩;have A3:Hid (W3.heap[W.heap.size]?=some (.cells #[.int .i64 2,.string s1,.int .i64 ur,.slice xv vs.length cv,.slice xb bo.length cb,.int .i64 at1] 27)):=kept g A2.out;have G3:=xa_ (gtn G2.out g);clear g a2a a2b a2c a2d a2e a2f;obtain⟨a3a,a3b,a3c,a3d,a3e,a3f⟩:=xb_ A3.out;cases v2 with
 | false=>
  have e:Z=false:=HZ.out.symm;subst e;clear HZ;go_wp2_with fail
  go_ret;exact⟨rfl,G3.out⟩
 | true=>
 have HZ0:=xa_ ((Bool.true_and _).symm.trans HZ.out);clear HZ;have HZ:=HZ0;clear HZ0;go_wp2_with fail
 refine(k3.out _ G3.out).mono ?_;rintro e W4 ⟨rfl,g⟩;have A4:Hid (W4.heap[W.heap.size]?=some (.cells #[.int .i64 2,.string s1,.int .i64 ur,.slice xv vs.length cv,.slice xb bo.length cb,.int .i64 at1] 27)):=kept g A3.out;have G4:=xa_ (gtn G3.out g);clear g a3a a3b a3c a3d a3e a3f;obtain⟨a4a,a4b,a4c,a4d,a4e,a4f⟩:=xb_ A4.out;have e:Z=v3:=HZ.out.symm;subst e;clear HZ;go_wp2_with fail
 go_ret;exact⟨rfl,G4.out⟩
theorem ag0_ {V W:World} (hT:Tabs V) (hV:Vs V W) {ok:Nat→Prop} (s1:ByteArray) (ur:Int) (vs:List PV) (xv:Option Addr) (cv:Nat) (bo:List PS) (xb:Option Addr) (cb:Nat) (at1:Int) (hs1:s1.size≤4000000) (hv:Li kdV 24 W ok (.slice xv vs.length cv) vs) (hcv:(vs.map zt_).sum≤4000000) (hb:Li kdS 99 W ok (.slice xb bo.length cb) bo) (hcb:ys_ bo≤4000000) :
 Calls Tryz.prog 20 #[.agg #[.int .i64 3,.string s1,.int .i64 ur,.slice xv vs.length cv,.slice xb bo.length cb,.int .i64 at1]] W (xs_ W ((ur==0) && (nmB s1 && (decide ((vs.length:Int)≤200) && (vs.all yo_ && xq_ 1 bo))))):=by
 have k1:=xa_ (yi_ s1 hs1);have k2:=xa_ (fun W' (hg:W.grownBy W' none)=>q9_ (hv.gw hg) yo_ #[] (fun i hi q W2 h2 hk=>j0_ hT ((hV.gr hg).gr h2) vs[i] q hk (by have:=qn_ zt_ vs i hi;omega)));have k3:=xa_ (jc_ hT hV hb hcb 1 (by omega) (by omega));obtain⟨r2,h2⟩:∃ b,decide ((vs.length:Int)≤200)=b:=⟨_,rfl⟩;rw[h2];generalize nmB s1=v1 at k1 ⊢;generalize vs.all yo_=v2 at k2 ⊢;generalize xq_ 1 bo=v3 at k3 ⊢;obtain⟨v0,e0⟩:∃ b,(ur==0)=b:=⟨_,rfl⟩;rw[e0];obtain⟨Z,hZ⟩:∃ Z,(v0 && (v1 && (r2 && (v2 && v3))))=Z:=⟨_,rfl⟩;rw[hZ];have HZ:=xa_ hZ;clear hZ;clear hv hb hV hT hcv hcb hs1;go_enter Tryz.func20,Tryz.ntmps20;cases v0 with
 | false=>
  have e:Z=false:=HZ.out.symm;subst e;clear HZ;go_wp2_with fail
  go_ret;exact⟨rfl,(xf_ (gr0 _) _)⟩
 | true=>
 have HZ0:=xa_ ((Bool.true_and _).symm.trans HZ.out);clear HZ;have HZ:=HZ0;clear HZ0;go_wp2_with fail
 refine(k1.out _).mono ?_;rintro e W1 ⟨rfl,g⟩;have A1:Hid (W1.heap[W.heap.size]?=some (.cells #[.int .i64 3,.string s1,.int .i64 ur,.slice xv vs.length cv,.slice xb bo.length cb,.int .i64 at1] 27)):=kept g (xe_ (by first|rfl|simp) _);have G1:=xa_ (gtn (xf_ (gr0 _) _) g);clear g;obtain⟨a1a,a1b,a1c,a1d,a1e,a1f⟩:=xb_ A1.out;cases v1 with
 | false=>
  have e:Z=false:=HZ.out.symm;subst e;clear HZ;go_wp2_with fail
  go_ret;exact⟨rfl,G1.out⟩
 | true=>
 have HZ0:=xa_ ((Bool.true_and _).symm.trans HZ.out);clear HZ;have HZ:=HZ0;clear HZ0;cases r2 with
 | false=>
  simp only[decide_eq_false_iff_not] at h2;have e:Z=false:=HZ.out.symm;subst e;clear HZ;go_wp2_with fail
  go_ret;exact⟨rfl,G1.out⟩
 | true=>
 simp only[decide_eq_true_eq] at h2;have HZ0:=xa_ ((Bool.true_and _).symm.trans HZ.out);clear HZ;have HZ:=HZ0;clear HZ0;go_wp2_with fail
 refine(k2.out _ G1.out).mono ?_;rintro e W2 ⟨rfl,g⟩;have A2:Hid (W2.heap[W.heap.size]?=some (.cells #[.int .i64 3,.string s1,.int .i64 ur,.slice xv vs.length cv,.slice xb bo.length cb,.int .i64 at1] 27)):=kept g A1.out;have G2:=xa_ (gtn G1.out g);clear g a1a a1b a1c a1d a1e a1f;obtain⟨a2a,a2b,a2c,a2d,a2e,a2f⟩:=xb_ A2.out;cases v2 with
 | false=>
  have e:Z=false:=HZ.out.symm;subst e;clear HZ;go_wp2_with fail
  go_ret;exact⟨rfl,G2.out⟩
 | true=>
 have HZ0:=xa_ ((Bool.true_and _).symm.trans HZ.out);clear HZ;have HZ:=HZ0;clear HZ0;go_wp2_with fail
 refine(k3.out _ G2.out).mono ?_;rintro e W3 ⟨rfl,g⟩;have A3:Hid (W3.heap[W.heap.size]?=some (.cells #[.int .i64 3,.string s1,.int .i64 ur,.slice xv vs.length cv,.slice xb bo.length cb,.int .i64 at1] 27)):=kept g A2.out;have G3:=xa_ (gtn G2.out g);clear g a2a a2b a2c a2d a2e a2f;obtain⟨a3a,a3b,a3c,a3d,a3e,a3f⟩:=xb_ A3.out;have e:Z=v3:=HZ.out.symm;subst e;clear HZ;go_wp2_with fail
 go_ret;exact⟨rfl,G3.out⟩
theorem ag1_ {V W:World} (hT:Tabs V) (hV:Vs V W) {ok:Nat→Prop} (uk:Int) (s1:ByteArray) (ur:Int) (vs:List PV) (xv:Option Addr) (cv:Nat) (bo:List PS) (xb:Option Addr) (cb:Nat) (at1:Int) (hs1:s1.size≤4000000) (hv:Li kdV 24 W ok (.slice xv vs.length cv) vs) (hcv:(vs.map zt_).sum≤4000000) (hb:Li kdS 99 W ok (.slice xb bo.length cb) bo) (hcb:ys_ bo≤4000000) (hk1:uk≠1) (hk2:uk≠2) (hk3:uk≠3) :
 Calls Tryz.prog 20 #[.agg #[.int .i64 uk,.string s1,.int .i64 ur,.slice xv vs.length cv,.slice xb bo.length cb,.int .i64 at1]] W (xs_ W (false)):=by
 have k1:=xa_ (yi_ s1 hs1);have k2:=xa_ (fun W' (hg:W.grownBy W' none)=>q9_ (hv.gw hg) yo_ #[] (fun i hi q W2 h2 hk=>j0_ hT ((hV.gr hg).gr h2) vs[i] q hk (by have:=qn_ zt_ vs i hi;omega)));have k3:=xa_ (jc_ hT hV hb hcb 1 (by omega) (by omega));clear hv hb hV hT hcv hcb hs1;have g1:(uk==1)=false:=(by simpa using hk1);have g2:(uk==2)=false:=(by simpa using hk2);have g3:(uk==3)=false:=(by simpa using hk3);clear k1 k2 k3;go_enter Tryz.func20,Tryz.ntmps20;go_wp2_with fail
 go_ret;exact⟨rfl,(xf_ (gr0 _) _)⟩
theorem v8_ {V W:World} (hT:Tabs V) (hV:Vs V W) {ok:Nat→Prop} (u:PU) (q:Value×Value) (h:kdU.S W ok u q) (hc:ju_ u≤4000000) :
 Calls Tryz.prog 20 #[.agg (kdU.c u q).toArray] W (xs_ W (yx_ u)):=by
 obtain⟨uk,s1,ur,vs,bo,at1⟩:=u;obtain⟨q1,q2⟩:=q;obtain⟨hv,hb⟩:=h;obtain⟨xv,cv,rfl⟩:=Li.sl hv;obtain⟨xb,cb,rfl⟩:=Li.sl hb;simp only[ju_] at hc;by_cases h1:uk=1
 · subst h1;have e:yx_ ⟨1,s1,ur,vs,bo,at1⟩=((ur==0) && (nmB s1 && (decide ((vs.length:Int)≤200) && (vs.all yo_ && xq_ 1 bo)))):=by
    rw[acr_];simp[yx_,eqD,Bool.and_assoc]
   rw[e];exact agy_ hT hV s1 ur vs xv cv bo xb cb at1 (by omega) hv (by omega) hb (by omega)
 by_cases h2:uk=2
 · subst h2;have e:yx_ ⟨2,s1,ur,vs,bo,at1⟩=(kdB ur && (nmB s1 && (decide ((vs.length:Int)≤200) && (vs.all yo_ && xq_ 1 bo)))):=by
    rw[acr_];simp[yx_,Bool.and_assoc]
   rw[e];exact agz_ hT hV s1 ur vs xv cv bo xb cb at1 (by omega) hv (by omega) hb (by omega)
 by_cases h3:uk=3
 · subst h3;have e:yx_ ⟨3,s1,ur,vs,bo,at1⟩=((ur==0) && (nmB s1 && (decide ((vs.length:Int)≤200) && (vs.all yo_ && xq_ 1 bo)))):=by
    rw[acr_];simp[yx_,eqD,Bool.and_assoc]
   rw[e];exact ag0_ hT hV s1 ur vs xv cv bo xb cb at1 (by omega) hv (by omega) hb (by omega)
 have e:yx_ ⟨uk,s1,ur,vs,bo,at1⟩=false:=(by simp[yx_,h1,h2,h3]);rw[e];exact ag1_ hT hV uk s1 ur vs xv cv bo xb cb at1 (by omega) hv (by omega) hb (by omega) h1 h2 h3
theorem aeg_ {V W:World} (hT:Tabs V) (hV:Vs V W) {ok:Nat→Prop} (u:PU) (q:Value×Value) (h:kdU.S W ok u q) (hc:ju_ u≤4000000) :
 Calls Tryz.prog 7 #[.agg (kdU.c u q).toArray] W (xs_ W (yx_ u)):=by
 have k1:=xa_ (fun W' (hg:W.grownBy W' none)=>v8_ hT (hV.gr hg) u q (kdU.keep h (fun b _ hl=>hg.block b hl (by simp)) hg.size) hc);generalize yx_ u=Z at k1 ⊢;obtain⟨uk,s1,ur,vs,bo,at1⟩:=u;obtain⟨q1,q2⟩:=q;obtain⟨hv,hb⟩:=h;obtain⟨xv,cv,rfl⟩:=Li.sl hv;obtain⟨xb,cb,rfl⟩:=Li.sl hb;clear hv hb hT hV hc;have k2:=k1.out _ (gr1 W (.cells #[.int .i64 uk,.string s1,.int .i64 ur,.slice xv vs.length cv,.slice xb bo.length cb,.int .i64 at1] 27));simp only[kdU,uC] at k2 ⊢;have k3:=xa_ k2;clear k1 k2;go_enter Tryz.func7,Tryz.ntmps7;go_wp2_with fail
 refine k3.out.mono ?_;rintro e w2 ⟨rfl,g2⟩;go_wp2_with fail
 go_ret;exact⟨rfl,gtn (gr1 _ _) g2⟩
theorem acw_:∀(k u:Nat),1≤k→u<10 ^ k→Lib.nDigits u≤k
 | 0,u,h,_=>by omega
 | k+1,u,_,h=>by
  unfold Lib.nDigits;by_cases hu:u<10
  ·rw[dif_pos hu];omega
  · rw[dif_neg hu];match k,h with
    | 0,h=>exact absurd h (by simpa using hu)
    | k+1,h=>
     have:=acw_ (k+1) (u / 10) (by omega) (by rw[Nat.pow_succ] at h;omega);omega
theorem ym_ (n:Int) (h0 : -9999999999≤n) (h1:n≤9999999999):(Lib.itoa n).length≤11:=by
 unfold Lib.itoa;by_cases h:n<0
 ·rw[if_pos h];have:=acw_ 10 n.natAbs (by omega) (by have:(10:Nat) ^ 10=10000000000:=(by decide);omega);simp[Lib.decDigits_length];omega
 ·rw[if_neg h];have:=acw_ 10 n.toNat (by omega) (by have:(10:Nat) ^ 10=10000000000:=(by decide);omega);rw[Lib.decDigits_length];omega
theorem je_ (m L:Int) (u:Tx) (h0:0≤m) (h1:m≤4294967295) (hL:1≤L):(ptL m L u).length≤11+u.length:=by
 unfold ptL;by_cases h:L≤m
 ·rw[if_pos h,List.length_append];have h2:0≤m / L:=Int.ediv_nonneg h0 (by omega);have h3:m / L≤m:=Int.ediv_le_self _ h0;have:=ym_ (m / L) (by omega) (by omega);omega
 ·rw[if_neg h];simp
theorem acx_ (n:Int) (h0:0≤n) (h1:n≤4294967295):(j5_ n).length≤70:=by
 unfold j5_;by_cases h:n=0
 ·rw[if_pos h];simp
 ·rw[if_neg h];have a1:=je_ n 86400000 [100] h0 h1 (by decide);have b2:0≤n % 86400000∧n % 86400000≤4294967295:=(by omega);have a2:=je_ (n % 86400000) 3600000 [104] b2.1 b2.2 (by decide);have b3:0≤n % 86400000 % 3600000∧n % 86400000 % 3600000≤4294967295:=(by omega);have a3:=je_ (n % 86400000 % 3600000) 60000 [109] b3.1 b3.2 (by decide);have b4:0≤n % 86400000 % 3600000 % 60000∧n % 86400000 % 3600000 % 60000≤4294967295:=(by omega);have a4:=je_ (n % 86400000 % 3600000 % 60000) 1000 [115] b4.1 b4.2 (by decide);have b5:0≤n % 86400000 % 3600000 % 60000 % 1000∧n % 86400000 % 3600000 % 60000 % 1000≤4294967295:=(by omega);have a5:=je_ (n % 86400000 % 3600000 % 60000 % 1000) 1 [109,115] b5.1 b5.2 (by decide);simp only[List.length_append,List.length_cons,List.length_nil] at a1 a2 a3 a4 a5 ⊢;omega
theorem uc_ (k n:Int) (h:yk_ k n=true):(yf_ k n).length≤70:=by
 simp only[yk_,xu_,Bool.or_eq_true,Bool.and_eq_true,decide_eq_true_eq] at h;unfold yf_;rcases h with(⟨rfl,h⟩|⟨rfl,h⟩)|⟨rfl,h⟩
 ·rw[if_pos rfl];have:=ym_ n (by omega) (by omega);omega
 ·rw[if_neg (by decide),if_pos rfl];split <;> simp
 ·rw[if_neg (by decide),if_neg (by decide)];exact acx_ n h.1 h.2
theorem aai_ (o:Int):(opT o).length≤3:=by
 have key:∀(c:Prop) [Decidable c] (a b:Tx),a.length≤3→b.length≤3→(if c then a else b).length≤3:=by
  intro c _ a b h1 h2;by_cases h:c
  ·rw[if_pos h];exact h1
  ·rw[if_neg h];exact h2
 unfold opT;repeat' (first|exact key _ _ _ (by decide) (by decide)|refine key _ _ _ (by decide) ?_)
mutual
theorem qd_:∀(e:PE) (d:Int),xr_ d e=true→(shE e).length+20≤100*yj_ e
 | .mk f o k n nm pt a ks,d,h=>by
  rw[xr_,Bool.and_eq_true,Bool.and_eq_true] at h;obtain⟨⟨_,hh⟩,hK⟩:=h;have e1:nm.data.toList.length=nm.size:=(by simp);have e2:pt.data.toList.length=pt.size:=(by simp);have k0:=j2_ ks [] f o _ 0 (by simp) hK;have k1:=j2_ ks [44,32] f o _ 0 (by simp) hK;have k2:=j2_ ks (32::(opT o++[32])) f o _ 0 (by have:=aai_ o;simp;omega) hK;rw[yj_];rcases hd_f hh with rfl|rfl|rfl|rfl|rfl|rfl|rfl
  ·rw[shE,if_pos rfl];have:=uc_ k n (by simp[hdB] at hh;exact hh.1);omega
  ·rw[shE,if_neg (by decide),if_pos rfl];omega
  ·rw[shE,if_neg (by decide),if_neg (by decide),if_pos rfl];simp only[List.length_append,List.length_cons,List.length_nil];omega
  ·rw[shE,if_neg (by decide),if_neg (by decide),if_neg (by decide),if_pos rfl];simp only[List.length_append,List.length_cons,List.length_nil];omega
  · rw[shE,if_neg (by decide),if_neg (by decide),if_neg (by decide),if_neg (by decide),if_pos rfl];by_cases ho:o=21
    ·rw[if_pos ho];simp only[List.length_append,List.length_cons,List.length_nil];omega
    ·rw[if_neg ho];simp only[List.length_append,List.length_cons,List.length_nil];omega
  ·rw[shE,if_neg (by decide),if_neg (by decide),if_neg (by decide),if_neg (by decide),if_neg (by decide),if_pos rfl];omega
  ·rw[shE,if_neg (by decide),if_neg (by decide),if_neg (by decide),if_neg (by decide),if_neg (by decide),if_neg (by decide)];simp only[List.length_append,List.length_cons,List.length_nil];omega
theorem j2_:∀(l:List PE) (sep:Tx) (f o d:Int) (i:Nat),sep.length≤8→yg_ f o d i l=true→(shK sep f o i l).length≤100*y9_ l
 | [],sep,f,o,d,i,hs,h=>by simp[shK]
 | e::l,sep,f,o,d,i,hs,h=>by
  rw[yg_,Bool.and_eq_true] at h;have h1:=qd_ e _ h.1;have h2:=j2_ l sep f o d (i+1) hs h.2;rw[shK,y9_];have h3:(if i=0 then [] else sep:Tx).length≤8:=by
   by_cases hi:i=0
   ·rw[if_pos hi];simp
   ·rw[if_neg hi];exact hs
  have h4:(if brB f o i e=true then [40]++(shE e++[41]) else shE e:Tx).length≤(shE e).length+2:=by
   by_cases hb:brB f o i e=true
   ·rw[if_pos hb];simp
   ·rw[if_neg hb];omega
  simp only[List.length_append] at h3 h4 ⊢;omega
end
theorem jf_ (k:Int):(yc_ k).length≤4:=by
 have key:∀(c:Prop) [Decidable c] (a b:Tx),a.length≤4→b.length≤4→(if c then a else b).length≤4:=by
  intro c _ a b h1 h2;by_cases h:c
  ·rw[if_pos h];exact h1
  ·rw[if_neg h];exact h2
 unfold yc_;repeat' (first|exact key _ _ _ (by decide) (by decide)|refine key _ _ _ (by decide) ?_)
theorem ud_ (k:Int):(ji_ k).length≤12:=by
 have key:∀(c:Prop) [Decidable c] (a b:Tx),a.length≤12→b.length≤12→(if c then a else b).length≤12:=by
  intro c _ a b h1 h2;by_cases h:c
  ·rw[if_pos h];exact h1
  ·rw[if_neg h];exact h2
 unfold ji_;repeat' (first|exact key _ _ _ (by decide) (by decide)|refine key _ _ _ (by decide) ?_)
theorem acy_ (k:Int):(zc_ k).length≤14:=by
 have key:∀(c:Prop) [Decidable c] (a b:Tx),a.length≤14→b.length≤14→(if c then a else b).length≤14:=by
  intro c _ a b h1 h2;by_cases h:c
  ·rw[if_pos h];exact h1
  ·rw[if_neg h];exact h2
 unfold zc_;repeat' (first|exact key _ _ _ (by decide) (by decide)|refine key _ _ _ (by decide) ?_)
theorem zf_ {c:Prop} [Decidable c] {a b:Tx} {n:Nat} (h1:c→a.length≤n) (h2:¬c→b.length≤n):(if c then a else b).length≤n:=by
 by_cases h:c
 ·rw[if_pos h];exact h1 h
 ·rw[if_neg h];exact h2 h
theorem acz_ (a:PArg) (d:Int) (h:yl_ d a=true):(z3_ a).length≤100*za_ a:=by
 obtain⟨s1,ou,s2,e,at1⟩:=a;have e1:s1.data.toList.length=s1.size:=(by simp);have e2:s2.data.toList.length=s2.size:=(by simp);simp only[z3_,za_];cases ou with
 | true=>
  rw[if_pos rfl];simp only[List.length_append,List.length_cons,List.length_nil];omega
 | false=>
  rw[if_neg (by decide)];have:xr_ d e=true:=(by simp[yl_] at h;exact h.2.2)
  have:=qd_ e d this;simp only[List.length_append,List.length_cons,List.length_nil];omega
theorem ac0_ (p:Int×Int) (h:y2_ p=true):(zq_ p).length≤24:=by
 obtain⟨z1,z2⟩:=p;simp only[y2_,xu_,Bool.and_eq_true,decide_eq_true_eq] at h;have a1:=ym_ z1 (by omega) (by omega);have a2:=ym_ z2 (by omega) (by omega);simp only[zq_];refine zf_ (fun _=>?_) (fun _=>?_)
 ·simp only[List.length_append,List.length_cons,List.length_nil];omega
 ·omega
theorem kg_ {α:Type} (f:α→Tx) (g:α→Nat):∀(l:List α) (i:Nat),(∀ a∈l,(f a).length≤g a)→(yq_ f i l).length≤(l.map g).sum+2*l.length
 | [],i,_=>by simp[yq_]
 | a::l,i,h=>by
  have h1:=h a (by simp);have h2:=kg_ f g l (i+1) (fun b hb=>h b (by simp[hb]));have h3:(if i=0 then [] else [44,32]:Tx).length≤2:=zf_ (fun _=>by simp) (fun _=>by simp);rw[yq_];simp only[List.length_append,List.map_cons,List.sum_cons,List.length_cons] at h3 ⊢;omega
end Go.Proofs.YtcoglmaiahpooaaGreatDoor
