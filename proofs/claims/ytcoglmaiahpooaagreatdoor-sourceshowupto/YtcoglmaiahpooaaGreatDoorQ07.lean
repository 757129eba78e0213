/- Texts put together: Md, Me, Mf, Mg, Mh, Mi, Mj1. -/
import Derived.Test.YtcoglmaiahpooaaGreatDoorQ05
import Derived.Test.YtcoglmaiahpooaaGreatDoorQ06
set_option linter.unusedVariables false
set_option linter.unusedSimpArgs false
set_option maxHeartbeats 8000000
namespace Go.Proofs.YtcoglmaiahpooaaGreatDoor
open Go.RowKit
attribute [local go_sem ↓] Go.wp_at_zero Go.wp_at_succ
theorem un_ {s:ByteArray} (h:2≤s.size):s.data.toList=(s[0]'(by omega))::(s[1]'(by omega))::s.data.toList.drop 2:=by
 have h1:=yh_ (s:=s) (i:=0) (by omega);rw[List.drop_zero,yh_ (s:=s) (i:=0+1) (by omega)] at h1;exact h1
theorem kt_ {s:ByteArray} (h:s.size<2):q2_ s.data.toList=false:=by
 have:s.data.toList.length=s.size:=rfl
 match hh:s.data.toList with
 | []=>rfl
 | [a]=>rfl
 | a::b::l=>rw[hh] at this;simp at this;omega
theorem uo_ (s:ByteArray) (w:World) (hs:s.size≤9223372036854775807):Calls Tryz.prog 85 #[.string s] w fun e w'=>e=.returned (.bool (q2_ s.data.toList))∧w=w':=by
 obtain⟨Z,hZ⟩:∃ Z,q2_ s.data.toList=Z:=⟨_,rfl⟩;rw[hZ];by_cases h2:(s.size:Int)<2
 · have e:Z=false:=(by rw[← hZ,kt_ (by omega)]);subst e;clear hZ;go_enter Tryz.func85,Tryz.ntmps85;go_wp2_with fail
   go_ret;exact⟨rfl,rfl⟩
 have hl2:(s.data.toList.drop 2).length=s.size - 2:=(by simp);rw[un_ (by omega),q2_,hl2] at hZ;by_cases h10:(10:Int)<s.size
 · have e:Z=false:=(by rw[← hZ,decide_eq_false (p:=s.size - 2≤8) (by omega),Bool.and_false,Bool.false_and]);subst e;clear hZ hl2;go_enter Tryz.func85,Tryz.ntmps85;go_wp2_with fail
   go_ret;exact⟨rfl,rfl⟩
 rw[decide_eq_true (p:=s.size - 2≤8) (by omega),Bool.and_true] at hZ;have hs0:0<s.size:=(by omega);have hs1:1<s.size:=(by omega);by_cases h37:((s[0]'hs0).toNat:Int)=37;rotate_left
 · have e:Z=false:=(by rw[← hZ,decide_eq_false (p:=(s[0]'hs0).toNat=37) (by omega)];rfl);subst e;have h37':(((s[0]'hs0).toNat:Int)==37)=false:=(by simpa using h37);clear hZ hl2;go_enter Tryz.func85,Tryz.ntmps85;go_wp2_with fail
   go_ret;exact⟨rfl,rfl⟩
 rw[decide_eq_true (p:=(s[0]'hs0).toNat=37) (by omega),Bool.true_and] at hZ;have hd1:=yh_ hs1;have hw1:jh_ (s.data.toList.drop 1)=(dgI ((s[1]'hs1).toNat:Int) && jh_ (s.data.toList.drop 2)):=(by rw[hd1];rfl);rw[← hw1] at hZ;have hZ2:=hd_ hZ;clear hZ hw1 hd1 hl2;go_enter Tryz.func85,Tryz.ntmps85;go_wp2_with fail
 go_loopg [3] (s.size+1 - 1) (fun gk s1 wx=>∃ i:Nat,s1=.int .i64 (i:Int)∧w=wx∧Hid (1≤i∧i≤s.size∧gk=s.size+1 - i∧jh_ (s.data.toList.drop i)=jh_ (s.data.toList.drop 1)))
 case atStart=>exact⟨1,rfl,rfl,xa_ ⟨by omega,by omega,rfl,rfl⟩⟩
 case round=>
  obtain⟨i,rfl,rfl,HH⟩:=hrel;obtain⟨hp0,hp,hgk,hr⟩:=HH.out;have HR:=xa_ hr;clear hr HH;by_cases hlt:i<s.size;rotate_left
  · have hi:¬((i:Int)<(s.size:Int)):=(by omega);have e:jh_ (s.data.toList.drop 1)=true:=(by rw[← HR.out,zi_ hlt];rfl);have hz:=hZ2.out;rw[e,Bool.true_and] at hz;have HZ:=xa_ hz;clear HR hz hZ2 e;generalize hb:(s[1]'hs1).toNat=b at HZ;by_cases h48:(b:Int)=48
    · rw[decide_eq_true (p:=b=48) (by omega)] at HZ;by_cases h2e:(s.size:Int)=2
      · have e:Z=true:=(by rw[← HZ.out,decide_eq_true (p:=s.size - 2=0) (by omega)];rfl);subst e;have g1:((b:Int)==48)=true:=(by simpa using h48);clear HZ;go_wp2_with fail
        go_ret;exact⟨rfl,rfl⟩
      · have e:Z=false:=(by rw[← HZ.out,decide_eq_false (p:=s.size - 2=0) (by omega)];rfl);subst e;have g1:((b:Int)==48)=true:=(by simpa using h48);have g2:((s.size:Int)==2)=false:=(by simpa using h2e);clear HZ;go_wp2_with fail
        go_ret;exact⟨rfl,rfl⟩
    · have e:Z=true:=(by rw[← HZ.out,decide_eq_false (p:=b=48) (by omega)];rfl);subst e;have g1:((b:Int)==48)=false:=(by simpa using h48);clear HZ;go_wp2_with fail
      go_ret;exact⟨rfl,rfl⟩
  have hi:((i:Int)<(s.size:Int)):=(by omega);obtain⟨G,hG⟩:∃ G,dgI ((s[i]'hlt).toNat:Int)=G:=⟨_,rfl⟩;have cG:∀ W,Calls Tryz.prog 116 #[.int .u8 ((s[i]'hlt).toNat:Int)] W fun e w'=>e=.returned (.bool G)∧W=w':=fun W=>hG▸jj_ _ W;have hw:IntKind.i64.wrap ((i:Int)+1)=i+1:=IntWalk.i64_in _ (by omega);have hz:=HR.out;rw[yh_ hlt] at hz;have hz2:jh_ (s.data.toList.drop 1)=(G && jh_ (s.data.toList.drop (i+1))):=by
   rw[← hz,← hG];rfl
  have HZ:=xa_ hz2;clear hz hz2 HR hG;cases G with
  | false=>
   have e:Z=false:=(by rw[← hZ2.out,HZ.out];rfl);subst e;clear HZ hZ2;go_wp2_with (go_at_call 116;go_must (refine(cG _).mono ?_;rintro e w' ⟨rfl,rfl⟩))
   go_ret;exact⟨rfl,rfl⟩
  | true=>
   go_wp2_with (go_at_call 116;go_must (refine(cG _).mono ?_;rintro e w' ⟨rfl,rfl⟩))
   go_roundg (s.size+1 - (i+1))
   case measure=>omega
   case rel=>exact⟨i+1,by simp,rfl,xa_ ⟨by omega,by omega,rfl,by rw[HZ.out];rfl⟩⟩
theorem abs_ (s:ByteArray) (w:World) (hs:s.size≤9223372036854775807):Calls Tryz.prog 45 #[.string s] w fun e w'=>e=.returned (.bool (nmB s))∧w=w':=by
 have c1:=fun W=>abq_ s W hs;have c2:=fun W=>adr_ s W;have c3:=fun W=>uo_ s W hs;rw[nmB];generalize isW s.data.toList=b1 at c1 ⊢;generalize x4_ s=b2 at c2 ⊢;generalize q2_ s.data.toList=b3 at c3 ⊢;cases b1 <;> cases b2 <;> cases b3;all_goals
  go_enter Tryz.func45,Tryz.ntmps45;go_wp2_with (first|(go_at_call 83;go_must (refine(c1 _).mono ?_;rintro e w' ⟨rfl,rfl⟩))|(go_at_call 84;go_must (refine(c2 _).mono ?_;rintro e w' ⟨rfl,rfl⟩))|(go_at_call 85;go_must (refine(c3 _).mono ?_;rintro e w' ⟨rfl,rfl⟩)))
  go_ret;exact⟨rfl,rfl⟩
def z0_ (k n:Int):Int:=
 if k=1 then n % 2 else if k=2 then(n+32768) % 65536 - 32768 else if k=3 then(n+2147483648) % 4294967296 - 2147483648
 else if k=4 then n % 65536 else if k=5 then n % 4294967296 else 0
theorem abt_ (n:Int):z0_ 1 n=n % 2:=by simp[z0_]
theorem afq_ (n:Int):z0_ 2 n=(n+32768) % 65536 - 32768:=by simp[z0_]
theorem afr_ (n:Int):z0_ 3 n=(n+2147483648) % 4294967296 - 2147483648:=by simp[z0_]
theorem afs_ (n:Int):z0_ 4 n=n % 65536:=by simp[z0_]
theorem abu_ (n:Int):z0_ 5 n=n % 4294967296:=by simp[z0_]
theorem up_ {k:Int} (n:Int) (h1:k≠1) (h2:k≠2) (h3:k≠3) (h4:k≠4) (h5:k≠5):z0_ k n=0:=by simp[z0_,h1,h2,h3,h4,h5]
theorem qu_ {n:Int} (h0 : -9223372036854775808≤n) (h1:n≤9223372036854775807):wrap64 n=n:=by unfold wrap64;omega
theorem aft_ (n:Int):IntKind.i16.wrap n=(n+32768) % 65536 - 32768:=by
 unfold IntKind.wrap;simp only[IntKind.bits,IntKind.signed];simp;split <;> omega
theorem afu_ (n:Int):IntKind.u16.wrap n=n % 65536:=by
 unfold IntKind.wrap;simp only[IntKind.bits,IntKind.signed];simp
theorem and1 (n:Int):bits .and .i64 n 1=n % 2:=by
 unfold bits;have e:(BitVec.ofInt IntKind.i64.bits n &&& BitVec.ofInt IntKind.i64.bits 1).toNat=(n % 2).toNat:=by
  have h1:(BitVec.ofInt 64 1)=1#64:=(by decide);show(BitVec.ofInt 64 n &&& BitVec.ofInt 64 1).toNat=_
  rw[h1];rw[BitVec.toNat_and,BitVec.toNat_ofInt];show((n % ((2 ^ 64:Nat):Int)).toNat &&& 1)=_
  rw[Nat.and_one_is_mod];omega
 simp only[e];rw[IntWalk.i64_left];unfold wrap64;omega
theorem vx_ (k n:Int) (w:World) :
 Calls Tryz.prog 205 #[.int .i64 k,.int .i64 n] w fun e w'=>e=.returned (.int .i64 (z0_ k n))∧w=w':=by
 go_enter Tryz.func205,Tryz.ntmps205;go_wp2
 ·go_ret;have e:k=1:=(by simpa using ‹(k==1)=true›);exact⟨qt_ (by rw[e,abt_];exact and1 n),rfl⟩
 ·go_ret;have e:k=2:=(by simpa using ‹(k==2)=true›);exact⟨qt_ (by show wrap64 (IntKind.i16.wrap n)=_;rw[e,afq_,aft_,qu_ (by omega) (by omega)]),rfl⟩
 ·go_ret;have e:k=3:=(by simpa using ‹(k==3)=true›);exact⟨qt_ (by show wrap64 (wrap32 n)=_;rw[e,afr_];unfold wrap32;rw[qu_ (by omega) (by omega)]),rfl⟩
 ·go_ret;have e:k=4:=(by simpa using ‹(k==4)=true›);exact⟨qt_ (by show wrap64 (IntKind.u16.wrap n)=_;rw[e,afs_,afu_,qu_ (by omega) (by omega)]),rfl⟩
 ·go_ret;have e:k=5:=(by simpa using ‹(k==5)=true›);exact⟨qt_ (by show n % 4294967296=_;rw[e,abu_]),rfl⟩
 ·go_ret;exact⟨qt_ (by show 0=_;rw[up_ n (by simp_all) (by simp_all) (by simp_all) (by simp_all) (by simp_all)]),rfl⟩
def isK (k:Int):Bool:=decide (1≤k) && decide (k≤5)
theorem j6_ (k:Int) (w:World) :
 Calls Tryz.prog 204 #[.int .i64 k] w fun e w'=>e=.returned (.bool (isK k))∧w=w':=by
 by_cases h1:1≤k
 · by_cases h2:k≤5
   ·go_enter Tryz.func204,Tryz.ntmps204;go_wp2;go_ret;exact⟨xw_ (by simp[isK,h1,h2]),rfl⟩
   ·go_enter Tryz.func204,Tryz.ntmps204;go_wp2;go_ret;exact⟨xw_ (by simp[isK,h1,h2]),rfl⟩
 ·go_enter Tryz.func204,Tryz.ntmps204;go_wp2;go_ret;exact⟨xw_ (by simp[isK];omega),rfl⟩
def jo_ (k n:Int):Bool:=isK k && (z0_ k n==n)
theorem j7_ (k n:Int) (w:World) :
 Calls Tryz.prog 164 #[.int .i64 k,.int .i64 n] w fun e w'=>e=.returned (.bool (jo_ k n))∧w=w':=by
 by_cases h:isK k=true
 · go_enter Tryz.func164,Tryz.ntmps164;go_wp2_with (first|(go_at_call 204;refine(j6_ _ _).mono ?_;rintro e w' ⟨rfl,rfl⟩)|(go_at_call 205;refine(vx_ _ _ _).mono ?_;rintro e w' ⟨rfl,rfl⟩))
   go_ret;exact⟨xw_ (by simp[jo_,h]),rfl⟩
 · have h:isK k=false:=(by simpa using h);go_enter Tryz.func164,Tryz.ntmps164;go_wp2_with (first|(go_at_call 204;refine(j6_ _ _).mono ?_;rintro e w' ⟨rfl,rfl⟩)|(go_at_call 205;refine(vx_ _ _ _).mono ?_;rintro e w' ⟨rfl,rfl⟩))
   go_ret;exact⟨xw_ (by simp[jo_,h]),rfl⟩
theorem jw_ (n:Int) (w:World):Calls Tryz.prog 122 #[.int .i64 n] w fun e w'=>e=.returned (.bool (xu_ n))∧w=w':=by
 by_cases h1 : -4294967295≤n
 ·by_cases h2:n≤4294967295;all_goals(go_enter Tryz.func122,Tryz.ntmps122;go_wp2;go_ret;exact⟨xw_ (by simp[xu_,h1,h2]),rfl⟩)
 ·go_enter Tryz.func122,Tryz.ntmps122;go_wp2;go_ret;exact⟨xw_ (by simp[xu_];omega),rfl⟩
theorem ads_ (n:Int) (w:World):Calls Tryz.prog 121 #[.int .i64 n] w fun e w'=>e=.returned (.bool (js_ n))∧w=w':=by
 by_cases h1:1≤n
 ·by_cases h2:n≤1000;all_goals(go_enter Tryz.func121,Tryz.ntmps121;go_wp2;go_ret;exact⟨xw_ (by simp[js_,h1,h2]),rfl⟩)
 ·go_enter Tryz.func121,Tryz.ntmps121;go_wp2;go_ret;exact⟨xw_ (by simp[js_];omega),rfl⟩
theorem adt_ (n:Int) (w:World):Calls Tryz.prog 128 #[.int .i64 n] w fun e w'=>e=.returned (.bool (yw_ n))∧w=w':=by
 by_cases h1:1≤n
 ·by_cases h2:n≤10000;all_goals(go_enter Tryz.func128,Tryz.ntmps128;go_wp2;go_ret;exact⟨xw_ (by simp[yw_,h1,h2]),rfl⟩)
 ·go_enter Tryz.func128,Tryz.ntmps128;go_wp2;go_ret;exact⟨xw_ (by simp[yw_];omega),rfl⟩
theorem adu_ (n:Int) (w:World):Calls Tryz.prog 44 #[.int .i64 n] w fun e w'=>e=.returned (.bool (kdB n))∧w=w':=by
 by_cases h1:1≤n
 ·by_cases h2:n≤5;all_goals(go_enter Tryz.func44,Tryz.ntmps44;go_wp2;go_ret;exact⟨xw_ (by simp[kdB,h1,h2]),rfl⟩)
 ·go_enter Tryz.func44,Tryz.ntmps44;go_wp2;go_ret;exact⟨xw_ (by simp[kdB];omega),rfl⟩
theorem uq_ (lo hi:Int) (w:World) (h1:xu_ lo=true) (h2:xu_ hi=true):Calls Tryz.prog 172 #[.int .i64 lo,.int .i64 hi] w fun e w'=>e=.returned (.bool (decide (hi - lo+1≤10000)))∧w=w':=by
 simp only[xu_,Bool.and_eq_true,decide_eq_true_eq] at h1 h2;have hw1:IntKind.i64.wrap (hi - lo)=hi - lo:=IntWalk.i64_in _ (by omega);have hw:IntKind.i64.wrap (hi - lo+1)=hi - lo+1:=IntWalk.i64_in _ (by omega);by_cases h:hi - lo+1≤10000
 ·rw[decide_eq_true h];go_enter Tryz.func172,Tryz.ntmps172;go_wp2;go_ret;exact⟨rfl,rfl⟩
 ·rw[decide_eq_false h];go_enter Tryz.func172,Tryz.ntmps172;go_wp2;go_ret;exact⟨rfl,rfl⟩
theorem adv_ (lo n:Int) (w:World):Calls Tryz.prog 88 #[.int .i64 lo,.int .i64 n] w fun e w'=>e=.returned (.bool (qh_ lo n))∧w=w':=by
 obtain⟨Z,hZ⟩:∃ Z,qh_ lo n=Z:=⟨_,rfl⟩;rw[hZ];have HZ:=xa_ hZ;clear hZ;by_cases h0:n=0
 · subst h0;by_cases h:lo=0
   · have e:Z=true:=(by rw[← HZ.out,qh_,if_pos rfl,decide_eq_true h]);subst e h;clear HZ;go_enter Tryz.func88,Tryz.ntmps88;go_wp2_with fail
     go_ret;exact⟨rfl,rfl⟩
   · have e:Z=false:=(by rw[← HZ.out,qh_,if_pos rfl,decide_eq_false h]);subst e;have h':(lo==0)=false:=(by simpa using h);clear HZ;go_enter Tryz.func88,Tryz.ntmps88;go_wp2_with fail
     go_ret;exact⟨rfl,rfl⟩
 have h0':(n==0)=false:=(by simpa using h0);have c1:=fun W=>ads_ n W;have c2:=fun W=>jw_ lo W;have c3:=fun W=>jw_ (lo+n - 1) W;have hz:(js_ n && xu_ lo && xu_ (lo+n - 1))=Z:=(by rw[← HZ.out,qh_,if_neg h0]);have hb:js_ n=true→xu_ lo=true→IntKind.i64.wrap (lo+n)=lo+n∧IntKind.i64.wrap (lo+n - 1)=lo+n - 1:=by
  intro h1 h2;simp only[xu_,js_,Bool.and_eq_true,decide_eq_true_eq] at h1 h2;exact⟨IntWalk.i64_in _ (by omega),IntWalk.i64_in _ (by omega)⟩
 clear HZ;generalize js_ n=b1 at c1 hz hb;generalize xu_ lo=b2 at c2 hz hb;generalize xu_ (lo+n - 1)=b3 at c3 hz;cases b1 with
 | false=>
  subst hz;clear hb;go_enter Tryz.func88,Tryz.ntmps88;go_wp2_with (go_at_call 121;go_must (refine(c1 _).mono ?_;rintro e w' ⟨rfl,rfl⟩))
  go_ret;exact⟨rfl,rfl⟩
 | true=>
 cases b2 with
 | false=>
  subst hz;clear hb;go_enter Tryz.func88,Tryz.ntmps88;go_wp2_with (first|(go_at_call 121;go_must (refine(c1 _).mono ?_;rintro e w' ⟨rfl,rfl⟩))|(go_at_call 122;go_must (refine(c2 _).mono ?_;rintro e w' ⟨rfl,rfl⟩)))
  go_ret;exact⟨rfl,rfl⟩
 | true=>
 subst hz;obtain⟨hw1,hw2⟩:=hb rfl rfl;clear hb;go_enter Tryz.func88,Tryz.ntmps88;go_wp2_with (first|(go_at_call 121;go_must (refine(c1 _).mono ?_;rintro e w' ⟨rfl,rfl⟩))|(go_at_call 122;go_must ((first|(with_reducible refine(c2 _).mono ?_)|(with_reducible refine(c3 _).mono ?_));rintro e w' ⟨rfl,rfl⟩)))
 go_ret;exact⟨rfl,rfl⟩
def Vs (V w:World):Prop:=13≤w.heap.size∧∀ b,b<13→w.heap[b]?=V.heap[b]?
theorem Vs.gr {V w w':World} (h:Vs V w) (hg:w.grownBy w' none):Vs V w':=⟨by have:=hg.size;have:=h.1;omega,fun b hb=>by rw[hg.block b (by have:=h.1;omega) (by simp)];exact h.2 b hb⟩
theorem Vs.al {V w:World} (h:Vs V w) (o:Obj):Vs V (w.alloc o):=h.gr (gr1 w o)
structure Tabs (V:World):Prop where
 ow:V.heap[9]?=some (.cells #[.string ⟨#[]⟩,.string ⟨#[43]⟩,.string ⟨#[45]⟩,.string ⟨#[42]⟩,.string ⟨#[47]⟩,.string ⟨#[109,111,100]⟩,.string ⟨#[97,110,100]⟩,.string ⟨#[111,114]⟩,.string ⟨#[120,111,114]⟩,.string ⟨#[61]⟩,.string ⟨#[60,62]⟩,.string ⟨#[60]⟩,.string ⟨#[60,61]⟩,.string ⟨#[62]⟩,.string ⟨#[62,61]⟩] 250)
 ol:V.heap[4]?=some (.cells #[.int .i64 0,.int .i64 6,.int .i64 6,.int .i64 7,.int .i64 7,.int .i64 7,.int .i64 3,.int .i64 1,.int .i64 2,.int .i64 4,.int .i64 4,.int .i64 5,.int .i64 5,.int .i64 5,.int .i64 5] 206)
 kw:V.heap[2]?=some (.cells #[.string ⟨#[]⟩,.string ⟨#[98,111,111,108]⟩,.string ⟨#[105,110,116]⟩,.string ⟨#[100,105,110,116]⟩,.string ⟨#[119,111,114,100]⟩,.string ⟨#[116,105,109,101]⟩] 140)
 rw:V.heap[3]?=some (.cells #[.string ⟨#[]⟩,.string ⟨#[118,97,114]⟩,.string ⟨#[118,97,114,95,105,110,112,117,116]⟩,.string ⟨#[118,97,114,95,111,117,116,112,117,116]⟩,.string ⟨#[118,97,114,95,101,120,116,101,114,110,97,108]⟩,.string ⟨#[118,97,114,32,114,101,116,97,105,110]⟩] 140)
 uw:V.heap[0]?=some (.cells #[.string ⟨#[]⟩,.string ⟨#[112,114,111,103,114,97,109]⟩,.string ⟨#[102,117,110,99,116,105,111,110]⟩,.string ⟨#[102,117,110,99,116,105,111,110,95,98,108,111,99,107]⟩] 113)
set_option maxRecDepth 20000 in
theorem abv_ {V w:World} (hT:Tabs V) (hV:Vs V w) (o:Int) (h0:0≤o) (h1:o≤14):Calls Tryz.prog 119 #[.int .i64 o] w fun e w'=>e=.returned (.int .i64 (lvS o))∧w=w':=by
 have X:=(hV.2 4 (by decide)).trans hT.ol;have x:=xn_ X;clear hT hV;have hc:o=0∨o=1∨o=2∨o=3∨o=4∨o=5∨o=6∨o=7∨o=8∨o=9∨o=10∨o=11∨o=12∨o=13∨o=14:=(by omega);rcases hc with rfl|rfl|rfl|rfl|rfl|rfl|rfl|rfl|rfl|rfl|rfl|rfl|rfl|rfl|rfl
 all_goals
  go_enter Tryz.func119,Tryz.ntmps119;go_wp2;go_ret;exact⟨rfl,rfl⟩
theorem va_ {o:Int} (h:¬(0≤o∧o≤14)):lvS o=0:=by
 unfold lvS;repeat' (rw[if_neg (by omega)])
theorem abw_ (o:Int):0≤lvS o:=by
 unfold lvS;repeat' (split;omega)
 omega
theorem ku_ {V w:World} (hT:Tabs V) (hV:Vs V w) (o:Int):Calls Tryz.prog 119 #[.int .i64 o] w fun e w'=>e=.returned (.int .i64 (lvS o))∧w=w':=by
 by_cases h0:0≤o
 · by_cases h1:o≤14
   ·exact abv_ hT hV o h0 h1
   ·rw[va_ (by omega)];have h1':15≤o:=(by omega);go_enter Tryz.func119,Tryz.ntmps119;go_wp2;go_ret;exact⟨rfl,rfl⟩
 ·rw[va_ (by omega)];have h1':o<0:=(by omega);go_enter Tryz.func119,Tryz.ntmps119;go_wp2;go_ret;exact⟨rfl,rfl⟩
abbrev xV (f o kd n:Int) (nm pt:ByteArray) (a:Int) (k:Value):Value:=.agg #[.int .i64 f,.int .i64 o,.int .i64 kd,.int .i64 n,.string nm,.string pt,.int .i64 a,k]
theorem eqS2 (a b:ByteArray):(a.toList==b.toList)=decide (a=b):=by
 rw[Bool.eq_iff_iff];simp only[beq_iff_eq,decide_eq_true_eq,zj_];constructor
 ·intro h;cases a;cases b;simp[Array.toList_inj] at h;rw[h]
 ·rintro rfl;rfl
theorem eqS (a:ByteArray) (l:List UInt8):(a.toList==l)=decide (a=⟨l.toArray⟩):=by
 rw[← eqS2];congr 1;simp[zj_]
theorem eqN (a:ByteArray):(a.toList==[])=decide (a=nob):=eqS a []
theorem yr_ (f o kd n:Int) (nm pt:ByteArray) (a:Int) (ks:List PE) (x:Option Addr) (c:Nat) (W:World) :
 Calls Tryz.prog 86 #[xV f o kd n nm pt a (.slice x ks.length c)] W (xs_ W (xz_ (.mk f o kd n nm pt a ks))):=by
 rw[xz_];have key:∀ b1 b2 b3 b4 b5 b6 b7,(f==0)=b1→(o==0)=b2→(kd==0)=b3→(n==0)=b4→(nm.toList==[])=b5→(pt.toList==[])=b6→((ks.length:Int)==0)=b7→
  Calls Tryz.prog 86 #[xV f o kd n nm pt a (.slice x ks.length c)] W (xs_ W (b1 && b2 && b3 && b4 && b5 && b6 && b7)):=by
  intro b1 b2 b3 b4 b5 b6 b7 h1 h2 h3 h4 h5 h6 h7;cases b1 with
  | false=>
   clear h2 h3 h4 h5 h6 h7;go_enter Tryz.func86,Tryz.ntmps86;go_wp2;go_ret;exact⟨rfl,gr1 _ _⟩
  | true=>
  cases b2 with
  | false=>
   clear h3 h4 h5 h6 h7;go_enter Tryz.func86,Tryz.ntmps86;go_wp2;go_ret;exact⟨rfl,gr1 _ _⟩
  | true=>
  cases b3 with
  | false=>
   clear h4 h5 h6 h7;go_enter Tryz.func86,Tryz.ntmps86;go_wp2;go_ret;exact⟨rfl,gr1 _ _⟩
  | true=>
  cases b4 with
  | false=>
   clear h5 h6 h7;go_enter Tryz.func86,Tryz.ntmps86;go_wp2;go_ret;exact⟨rfl,gr1 _ _⟩
  | true=>
  cases b5 with
  | false=>
   clear h6 h7;go_enter Tryz.func86,Tryz.ntmps86;go_wp2;go_ret;exact⟨rfl,gr1 _ _⟩
  | true=>
  cases b6 with
  | false=>
   clear h7;go_enter Tryz.func86,Tryz.ntmps86;go_wp2;go_ret;exact⟨rfl,gr1 _ _⟩
  | true=>
  cases b7 with
  | false=>
   go_enter Tryz.func86,Tryz.ntmps86;go_wp2;go_ret;exact⟨rfl,gr1 _ _⟩
  | true=>
  go_enter Tryz.func86,Tryz.ntmps86;go_wp2;go_ret;exact⟨rfl,gr1 _ _⟩
 have h7:((ks.length:Int)==0)=decide (ks.length=0):=by
  rw[Bool.eq_iff_iff];simp
 have hi:∀ z:Int,(z==0)=decide (z=0):=fun z=>rfl;exact key _ _ _ _ _ _ _ (hi f) (hi o) (hi kd) (hi n) (eqN nm) (eqN pt) h7
def C8 (W:World) (g p:Nat) (e:PE) (k:Value):Prop:=∀ j,j<8→W.cell? ⟨g,p+j,none⟩=(xC e k)[j]?
theorem C8.all {W:World} {g p:Nat} {f o kd n:Int} {nm pt:ByteArray} {a:Int} {ks:List PE} {k:Value} (h:C8 W g p (.mk f o kd n nm pt a ks) k) :
 W.cell? ⟨g,p,none⟩=some (.int .i64 f)∧W.cell? ⟨g,p+1,none⟩=some (.int .i64 o)∧W.cell? ⟨g,p+2,none⟩=some (.int .i64 kd)∧W.cell? ⟨g,p+3,none⟩=some (.int .i64 n)∧W.cell? ⟨g,p+4,none⟩=some (.string nm)∧W.cell? ⟨g,p+5,none⟩=some (.string pt)∧W.cell? ⟨g,p+6,none⟩=some (.int .i64 a)∧W.cell? ⟨g,p+7,none⟩=some k:=
 ⟨h 0 (by decide),h 1 (by decide),h 2 (by decide),h 3 (by decide),h 4 (by decide),h 5 (by decide),h 6 (by decide),h 7 (by decide)⟩
theorem Xs.at8 {W:World} {ok:Nat→Prop} {v:Value} {l:List PE} (h:Xs W ok v l) (i:Nat) (hi:i<l.length):∃ g off c ka kc,v=.slice (some ⟨g,off,none⟩) l.length c∧l.length≤4000000∧g<W.heap.size∧Xs W ok (.slice ka l[i].kids.length kc) l[i].kids∧∀ W',W.grownBy W' none→C8 W' g (off+i*8) l[i] (.slice ka l[i].kids.length kc):=by
 obtain⟨g,off,c,k,hv,hn,hg,hk,hc⟩:=h.pick i hi;obtain⟨ka,kc,rfl⟩:=hk.sl;refine⟨g,off,c,ka,kc,hv,hn,hg,hk,fun W' hW j hj=>?_⟩;rw[Nat.add_assoc,← hc j hj];exact World.cell?_of_block (hW.block g hg (by simp))
theorem abx_ (n:Int):jo_ 1 n=(decide (0≤n) && decide (n≤1)):=by
 rw[jo_,abt_,show isK 1=true from rfl,Bool.true_and,Bool.eq_iff_iff];simp only[beq_iff_eq,Bool.and_eq_true,decide_eq_true_eq];omega
theorem ae9_ (n:Int):jo_ 5 n=(decide (0≤n) && decide (n≤4294967295)):=by
 rw[jo_,abu_,show isK 5=true from rfl,Bool.true_and,Bool.eq_iff_iff];simp only[beq_iff_eq,Bool.and_eq_true,decide_eq_true_eq];omega
theorem adw_ (f o kd n:Int) (nm pt:ByteArray) (a:Int) (k:Value) (W:World):Calls Tryz.prog 118 #[xV f o kd n nm pt a k] W (xs_ W (yk_ kd n)):=by
 have c1:=fun W=>jw_ n W;have c2:=fun W=>j7_ 1 n W;have c3:=fun W=>j7_ 5 n W;rw[abx_] at c2;rw[ae9_] at c3;by_cases h0:kd=0
 · subst h0;rw[show yk_ 0 n=xu_ n by simp[yk_]];go_enter Tryz.func118,Tryz.ntmps118;go_wp2_with (go_at_call 122;go_must (refine(c1 _).mono ?_;rintro e w' ⟨rfl,rfl⟩))
   go_ret;exact⟨rfl,gr1 _ _⟩
 by_cases h1:kd=1
 · subst h1;rw[show yk_ 1 n=(decide (0≤n) && decide (n≤1)) by simp[yk_]];go_enter Tryz.func118,Tryz.ntmps118;go_wp2_with (go_at_call 164;go_must (refine(c2 _).mono ?_;rintro e w' ⟨rfl,rfl⟩))
   go_ret;exact⟨rfl,gr1 _ _⟩
 by_cases h5:kd=5
 · subst h5;rw[show yk_ 5 n=(decide (0≤n) && decide (n≤4294967295)) by simp[yk_]];go_enter Tryz.func118,Tryz.ntmps118;go_wp2_with (go_at_call 164;go_must (refine(c3 _).mono ?_;rintro e w' ⟨rfl,rfl⟩))
   go_ret;exact⟨rfl,gr1 _ _⟩
 rw[show yk_ kd n=false by simp[yk_,h0,h1,h5]];have h0':(kd==0)=false:=(by simpa using h0);have h1':(kd==1)=false:=(by simpa using h1);have h5':(kd==5)=false:=(by simpa using h5);go_enter Tryz.func118,Tryz.ntmps118;go_wp2_with fail
 go_ret;exact⟨rfl,gr1 _ _⟩
set_option maxRecDepth 4000 in
theorem aby_ {V W:World} (hT:Tabs V) (hV:Vs V W) {ok:Nat→Prop} {x:Option Addr} {c:Nat} (f o kd n:Int) (nm pt:ByteArray) (a:Int) (ks:List PE) (hx:Xs W ok (.slice x ks.length c) ks) (i:Nat) (hi:i<ks.length) :
 Calls Tryz.prog 165 #[xV f o kd n nm pt a (.slice x ks.length c),.int .i64 i] W (xs_ W (brB f o i ks[i])):=by
 obtain⟨g,off,c',ka,kc,ex,hn,hg,hk,hc⟩:=hx.at8 i hi;injection ex with e1 _ e3;subst e1 e3;have hC:=hc _ (gr1 W (.cells #[.int .i64 f,.int .i64 o,.int .i64 kd,.int .i64 n,.string nm,.string pt,.int .i64 a,.slice (some ⟨g,off,none⟩) ks.length c] 50));have hlt:(i:Int)<(ks.length:Int):=(by omega);have cl:∀ o W',W.grownBy W' none→Calls Tryz.prog 119 #[.int .i64 o] W' fun e w'=>e=.returned (.int .i64 (lvS o))∧W'=w':=fun o W' h=>ku_ hT (hV.gr h) o;clear hc hk;generalize ks[i]=E at hC ⊢;generalize ks.length=L at hlt hC ⊢;obtain⟨kf,ko,kk,kn,knm,kpt,kat,kks⟩:=E;obtain⟨x0,x1,x2,x3,x4,x5,x6,x7⟩:=hC.all;clear hC hx;simp only[brB];by_cases hf:f=5
 · subst hf;rw[if_pos rfl];have key:∀ b1 b2 b3 b4 b5,(kf==6)=b1→(o==22)=b2→(kf==1)=b3→(kk==0)=b4→decide (0≤kn)=b5→Calls Tryz.prog 165 #[xV 5 o kd n nm pt a (.slice (some ⟨g,off,none⟩) L c),.int .i64 i] W (xs_ W (b1 ||b2 && (b3 && (b4 && b5)))):=by
    intro b1 b2 b3 b4 b5 h1 h2 h3 h4 h5;cases b2 with
    | false=>
     clear h3 h4 h5;cases b1;all_goals
      go_enter Tryz.func165,Tryz.ntmps165;go_wp2_with fail
      go_ret;exact⟨rfl,xf_ (gr1 _ _) _⟩
    | true=>
    cases b3 with
    | false=>
     clear h4 h5;cases b1;all_goals
      go_enter Tryz.func165,Tryz.ntmps165;go_wp2_with fail
      go_ret;exact⟨rfl,xf_ (gr1 _ _) _⟩
    | true=>
    cases b4 with
    | false=>
     clear h5;cases b1;all_goals
      go_enter Tryz.func165,Tryz.ntmps165;go_wp2_with fail
      go_ret;exact⟨rfl,xf_ (gr1 _ _) _⟩
    | true=>
    cases b5;all_goals simp only[decide_eq_true_eq,decide_eq_false_iff_not] at h5
    all_goals cases b1
    all_goals
     go_enter Tryz.func165,Tryz.ntmps165;go_wp2_with fail
     go_ret;exact⟨rfl,xf_ (gr1 _ _) _⟩
   have hi:∀ z q:Int,(z==q)=decide (z=q):=fun z q=>rfl;exact key _ _ _ _ _ (hi _ _) (hi _ _) (hi _ _) (hi _ _) rfl
 rw[if_neg hf];have hf':(f==5)=false:=(by simpa using hf);by_cases hg6:f=6;rotate_left
 · rw[if_neg hg6];have hg':(f==6)=false:=(by simpa using hg6);go_enter Tryz.func165,Tryz.ntmps165;go_wp2_with fail
   go_ret;exact⟨rfl,xf_ (gr1 _ _) _⟩
 subst hg6;rw[if_pos rfl];by_cases h1:kf=6;rotate_left
 · rw[decide_eq_false h1,Bool.false_and];have h1':(kf==6)=false:=(by simpa using h1);go_enter Tryz.func165,Tryz.ntmps165;go_wp2_with fail
   go_ret;exact⟨rfl,xf_ (gr1 _ _) _⟩
 subst h1;rw[decide_eq_true rfl,Bool.true_and];replace x7:_=some (Value.slice ka kks.length kc):=x7;obtain⟨W2,hW2⟩:∃ W2,W2=(W.alloc (.cells #[.int .i64 6,.int .i64 o,.int .i64 kd,.int .i64 n,.string nm,.string pt,.int .i64 a,.slice (some ⟨g,off,none⟩) L c] 50)).alloc (.cells #[.int .i64 6,.int .i64 ko,.int .i64 kk,.int .i64 kn,.string knm,.string kpt,.int .i64 kat,.slice ka kks.length kc] 50):=⟨_,rfl⟩;have g2:W.grownBy W2 none:=hW2▸xf_ (gr1 _ _) _;have q1:=fun k=>Calls.quiet_of_same ((cl ko (W2.drewN k) (xt_ g2 k)).mono fun _ _ h=>⟨h.1,h.2.symm⟩);have q2:=fun k=>Calls.quiet_of_same ((cl o (W2.drewN k) (xt_ g2 k)).mono fun _ _ h=>⟨h.1,h.2.symm⟩);have X1:W2.heap[W.heap.size]?=some (.cells #[.int .i64 6,.int .i64 o,.int .i64 kd,.int .i64 n,.string nm,.string pt,.int .i64 a,.slice (some ⟨g,off,none⟩) L c] 50):=hW2▸old (xe_ rfl _) _;have X2:W2.heap[W.heap.size+1]?=some (.cells #[.int .i64 6,.int .i64 ko,.int .i64 kk,.int .i64 kn,.string knm,.string kpt,.int .i64 kat,.slice ka kks.length kc] 50):=hW2▸xe_ (by simp) _;have HW2:=xa_ hW2;have G2:=xa_ g2;obtain⟨p1,_,_,p4,_,_⟩:=xb_ X1;obtain⟨r1,_,_,r4,_,_⟩:=xb_ X2;clear g2 hW2 X1 X2 cl;generalize lvS ko=A at q1 ⊢;generalize lvS o=B at q2 ⊢;have hi1:((i:Int)==1)=decide (i=1):=(by rw[Bool.eq_iff_iff];simp;omega);have key:∀ b1 b2 b3,decide (A<B)=b1→((i:Int)==1)=b2→(A==B)=b3→Calls Tryz.prog 165 #[xV 6 o kd n nm pt a (.slice (some ⟨g,off,none⟩) L c),.int .i64 i] W (xs_ W (b1 ||b2 && b3)):=by
  intro b1 b2 b3 h1 h2 h3;cases b1 <;> cases b2 <;> cases b3;all_goals as_aux_lemma=>
   go_enter Tryz.func165,Tryz.ntmps165;go_upto_region 9 with fail;rw[← HW2.out];clear hi1;generalize(i:Int)=I at h2 ⊢;clear x0 x1 x2 x3 x4 x5 x6 x7 HW2;go_quiet (first|(go_at_call 119;first|with_reducible exact q1 _|with_reducible exact q2 _))
   go_wp2_with fail
   go_ret;exact⟨rfl,xt_ G2.out _⟩
 have hi:(A==B)=decide (A=B):=rfl;rw[← hi1,← hi];exact key _ _ _ rfl rfl rfl
theorem Xs.le {w:World} {ok:Nat→Prop} {v:Value} {l:List PE} (h:Xs w ok v l):l.length≤4000000:=by
 cases h with
 | mk _ _ ks hl hr hk=>obtain⟨_,_,_,hn,_⟩:=hr;exact hn
abbrev exV (e:PE) (k:Value):Value:=.agg (xC e k).toArray
def EC (W:World) (e:PE) (k:Value):Prop:=∀(d:Int),0≤d→d≤100→∀ W',W.grownBy W' none→Calls Tryz.prog 87 #[exV e k,.int .i64 d] W' (xs_ W' (xr_ d e))
theorem z9_ {V W:World} (hT:Tabs V) (hV:Vs V W) {ok:Nat→Prop} {x:Option Addr} {c:Nat} (f o kd n:Int) (nm pt:ByteArray) (a:Int) (ks:List PE) (hx:Xs W ok (.slice x ks.length c) ks) (d:Int) (hd0:0≤d) (hd:d≤40)
 (hI:∀(i:Nat) (hi:i<ks.length) (ka:Option Addr) (kc:Nat) (W':World),W.grownBy W' none→Xs W' ok (.slice ka ks[i].kids.length kc) ks[i].kids→EC W' ks[i] (.slice ka ks[i].kids.length kc)) :
 Calls Tryz.prog 120 #[xV f o kd n nm pt a (.slice x ks.length c),.int .i64 d] W (xs_ W (yg_ f o (if f=6 then d else d+1) 0 ks)):=by
 obtain⟨D,hD⟩:∃ D,(if f=6 then d else d+1)=D:=⟨_,rfl⟩;obtain⟨Z,hZ⟩:∃ Z,yg_ f o D 0 ks=Z:=⟨_,rfl⟩;rw[hD,hZ];have hDb:0≤D∧D≤41:=(by rw[← hD];split <;> omega);have HD:=xa_ hDb;have HZ:=xa_ hZ;have HX:=xa_ hx;have hle:=hx.le;have HV:=xa_ hV;have HI:=xa_ hI;have hf:(f != 6)=!decide (f=6):=(by rw[Bool.eq_iff_iff];simp);have hwd:IntKind.i64.wrap (d+1)=d+1:=IntWalk.i64_in _ (by omega);clear hZ hI hDb hV hx;have key:∀ b,(f != 6)=b→(if b=true then d+1 else d)=D→Calls Tryz.prog 120 #[xV f o kd n nm pt a (.slice x ks.length c),.int .i64 d] W (xs_ W Z):=by
  intro b hb hdD;obtain⟨W1,hW1⟩:∃ W1,W1=W.alloc (.cells #[.int .i64 f,.int .i64 o,.int .i64 kd,.int .i64 n,.string nm,.string pt,.int .i64 a,.slice x ks.length c] 50):=⟨_,rfl⟩;have g1:Hid (W.grownBy W1 none):=hW1▸gr1 _ _;have X1:Hid (W1.heap[W.heap.size]?=some (.cells #[.int .i64 f,.int .i64 o,.int .i64 kd,.int .i64 n,.string nm,.string pt,.int .i64 a,.slice x ks.length c] 50)):=hW1▸xe_ rfl _;have HW1:=xa_ hW1;clear hf;go_enter Tryz.func120,Tryz.ntmps120;cases b;all_goals
   simp only[if_true,if_false,Bool.false_eq_true] at hdD;go_wp2_with fail
   rw[← HW1.out];(try rw[hdD]);have LS:Hid (∃ i:Nat,Value.int .i64 0=.int .i64 (i:Int)∧Hid (i≤ks.length∧ks.length+1=ks.length+1 - i∧W1.grownBy W1 none∧yg_ f o D i (ks.drop i)=Z)):=⟨0,rfl,xa_ ⟨by omega,rfl,gz_,by simpa using HZ.out⟩⟩;clear hW1;go_loopg [15] (ks.length+1) (fun gk s1 wx=>∃ i:Nat,s1=.int .i64 (i:Int)∧Hid (i≤ks.length∧gk=ks.length+1 - i∧W1.grownBy wx none∧yg_ f o D i (ks.drop i)=Z))
   case atStart=>exact LS.out
   case round=>
    obtain⟨i,rfl,HH⟩:=hrel;obtain⟨hi1,hgk,hg,hm⟩:=HH.out;clear HH LS;have X2:=kept hg X1.out;have gW:=gtn g1.out hg;obtain⟨p1,p2,p3,p4,p5,p6⟩:=xb_ X2;by_cases hi:i<ks.length;rotate_left
    · have hlt:¬((i:Int)<(ks.length:Int)):=(by omega);rw[List.drop_eq_nil_of_le (by omega),yg_] at hm;subst hm;have GW:=xa_ gW;clear gW hg;go_wp2_with fail
      go_ret;exact⟨rfl,GW.out⟩
    have hlt:((i:Int)<(ks.length:Int)):=(by omega);have hwi:IntKind.i64.wrap ((i:Int)+1)=i+1:=IntWalk.i64_in _ (by omega);rw[List.drop_eq_getElem_cons hi,yg_] at hm;obtain⟨g,off,c',ka,kc,ex,hn,hgl,hk,hc⟩:=HX.out.at8 i hi;injection ex with e1 _ e3;subst e1 e3;have cB:=xa_ (aby_ hT (HV.out.gr gW) f o kd n nm pt a ks (HX.out.gw gW) i hi);have cE:=xa_ (HI.out i hi ka kc W gz_ hk);have GW:=xa_ gW;have HM:=xa_ hm;have HC:=xa_ hc;have HG:=xa_ hg;clear gW hg hm hc hk;go_wp2_with fail
    refine cB.out.mono ?_;rintro e w2 ⟨rfl,g2⟩;have G2:=xa_ (gtn GW.out g2);have GX:=xa_ (gtn HG.out g2);clear g2 cB;generalize hb:brB f o i ks[i]=bb at HM;have hC:=HC.out w2 G2.out;have cE2:=fun D h0 h1=>cE.out D h0 h1 w2 G2.out;clear HC cE;obtain⟨p1,p2,p3,p4,p5,p6⟩:=xb_ (kept GX.out X1.out);generalize ks[i]=E at hC cE2 HM;obtain⟨kf,ko,kk,kn,knm,kpt,kat,kks⟩:=E;obtain⟨x0,x1,x2,x3,x4,x5,x6,x7⟩:=hC.all;clear hC;have hwD:IntKind.i64.wrap (D+1)=D+1:=IntWalk.i64_in _ (by have:=HD.out;omega);cases bb
    · have cE3:=xa_ (cE2 (D) (by have:=HD.out;omega) (by have:=HD.out;omega));simp only[if_false,Bool.false_eq_true] at HM;clear cE2;generalize hr:xr_ (D) (.mk kf ko kk kn knm kpt kat kks)=r at cE3 HM;clear hr;go_wp2_with fail
      refine cE3.out.mono ?_;rintro e w3 ⟨rfl,g3⟩;have G3:=xa_ (gtn GX.out g3);have G4:=xa_ (gtn G2.out g3);cases r
      · have e:Z=false:=(by rw[← HM.out];rfl);subst e;clear HM g3;go_wp2_with fail
        go_ret;exact⟨rfl,G4.out⟩
      · have HM2:=xa_ ((Bool.true_and _).symm.trans HM.out);clear HM g3;go_wp2_with fail
        go_roundg (ks.length+1 - (i+1))
        case measure=>omega
        case rel=>exact⟨i+1,by simp,xa_ ⟨by omega,rfl,G3.out,HM2.out⟩⟩
    · have cE3:=xa_ (cE2 (D+1) (by have:=HD.out;omega) (by have:=HD.out;omega));simp only[if_true] at HM;clear cE2;generalize hr:xr_ (D+1) (.mk kf ko kk kn knm kpt kat kks)=r at cE3 HM;clear hr;go_wp2_with fail
      refine cE3.out.mono ?_;rintro e w3 ⟨rfl,g3⟩;have G3:=xa_ (gtn GX.out g3);have G4:=xa_ (gtn G2.out g3);cases r
      · have e:Z=false:=(by rw[← HM.out];rfl);subst e;clear HM g3;go_wp2_with fail
        go_ret;exact⟨rfl,G4.out⟩
      · have HM2:=xa_ ((Bool.true_and _).symm.trans HM.out);clear HM g3;go_wp2_with fail
        go_roundg (ks.length+1 - (i+1))
        case measure=>omega
        case rel=>exact⟨i+1,by simp,xa_ ⟨by omega,rfl,G3.out,HM2.out⟩⟩
 by_cases h6:f=6
 ·exact key _ hf (by rw[h6] at hD ⊢;simpa using hD)
 ·exact key _ hf (by simpa[h6] using hD)
mutual
def yj_:PE→Nat
 | .mk _ _ _ _ nm pt _ ks=>1+nm.size+pt.size+y9_ ks
def y9_:List PE→Nat
 | []=>0
 | e::l=>yj_ e+y9_ l
end
theorem qa_:∀(l:List PE) (i:Nat) (hi:i<l.length),yj_ l[i]≤y9_ l
 | e::l,0,_=>by rw[y9_];simp
 | e::l,i+1,hi=>by
  have:=qa_ l i (by simpa using hi);rw[y9_];simp only[List.getElem_cons_succ];omega
theorem eqD (a b:Int):(a==b)=decide (a=b):=rfl
theorem j8_ (n:Nat):((n:Int)==1)=decide (n=1):=by rw[Bool.eq_iff_iff];simp;omega
theorem ur_ (n:Nat):((n:Int)==2)=decide (n=2):=by rw[Bool.eq_iff_iff];simp;omega
theorem aib_ (n:Nat):decide ((n:Int)≤8)=decide (n≤8):=by rw[Bool.eq_iff_iff];simp;omega
theorem aic_ (n:Nat):decide (1≤(n:Int))=decide (1≤n):=by rw[Bool.eq_iff_iff];simp;omega
theorem aid_ (d o kd n:Int) (nm pt:ByteArray) (a:Int) (ks:List PE):xr_ d (.mk 1 o kd n nm pt a ks)=(decide (d≤40) && (yk_ kd n && (xz_ (.mk 0 o 0 0 nm pt a ks) && yg_ 1 o (if (1:Int)=6 then d else d+1) 0 ks))):=by
 rw[xr_,hdB,xz_];simp[Bool.and_assoc,Bool.and_comm,Bool.and_left_comm,nob]
theorem aie_ (d o kd n:Int) (nm pt:ByteArray) (a:Int) (ks:List PE):xr_ d (.mk 2 o kd n nm pt a ks)=(decide (d≤40) && (nmB nm && (xz_ (.mk 0 o kd n nob pt a ks) && yg_ 2 o (if (2:Int)=6 then d else d+1) 0 ks))):=by
 rw[xr_,hdB,xz_];simp[Bool.and_assoc,Bool.and_comm,Bool.and_left_comm,nob]
theorem aif_ (d o kd n:Int) (nm pt:ByteArray) (a:Int) (ks:List PE):xr_ d (.mk 3 o kd n nm pt a ks)=(decide (d≤40) && ((nmB nm && ((ks.length:Int)==1)) && (xz_ (.mk 0 o kd n nob pt a []) && yg_ 3 o (if (3:Int)=6 then d else d+1) 0 ks))):=by
 rw[xr_,hdB,xz_];rw[j8_];simp[Bool.and_assoc,Bool.and_comm,Bool.and_left_comm,nob]
theorem aig_ (d o kd n:Int) (nm pt:ByteArray) (a:Int) (ks:List PE):xr_ d (.mk 4 o kd n nm pt a ks)=(decide (d≤40) && ((nmB nm && nmB pt) && (xz_ (.mk 0 o kd n nob nob a ks) && yg_ 4 o (if (4:Int)=6 then d else d+1) 0 ks))):=by
 rw[xr_,hdB,xz_];simp[Bool.and_assoc,Bool.and_comm,Bool.and_left_comm,nob]
theorem aih_ (d o kd n:Int) (nm pt:ByteArray) (a:Int) (ks:List PE):xr_ d (.mk 5 o kd n nm pt a ks)=(decide (d≤40) && ((((o==21) ||(o==22)) && ((ks.length:Int)==1)) && (xz_ (.mk 0 0 kd n nm pt a []) && yg_ 5 o (if (5:Int)=6 then d else d+1) 0 ks))):=by
 rw[xr_,hdB,xz_];rw[j8_,eqD,eqD];simp[Bool.and_assoc,Bool.and_comm,Bool.and_left_comm,Bool.or_and_distrib_right,nob]
theorem aii_ (d o kd n:Int) (nm pt:ByteArray) (a:Int) (ks:List PE):xr_ d (.mk 6 o kd n nm pt a ks)=(decide (d≤40) && ((decide (0<lvS o) && ((ks.length:Int)==2)) && (xz_ (.mk 0 0 kd n nm pt a []) && yg_ 6 o (if (6:Int)=6 then d else d+1) 0 ks))):=by
 rw[xr_,hdB,xz_];rw[ur_];simp[Bool.and_assoc,Bool.and_comm,Bool.and_left_comm,nob]
theorem aij_ (d o kd n:Int) (nm pt:ByteArray) (a:Int) (ks:List PE):xr_ d (.mk 7 o kd n nm pt a ks)=(decide (d≤40) && (((nmB nm ||(nm.toList==[109,97,120])) && (decide (1≤(ks.length:Int)) && decide ((ks.length:Int)≤8))) && (xz_ (.mk 0 o kd n nob pt a []) && yg_ 7 o (if (7:Int)=6 then d else d+1) 0 ks))):=by
 rw[xr_,hdB,xz_];rw[eqS,aib_,aic_];unfold maxB;simp[Bool.and_assoc,Bool.and_comm,Bool.and_left_comm,nob]
theorem yi_ (s:ByteArray) (hs:s.size≤4000000) (W:World):Calls Tryz.prog 45 #[.string s] W (xs_ W (nmB s)):=(abs_ s W (by omega)).mono fun _ _ h=>⟨h.1,h.2▸gz_⟩
theorem adx_ {V:World} (hT:Tabs V) (o:Int) {W:World} (hV:Vs V W):Calls Tryz.prog 119 #[.int .i64 o] W fun e w'=>e=.returned (.int .i64 (lvS o))∧W.grownBy w' none:=(ku_ hT hV o).mono fun _ _ h=>⟨h.1,h.2▸gz_⟩
theorem EC.gr {W W':World} {e:PE} {k:Value} (h:EC W e k) (hg:W.grownBy W' none):EC W' e k:=fun d h0 h1 W2 h2=>h d h0 h1 W2 (gtn hg h2)
theorem ex_1 {V W:World} (hT:Tabs V) (hV:Vs V W) {ok:Nat→Prop} {x:Option Addr} {c:Nat} (o kd n:Int) (nm pt:ByteArray) (a:Int) (ks:List PE) (hs1:nm.size≤4000000) (hs2:pt.size≤4000000) (hx:Xs W ok (.slice x ks.length c) ks) (d:Int) (hd0:0≤d) (hd:d≤100)
 (hI:∀(i:Nat) (hi:i<ks.length) (ka:Option Addr) (kc:Nat) (W':World),W.grownBy W' none→Xs W' ok (.slice ka ks[i].kids.length kc) ks[i].kids→EC W' ks[i] (.slice ka ks[i].kids.length kc)) :
 Calls Tryz.prog 87 #[xV 1 o kd n nm pt a (.slice x ks.length c),.int .i64 d] W (xs_ W (xr_ d (.mk 1 o kd n nm pt a ks))):=by
 rw[aid_];have hne:W.heap.size≠W.heap.size+1:=(by omega);have cB:=xa_ (fun W'=>yr_ (0) (o) (0) (0) (nm) (pt) (a) ks x c W');have cK:d≤40→∀ W',W.grownBy W' none→Calls Tryz.prog 120 #[xV 1 o kd n nm pt a (.slice x ks.length c),.int .i64 d] W' (xs_ W' (yg_ 1 o (if (1:Int)=6 then d else d+1) 0 ks)):=fun h40 W' hg=>z9_ hT (hV.gr hg) 1 o kd n nm pt a ks (hx.gw hg) d hd0 h40 (fun i hi ka kc W2 h2 hk=>hI i hi ka kc W2 (gtn hg h2) hk);generalize xz_ (.mk 0 o 0 0 nm pt a ks)=BB at cB ⊢;generalize yg_ 1 o (if (1:Int)=6 then d else d+1) 0 ks=KK at cK ⊢;have cN:=xa_ (fun W'=>adw_ 1 o kd n nm pt a (.slice x ks.length c) W');generalize yk_ kd n=R at cN ⊢;obtain⟨Z,hZ⟩:∃ Z,(decide (d≤40) && (R && (BB && KK)))=Z:=⟨_,rfl⟩;rw[hZ];have HZ:=xa_ hZ;clear hx hI hV hT hZ;obtain⟨W2,hW2⟩:∃ W2,W2=((W.alloc (.cells #[.int .i64 1,.int .i64 o,.int .i64 kd,.int .i64 n,.string nm,.string pt,.int .i64 a,.slice x ks.length c] 50)).alloc (.cells #[.int .i64 1,.int .i64 o,.int .i64 kd,.int .i64 n,.string nm,.string pt,.int .i64 a,.slice x ks.length c] 50)).drew:=⟨_,rfl⟩;have A2:Hid (W2.heap[W.heap.size]?=some (.cells #[.int .i64 1,.int .i64 o,.int .i64 kd,.int .i64 n,.string nm,.string pt,.int .i64 a,.slice x ks.length c] 50)):=hW2▸old (xe_ rfl _) _;have B2:Hid (W2.heap[W.heap.size+1]?=some (.cells #[.int .i64 1,.int .i64 o,.int .i64 kd,.int .i64 n,.string nm,.string pt,.int .i64 a,.slice x ks.length c] 50)):=hW2▸xe_ (by simp) _;have G2:Hid (W.grownBy W2 none):=hW2▸xi_ (xf_ (gr1 _ _) _);go_enter Tryz.func87,Tryz.ntmps87;go_wp2_with fail
 go_region
 rw[← hW2];clear hW2;obtain⟨a2a,a2b,a2c,a2d,a2e,a2f⟩:=xb_ A2.out;obtain⟨b2a,b2b,b2c,b2d,b2e,b2f⟩:=xb_ B2.out;go_wp2_with fail
 refine(cN.out _).mono ?_;rintro e W3 ⟨rfl,g⟩;have A3:Hid (W3.heap[W.heap.size]?=some (.cells #[.int .i64 1,.int .i64 o,.int .i64 kd,.int .i64 n,.string nm,.string pt,.int .i64 a,.slice x ks.length c] 50)):=kept g (x1_ A2.out hne);have B3:Hid (W3.heap[W.heap.size+1]?=some (.cells #[.int .i64 0,.int .i64 o,.int .i64 kd,.int .i64 n,.string nm,.string pt,.int .i64 a,.slice x ks.length c] 50)):=kept g (by simpa using(xj_ B2.out 0 (.int .i64 0)));have G3:=xa_ (gtn (xd_ G2.out (Nat.le_succ _) 0 (.int .i64 0)) g);clear g a2a a2b a2c a2d a2e a2f b2a b2b b2c b2d b2e b2f;obtain⟨a3a,a3b,a3c,a3d,a3e,a3f⟩:=xb_ A3.out;obtain⟨b3a,b3b,b3c,b3d,b3e,b3f⟩:=xb_ B3.out;clear cN;cases R with
 | false=>
  have e:Z=false:=(by rw[← HZ.out,Bool.false_and,Bool.and_false]);subst e;clear cB cK HZ;by_cases h40:d≤40;all_goals
   go_wp2_with fail
   go_ret;exact⟨rfl,(xd_ (xd_ G3.out (Nat.le_succ _) 2 (.int .i64 0)) (Nat.le_succ _) 3 (.int .i64 0))⟩
 | true=>
 by_cases h40:d≤40;rotate_left
 · have e:Z=false:=(by rw[← HZ.out,decide_eq_false h40,Bool.false_and]);subst e;clear cB cK HZ;go_wp2_with fail
   go_ret;exact⟨rfl,(xd_ (xd_ G3.out (Nat.le_succ _) 2 (.int .i64 0)) (Nat.le_succ _) 3 (.int .i64 0))⟩
 have cK2:=xa_ (cK h40);clear cK;go_wp2_with fail
 refine(cB.out _).mono ?_;rintro e W4 ⟨rfl,g⟩;have A4:Hid (W4.heap[W.heap.size]?=some (.cells #[.int .i64 1,.int .i64 o,.int .i64 kd,.int .i64 n,.string nm,.string pt,.int .i64 a,.slice x ks.length c] 50)):=kept g (x1_ (x1_ A3.out hne) hne);have B4:Hid (W4.heap[W.heap.size+1]?=some (.cells #[.int .i64 0,.int .i64 o,.int .i64 0,.int .i64 0,.string nm,.string pt,.int .i64 a,.slice x ks.length c] 50)):=kept g (by simpa using(xj_ (xj_ B3.out 2 (.int .i64 0)) 3 (.int .i64 0)));have G4:=xa_ (gtn (xd_ (xd_ G3.out (Nat.le_succ _) 2 (.int .i64 0)) (Nat.le_succ _) 3 (.int .i64 0)) g);clear g a3a a3b a3c a3d a3e a3f b3a b3b b3c b3d b3e b3f;obtain⟨a4a,a4b,a4c,a4d,a4e,a4f⟩:=xb_ A4.out;obtain⟨b4a,b4b,b4c,b4d,b4e,b4f⟩:=xb_ B4.out;cases BB with
 | false=>
  have e:Z=false:=(by rw[← HZ.out,decide_eq_true h40];rfl);subst e;clear cK2 HZ;go_wp2_with fail
  go_ret;exact⟨rfl,G4.out⟩
 | true=>
 have e:Z=KK:=(by rw[← HZ.out,decide_eq_true h40];rfl);subst e;clear HZ;go_wp2_with fail
 refine(cK2.out _ G4.out).mono ?_;rintro e W5 ⟨rfl,g⟩;have A5:Hid (W5.heap[W.heap.size]?=some (.cells #[.int .i64 1,.int .i64 o,.int .i64 kd,.int .i64 n,.string nm,.string pt,.int .i64 a,.slice x ks.length c] 50)):=kept g A4.out;have B5:Hid (W5.heap[W.heap.size+1]?=some (.cells #[.int .i64 0,.int .i64 o,.int .i64 0,.int .i64 0,.string nm,.string pt,.int .i64 a,.slice x ks.length c] 50)):=kept g (by simpa using B4.out);have G5:=xa_ (gtn G4.out g);clear g a4a a4b a4c a4d a4e a4f b4a b4b b4c b4d b4e b4f;go_wp2_with fail
 go_ret;exact⟨rfl,G5.out⟩
end Go.Proofs.YtcoglmaiahpooaaGreatDoor
