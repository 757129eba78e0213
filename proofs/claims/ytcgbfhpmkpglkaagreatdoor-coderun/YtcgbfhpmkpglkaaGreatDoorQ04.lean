/- Texts put together: E, CePlain, CeCellA, CeCellB, BlPlain, BlA, BlB, BlC, BlE. -/
import Derived.Test.YtcgbfhpmkpglkaaGreatDoorQ01
import Derived.Test.YtcgbfhpmkpglkaaGreatDoorRows
set_option linter.unusedVariables false
set_option linter.unusedSimpArgs false
set_option maxHeartbeats 8000000
namespace Go.Proofs.YtcgbfhpmkpglkaaGreatDoor
open Go.RowKit
def zu_:ByteArray:={ data:=#[116,111,110] }
theorem ae3_ (w:World):Calls Tryz.prog 86 #[.string zu_] w fun e w'=>e=.returned (.tuple #[.iface 143 (.pointer (some ⟨w.heap.size,0,none⟩)),.bool true])∧w'=w.alloc (.cells #[.bool false,.int .i64 0,.bool false,.int .i64 0] 147):=by
 unfold zu_;go_enter Tryz.func86,Tryz.ntmps86;go_wp2;go_ret2;exact⟨rfl,rfl⟩
def zv_:ByteArray:={ data:=#[116,111,102] }
theorem ae4_ (w:World):Calls Tryz.prog 86 #[.string zv_] w fun e w'=>e=.returned (.tuple #[.iface 148 (.pointer (some ⟨w.heap.size,0,none⟩)),.bool true])∧w'=w.alloc (.cells #[.bool false,.int .i64 0,.bool false,.int .i64 0] 149):=by
 unfold zv_;go_enter Tryz.func86,Tryz.ntmps86;go_wp2;go_ret2;exact⟨rfl,rfl⟩
def qu_:ByteArray:={ data:=#[116,112] }
theorem ahu_ (w:World):Calls Tryz.prog 86 #[.string qu_] w fun e w'=>e=.returned (.tuple #[.iface 150 (.pointer (some ⟨w.heap.size,0,none⟩)),.bool true])∧w'=w.alloc (.cells #[.bool false,.int .i64 0,.bool false,.int .i64 0] 151):=by
 unfold qu_;go_enter Tryz.func86,Tryz.ntmps86;go_wp2;go_ret2;exact⟨rfl,rfl⟩
def zw_:ByteArray:={ data:=#[99,116,117] }
theorem ae5_ (w:World):Calls Tryz.prog 86 #[.string zw_] w fun e w'=>e=.returned (.tuple #[.iface 152 (.pointer (some ⟨w.heap.size,0,none⟩)),.bool true])∧w'=w.alloc (.cells #[.bool false,.int .i64 0] 156):=by
 unfold zw_;go_enter Tryz.func86,Tryz.ntmps86;go_wp2;go_ret2;exact⟨rfl,rfl⟩
def zx_:ByteArray:={ data:=#[99,116,100] }
theorem ae6_ (w:World):Calls Tryz.prog 86 #[.string zx_] w fun e w'=>e=.returned (.tuple #[.iface 157 (.pointer (some ⟨w.heap.size,0,none⟩)),.bool true])∧w'=w.alloc (.cells #[.bool false,.int .i64 0] 158):=by
 unfold zx_;go_enter Tryz.func86,Tryz.ntmps86;go_wp2;go_ret2;exact⟨rfl,rfl⟩
def ze_:ByteArray:={ data:=#[99,116,117,100] }
theorem adx_ (w:World):Calls Tryz.prog 86 #[.string ze_] w fun e w'=>e=.returned (.tuple #[.iface 159 (.pointer (some ⟨w.heap.size,0,none⟩)),.bool true])∧w'=w.alloc (.cells #[.bool false,.bool false,.int .i64 0] 161):=by
 unfold ze_;go_enter Tryz.func86,Tryz.ntmps86;go_wp2;go_ret2;exact⟨rfl,rfl⟩
def zb_:ByteArray:={ data:=#[114,95,116,114,105,103] }
theorem acv_ (w:World):Calls Tryz.prog 86 #[.string zb_] w fun e w'=>e=.returned (.tuple #[.iface 162 (.pointer (some ⟨w.heap.size,0,none⟩)),.bool true])∧w'=w.alloc (.cells #[.bool false] 166):=by
 unfold zb_;go_enter Tryz.func86,Tryz.ntmps86;go_wp2;go_ret2;exact⟨rfl,rfl⟩
def zc_:ByteArray:={ data:=#[102,95,116,114,105,103] }
theorem acw_ (w:World):Calls Tryz.prog 86 #[.string zc_] w fun e w'=>e=.returned (.tuple #[.iface 167 (.pointer (some ⟨w.heap.size,0,none⟩)),.bool true])∧w'=w.alloc (.cells #[.bool false] 168):=by
 unfold zc_;go_enter Tryz.func86,Tryz.ntmps86;go_wp2;go_ret2;exact⟨rfl,rfl⟩
def q7_:ByteArray:={ data:=#[115,114] }
theorem ahv_ (w:World):Calls Tryz.prog 86 #[.string q7_] w fun e w'=>e=.returned (.tuple #[.iface 169 (.pointer (some ⟨w.heap.size,0,none⟩)),.bool true])∧w'=w.alloc (.cells #[.bool false] 173):=by
 unfold q7_;go_enter Tryz.func86,Tryz.ntmps86;go_wp2;go_ret2;exact⟨rfl,rfl⟩
def q8_:ByteArray:={ data:=#[114,115] }
theorem ahw_ (w:World):Calls Tryz.prog 86 #[.string q8_] w fun e w'=>e=.returned (.tuple #[.iface 174 (.pointer (some ⟨w.heap.size,0,none⟩)),.bool true])∧w'=w.alloc (.cells #[.bool false] 175):=by
 unfold q8_;go_enter Tryz.func86,Tryz.ntmps86;go_wp2;go_ret2;exact⟨rfl,rfl⟩
def zo_:ByteArray:={ data:=#[114,97,109,112] }
theorem ady_ (w:World):Calls Tryz.prog 86 #[.string zo_] w fun e w'=>e=.returned (.tuple #[.iface 176 (.pointer (some ⟨w.heap.size,0,none⟩)),.bool true])∧w'=w.alloc (.cells #[.int .i64 0] 178):=by
 unfold zo_;go_enter Tryz.func86,Tryz.ntmps86;go_wp2;go_ret2;exact⟨rfl,rfl⟩
def zp_:ByteArray:={ data:=#[104,121,115,116] }
theorem adz_ (w:World):Calls Tryz.prog 86 #[.string zp_] w fun e w'=>e=.returned (.tuple #[.iface 179 (.pointer (some ⟨w.heap.size,0,none⟩)),.bool true])∧w'=w.alloc (.cells #[.bool false] 180):=by
 unfold zp_;go_enter Tryz.func86,Tryz.ntmps86;go_wp2;go_ret2;exact⟨rfl,rfl⟩
end Go.Proofs.YtcgbfhpmkpglkaaGreatDoor
namespace Go.Proofs.YtcgbfhpmkpglkaaGreatDoor.Ce
open Go.RowKit
def xd_ (k n:Int):Int:=
 if k=1 then n % 2 else if k=2 then(n+32768) % 65536 - 32768 else if k=3 then(n+2147483648) % 4294967296 - 2147483648
 else if k=4 then n % 65536 else if k=5 then n % 4294967296 else 0
theorem uc_ (n:Int):xd_ 1 n=n % 2:=by simp[xd_]
theorem ve_ (n:Int):xd_ 2 n=(n+32768) % 65536 - 32768:=by simp[xd_]
theorem adf_ (n:Int):xd_ 3 n=(n+2147483648) % 4294967296 - 2147483648:=by simp[xd_]
theorem vf_ (n:Int):xd_ 4 n=n % 65536:=by simp[xd_]
theorem aci_ (n:Int):xd_ 5 n=n % 4294967296:=by simp[xd_]
theorem kq_ {k:Int} (n:Int) (h1:k≠1) (h2:k≠2) (h3:k≠3) (h4:k≠4) (h5:k≠5):xd_ k n=0:=by simp[xd_,h1,h2,h3,h4,h5]
theorem qc_ {n:Int} (h0 : -9223372036854775808≤n) (h1:n≤9223372036854775807):wrap64 n=n:=by unfold wrap64;omega
theorem aje_ (n:Int):IntKind.i16.wrap n=(n+32768) % 65536 - 32768:=by
 unfold IntKind.wrap;simp only[IntKind.bits,IntKind.signed];simp;split <;> omega
theorem adg_ (n:Int):IntKind.u16.wrap n=n % 65536:=by
 unfold IntKind.wrap;simp only[IntKind.bits,IntKind.signed];simp
theorem and1 (n:Int):bits .and .i64 n 1=n % 2:=by
 unfold bits;have e:(BitVec.ofInt IntKind.i64.bits n &&& BitVec.ofInt IntKind.i64.bits 1).toNat=(n % 2).toNat:=by
  have h1:(BitVec.ofInt 64 1)=1#64:=(by decide);show(BitVec.ofInt 64 n &&& BitVec.ofInt 64 1).toNat=_
  rw[h1];rw[BitVec.toNat_and,BitVec.toNat_ofInt];show((n % ((2 ^ 64:Nat):Int)).toNat &&& 1)=_
  rw[Nat.and_one_is_mod];omega
 simp only[e];rw[IntWalk.i64_left];unfold wrap64;omega
theorem x5_ (k n:Int) : -2147483648≤xd_ k n∧xd_ k n≤4294967295:=by
 unfold xd_;repeat' split
 all_goals omega
theorem jd_ {k m n:Int} (h:m % 4294967296=n % 4294967296):xd_ k m=xd_ k n:=by
 unfold xd_;repeat' split
 all_goals omega
theorem uj_ (k n:Int):xd_ k (wrap64 n)=xd_ k n:=jd_ (by unfold wrap64;omega)
theorem xs_ {k:IntKind} {a b:Int} (h:a=b):Ending.returned (.int k a)=.returned (.int k b):=by rw[h]
theorem xr_ {a b:Bool} (h:a=b):Ending.returned (.bool a)=.returned (.bool b):=by rw[h]
theorem ys_ (k n:Int) (w:World) :
 Calls Tryz.prog 71 #[.int .i64 k,.int .i64 n] w fun e w'=>e=.returned (.int .i64 (xd_ k n))∧w'=w:=by
 go_enter Tryz.func71,Tryz.ntmps71;go_wp2
 ·go_ret;have e:k=1:=(by simpa using ‹(k==1)=true›);exact⟨xs_ (by rw[e,uc_];exact and1 n),rfl⟩
 ·go_ret;have e:k=2:=(by simpa using ‹(k==2)=true›);exact⟨xs_ (by show wrap64 (IntKind.i16.wrap n)=_;rw[e,ve_,aje_,qc_ (by omega) (by omega)]),rfl⟩
 ·go_ret;have e:k=3:=(by simpa using ‹(k==3)=true›);exact⟨xs_ (by show wrap64 (wrap32 n)=_;rw[e,adf_];unfold wrap32;rw[qc_ (by omega) (by omega)]),rfl⟩
 ·go_ret;have e:k=4:=(by simpa using ‹(k==4)=true›);exact⟨xs_ (by show wrap64 (IntKind.u16.wrap n)=_;rw[e,vf_,adg_,qc_ (by omega) (by omega)]),rfl⟩
 ·go_ret;have e:k=5:=(by simpa using ‹(k==5)=true›);exact⟨xs_ (by show n % 4294967296=_;rw[e,aci_]),rfl⟩
 ·go_ret;exact⟨xs_ (by show 0=_;rw[kq_ n (by simp_all) (by simp_all) (by simp_all) (by simp_all) (by simp_all)]),rfl⟩
def isK (k:Int):Bool:=decide (1≤k) && decide (k≤5)
theorem ju_ (k:Int) (w:World) :
 Calls Tryz.prog 91 #[.int .i64 k] w fun e w'=>e=.returned (.bool (isK k))∧w'=w:=by
 by_cases h1:1≤k
 · by_cases h2:k≤5
   ·go_enter Tryz.func91,Tryz.ntmps91;go_wp2;go_ret;exact⟨xr_ (by simp[isK,h1,h2]),rfl⟩
   ·go_enter Tryz.func91,Tryz.ntmps91;go_wp2;go_ret;exact⟨xr_ (by simp[isK,h1,h2]),rfl⟩
 ·go_enter Tryz.func91,Tryz.ntmps91;go_wp2;go_ret;exact⟨xr_ (by simp[isK];omega),rfl⟩
def yu_ (op k:Int):Bool:=
 if op==3 ||op==4 ||op==5 ||op==22 ||op==23 then(k==2 ||k==3)
 else if op==1 ||op==2 then((k==2 ||k==3) ||k==5)
 else if op==11 ||op==12 ||op==13 ||op==14 ||op==19 ||op==20 then(((k==2 ||k==3) ||k==5) ||k==4)
 else if op==6 ||op==7 ||op==8 ||op==21 then(k==1 ||k==4)
 else if op==15 ||op==16 ||op==17 ||op==18 then k==4
 else if op==9 ||op==10 then isK k
 else false
theorem qm_ (op k:Int) (w:World) :
 Calls Tryz.prog 82 #[.int .i64 op,.int .i64 k] w fun e w'=>e=.returned (.bool (yu_ op k))∧w'=w:=by
 by_cases c2:(k==2)=true
 · go_enter Tryz.func82,Tryz.ntmps82;go_wp2_with (go_at_call 91;refine(ju_ _ _).mono ?_;rintro e w' ⟨rfl,rfl⟩)
   all_goals go_ret
   all_goals exact⟨xr_ (by simp[yu_, *]),rfl⟩
 · have c2:(k==2)=false:=(by simpa using c2);by_cases c3:(k==3)=true
   · go_enter Tryz.func82,Tryz.ntmps82;go_wp2_with (go_at_call 91;refine(ju_ _ _).mono ?_;rintro e w' ⟨rfl,rfl⟩)
     all_goals go_ret
     all_goals exact⟨xr_ (by simp[yu_, *]),rfl⟩
   · have c3:(k==3)=false:=(by simpa using c3);go_enter Tryz.func82,Tryz.ntmps82;go_wp2_with (go_at_call 91;refine(ju_ _ _).mono ?_;rintro e w' ⟨rfl,rfl⟩)
     all_goals go_ret
     all_goals exact⟨xr_ (by simp[yu_, *]),rfl⟩
end Go.Proofs.YtcgbfhpmkpglkaaGreatDoor.Ce
namespace Go.Proofs.YtcgbfhpmkpglkaaGreatDoor.Bl
open Go.RowKit
def xd_ (k n:Int):Int:=
 if k=1 then n % 2 else if k=2 then(n+32768) % 65536 - 32768 else if k=3 then(n+2147483648) % 4294967296 - 2147483648
 else if k=4 then n % 65536 else if k=5 then n % 4294967296 else 0
theorem uc_ (n:Int):xd_ 1 n=n % 2:=by simp[xd_]
theorem ve_ (n:Int):xd_ 2 n=(n+32768) % 65536 - 32768:=by simp[xd_]
theorem adf_ (n:Int):xd_ 3 n=(n+2147483648) % 4294967296 - 2147483648:=by simp[xd_]
theorem vf_ (n:Int):xd_ 4 n=n % 65536:=by simp[xd_]
theorem aci_ (n:Int):xd_ 5 n=n % 4294967296:=by simp[xd_]
theorem kq_ {k:Int} (n:Int) (h1:k≠1) (h2:k≠2) (h3:k≠3) (h4:k≠4) (h5:k≠5):xd_ k n=0:=by simp[xd_,h1,h2,h3,h4,h5]
theorem qc_ {n:Int} (h0 : -9223372036854775808≤n) (h1:n≤9223372036854775807):wrap64 n=n:=by unfold wrap64;omega
theorem aje_ (n:Int):IntKind.i16.wrap n=(n+32768) % 65536 - 32768:=by
 unfold IntKind.wrap;simp only[IntKind.bits,IntKind.signed];simp;split <;> omega
theorem adg_ (n:Int):IntKind.u16.wrap n=n % 65536:=by
 unfold IntKind.wrap;simp only[IntKind.bits,IntKind.signed];simp
theorem and1 (n:Int):bits .and .i64 n 1=n % 2:=by
 unfold bits;have e:(BitVec.ofInt IntKind.i64.bits n &&& BitVec.ofInt IntKind.i64.bits 1).toNat=(n % 2).toNat:=by
  have h1:(BitVec.ofInt 64 1)=1#64:=(by decide);show(BitVec.ofInt 64 n &&& BitVec.ofInt 64 1).toNat=_
  rw[h1];rw[BitVec.toNat_and,BitVec.toNat_ofInt];show((n % ((2 ^ 64:Nat):Int)).toNat &&& 1)=_
  rw[Nat.and_one_is_mod];omega
 simp only[e];rw[IntWalk.i64_left];unfold wrap64;omega
theorem x5_ (k n:Int) : -2147483648≤xd_ k n∧xd_ k n≤4294967295:=by
 unfold xd_;repeat' split
 all_goals omega
theorem jd_ {k m n:Int} (h:m % 4294967296=n % 4294967296):xd_ k m=xd_ k n:=by
 unfold xd_;repeat' split
 all_goals omega
theorem uj_ (k n:Int):xd_ k (wrap64 n)=xd_ k n:=jd_ (by unfold wrap64;omega)
def x1_ (b:Bool):Int:=if b then 1 else 0
theorem xs_ {k:IntKind} {a b:Int} (h:a=b):Ending.returned (.int k a)=.returned (.int k b):=by rw[h]
theorem xr_ {a b:Bool} (h:a=b):Ending.returned (.bool a)=.returned (.bool b):=by rw[h]
theorem ys_ (k n:Int) (w:World) :
 Calls Tryz.prog 71 #[.int .i64 k,.int .i64 n] w fun e w'=>e=.returned (.int .i64 (xd_ k n))∧w'=w:=by
 go_enter Tryz.func71,Tryz.ntmps71;go_wp2
 ·go_ret;have e:k=1:=(by simpa using ‹(k==1)=true›);exact⟨xs_ (by rw[e,uc_];exact and1 n),rfl⟩
 ·go_ret;have e:k=2:=(by simpa using ‹(k==2)=true›);exact⟨xs_ (by show wrap64 (IntKind.i16.wrap n)=_;rw[e,ve_,aje_,qc_ (by omega) (by omega)]),rfl⟩
 ·go_ret;have e:k=3:=(by simpa using ‹(k==3)=true›);exact⟨xs_ (by show wrap64 (wrap32 n)=_;rw[e,adf_];unfold wrap32;rw[qc_ (by omega) (by omega)]),rfl⟩
 ·go_ret;have e:k=4:=(by simpa using ‹(k==4)=true›);exact⟨xs_ (by show wrap64 (IntKind.u16.wrap n)=_;rw[e,vf_,adg_,qc_ (by omega) (by omega)]),rfl⟩
 ·go_ret;have e:k=5:=(by simpa using ‹(k==5)=true›);exact⟨xs_ (by show n % 4294967296=_;rw[e,aci_]),rfl⟩
 ·go_ret;exact⟨xs_ (by show 0=_;rw[kq_ n (by simp_all) (by simp_all) (by simp_all) (by simp_all) (by simp_all)]),rfl⟩
def ke_ (k:Int):Int:=if k==1 then 2 else if k==2 then 65536 else if k==3 then 4294967296 else if k==4 then 65536 else if k==5 then 4294967296 else 0
def v4_ (k:Int):Int:=if k==1 then 0 else if k==2 then -32768 else if k==3 then -2147483648 else 0
theorem z5_ (k:Int) (w:World) :
 Calls Tryz.prog 61 #[.int .i64 k] w fun e w'=>e=.returned (.tuple #[.int .i64 (ke_ k),.int .i64 (v4_ k)])∧w'=w:=by
 go_enter Tryz.func61,Tryz.ntmps61;go_wp2;all_goals go_ret2
 all_goals refine⟨?_,rfl⟩
 all_goals simp[ke_,v4_, *]
theorem ae1_ (k:Int):k=1∨k=2∨k=3∨k=4∨k=5∨(k≠1∧k≠2∧k≠3∧k≠4∧k≠5):=by omega
theorem zs_ (n s:Int):(0≤n∧n.tmod s=n % s)∨(n<0∧n.tmod s = -((-n) % s)):=by
 rcases Int.lt_or_le n 0 with h1|h1
 ·right;refine⟨h1,?_⟩;have:n.tmod s = -((-n).tmod s):=(by rw[Int.neg_tmod,Int.neg_neg]);rw[this,Int.tmod_eq_emod_of_nonneg (by omega)]
 ·left;exact⟨h1,Int.tmod_eq_emod_of_nonneg h1⟩
theorem ya_ (k n:Int) (w:World) :
 Calls Tryz.prog 42 #[.int .i64 k,.int .i64 n] w fun e w'=>e=.returned (.int .i64 (xd_ k n))∧w'=w:=by
 rcases ae1_ k with rfl|rfl|rfl|rfl|rfl|⟨h1,h2,h3,h4,h5⟩
 · have e1:ke_ 1=2:=rfl;have e2:v4_ 1=0:=rfl;have ht:=zs_ n 2;have HT:=hd_ ht;have hb : -2<n.tmod 2∧n.tmod 2<2:=(by omega);clear ht;go_enter Tryz.func42,Tryz.ntmps42;go_wp2_with (go_at_call 61;refine(z5_ _ _).mono ?_;rintro e w' ⟨rfl,rfl⟩)
   all_goals go_ret
   all_goals refine⟨xs_ ?_,rfl⟩
   all_goals
    have:=HT.out;rw[uc_];clear HT e1 e2;omega
 · have e1:ke_ 2=65536:=rfl;have e2:v4_ 2 = -32768:=rfl;have ht:=zs_ n 65536;have HT:=hd_ ht;have hb : -65536<n.tmod 65536∧n.tmod 65536<65536:=(by omega);clear ht;go_enter Tryz.func42,Tryz.ntmps42;go_wp2_with (go_at_call 61;refine(z5_ _ _).mono ?_;rintro e w' ⟨rfl,rfl⟩)
   all_goals go_ret
   all_goals refine⟨xs_ ?_,rfl⟩
   all_goals
    have:=HT.out;rw[ve_];clear HT e1 e2;omega
 · have e1:ke_ 3=4294967296:=rfl;have e2:v4_ 3 = -2147483648:=rfl;have ht:=zs_ n 4294967296;have HT:=hd_ ht;have hb : -4294967296<n.tmod 4294967296∧n.tmod 4294967296<4294967296:=(by omega);clear ht;go_enter Tryz.func42,Tryz.ntmps42;go_wp2_with (go_at_call 61;refine(z5_ _ _).mono ?_;rintro e w' ⟨rfl,rfl⟩)
   all_goals go_ret
   all_goals refine⟨xs_ ?_,rfl⟩
   all_goals
    have:=HT.out;rw[adf_];clear HT e1 e2;omega
 · have e1:ke_ 4=65536:=rfl;have e2:v4_ 4=0:=rfl;have ht:=zs_ n 65536;have HT:=hd_ ht;have hb : -65536<n.tmod 65536∧n.tmod 65536<65536:=(by omega);clear ht;go_enter Tryz.func42,Tryz.ntmps42;go_wp2_with (go_at_call 61;refine(z5_ _ _).mono ?_;rintro e w' ⟨rfl,rfl⟩)
   all_goals go_ret
   all_goals refine⟨xs_ ?_,rfl⟩
   all_goals
    have:=HT.out;rw[vf_];clear HT e1 e2;omega
 · have e1:ke_ 5=4294967296:=rfl;have e2:v4_ 5=0:=rfl;have ht:=zs_ n 4294967296;have HT:=hd_ ht;have hb : -4294967296<n.tmod 4294967296∧n.tmod 4294967296<4294967296:=(by omega);clear ht;go_enter Tryz.func42,Tryz.ntmps42;go_wp2_with (go_at_call 61;refine(z5_ _ _).mono ?_;rintro e w' ⟨rfl,rfl⟩)
   all_goals go_ret
   all_goals refine⟨xs_ ?_,rfl⟩
   all_goals
    have:=HT.out;rw[aci_];clear HT e1 e2;omega
 · have e1:ke_ k=0:=(by simp[ke_,h1,h2,h3,h4,h5]);have HW:Hid (xd_ k n=0):=kq_ n h1 h2 h3 h4 h5;clear h1 h2 h3 h4 h5;go_enter Tryz.func42,Tryz.ntmps42;go_wp2_with (go_at_call 61;refine(z5_ _ _).mono ?_;rintro e w' ⟨rfl,rfl⟩)
   go_ret;exact⟨xs_ (by rw[HW.out]),rfl⟩
theorem yes_any (b:Bool) (w:World) :
 Calls Tryz.prog 28 #[.bool b] w fun e w'=>e=.returned (.int .i64 (x1_ b))∧w'=w:=by
 cases b
 ·go_enter Tryz.func28,Tryz.ntmps28;go_wp2;go_ret;exact⟨rfl,rfl⟩
 ·go_enter Tryz.func28,Tryz.ntmps28;go_wp2;go_ret;exact⟨rfl,rfl⟩
theorem xn_ (n:Int) (w:World):Calls Tryz.prog 119 #[.int .i64 n] w fun e w'=>e=.returned (.bool (n != 0))∧w'=w:=by
 go_enter Tryz.func119,Tryz.ntmps119;go_wp2;go_ret;exact⟨xr_ (by simp),rfl⟩
theorem xx_ (b:Bool) (w:World):Calls Tryz.prog 120 #[.bool b] w fun e w'=>e=.returned (.int .i64 (x1_ b))∧w'=w:=by
 cases b
 ·go_enter Tryz.func120,Tryz.ntmps120;go_wp2;go_ret;exact⟨xs_ rfl,rfl⟩
 ·go_enter Tryz.func120,Tryz.ntmps120;go_wp2;go_ret;exact⟨xs_ rfl,rfl⟩
def qk_ (n:Int):Int:=min (n+1) 32767
def ql_ (n:Int):Int:=max (n - 1) (-32768)
theorem y9_ (n:Int) (w:World) (h0 : -32768≤n) (h1:n≤32767):Calls Tryz.prog 138 #[.int .i64 n] w fun e w'=>e=.returned (.int .i64 (qk_ n))∧w'=w:=by
 go_enter Tryz.func138,Tryz.ntmps138;go_wp2;all_goals go_ret
 all_goals exact⟨xs_ (by unfold qk_;omega),rfl⟩
theorem za_ (n:Int) (w:World) (h0 : -32768≤n) (h1:n≤32767):Calls Tryz.prog 142 #[.int .i64 n] w fun e w'=>e=.returned (.int .i64 (ql_ n))∧w'=w:=by
 go_enter Tryz.func142,Tryz.ntmps142;go_wp2;all_goals go_ret
 all_goals exact⟨xs_ (by unfold ql_;omega),rfl⟩
theorem yl_ (s:ByteArray) (w:World):Calls Tryz.prog 124 #[.string s] w fun e w'=>e=.returned (.agg #[.string s,.int .i64 1])∧w'=w.alloc (.cells #[.string s,.int .i64 1] 113):=by
 go_enter Tryz.func124,Tryz.ntmps124;go_wp2;exact bodyPost_ret (v:=.agg #[.string s,.int .i64 1]) (by simp[results,Tryz.results124,go_sem]) rfl ⟨rfl,rfl⟩
theorem ym_ (s:ByteArray) (w:World):Calls Tryz.prog 125 #[.string s] w fun e w'=>e=.returned (.agg #[.string s,.int .i64 5])∧w'=w.alloc (.cells #[.string s,.int .i64 5] 113):=by
 go_enter Tryz.func125,Tryz.ntmps125;go_wp2;exact bodyPost_ret (v:=.agg #[.string s,.int .i64 5]) (by simp[results,Tryz.results125,go_sem]) rfl ⟨rfl,rfl⟩
theorem yy_ (s:ByteArray) (w:World):Calls Tryz.prog 139 #[.string s] w fun e w'=>e=.returned (.agg #[.string s,.int .i64 2])∧w'=w.alloc (.cells #[.string s,.int .i64 2] 113):=by
 go_enter Tryz.func139,Tryz.ntmps139;go_wp2;exact bodyPost_ret (v:=.agg #[.string s,.int .i64 2]) (by simp[results,Tryz.results139,go_sem]) rfl ⟨rfl,rfl⟩
end Go.Proofs.YtcgbfhpmkpglkaaGreatDoor.Bl
namespace Go.Proofs.YtcgbfhpmkpglkaaGreatDoor.Bl
open Go.RowKit
attribute [local go_sem ↓] Go.wp_at_zero Go.wp_at_succ
theorem x3_ {w W:World} {p:Nat} (h:w.grownBy W (some p)) (i:Nat) (v:Value):w.grownBy (W.setCell ⟨p,i,none⟩ v) (some p):=
 ⟨h.os,h.tape,h.output,by simpa using h.size,fun k hk hne=>by rw[Below.heap_setCell _ _ _ _ (fun e=>hne (by rw[e]))];exact h.block k hk hne⟩
theorem xb_ {w W:World} {r:Option Nat} (h:w.grownBy W r) (o:Obj):w.grownBy (W.alloc o) r:=
 ⟨h.os,h.tape,h.output,by simp;have:=h.size;omega,fun k hk hne=>by rw[Below.heap_alloc _ _ _ (Nat.lt_of_lt_of_le hk h.size)];exact h.block k hk hne⟩
theorem xf_ {w W:World} {r:Option Nat} (h:w.grownBy W r):w.grownBy W.drew r:=⟨h.os,h.tape,h.output,h.size,h.block⟩
theorem xk_ {W:World} {p:Nat} {cs:Array Value} {T:TypeId} (h:W.heap[p]?=some (.cells cs T)) (i:Nat) (v:Value):(W.setCell ⟨p,i,none⟩ v).heap[p]?=some (.cells (cs.setIfInBounds i v) T):=
 heap_setCell_same W p i cs T v h
theorem xa_ {W:World} {p:Nat} {cs:Array Value} {T:TypeId} (h:W.heap[p]?=some (.cells cs T)) (i:Nat):W.cell? ⟨p,i,none⟩=cs[i]?:=by
 simp[World.cell?,h]
theorem xc_ {W:World} {p:Nat} {cs:Array Value} {T:TypeId} (h:W.heap[p]?=some (.cells cs T)) (i:Nat):W.frozen? ⟨p,i,none⟩=false:=by
 simp[World.frozen?,h]
theorem xg_ {W:World} {p:Nat} {o:Obj} (h:W.heap[p]?=some o):p<W.heap.size:=(Array.getElem?_eq_some_iff.1 h).1
theorem ajl_ (p b T E:Nat) (x0 x1 x2 x3:Int) (u0 u1 u2 u3:Value) (w:World) (hp:w.heap[p]?=some (.cells #[u0,u1,u2,u3] T)) (hb:w.heap[b]?=some (.cells #[.int .i64 x0,.int .i64 x1,.int .i64 x2,.int .i64 x3] E)) (hne:p≠b) :
 Calls Tryz.prog 114 #[.pointer (some ⟨p,0,none⟩),.slice (some ⟨b,0,none⟩) 4 4] w fun e w'=>e=.returned (.tuple #[])∧w'.heap[p]?=some (.cells #[.bool (x0 != 0),.int .i64 x1,.bool (x2 != 0),.int .i64 x3] T)∧w.grownBy w' (some p):=by
 have c0:=xa_ hb 0;have d0:=xa_ hp 0;have f0:=xc_ hp 0;have c1:=xa_ hb 1;have d1:=xa_ hp 1;have f1:=xc_ hp 1;have c2:=xa_ hb 2;have d2:=xa_ hp 2;have f2:=xc_ hp 2;have c3:=xa_ hb 3;have d3:=xa_ hp 3;have f3:=xc_ hp 3;simp at c0 d0 c1 d1 c2 d2 c3 d3;go_enter Tryz.func114,Tryz.ntmps114;go_wp2_with (go_at_call 119;refine(xn_ _ _).mono ?_;rintro e w' ⟨rfl,rfl⟩)
 go_region_held3 (fun w'=>w'.cell? ⟨b,0,none⟩=some (.int .i64 x0)∧w'.cell? ⟨b,1,none⟩=some (.int .i64 x1)∧w'.cell? ⟨b,2,none⟩=some (.int .i64 x2)∧w'.cell? ⟨b,3,none⟩=some (.int .i64 x3)) (go_keep) (first|(go_at_call 119;refine(xn_ _ _).mono ?_;rintro e w' ⟨rfl,rfl⟩))
 all_goals go_wp2
 all_goals go_end0
 all_goals exact⟨rfl,by have h:=(xk_ (xk_ (xk_ (xk_ hp 0 (.bool (x0 != 0))) 1 (.int .i64 x1)) 2 (.bool (x2 != 0))) 3 (.int .i64 x3));simp at h;exact h,(xf_ (x3_ (x3_ (x3_ (x3_ gz_ 0 _) 1 _) 2 _) 3 _))⟩
theorem ajm_ (p T:Nat) (x1 x3:Int) (y0 y2:Bool) (w:World) (hp:w.heap[p]?=some (.cells #[.bool y0,.int .i64 x1,.bool y2,.int .i64 x3] T)) :
 Calls Tryz.prog 115 #[.pointer (some ⟨p,0,none⟩)] w fun e w'=>e=.returned (.slice (some ⟨w.heap.size,0,none⟩) 4 4)∧w'.heap[w.heap.size]?=some (.cells #[.int .i64 (x1_ y0),.int .i64 x1,.int .i64 (x1_ y2),.int .i64 x3] 3)∧w.grownBy w' none:=by
 have d0:=xa_ hp 0;have d1:=xa_ hp 1;have d2:=xa_ hp 2;have d3:=xa_ hp 3;simp at d0 d1 d2 d3;have hlt:=xg_ hp;go_enter Tryz.func115,Tryz.ntmps115;go_wp2_with (go_at_call 120;refine(xx_ _ _).mono ?_;rintro e w' ⟨rfl,rfl⟩)
 go_region_held3 (fun w'=>w'.cell? ⟨p,0,none⟩=some (.bool y0)∧w'.cell? ⟨p,1,none⟩=some (.int .i64 x1)∧w'.cell? ⟨p,2,none⟩=some (.bool y2)∧w'.cell? ⟨p,3,none⟩=some (.int .i64 x3)) (go_keep) (first|(go_at_call 120;refine(xx_ _ _).mono ?_;rintro e w' ⟨rfl,rfl⟩))
 all_goals go_wp2
 all_goals go_ret
 all_goals exact⟨rfl,heap_alloc_new _ _,(xf_ (xb_ gz_ _))⟩
theorem afu_ (p b T E:Nat) (x0 x1:Int) (u0 u1:Value) (w:World) (hp:w.heap[p]?=some (.cells #[u0,u1] T)) (hb:w.heap[b]?=some (.cells #[.int .i64 x0,.int .i64 x1] E)) (hne:p≠b) :
 Calls Tryz.prog 132 #[.pointer (some ⟨p,0,none⟩),.slice (some ⟨b,0,none⟩) 2 2] w fun e w'=>e=.returned (.tuple #[])∧w'.heap[p]?=some (.cells #[.bool (x0 != 0),.int .i64 x1] T)∧w.grownBy w' (some p):=by
 have c0:=xa_ hb 0;have d0:=xa_ hp 0;have f0:=xc_ hp 0;have c1:=xa_ hb 1;have d1:=xa_ hp 1;have f1:=xc_ hp 1;simp at c0 d0 c1 d1;go_enter Tryz.func132,Tryz.ntmps132;go_wp2_with (go_at_call 119;refine(xn_ _ _).mono ?_;rintro e w' ⟨rfl,rfl⟩)
 go_region_held3 (fun w'=>w'.cell? ⟨b,0,none⟩=some (.int .i64 x0)∧w'.cell? ⟨b,1,none⟩=some (.int .i64 x1)) (go_keep) (first|(go_at_call 119;refine(xn_ _ _).mono ?_;rintro e w' ⟨rfl,rfl⟩))
 all_goals go_wp2
 all_goals go_end0
 all_goals exact⟨rfl,by have h:=(xk_ (xk_ hp 0 (.bool (x0 != 0))) 1 (.int .i64 x1));simp at h;exact h,(xf_ (x3_ (x3_ gz_ 0 _) 1 _))⟩
theorem afv_ (p T:Nat) (x1:Int) (y0:Bool) (w:World) (hp:w.heap[p]?=some (.cells #[.bool y0,.int .i64 x1] T)) :
 Calls Tryz.prog 134 #[.pointer (some ⟨p,0,none⟩)] w fun e w'=>e=.returned (.slice (some ⟨w.heap.size,0,none⟩) 2 2)∧w'.heap[w.heap.size]?=some (.cells #[.int .i64 (x1_ y0),.int .i64 x1] 3)∧w.grownBy w' none:=by
 have d0:=xa_ hp 0;have d1:=xa_ hp 1;simp at d0 d1;have hlt:=xg_ hp;go_enter Tryz.func134,Tryz.ntmps134;go_wp2_with (go_at_call 120;refine(xx_ _ _).mono ?_;rintro e w' ⟨rfl,rfl⟩)
 go_region_held3 (fun w'=>w'.cell? ⟨p,0,none⟩=some (.bool y0)∧w'.cell? ⟨p,1,none⟩=some (.int .i64 x1)) (go_keep) (first|(go_at_call 120;refine(xx_ _ _).mono ?_;rintro e w' ⟨rfl,rfl⟩))
 all_goals go_wp2
 all_goals go_ret
 all_goals exact⟨rfl,heap_alloc_new _ _,(xf_ (xb_ gz_ _))⟩
theorem amb_ (p b T E:Nat) (x0 x1 x2:Int) (u0 u1 u2:Value) (w:World) (hp:w.heap[p]?=some (.cells #[u0,u1,u2] T)) (hb:w.heap[b]?=some (.cells #[.int .i64 x0,.int .i64 x1,.int .i64 x2] E)) (hne:p≠b) :
 Calls Tryz.prog 143 #[.pointer (some ⟨p,0,none⟩),.slice (some ⟨b,0,none⟩) 3 3] w fun e w'=>e=.returned (.tuple #[])∧w'.heap[p]?=some (.cells #[.bool (x0 != 0),.bool (x1 != 0),.int .i64 x2] T)∧w.grownBy w' (some p):=by
 have c0:=xa_ hb 0;have d0:=xa_ hp 0;have f0:=xc_ hp 0;have c1:=xa_ hb 1;have d1:=xa_ hp 1;have f1:=xc_ hp 1;have c2:=xa_ hb 2;have d2:=xa_ hp 2;have f2:=xc_ hp 2;simp at c0 d0 c1 d1 c2 d2;go_enter Tryz.func143,Tryz.ntmps143;go_wp2_with (go_at_call 119;refine(xn_ _ _).mono ?_;rintro e w' ⟨rfl,rfl⟩)
 go_region_held3 (fun w'=>w'.cell? ⟨b,0,none⟩=some (.int .i64 x0)∧w'.cell? ⟨b,1,none⟩=some (.int .i64 x1)∧w'.cell? ⟨b,2,none⟩=some (.int .i64 x2)) (go_keep) (first|(go_at_call 119;refine(xn_ _ _).mono ?_;rintro e w' ⟨rfl,rfl⟩))
 all_goals go_wp2
 all_goals go_end0
 all_goals exact⟨rfl,by have h:=(xk_ (xk_ (xk_ hp 0 (.bool (x0 != 0))) 1 (.bool (x1 != 0))) 2 (.int .i64 x2));simp at h;exact h,(xf_ (x3_ (x3_ (x3_ gz_ 0 _) 1 _) 2 _))⟩
theorem amc_ (p T:Nat) (x2:Int) (y0 y1:Bool) (w:World) (hp:w.heap[p]?=some (.cells #[.bool y0,.bool y1,.int .i64 x2] T)) :
 Calls Tryz.prog 144 #[.pointer (some ⟨p,0,none⟩)] w fun e w'=>e=.returned (.slice (some ⟨w.heap.size,0,none⟩) 3 3)∧w'.heap[w.heap.size]?=some (.cells #[.int .i64 (x1_ y0),.int .i64 (x1_ y1),.int .i64 x2] 3)∧w.grownBy w' none:=by
 have d0:=xa_ hp 0;have d1:=xa_ hp 1;have d2:=xa_ hp 2;simp at d0 d1 d2;have hlt:=xg_ hp;go_enter Tryz.func144,Tryz.ntmps144;go_wp2_with (go_at_call 120;refine(xx_ _ _).mono ?_;rintro e w' ⟨rfl,rfl⟩)
 go_region_held3 (fun w'=>w'.cell? ⟨p,0,none⟩=some (.bool y0)∧w'.cell? ⟨p,1,none⟩=some (.bool y1)∧w'.cell? ⟨p,2,none⟩=some (.int .i64 x2)) (go_keep) (first|(go_at_call 120;refine(xx_ _ _).mono ?_;rintro e w' ⟨rfl,rfl⟩))
 all_goals go_wp2
 all_goals go_ret
 all_goals exact⟨rfl,heap_alloc_new _ _,(xf_ (xb_ gz_ _))⟩
theorem amd_ (p b T E:Nat) (x0:Int) (u0:Value) (w:World) (hp:w.heap[p]?=some (.cells #[u0] T)) (hb:w.heap[b]?=some (.cells #[.int .i64 x0] E)) (_hne:p≠b) :
 Calls Tryz.prog 147 #[.pointer (some ⟨p,0,none⟩),.slice (some ⟨b,0,none⟩) 1 1] w fun e w'=>e=.returned (.tuple #[])∧w'.heap[p]?=some (.cells #[.bool (x0 != 0)] T)∧w.grownBy w' (some p):=by
 have c0:=xa_ hb 0;have d0:=xa_ hp 0;have f0:=xc_ hp 0;simp at c0 d0;go_enter Tryz.func147,Tryz.ntmps147;go_wp2_with (go_at_call 119;refine(xn_ _ _).mono ?_;rintro e w' ⟨rfl,rfl⟩)
 all_goals go_end0
 all_goals exact⟨rfl,by have h:=(xk_ hp 0 (.bool (x0 != 0)));simp at h;exact h,(x3_ gz_ 0 _)⟩
theorem ame_ (p T:Nat) (y0:Bool) (w:World) (hp:w.heap[p]?=some (.cells #[.bool y0] T)) :
 Calls Tryz.prog 148 #[.pointer (some ⟨p,0,none⟩)] w fun e w'=>e=.returned (.slice (some ⟨w.heap.size,0,none⟩) 1 1)∧w'.heap[w.heap.size]?=some (.cells #[.int .i64 (x1_ y0)] 3)∧w.grownBy w' none:=by
 have d0:=xa_ hp 0;simp at d0;have hlt:=xg_ hp;go_enter Tryz.func148,Tryz.ntmps148;go_wp2_with (go_at_call 120;refine(xx_ _ _).mono ?_;rintro e w' ⟨rfl,rfl⟩)
 all_goals go_ret
 all_goals exact⟨rfl,heap_alloc_new _ _,(xb_ gz_ _)⟩
theorem ajn_ (p b T E:Nat) (x0:Int) (u0:Value) (w:World) (hp:w.heap[p]?=some (.cells #[u0] T)) (hb:w.heap[b]?=some (.cells #[.int .i64 x0] E)) (_hne:p≠b) :
 Calls Tryz.prog 152 #[.pointer (some ⟨p,0,none⟩),.slice (some ⟨b,0,none⟩) 1 1] w fun e w'=>e=.returned (.tuple #[])∧w'.heap[p]?=some (.cells #[.bool (x0 != 0)] T)∧w.grownBy w' (some p):=by
 have c0:=xa_ hb 0;have d0:=xa_ hp 0;have f0:=xc_ hp 0;simp at c0 d0;go_enter Tryz.func152,Tryz.ntmps152;go_wp2_with (go_at_call 119;refine(xn_ _ _).mono ?_;rintro e w' ⟨rfl,rfl⟩)
 all_goals go_end0
 all_goals exact⟨rfl,by have h:=(xk_ hp 0 (.bool (x0 != 0)));simp at h;exact h,(x3_ gz_ 0 _)⟩
theorem ajo_ (p T:Nat) (y0:Bool) (w:World) (hp:w.heap[p]?=some (.cells #[.bool y0] T)) :
 Calls Tryz.prog 153 #[.pointer (some ⟨p,0,none⟩)] w fun e w'=>e=.returned (.slice (some ⟨w.heap.size,0,none⟩) 1 1)∧w'.heap[w.heap.size]?=some (.cells #[.int .i64 (x1_ y0)] 3)∧w.grownBy w' none:=by
 have d0:=xa_ hp 0;simp at d0;have hlt:=xg_ hp;go_enter Tryz.func153,Tryz.ntmps153;go_wp2_with (go_at_call 120;refine(xx_ _ _).mono ?_;rintro e w' ⟨rfl,rfl⟩)
 all_goals go_ret
 all_goals exact⟨rfl,heap_alloc_new _ _,(xb_ gz_ _)⟩
theorem amf_ (p b T E:Nat) (x0:Int) (u0:Value) (w:World) (hp:w.heap[p]?=some (.cells #[u0] T)) (hb:w.heap[b]?=some (.cells #[.int .i64 x0] E)) (_hne:p≠b) :
 Calls Tryz.prog 159 #[.pointer (some ⟨p,0,none⟩),.slice (some ⟨b,0,none⟩) 1 1] w fun e w'=>e=.returned (.tuple #[])∧w'.heap[p]?=some (.cells #[.int .i64 x0] T)∧w.grownBy w' (some p):=by
 have c0:=xa_ hb 0;have d0:=xa_ hp 0;have f0:=xc_ hp 0;simp at c0 d0;go_enter Tryz.func159,Tryz.ntmps159;go_wp2_with (fail)
 all_goals go_end0
 all_goals exact⟨rfl,by have h:=(xk_ hp 0 (.int .i64 x0));simp at h;exact h,(x3_ gz_ 0 _)⟩
theorem amg_ (p T:Nat) (x0:Int) (w:World) (hp:w.heap[p]?=some (.cells #[.int .i64 x0] T)) :
 Calls Tryz.prog 160 #[.pointer (some ⟨p,0,none⟩)] w fun e w'=>e=.returned (.slice (some ⟨w.heap.size,0,none⟩) 1 1)∧w'.heap[w.heap.size]?=some (.cells #[.int .i64 x0] 3)∧w.grownBy w' none:=by
 have d0:=xa_ hp 0;simp at d0;have hlt:=xg_ hp;go_enter Tryz.func160,Tryz.ntmps160;go_wp2_with (fail)
 all_goals go_ret
 all_goals exact⟨rfl,heap_alloc_new _ _,(xb_ gz_ _)⟩
end Go.Proofs.YtcgbfhpmkpglkaaGreatDoor.Bl
