/- Texts put together: We, Ea. -/
import Derived.Test.YtcoglmaiahpooaaGreatDoorQ12
import Derived.Test.YtcoglmaiahpooaaGreatDoorQ10
set_option linter.unusedVariables false
set_option linter.unusedSimpArgs false
set_option maxHeartbeats 8000000
namespace Go.Proofs.YtcoglmaiahpooaaGreatDoor
open Go.RowKit
attribute [local go_sem ↓] Go.wp_at_zero Go.wp_at_succ
theorem ai2_ (m L:Int) (u:ByteArray):(ptB m L u).data.toList=ptL m L u.data.toList:=by
 unfold ptB ptL;split
 ·simp[ByteArray.data_append]
 ·rfl
theorem aeh_ (n:Int):(jp_ n).data.toList=j5_ n:=by
 unfold jp_ j5_;split
 ·rfl
 ·simp only[ByteArray.data_append,Array.toList_append,ai2_,List.append_assoc]
theorem v9_ (n:Int):jp_ n=bs (j5_ n):=by
 rw[← aeh_]
theorem afd_ (k n:Int) (W:World):Calls Tryz.prog 164 #[.int .i64 k,.int .i64 n] W (xs_ W (jo_ k n)):=(j7_ k n W).mono fun _ _ h=>⟨h.1,h.2▸gz_⟩
theorem ag2_ {V W:World} (hP:TabP V) (hV:Vs V W) (n:Int) (h0:0≤n) (h1:n≤4294967295):Calls Tryz.prog 211 #[.int .i64 n] W (xv_ W (bs (j5_ n))):=
 (vc_ n W (TW.of hP hV) h0 h1).mono fun _ _ h=>⟨h.1.trans (by rw[v9_]),zh_ h.2⟩
theorem ag3_ (n:Int) (h0:0≤n) (h1:n≤1) (W:World):Calls Tryz.prog 179 #[.int .i64 1,.int .i64 n] W (xv_ W (bs (yf_ 1 n))):=by
 have c:=xa_ (afd_ 1 n W);rw[abx_,decide_eq_true h0,decide_eq_true h1] at c;have hc:n=0∨n=1:=(by omega);rcases hc with rfl|rfl
 all_goals
  go_enter Tryz.func179,Tryz.ntmps179;go_wp2_with fail
  refine c.out.mono ?_;rintro e w2 ⟨rfl,g2⟩;go_wp2_with fail
  go_ret;exact⟨rfl,g2⟩
theorem ag4_ {V W:World} (hP:TabP V) (hV:Vs V W) (n:Int) (h0:0≤n) (h1:n≤4294967295):Calls Tryz.prog 179 #[.int .i64 5,.int .i64 n] W (xv_ W (bs (yf_ 5 n))):=by
 have c:=xa_ (afd_ 5 n W);rw[ae9_,decide_eq_true h0,decide_eq_true h1] at c;have c2:=xa_ (fun W' (hg:W.grownBy W' none)=>ag2_ hP (hV.gr hg) n h0 h1);rw[show yf_ 5 n=j5_ n by simp[yf_]];clear hP hV;go_enter Tryz.func179,Tryz.ntmps179;go_wp2_with fail
 refine c.out.mono ?_;rintro e w2 ⟨rfl,g2⟩;go_wp2_with fail
 refine(c2.out _ g2).mono ?_;rintro e w3 ⟨rfl,g3⟩;go_wp2_with fail
 go_ret;exact⟨rfl,gtn g2 g3⟩
theorem jd_ {V W:World} (hP:TabP V) (hV:Vs V W) (f o kd n:Int) (nm pt:ByteArray) (a:Int) (k:Value) (h:yk_ kd n=true):Calls Tryz.prog 138 #[xV f o kd n nm pt a k] W (xv_ W (bs (yf_ kd n))):=by
 by_cases h0:kd=0
 · subst h0;have hb : -4294967295≤n∧n≤4294967295:=(by simpa[yk_,xu_] using h);have c:=xa_ (fun W' (hg:W.grownBy W' none)=>zd_ hP (hV.gr hg) n (by omega) (by omega));rw[show yf_ 0 n=Lib.itoa n by simp[yf_]];clear hP hV h;go_enter Tryz.func138,Tryz.ntmps138;go_wp2_with fail
   refine(c.out _ (gr1 _ _)).mono ?_;rintro e w2 ⟨rfl,g2⟩;go_wp2_with fail
   go_ret;exact⟨rfl,gtn (gr1 _ _) g2⟩
 have hk:kd=1∨kd=5:=by
  by_cases h1:kd=1
  ·exact Or.inl h1
  · by_cases h5:kd=5
    ·exact Or.inr h5
    ·simp[yk_,h0,h1,h5] at h
 have c:Hid (∀ W',W.grownBy W' none→Calls Tryz.prog 179 #[.int .i64 kd,.int .i64 n] W' (xv_ W' (bs (yf_ kd n)))):=by
  intro W' hg;rcases hk with rfl|rfl
  ·have hb:0≤n∧n≤1:=(by simpa[yk_] using h);exact ag3_ n hb.1 hb.2 W'
  ·have hb:0≤n∧n≤4294967295:=(by simpa[yk_] using h);exact ag4_ hP (hV.gr hg) n hb.1 hb.2
 have h0':(kd==0)=false:=(by simpa using h0);generalize yf_ kd n=T at c ⊢;clear hP hV h hk h0;go_enter Tryz.func138,Tryz.ntmps138;go_wp2_with fail
 refine(c.out _ (gr1 _ _)).mono ?_;rintro e w2 ⟨rfl,g2⟩;go_wp2_with fail
 go_ret;exact⟨rfl,gtn (gr1 _ _) g2⟩
def OwnS (B:Nat) (w:World) (a:Option Addr) (n cap:Nat) (l:List ByteArray):Prop:=w.ownsRow B 9 1 (.slice a n cap) n (l.map .string)
theorem OwnS.len {B:Nat} {w:World} {a:Option Addr} {n cap:Nat} {l:List ByteArray} (h:OwnS B w a n cap l):l.length=n:=by
 have:=h.1;simpa using this
theorem OwnS.none (B:Nat) (w:World):OwnS B w none 0 0 []:=⟨by simp,.inl ⟨rfl,rfl⟩⟩
theorem OwnS.kept {B:Nat} {w w':World} {a:Option Addr} {n cap:Nat} {l:List ByteArray} (h:OwnS B w a n cap l) (hg:w.grownBy w' Option.none):OwnS B w' a n cap l:=World.ownsRow.kept h hg (by cases hv:(Value.slice a n cap).ownBlock <;> simp)
theorem OwnS.more {B:Nat} {w:World} {a:Option Addr} {n cap:Nat} {l:List ByteArray} (h:OwnS B w a n cap l) (x:ByteArray) (hl:n≤4000000) (hB:B≤w.heap.size) :
 ∃ a' cap' w',(Builtin.append_ #[70,70] 70 #[.slice a n cap,.slice (some ⟨w.heap.size,0,Option.none⟩) 1 1]).run Tryz.prog (w.alloc (.cells #[.string x] 9))=.ok (.slice a' (n+1) cap') w'∧
  OwnS B w' a' (n+1) cap' (l++[x])∧∀ w0:World,w0.heap.size≤B→w0.grownBy w Option.none→w0.grownBy w' Option.none:=by
 obtain⟨i0,hi,hz0,hz1,hz2⟩:=z7_ (P:=Tryz.prog) (e:=9) (z:=some (.string ⟨#[]⟩)) (n:=1) (m:=16) (by kernel_rfl);obtain⟨a',cap',w',r1,r2,r3⟩:=abl_ Tryz.underlying70 hi hz0 hz1 hz2 rfl (by omega) h [.string x] rfl (by simp[Value.oneCell']) hl (by omega) hB;refine⟨a',cap',w',r1,?_,r3⟩;unfold OwnS;simpa using r2
theorem OwnS.at {B:Nat} {w:World} {a:Option Addr} {n cap:Nat} {l:List ByteArray} (h:OwnS B w a n cap l) (i:Nat) (hi:i<l.length):∃ g,a=some ⟨g,0,Option.none⟩∧g<w.heap.size∧w.cell? ⟨g,i,Option.none⟩=some (.string l[i]):=by
 have hn:=h.len;rcases h.2 with⟨_,h0⟩|⟨g,cap',cur,hv,hb,hg,_⟩
 ·omega
 ·injection hv with e1 _ e3;refine⟨g,e1,x6_ hg,?_⟩;have:=World.ownsRow.cells h (g:=g) (by rw[e1];rfl) i (.string l[i]) (by simp[hi]);rw[vu_,Nat.zero_add] at this;exact this
theorem yp_ {s:ByteArray} {l:List UInt8} (h:s.data.toList=l):s=bs l:=by
 rw[← h]
theorem bs_l (l:List UInt8):(bs l).data.toList=l:=rfl
theorem qp_ (s:ByteArray):s.size=s.data.toList.length:=by simp
theorem vn_ (l:List UInt8):(bs l).size=l.length:=rfl
theorem k3_ (k:Int) (h0:0≤k) (h5:k≤5) (W:World):Calls Tryz.prog 29 #[.int .i64 k] W (xv_ W (bs (if k=0 then [] else yc_ k))):=by
 have hk:k=0∨k=1∨k=2∨k=3∨k=4∨k=5:=(by omega);rcases hk with rfl|rfl|rfl|rfl|rfl|rfl
 all_goals
  clear h0 h5;go_enter Tryz.func29,Tryz.ntmps29;go_wp2_with fail
  go_ret;exact⟨rfl,gr1 _ _⟩
theorem ag5_ (n:Int) (h0:0≤n) (h1:n≤4294967295):y7_ (yu_ (n / 86400000) (n / 3600000 % 24) (n / 60000 % 60) (n / 1000 % 60) (n % 1000)) 5++(if n=0 then⟨#[48,109,115]⟩ else⟨#[]⟩:ByteArray)=bs (j5_ n):=by
 rw[afx_ n h0 h1,v9_]
theorem ux_ (n:Int) (h0:0≤n) (h1:n≤4294967295) (W:World):Calls Tryz.prog 63 #[.int .i64 5,.int .i64 n] W (xv_ W (bs (j5_ n))):=by
 rw[← ag5_ n h0 h1];exact(aa1_ n _ _ _ _ _ W h0 h1 rfl rfl rfl rfl rfl).mono fun _ _ h=>⟨h.1,zh_ h.2⟩
theorem abc_ (n:Int) (h0:0≤n) (h1:n≤1) (W:World):Calls Tryz.prog 52 #[.int .i64 1,.int .i64 n] W fun e w'=>e=.returned (.bool true)∧w'=W:=by
 go_enter Tryz.func52,Tryz.ntmps52;go_wp2_with (go_at_call 91;go_must (refine(zx_ 1 2 0 (.inl ⟨rfl,rfl,rfl⟩) _).mono ?_;rintro e w' ⟨rfl,rfl⟩))
 go_ret;exact⟨rfl,rfl⟩
theorem uy_ (n:Int) (h0:0≤n) (h1:n≤1) (W:World):Calls Tryz.prog 63 #[.int .i64 1,.int .i64 n] W (xv_ W (bs (yf_ 1 n))):=by
 have hn:n=0∨n=1:=(by omega);rcases hn with rfl|rfl
 all_goals
  go_enter Tryz.func63,Tryz.ntmps63;go_wp2_with (go_at_call 52;go_must (refine(abc_ _ (by decide) (by decide) _).mono ?_;rintro e w' ⟨rfl,rfl⟩))
  go_ret;exact⟨rfl,gr0 _⟩
theorem abd_ (k n:Int) (h:yk_ k n=true) (hk:k≠0) (W:World):Calls Tryz.prog 63 #[.int .i64 k,.int .i64 n] W (xv_ W (bs (yf_ k n))):=by
 have hk2:k=1∧0≤n∧n≤1∨k=5∧0≤n∧n≤4294967295:=by
  simp[yk_,hk] at h;omega
 rcases hk2 with⟨rfl,h0,h1⟩|⟨rfl,h0,h1⟩
 ·exact uy_ n h0 h1 W
 ·rw[show yf_ 5 n=j5_ n by simp[yf_]];exact ux_ n h0 h1 W
theorem qz_ (n:Int) (h:xu_ n=true) (W:World):Calls Tryz.prog 30 #[.int .i64 n] W (xv_ W (bs (Lib.itoa n))):=by
 have hb : -4294967295≤n∧n≤4294967295:=(by simpa[xu_] using h);exact aim_ n W hb.1 hb.2
end Go.Proofs.YtcoglmaiahpooaaGreatDoor
