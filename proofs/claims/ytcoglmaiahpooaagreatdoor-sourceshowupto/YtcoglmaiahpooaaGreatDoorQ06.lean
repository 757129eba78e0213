/- Texts put together: Mc, Wb. -/
import Derived.Test.YtcoglmaiahpooaaGreatDoorQ04
import Derived.Lib.AppendStr
import Derived.Lib.UnsafeStr
import Derived.Lib.Builder
set_option linter.unusedVariables false
set_option linter.unusedSimpArgs false
set_option maxHeartbeats 8000000
namespace Go.Proofs.YtcoglmaiahpooaaGreatDoor
open Go.RowKit
attribute [local go_sem ↓] Go.wp_at_zero Go.wp_at_succ
theorem abq_ (s:ByteArray) (w:World) (hs:s.size≤9223372036854775807):Calls Tryz.prog 83 #[.string s] w fun e w'=>e=.returned (.bool (isW s.data.toList))∧w=w':=by
 by_cases h0:s.size=0
 ·have e:s=⟨#[]⟩:=abp_ h0;subst e;go_enter Tryz.func83,Tryz.ntmps83;go_wp2;go_ret;exact⟨rfl,rfl⟩
 have hne:=afo_ h0;have hd:=yh_ (s:=s) (i:=0) (by omega);have hL:s.data.toList.length=s.size:=rfl;rw[List.drop_zero] at hd;have hl1:(s.data.toList.drop 1).length=s.size - 1:=(by simp);obtain⟨Z,hZ⟩:∃ Z,isW s.data.toList=Z:=⟨_,rfl⟩;rw[hZ];by_cases h24:(s.size:Int)≤24;rotate_left
 · have e:Z=false:=(by rw[← hZ,hd,isW,hl1,decide_eq_false (by omega),Bool.false_and,Bool.false_and]);subst e;have h24':(24:Int)<s.size:=(by omega);clear hd hl1 hZ;go_enter Tryz.func83,Tryz.ntmps83;go_wp2_with fail
   go_ret;exact⟨rfl,rfl⟩
 have hsz:0<s.size:=(by omega);obtain⟨G,hG⟩:∃ G,dgI ((s[0]'hsz).toNat:Int)=G:=⟨_,rfl⟩;have cG:∀ W,Calls Tryz.prog 116 #[.int .u8 ((s[0]'hsz).toNat:Int)] W fun e w'=>e=.returned (.bool G)∧W=w':=fun W=>hG▸jj_ _ W;have hz:Z=(!G && y5_ s.data.toList):=by
  rw[← hZ,hd,isW,hl1,decide_eq_true (by omega),hG];rfl
 clear hZ hl1 hd;cases G with
 | true=>
  have e:Z=false:=(by rw[hz];rfl);subst e;clear hz hG;go_enter Tryz.func83,Tryz.ntmps83;go_wp2_with (go_at_call 116;go_must (refine(cG _).mono ?_;rintro e w' ⟨rfl,rfl⟩))
  go_ret;exact⟨rfl,rfl⟩
 | false=>
 have hw0:y5_ s.data.toList=Z:=(by rw[hz];rfl);have HW:=xa_ hw0;clear hz hG hw0;go_enter Tryz.func83,Tryz.ntmps83;go_wp2_with (go_at_call 116;go_must (refine(cG _).mono ?_;rintro e w' ⟨rfl,rfl⟩))
 clear cG;go_loopg [19] (s.size+1) (fun gk s1 wx=>∃ i:Nat,s1=.int .i64 (i:Int)∧w=wx∧Hid (i≤s.size∧gk=s.size+1 - i∧y5_ (s.data.toList.drop i)=Z))
 case atStart=>exact⟨0,rfl,rfl,xa_ ⟨by omega,rfl,HW.out⟩⟩
 case round=>
  obtain⟨i,rfl,rfl,HH⟩:=hrel;obtain⟨hp,hgk,hr⟩:=HH.out;have HR:=xa_ hr;clear hr HH HW;by_cases hlt:i<s.size;rotate_left
  · have hi:¬((i:Int)<(s.size:Int)):=(by omega);have e:Z=true:=(by rw[← HR.out,zi_ hlt];rfl);subst e;clear HR;go_wp2_with fail
    go_ret;exact⟨rfl,rfl⟩
  have hi:((i:Int)<(s.size:Int)):=(by omega);obtain⟨L,hL⟩:∃ L,ltI ((s[i]'hlt).toNat:Int)=L:=⟨_,rfl⟩;obtain⟨G,hG⟩:∃ G,dgI ((s[i]'hlt).toNat:Int)=G:=⟨_,rfl⟩;have cL:∀ W,Calls Tryz.prog 117 #[.int .u8 ((s[i]'hlt).toNat:Int)] W fun e w'=>e=.returned (.bool L)∧W=w':=fun W=>hL▸ul_ _ W;have cG:∀ W,Calls Tryz.prog 116 #[.int .u8 ((s[i]'hlt).toNat:Int)] W fun e w'=>e=.returned (.bool G)∧W=w':=fun W=>hG▸jj_ _ W;have hw:IntKind.i64.wrap ((i:Int)+1)=i+1:=IntWalk.i64_in _ (by omega);have hz:=HR.out;rw[yh_ hlt] at hz;have hz2:Z=((!grI ((s[i]'hlt).toNat:Int) && (L ||G)) && y5_ (s.data.toList.drop (i+1))):=by
   rw[← hz,← hL,← hG];rfl
  have HZ:=xa_ hz2;clear hz hz2 HR hL hG;generalize hb:(s[i]'hlt).toNat=b at cL cG HZ;by_cases g1:65≤b
  · by_cases g2:b≤90
    · have e:Z=false:=(by rw[HZ.out,grI,decide_eq_true (by omega),decide_eq_true (by omega)];rfl);subst e;have g1':(65:Int)≤b:=(by omega);have g2':(b:Int)≤90:=(by omega);clear HZ;go_wp2_with (first|(go_at_call 116;go_must (refine(cG _).mono ?_;rintro e w' ⟨rfl,rfl⟩))|(go_at_call 117;go_must (refine(cL _).mono ?_;rintro e w' ⟨rfl,rfl⟩)))
      go_ret;exact⟨rfl,rfl⟩
    · have e:grI (b:Int)=false:=(by rw[grI,decide_eq_false (p:=(b:Int)≤90) (by omega),Bool.and_false]);have g1':(65:Int)≤b:=(by omega);have g2':¬(b:Int)≤90:=(by omega);have HZ2:Hid (Z=((L ||G) && y5_ (s.data.toList.drop (i+1)))):=(by show _=_;rw[HZ.out,e];rfl);clear HZ e;cases L <;> cases G
      · have e:Z=false:=(by rw[HZ2.out];rfl);subst e;clear HZ2;go_wp2_with (first|(go_at_call 116;go_must (refine(cG _).mono ?_;rintro e w' ⟨rfl,rfl⟩))|(go_at_call 117;go_must (refine(cL _).mono ?_;rintro e w' ⟨rfl,rfl⟩)))
        go_ret;exact⟨rfl,rfl⟩
      all_goals
       have HZ:Hid (y5_ (s.data.toList.drop (i+1))=Z):=(by show _=_;rw[HZ2.out];rfl);clear HZ2;go_wp2_with (first|(go_at_call 116;go_must (refine(cG _).mono ?_;rintro e w' ⟨rfl,rfl⟩))|(go_at_call 117;go_must (refine(cL _).mono ?_;rintro e w' ⟨rfl,rfl⟩)))
       go_roundg (s.size+1 - (i+1))
      all_goals first|omega|exact⟨i+1,by simp,rfl,xa_ ⟨by omega,rfl,HZ.out⟩⟩
  · have e:grI (b:Int)=false:=(by rw[grI,decide_eq_false (p:=(65:Int)≤b) (by omega),Bool.false_and]);have g1':¬(65:Int)≤b:=(by omega);have HZ2:Hid (Z=((L ||G) && y5_ (s.data.toList.drop (i+1)))):=(by show _=_;rw[HZ.out,e];rfl);clear HZ e;cases L <;> cases G
    · have e:Z=false:=(by rw[HZ2.out];rfl);subst e;clear HZ2;go_wp2_with (first|(go_at_call 116;go_must (refine(cG _).mono ?_;rintro e w' ⟨rfl,rfl⟩))|(go_at_call 117;go_must (refine(cL _).mono ?_;rintro e w' ⟨rfl,rfl⟩)))
      go_ret;exact⟨rfl,rfl⟩
    all_goals
     have HZ:Hid (y5_ (s.data.toList.drop (i+1))=Z):=(by show _=_;rw[HZ2.out];rfl);clear HZ2;go_wp2_with (first|(go_at_call 116;go_must (refine(cG _).mono ?_;rintro e w' ⟨rfl,rfl⟩))|(go_at_call 117;go_must (refine(cL _).mono ?_;rintro e w' ⟨rfl,rfl⟩)))
     go_roundg (s.size+1 - (i+1))
    all_goals first|omega|exact⟨i+1,by simp,rfl,xa_ ⟨by omega,rfl,HZ.out⟩⟩
theorem abr_ {B e size n:Nat} {w w':World} {v:Value} {xs:List Value} (h:w.ownsRow B e size v n xs) (hg:w.grownBy w' none):w'.ownsRow B e size v n xs:=
 World.ownsRow.kept h hg (by
  cases hv:v.ownBlock with
  | none=>exact .inl rfl
  | some x=>exact .inr (by simp))
def WB (B b:Nat) (l:List UInt8) (W:World):Prop:=B≤b∧∃ p v,W.heap[b]?=some (.cells #[p,v] 67)∧(p=.pointer none∨p=.pointer (some ⟨b,0,none⟩))∧W.ownsRow B 5 1 v l.length (Lib.byteCells l)∧v.ownBlock≠some b
structure Wr (B b:Nat) (W W':World):Prop where
 os:W'.os=W.os
 tape:W'.tape=W.tape
 output:W'.output=W.output
 size:W.heap.size≤W'.heap.size
 low:∀ k,k<B→W'.heap[k]?=W.heap[k]?
 keep:∀ k,k<W.heap.size→k≠b→(∀ cs fz,W.heap[k]?≠some (.cells cs 5 fz))→W'.heap[k]?=W.heap[k]?
theorem Wr.refl (B b:Nat) (W:World):Wr B b W W:=⟨rfl,rfl,rfl,Nat.le_refl _,fun _ _=>rfl,fun _ _ _ _=>rfl⟩
theorem Wr.trans {B b:Nat} {W W1 W2:World} (h:Wr B b W W1) (k:Wr B b W1 W2):Wr B b W W2:=
 ⟨k.os.trans h.os,k.tape.trans h.tape,k.output.trans h.output,Nat.le_trans h.size k.size,fun j hj=>(k.low j hj).trans (h.low j hj),fun j hj hb hn=>by
  have e:=h.keep j hj hb hn;exact(k.keep j (by have:=h.size;omega) hb (fun cs fz=>by rw[e];exact hn cs fz)).trans e⟩
theorem Wr.al {B b:Nat} {W W':World} (h:Wr B b W W') (hB:B≤W.heap.size) (o:Obj):Wr B b W (W'.alloc o):=
 ⟨h.os,h.tape,h.output,by simp;have:=h.size;omega,fun k hk=>by rw[k8_ (by have:=h.size;omega)];exact h.low k hk,fun k hk hb hn=>by rw[k8_ (by have:=h.size;omega)];exact h.keep k hk hb hn⟩
theorem Wr.gn {B b:Nat} {W W' W2:World} (h:Wr B b W W') (g:W'.grownBy W2 none) (hB:B≤W.heap.size):Wr B b W W2:=
 ⟨g.os.trans h.os,g.tape.trans h.tape,g.output.trans h.output,Nat.le_trans h.size g.size,fun k hk=>(g.block k (by have:=h.size;omega) (by simp)).trans (h.low k hk),fun k hk hb hn=>(g.block k (by have:=h.size;omega) (by simp)).trans (h.keep k hk hb hn)⟩
theorem Wr.box {B b:Nat} {W W':World} (h:Wr B b W W') {k:Nat} {cs:Array Value} {T:TypeId} (hk:W.heap[k]?=some (.cells cs T)) (hT:T≠5) (hb:k≠b):W'.heap[k]?=some (.cells cs T):=
 (h.keep k (x6_ hk) hb (fun cs' fz=>by rw[hk];intro e;injection e with e;injection e with _ e _;exact hT e)).trans hk
theorem WB.gn {B b:Nat} {l:List UInt8} {W W':World} (h:WB B b l W) (g:W.grownBy W' none):WB B b l W':=by
 obtain⟨hB,p,v,hb,hp,ho,hn⟩:=h;exact⟨hB,p,v,kept g hb,hp,abr_ ho g,hn⟩
theorem WB.lt {B b:Nat} {l:List UInt8} {W:World} (h:WB B b l W):b<W.heap.size∧B≤b:=by
 obtain⟨hB,p,v,hb,_⟩:=h;exact⟨x6_ hb,hB⟩
theorem q4_ {P:Program} {w:World} {ops:Array Oper} {rest:List Oper} {o:Oper} {a:Act} {Q:Exit→Act→World→Prop} (hgd:o.guard=none) (s x:Operand) (t t':TypeId)
 (ho:o.op=.call { callee:=.builtin .append,args:=#[s,x],argTypes:=#[t,t'] })
 (v u v':Value) (w':World) (hs:a.eval s=v) (hx:a.eval x=u) (hrun:(Builtin.append_ #[t,t'] o.type #[v,u]).run P w=.ok v' w')
 (h:wpList P ops Q rest (a.put o.dst v') w'):wpList P ops Q (o::rest) a w:=by
 refine wpList_plain hgd fun K hK=>?_;unfold Oper.wp;simp[execOp,ho,resolve,invoke,builtin,hs,hx,hrun,Result.andThen];exact hK _ _ h
theorem ks_ {w:World} {B T sz n:Nat} {v:Value} {xs:List Value} (h:w.ownsRow B T sz v n xs):∃ a m c,v=.slice a m c:=by
 rcases h.2 with⟨hv,_⟩|⟨g,cap,cur,hv,_⟩ <;> exact⟨_,_,_,hv⟩
theorem u8_ {w:World} {B n b:Nat} {v:Value} {xs:List Value} {cs:Array Value} {T:TypeId} (h:w.ownsRow B 5 1 v n xs) (hb:w.heap[b]?=some (.cells cs T)) (hT:T≠5):v.ownBlock≠some b:=by
 intro e;rcases h.2 with⟨rfl,_⟩|⟨g,cap,cur,rfl,_,hh,_⟩
 ·cases e
 ·injection e with e;subst e;rw[hb] at hh;injection hh with hh;injection hh with _ hh _;exact hT hh
theorem u5:∃ i,Tryz.prog.info? 5=some i∧i.zero=some (.int .u8 0)∧i.size=1∧i.bytes=1:=z7_ (P:=Tryz.prog) (e:=5) (z:=some (.int .u8 0)) (n:=1) (m:=1) (by kernel_rfl)
set_option maxRecDepth 100000 in
theorem aax_ {B b:Nat} {l:List UInt8} {W:World} (h:WB B b l W):Calls Tryz.prog 130 #[.pointer (some ⟨b,0,none⟩)] W fun e w'=>e=.returned (.tuple #[])∧WB B b l w'∧Wr B b W w':=by
 obtain⟨hB,p,v,hb,hp,ho,hn⟩:=h;obtain⟨x1,_,_,x4,_,_⟩:=xb_ hb;have Ho:=xa_ ho;have Hn:=xa_ hn;have Hb:=xa_ hb;clear ho hn hb;have hsh:W.shape? b=some (67,2):=(by have:=Hb.out;simp[World.shape?,this]);obtain⟨j,j1,j2,j3,j4⟩:=z7_ (P:=Tryz.prog) (e:=65) (z:=some (.agg #[.pointer none,.slice none 0 0])) (n:=2) (m:=32) (by kernel_rfl);rcases hp with rfl|rfl
 · go_enter Tryz.func130,Tryz.ntmps130;go_wp2;rw[Lib.run_to_unsafe (P:=Tryz.prog) W ⟨b,0,none⟩ Tryz.underlying62 Tryz.underlying213 j1 (by rw[j3];decide) hsh (Nat.zero_lt_succ 1)];simp only[Result.andThen];rw[Oper.upon_value];go_wp2;rw[run_callFunc_extern (P:=Tryz.prog) Tryz.func173 (by kernel_rfl) (by kernel_rfl) (by kernel_rfl) (e:=Extern.AbiNoEscape.same) (by kernel_rfl)];rw[Lib.run_noEscape];simp only[Result.andThen];rw[Oper.upon_value];go_wp2;rw[Lib.run_from_unsafe (P:=Tryz.prog) W ⟨b,0,none⟩ Tryz.underlying213 Tryz.underlying62 j1 hsh (by kernel_rfl)];simp only[Result.andThen];rw[Oper.upon_value];go_wp2;go_end0;refine⟨rfl,⟨hB,_,v,xj_ Hb.out 0 _,Or.inr rfl,?_,Hn.out⟩,rfl,rfl,rfl,by simp,fun k hk=>?_,fun k hk hb _=>?_⟩
   ·exact vw_ Ho.out (xp_ gz_ _ _) Hn.out
   ·exact Below.heap_setCell _ _ _ _ (by simp;omega)
   ·exact Below.heap_setCell _ _ _ _ (by simpa using hb)
 ·go_enter Tryz.func130,Tryz.ntmps130;go_wp2;rw[Lib.run_neq_ptr_same (P:=Tryz.prog) _ _ Tryz.underlying62 j1];go_wp2;go_end0;exact⟨rfl,⟨hB,_,v,Hb.out,Or.inr rfl,Ho.out,Hn.out⟩,Wr.refl _ _ _⟩
set_option maxRecDepth 100000 in
theorem afp_ {B b:Nat} {l:List UInt8} {W:World} (h:WB B b l W) (s:ByteArray) (hl:l.length+s.size≤140737488355328) (hBW:B≤W.heap.size) :
 Calls Tryz.prog 95 #[.pointer (some ⟨b,0,none⟩),.string s] W fun e w'=>e=.returned (.tuple #[.int .i64 s.size,.nilIface])∧WB B b (l++s.data.toList) w'∧Wr B b W w':=by
 have c1:=xa_ (aax_ h);clear h;go_enter Tryz.func95,Tryz.ntmps95;go_wp2_with fail
 refine c1.out.mono ?_;rintro e w1 ⟨rfl,h1,r1⟩;obtain⟨hB,p,v,hb,hp,ho,hn⟩:=h1;obtain⟨va,vn,vc,rfl⟩:=ks_ ho;obtain⟨i,i1,i2,i3,i4⟩:=u5;obtain⟨v',w2,hrun,ho2,hg,_⟩:=Lib.run_append_own_string (P:=Tryz.prog) w1 B 63 9 63 5 i Tryz.underlying63 Tryz.underlying9 i1 i2 i3 i4 _ l.length (Lib.byteCells l) ho s (by unfold maxLen;omega) hl (by have:=r1.size;omega);obtain⟨x1,_,_,x4,_,_⟩:=xb_ hb;obtain⟨ao,n',cap,rfl⟩:=ks_ ho2;have hb2:w2.heap[b]?=some (.cells #[p,.slice va vn vc] 67):=(hg.block b (x6_ hb) (fun e=>hn e.symm)).trans hb;obtain⟨y1,_,_,y4,_,_⟩:=xb_ hb2;have Ho:=xa_ ho;have Ho2:=xa_ ho2;have Hn:=xa_ hn;have Hb2:=xa_ hb2;have Hb1:=xa_ hb;have Hg:=xa_ hg;have R1:=xa_ r1;have HB:=xa_ hB;have Hp:=xa_ hp;clear ho ho2 hn hb hb2 hg r1 hB hp c1 i1 i2 i3 i4 hBW hl;go_wp2_with (at_builtin;refine q4_ rfl _ _ 63 9 rfl _ _ _ _ rfl rfl hrun ?_)
 go_ret2;refine⟨rfl,⟨HB.out,p,_,xj_ Hb2.out 1 _,Hp.out,?_,?_⟩,R1.out.trans ⟨Hg.out.os,Hg.out.tape,Hg.out.output,by simpa using Hg.out.size,fun k hk=>?_,fun k hk hb hnb=>?_⟩⟩
 ·have:=vw_ Ho2.out (xp_ (World.grownBy.refl w2 (some b)) 1 (.slice ao n' cap)) (u8_ Ho2.out Hb2.out (by decide));simpa[Lib.strCells_eq,Lib.byteCells] using this
 ·exact u8_ Ho2.out Hb2.out (by decide)
 ·have h1:=HB.out;rw[Below.heap_setCell _ _ _ _ (by simp;omega)];exact Hg.out.block k (by have:=x6_ Hb1.out;omega) (fun e=>by have:=afl_ Ho.out k e.symm;omega)
 · rw[Below.heap_setCell _ _ _ _ (by simpa using hb)];refine Hg.out.block k hk (fun e=>?_);rcases Ho.out.2 with⟨hv,_⟩|⟨g,cap',cur,hv,_,hh,_⟩
   ·rw[hv] at e;cases e
   ·rw[hv] at e;injection e with e;subst e;exact hnb _ _ hh
def cat:List ByteArray→List UInt8
 | []=>[]
 | s::l=>s.data.toList++cat l
abbrev wrt (B b:Nat) (l:List UInt8) (W:World):Ending→World→Prop:=fun e w'=>e=.returned (.tuple #[])∧WB B b l w'∧Wr B b W w'
theorem u9_ {B b:Nat} {l:List UInt8} {W:World} (h:WB B b l W) (ss:List ByteArray) (q cap:Nat) (hq:W.heap[q]?=some (.cells (ss.map Value.string).toArray 9)) (hl:l.length+(cat ss).length≤140737488355328) (hn:ss.length≤1000) (hBW:B≤W.heap.size) :
 Calls Tryz.prog 57 #[.pointer (some ⟨b,0,none⟩),.slice (some ⟨q,0,none⟩) ss.length cap] W (wrt B b (l++cat ss) W):=by
 have Hq:=xa_ hq;have HW:=xa_ h;have HB:=xa_ hBW;have hqb:q≠b:=by
  obtain⟨_,p,v,hb,_⟩:=h;intro e;subst e;rw[hq] at hb;injection hb with hb;injection hb with _ hb _;exact absurd hb (by decide)
 clear hq h hBW;go_enter Tryz.func57,Tryz.ntmps57;go_wp2_with fail
 have LS:Hid (∃ i:Nat,Value.int .i64 0=.int .i64 (i:Int)∧Hid (i≤ss.length∧ss.length+1=ss.length+1 - i∧Wr B b W W∧∃ m,WB B b m W∧m++cat (ss.drop i)=l++cat ss)):=⟨0,rfl,xa_ ⟨by omega,rfl,Wr.refl _ _ _,l,HW.out,by simp⟩⟩;clear HW;go_loopg [8] (ss.length+1) (fun gk s1 wx=>∃ i:Nat,s1=.int .i64 (i:Int)∧Hid (i≤ss.length∧gk=ss.length+1 - i∧Wr B b W wx∧∃ m,WB B b m wx∧m++cat (ss.drop i)=l++cat ss))
 case atStart=>exact LS.out
 case round=>
  obtain⟨i,rfl,HH⟩:=hrel;obtain⟨hi1,hgk,hr,m,hm,he⟩:=HH.out;clear HH LS;have HR:=xa_ hr;have HM:=xa_ hm;have HE:=xa_ he;have Hq2:=hr.box Hq.out (by decide) hqb;by_cases hi:i<ss.length;rotate_left
  · have hlt:¬((i:Int)<(ss.length:Int)):=(by omega);have e:m=l++cat ss:=(by rw[← he,List.drop_eq_nil_of_le (by omega),cat,List.append_nil]);subst e;clear hr hm he HE Hq2;go_wp2_with fail
    go_end0;exact⟨rfl,HM.out,HR.out⟩
  have hlt:((i:Int)<(ss.length:Int)):=(by omega);have hwi:IntKind.i64.wrap ((i:Int)+1)=i+1:=IntWalk.i64_in _ (by omega);have hc:wr.cell? ⟨q,i,none⟩=some (.string ss[i]):=(by rw[xn_ Hq2 i];simp[hi]);rw[List.drop_eq_getElem_cons hi,cat] at he;have hlen:m.length+ss[i].size+(cat (ss.drop (i+1))).length=l.length+(cat ss).length:=by
   have:=congrArg List.length he;simp at this;have e2:ss[i].data.size=ss[i].size:=rfl;omega
  have cS:=xa_ (afp_ hm ss[i] (by omega) (by have:=HB.out;have:=hr.size;omega));have HE2:=xa_ he;clear hr hm he HE Hq2 hlen;generalize ss[i]=s at hc cS HE2;go_wp2_with fail
  refine cS.out.mono ?_;rintro e w2 ⟨rfl,h2,r2⟩;have H2:=xa_ h2;have R2:=xa_ (HR.out.trans r2);clear h2 r2 cS;go_wp2_with fail
  go_roundg (ss.length+1 - (i+1))
  case measure=>omega
  case rel=>exact⟨i+1,by simp,xa_ ⟨by omega,rfl,R2.out,_,H2.out,by rw[List.append_assoc];exact HE2.out⟩⟩
end Go.Proofs.YtcoglmaiahpooaaGreatDoor
