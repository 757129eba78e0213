/- Texts put together: Zb. -/
import Derived.Test.YtdcoidmbainkmaaGreatDoorQ22
import Derived.Test.YtdcoidmbainkmaaGreatDoorQ24
import Derived.Laws.StructEq
import Derived.Laws.IdiomStrings
import Derived.Lib.ConvBytes
import Derived.Lib.Case
namespace Go.Proofs.YtdcoidmbainkmaaGreatDoor
open Go.RowKit
attribute [local go_sem ↓] Go.wp_at_zero Go.wp_at_succ
set_option linter.unusedVariables false
set_option linter.unusedSimpArgs false
def oneS:ByteArray:=⟨#[80,82,79,71,82,65,77,32,112,32,69,78,68,95,80,82,79,71,82,65,77]⟩
def RowB (W:World) (q:Nat) (l:List UInt8):Prop:=∀ (j:Nat) (hj:j<l.length),W.cell? ⟨q,j,none⟩=some (.int .u8 (l[j].toNat:Int))∧W.frozen? ⟨q,j,none⟩=false
theorem RowB.set {W:World} {q:Nat} {l:List UInt8} (h:RowB W q l) (i:Nat) (hi:i<l.length) (x:UInt8):RowB (W.setCell ⟨q,i,none⟩ (.int .u8 (x.toNat:Int))) q (l.set i x):=by
 intro j hj;have hj':j<l.length:=(by simpa using hj);have hc:=(h j hj');by_cases e:j=i
 · subst e;refine ⟨?_,by rw [World.frozen?_setCell];exact hc.2⟩;rw [World.cell?_setCell_same _ _ _ hc.1];simp
 · refine ⟨?_,by rw [World.frozen?_setCell];exact hc.2⟩;rw [World.cell?_setCell_other _ _ _ _ (by intro h;injection h with _ h;exact e h.symm),hc.1,List.getElem_set_ne (by omega)]
theorem RowB.kept {W W':World} {q:Nat} {l:List UInt8} (h:RowB W q l) (hb:W'.heap[q]?=W.heap[q]?):RowB W' q l:=fun j hj=>
 ⟨(World.cell?_of_block (a:=⟨q,j,none⟩) hb).trans (h j hj).1,(World.frozen?_of_block (a:=⟨q,j,none⟩) hb).trans (h j hj).2⟩
theorem rowB_new (W:World) (s:ByteArray):RowB (Lib.bytesWorld W 5 s) W.heap.size s.data.toList:=by
 intro j hj;have hj':j<s.size:=hj;refine ⟨?_,?_⟩
 · rw [Lib.bytesWorld_cell W 5 s j hj'];simp [List.getD,List.getElem?_eq_getElem hj]
 · simp [World.frozen?,Lib.bytesWorld_at_new,Lib.bytesCells];omega
theorem eqF' (d:Nat) (x y z:Int) (W:World):Sem.run Tryz.prog (Op.equalIn (d+2) 25 (.agg #[.int .i64 x,.int .i64 y,.int .i64 z]) (.agg #[.int .i64 x,.int .i64 y,.int .i64 z])) W=.ok true W:=by
 have h:=Tryz.underlying25;have hi:∀ (t:Nat) (n:Int) (w:World),Tryz.prog.underlying t=some (.int .i64)→Sem.run Tryz.prog (Op.equalIn (d+1) t (.int .i64 n) (.int .i64 n)) w=.ok true w:=fun t n w ht=>by
  rw [run_equalIn_int (P:=Tryz.prog) w d t .i64 .i64 n n ht];simp
 rw [run_equalIn_struct (P:=Tryz.prog) W (d+1) 25 _ _ (by kernel_rfl) (by kernel_rfl)];have h23:=fun n w=>hi 23 n w Tryz.underlying23;have h3:=fun n w=>hi 3 n w Tryz.underlying3;generalize hq:Op.equalIn (d+1)=f at h23 h3 hi;have hp:∀ (w:World),Sem.run Tryz.prog (part 23 #[.int .i64 x,.int .i64 y,.int .i64 z] 0) w=.ok (.int .i64 x) w:=fun w=>by simp [part,go_sem]
 have hp1:∀ (w:World),Sem.run Tryz.prog (part 3 #[.int .i64 x,.int .i64 y,.int .i64 z] 1) w=.ok (.int .i64 y) w:=fun w=>by simp [part,go_sem]
 have hp2:∀ (w:World),Sem.run Tryz.prog (part 3 #[.int .i64 x,.int .i64 y,.int .i64 z] 2) w=.ok (.int .i64 z) w:=fun w=>by simp [part,go_sem]
 simp [Program.fieldsOf,h,Op.eqFields,hq,hp,hp1,hp2,h23,h3]
theorem eqF (x y z:Int) (W:World):Sem.run Tryz.prog (Op.equalIn 10000 25 (.agg #[.int .i64 x,.int .i64 y,.int .i64 z]) (.agg #[.int .i64 x,.int .i64 y,.int .i64 z])) W=.ok true W:=eqF' 9998 x y z W
theorem bw_gr (W:World) (s:ByteArray):W.grownBy (Lib.bytesWorld W 5 s) none:=by
 refine ⟨?_,?_,?_,by rw [Lib.bytesWorld_size];omega,fun k hk _=>Lib.bytesWorld_at_old W 5 s k hk⟩;all_goals simp [Lib.bytesWorld,World.freeze,World.alloc,World.drew,-World.alloc_eq,-World.drew_eq]
abbrev lw0 (l:List UInt8):List UInt8:=l.map Lib.lowerB
theorem lw_set {l:List UInt8} {i:Nat} (hi:i<l.length) {x:UInt8} (h:Lib.lowerB x=Lib.lowerB l[i]):lw0 (l.set i x)=lw0 l:=by
 rw [lw0,List.map_set,h];have e:(l.map Lib.lowerB)[i]'(by simpa using hi)=Lib.lowerB l[i]:=(by simp);rw [← e,List.set_getElem_self]
theorem low1 (x:UInt8) (h1:97≤x.toNat) (h2:x.toNat≤122):Lib.lowerB (x - 32)=Lib.lowerB x∧(x - 32).toNat=x.toNat - 32:=by
 have h:∀ b:Fin 256,97≤b.val→b.val≤122→Lib.lowerB (UInt8.ofNat b.val - 32)=Lib.lowerB (UInt8.ofNat b.val)∧(UInt8.ofNat b.val - 32).toNat=b.val - 32:=(by decide +kernel);simpa using h ⟨x.toNat,x.toNat_lt⟩ h1 h2
theorem low2 (x:UInt8) (h1:65≤x.toNat) (h2:x.toNat≤90):Lib.lowerB (x+32)=Lib.lowerB x∧(x+32).toNat=x.toNat+32:=by
 have h:∀ b:Fin 256,65≤b.val→b.val≤90→Lib.lowerB (UInt8.ofNat b.val+32)=Lib.lowerB (UInt8.ofNat b.val)∧(UInt8.ofNat b.val+32).toNat=b.val+32:=(by decide +kernel);simpa using h ⟨x.toNat,x.toNat_lt⟩ h1 h2
def GB (w:World) (ga:Option Addr) (gn:Nat):Prop:=gn=0∨∃ g off,ga=some ⟨g,off,none⟩∧g<w.heap.size∧∀ i,i<gn→∃ b,w.cell? ⟨g,off+i,none⟩=some (.bool b)
def CsL (w W2:World) (s:ByteArray) (q gk:Nat) (s8:Value) (wx:World):Prop:=∃ (i:Nat) (l:List UInt8),s8=.int .i64 (i:Int)∧Hid ((i≤s.size∧gk=s.size+1 - i)∧l.length=s.size∧lw0 l=lw0 s.data.toList∧RowB wx q l∧W2.grownBy wx (some q))
set_option maxRecDepth 10000 in
set_option maxHeartbeats 4000000 in
theorem case_any {V:World} (F:ByteArray→Int→Tok) (hS:∀ s:ByteArray,s.size≤60000→Scn V s (F s)) (hG:∀ s:ByteArray,s.size≤60000→GoodF s.size (F s)) (hT:Tabs V) (h1:(parP (F oneS) oneS).1.length=1∧(parP (F oneS) oneS).2.1=0)
 (hF:∀ s t:ByteArray,lw0 s.data.toList=lw0 t.data.toList→F s=F t)
 (s:ByteArray) (ga:Option Addr) (gn gc:Nat) (w:World) (hga:GB w ga gn) (hgn:gn≤9223372036854775807) (hV:Vs V w) (hs:15≤w.heap.size) (hz:s.size≤140737488355328) :
 Calls Tryz.prog 4 #[.string s,.slice ga gn gc] w fun e w'=>e=.returned (.bool true)∧w.grownBy w' none:=by
 have cP:=fun (s:ByteArray) W h1 h2 h3=>parse_any (V:=V) (F:=F s) (s:=s) (hS s) (hG s) hT W h1 h2 h3;have c1:=hidI (cP oneS w hV hs (by decide));obtain ⟨h11,h12⟩:=h1;have CP:=hidI cP;have HV:=hidI hV;have HS:=hidI hs;have HF:=hidI hF;have HGA:=hidI hga;generalize hr:parP (F oneS) oneS=r1 at c1 h11 h12;obtain ⟨l1,x1,x2,x3⟩:=r1;simp only at h11 h12;subst h12;clear hS hG hF hr cP hV hs hga;go_enter Tryz.func4,Tryz.ntmps4;go_wp2_with fail
 refine c1.out.mono ?_;rintro e w1 ⟨a1,n1,rfl,hL1,g1⟩;simp only [h11];clear hL1 h11 c1;obtain ⟨W1,hW1⟩:∃ W:World,W=w1.alloc (.cells #[.int .i64 0,.int .i64 x2,.int .i64 x3] 25):=⟨_,rfl⟩;have HQ1:Hid (W1.heap.size=w1.heap.size+1):=(by show _=_;rw [hW1];simp);have G1:Hid (w.grownBy W1 none):=(by rw [hW1];exact gr_alloc g1 _);have hcv:=Lib.run_convert_string_bytes (P:=Tryz.prog) W1 9 40 5 s Tryz.underlying9 Tryz.underlying40 Tryz.underlying5;have HW1:=hidI hW1;rw [hW1] at hcv;clear hW1 g1;go_wp2_with fail
 rw [← HW1.out];have R1:=hidI (rowB_new W1 s);have G2:=hidI (gtn G1.out (bw_gr W1 s));have B2:=hidI (Lib.bytesWorld_size W1 5 s);generalize Lib.bytesWorld W1 5 s=W2 at R1 G2 B2 ⊢;generalize grownCap W1 s.size 0 5=cap;have hq1:=HQ1.out;have HQ0:w.heap.size≤W1.heap.size:=G1.out.size;rw [hq1] at R1 B2 HQ0;clear hq1;obtain ⟨q,hq⟩:∃ q,w1.heap.size+1=q:=⟨_,rfl⟩;rw [hq] at R1 B2 HQ0 ⊢;have HQ:Hid (w.heap.size≤q):=HQ0;clear HQ0 hq;have LS:Hid (CsL w W2 s q (s.size+1) (.int .i64 0) W2):=⟨0,s.data.toList,rfl,hidI ⟨⟨Nat.zero_le _,rfl⟩,rfl,rfl,R1.out,World.grownBy.refl _ _⟩⟩;clear hcv HW1;have HG2:Hid (q<W2.heap.size):=(by have:=B2.out;show _<_;omega);go_loopg [8] (s.size+1) (fun gk s8 wx=>CsL w W2 s q gk s8 wx)
 case atStart=>exact LS.out
 case round=>
  obtain ⟨i,l,rfl,HH⟩:=hrel;obtain ⟨⟨hi1,hgk⟩,hll,hlw,hR,hg⟩:=HH.out;have HR:=hidI hR;have HLW:=hidI hlw;have HLL:=hidI hll;have HGK:=hidI hgk;have HGX:=hidI hg;clear HH hlw hgk;have hw:IntKind.i64.wrap ((i:Int)+1)=i+1:=IntWalk.i64_in _ (by omega);by_cases hin:i<s.size∧i<gn;rotate_left
  · have hin':¬ ((i:Int)<(s.size:Int))∨((i:Int)<(s.size:Int))∧¬ ((i:Int)<(gn:Int)):=(by omega);have V3:=hidI (HV.out.kept (grown_join G2.out hg (Or.inr (fun z hz=>by injection hz with hz;have:=HQ.out;omega))) HS.out (by simp));have G3:=hidI (grown_join G2.out hg (Or.inr (fun z hz=>by injection hz with hz;have:=HQ.out;omega)));have S3:Hid (15≤wr.heap.size):=(by have:=G3.out.size;have:=HS.out;show _≤_;omega);have Q3:Hid (q<wr.heap.size):=(by have:=hg.size;have:=HG2.out;show _<_;omega);have c2:=hidI (CP.out s wr V3.out S3.out (by omega));clear hg hR hll;have key:∀ (b1 b2:Bool),decide ((i:Int)<(s.size:Int))=b1→decide ((i:Int)<(gn:Int))=b2→(b1 && b2)=false→True:=fun _ _ _ _ _=>trivial;rcases hin' with hin' | ⟨hin1,hin2⟩
    · go_wp2_with fail
      refine c2.out.mono ?_;rintro e w2 ⟨a2,n2,rfl,hL2,g2⟩;have HL2:=hidI hL2;have G4:=hidI (gtn G3.out g2);obtain ⟨⟨r1,r2,r3,r4⟩,hr⟩:∃ r,parP (F s) s=r:=⟨_,rfl⟩;rw [hr] at HL2 ⊢;simp only;have hpt:Hid (parP (F ⟨l.toArray⟩) ⟨l.toArray⟩=(r1,r2,r3,r4)):=by
       show _=_
       have ht:(⟨l.toArray⟩:ByteArray).size=s.size:=(by show l.toArray.size=s.size;rw [List.size_toArray];exact HLL.out);have hf:F ⟨l.toArray⟩=F s:=HF.out _ _ (by simpa using HLW.out);rw [← hr,parP,parP,ht,hf]
      have hR4:RowB (w2.alloc (.cells #[.int .i64 r2,.int .i64 r3,.int .i64 r4] 25)) q l:=HR.out.kept ((hp_old (by have:=Q3.out;have:=g2.size;omega) _).trans (g2.block q Q3.out (by simp)));have hcb:=run_convert_bytes_back (P:=Tryz.prog) (w2.alloc (.cells #[.int .i64 r2,.int .i64 r3,.int .i64 r4] 25)) 40 9 5 ⟨q,0,none⟩ cap l Tryz.underlying40 Tryz.underlying5 Tryz.underlying9 (fun j hj=>by rw [addn,Nat.zero_add];exact (hR4 j hj).1);rw [HLL.out] at hcb;have V4:=HV.out.kept (gr_alloc G4.out (.cells #[.int .i64 r2,.int .i64 r3,.int .i64 r4] 25)) HS.out (by simp);have c3:=CP.out ⟨l.toArray⟩ (w2.alloc (.cells #[.int .i64 r2,.int .i64 r3,.int .i64 r4] 25)) V4 (by have:=G4.out.size;have:=HS.out;simp;omega) (by show l.toArray.size≤_;rw [List.size_toArray,HLL.out];omega);rw [hpt.out] at c3;have C3:=hidI c3;clear c3 hL2 hr V4 hR4 c2;go_wp2_with fail
      refine C3.out.mono ?_;rintro e w3 ⟨a3,n3,rfl,hL3,g3⟩;simp only;have G5:=hidI (gtn (gr_alloc G4.out _) g3);have X3:=hidI (kept g3 (new w2 (.cells #[.int .i64 r2,.int .i64 r3,.int .i64 r4] 25)));have hEq:=eqF r2 r3 r4;obtain ⟨xp,xq,xr,xf,xg,xh⟩:=facts X3.out;have cU:Hid (∀ W,w3.grownBy W none→Calls Tryz.prog 9 #[.slice a2 r1.length n2,.slice a3 r1.length n3] W (yesG W)):=fun W hW=>same_us ((HL2.out.gw (gtn (gr1 _ _) g3)).gw hW) (hL3.gw hW);clear hL3 hcb C3;go_wp2_with fail
      refine (cU.out _ (gr1 _ _)).mono ?_;rintro e w4 ⟨rfl,g4⟩;go_wp2_with fail
      go_ret;exact ⟨rfl,gtn (gr_alloc G5.out _) g4⟩
    · go_wp2_with fail
      refine c2.out.mono ?_;rintro e w2 ⟨a2,n2,rfl,hL2,g2⟩;have HL2:=hidI hL2;have G4:=hidI (gtn G3.out g2);obtain ⟨⟨r1,r2,r3,r4⟩,hr⟩:∃ r,parP (F s) s=r:=⟨_,rfl⟩;rw [hr] at HL2 ⊢;simp only;have hpt:Hid (parP (F ⟨l.toArray⟩) ⟨l.toArray⟩=(r1,r2,r3,r4)):=by
       show _=_
       have ht:(⟨l.toArray⟩:ByteArray).size=s.size:=(by show l.toArray.size=s.size;rw [List.size_toArray];exact HLL.out);have hf:F ⟨l.toArray⟩=F s:=HF.out _ _ (by simpa using HLW.out);rw [← hr,parP,parP,ht,hf]
      have hR4:RowB (w2.alloc (.cells #[.int .i64 r2,.int .i64 r3,.int .i64 r4] 25)) q l:=HR.out.kept ((hp_old (by have:=Q3.out;have:=g2.size;omega) _).trans (g2.block q Q3.out (by simp)));have hcb:=run_convert_bytes_back (P:=Tryz.prog) (w2.alloc (.cells #[.int .i64 r2,.int .i64 r3,.int .i64 r4] 25)) 40 9 5 ⟨q,0,none⟩ cap l Tryz.underlying40 Tryz.underlying5 Tryz.underlying9 (fun j hj=>by rw [addn,Nat.zero_add];exact (hR4 j hj).1);rw [HLL.out] at hcb;have V4:=HV.out.kept (gr_alloc G4.out (.cells #[.int .i64 r2,.int .i64 r3,.int .i64 r4] 25)) HS.out (by simp);have c3:=CP.out ⟨l.toArray⟩ (w2.alloc (.cells #[.int .i64 r2,.int .i64 r3,.int .i64 r4] 25)) V4 (by have:=G4.out.size;have:=HS.out;simp;omega) (by show l.toArray.size≤_;rw [List.size_toArray,HLL.out];omega);rw [hpt.out] at c3;have C3:=hidI c3;clear c3 hL2 hr V4 hR4 c2;go_wp2_with fail
      refine C3.out.mono ?_;rintro e w3 ⟨a3,n3,rfl,hL3,g3⟩;simp only;have G5:=hidI (gtn (gr_alloc G4.out _) g3);have X3:=hidI (kept g3 (new w2 (.cells #[.int .i64 r2,.int .i64 r3,.int .i64 r4] 25)));have hEq:=eqF r2 r3 r4;obtain ⟨xp,xq,xr,xf,xg,xh⟩:=facts X3.out;have cU:Hid (∀ W,w3.grownBy W none→Calls Tryz.prog 9 #[.slice a2 r1.length n2,.slice a3 r1.length n3] W (yesG W)):=fun W hW=>same_us ((HL2.out.gw (gtn (gr1 _ _) g3)).gw hW) (hL3.gw hW);clear hL3 hcb C3;go_wp2_with fail
      refine (cU.out _ (gr1 _ _)).mono ?_;rintro e w4 ⟨rfl,g4⟩;go_wp2_with fail
      go_ret;exact ⟨rfl,gtn (gr_alloc G5.out _) g4⟩
  have hil:i<l.length:=(by rw [hll];exact hin.1);have hi2:((i:Int)<(s.size:Int)):=(by omega);have hi3:((i:Int)<(gn:Int)):=(by omega);have hi0:(0:Int)≤(i:Int):=(by omega);have G3:=grown_join G2.out hg (Or.inr (fun z hz=>by injection hz with hz;have:=HQ.out;omega));obtain ⟨g,off,rfl,hgl,hgc⟩:∃ g off,ga=some ⟨g,off,none⟩∧g<w.heap.size∧∀ i,i<gn→∃ b,w.cell? ⟨g,off+i,none⟩=some (.bool b):=by
   rcases HGA.out with h | h
   · omega
   · exact h
  obtain ⟨b,hb⟩:=hgc i hin.2;have hbr:wr.cell? ⟨g,off+i,none⟩=some (.bool b):=(World.cell?_of_block (G3.block g hgl (by simp))).trans hb;obtain ⟨hx,hfz⟩:=hR i hil;generalize hxl:l[i]=x at hx;have hc0:(0:Int)≤(x.toNat:Int):=(by omega);have hc1:(x.toNat:Int)≤255:=(by have:=x.toNat_lt;omega);clear hg hR hll hgc hb G3 HGA;cases b with
  | true=>
   by_cases h97:(97:Int)≤(x.toNat:Int)
   · by_cases h122:(x.toNat:Int)≤122
     · skip
       have hst:=low1 x (by omega) (by omega);have hwx:IntKind.u8.wrap ((x.toNat:Int) - 32)=(((x - 32).toNat:Nat):Int):=(by rw [IntWalk.u8_in _ (by omega),hst.2];omega);have HST:=hidI hst;clear hst;go_wp2_with fail
       go_roundg (s.size+1 - (i+1))
       case measure=>have:=HGK.out;omega
       case rel=>exact ⟨i+1,l.set i (x - 32),by simp,hidI ⟨⟨by omega,rfl⟩,by rw [List.length_set];exact HLL.out,by rw [lw_set hil (by rw [hxl];exact HST.out.1)];exact HLW.out,HR.out.set i hil (x - 32),gr_set HGX.out _ _⟩⟩
     · skip
       go_wp2_with fail
       go_roundg (s.size+1 - (i+1))
       case measure=>have:=HGK.out;omega
       case rel=>exact ⟨i+1,l,by simp,hidI ⟨⟨by omega,rfl⟩,HLL.out,HLW.out,HR.out,HGX.out⟩⟩
   · skip
     go_wp2_with fail
     go_roundg (s.size+1 - (i+1))
     case measure=>have:=HGK.out;omega
     case rel=>exact ⟨i+1,l,by simp,hidI ⟨⟨by omega,rfl⟩,HLL.out,HLW.out,HR.out,HGX.out⟩⟩
  | false=>
   by_cases h65:(65:Int)≤(x.toNat:Int)
   · by_cases h90:(x.toNat:Int)≤90
     · skip
       have hst:=low2 x (by omega) (by omega);have hwx:IntKind.u8.wrap ((x.toNat:Int)+32)=(((x+32).toNat:Nat):Int):=(by rw [IntWalk.u8_in _ (by omega),hst.2];omega);have HST:=hidI hst;clear hst;go_wp2_with fail
       go_roundg (s.size+1 - (i+1))
       case measure=>have:=HGK.out;omega
       case rel=>exact ⟨i+1,l.set i (x+32),by simp,hidI ⟨⟨by omega,rfl⟩,by rw [List.length_set];exact HLL.out,by rw [lw_set hil (by rw [hxl];exact HST.out.1)];exact HLW.out,HR.out.set i hil (x+32),gr_set HGX.out _ _⟩⟩
     · skip
       go_wp2_with fail
       go_roundg (s.size+1 - (i+1))
       case measure=>have:=HGK.out;omega
       case rel=>exact ⟨i+1,l,by simp,hidI ⟨⟨by omega,rfl⟩,HLL.out,HLW.out,HR.out,HGX.out⟩⟩
   · skip
     go_wp2_with fail
     go_roundg (s.size+1 - (i+1))
     case measure=>have:=HGK.out;omega
     case rel=>exact ⟨i+1,l,by simp,hidI ⟨⟨by omega,rfl⟩,HLL.out,HLW.out,HR.out,HGX.out⟩⟩
end Go.Proofs.YtdcoidmbainkmaaGreatDoor
