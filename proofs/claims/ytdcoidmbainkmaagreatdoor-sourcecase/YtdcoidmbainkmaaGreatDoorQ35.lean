/- Texts put together: Yk, Yl, Ym, Yq. -/
import Derived.Test.YtdcoidmbainkmaaGreatDoorQ31
import Derived.Laws.RangeString
import Derived.Laws.RangeAny
import Derived.Test.YtdcoidmbainkmaaGreatDoorQ33
import Derived.Test.YtdcoidmbainkmaaGreatDoorQ30
import Derived.Laws.Runes
import Derived.WalkMore
namespace Go.Proofs.YtdcoidmbainkmaaGreatDoor
open Go.RowKit
set_option linter.unusedVariables false
set_option linter.unusedSimpArgs false
def IxS:Prop:=∀ (t:ByteArray) (W:World),t.size≤8→Calls Tryz.prog 142 #[.string t,.string ⟨#[10,13]⟩] W fun e w'=>e=.returned (.int .i64 (Lib.indexAny t.data.toList [10,13]))∧W.grownBy w' none
set_option maxRecDepth 20000 in
theorem zero209 (w:World):(zeroValue 209).run Tryz.prog w=.ok (.agg (Array.replicate 256 (.bool false))) w:=by
 kernel_rfl
theorem ixa_of (hS:IxS) (V:World):IxA V:=by
 intro t W ht hV h15;by_cases h8:8<t.size
 · refine (Tryz.strings_IndexAny_long zero209 t ⟨#[10,13]⟩ W (by decide) h8 (by omega) (by decide) (fun j b hb=>by have h:=List.mem_of_getElem? hb;simp at h;rcases h with rfl | rfl <;> decide)).mono ?_;rintro e w' ⟨rfl,rfl⟩;exact ⟨rfl,gr_alloc (gr1 _ _) _⟩
 · exact hS t W (by omega)
end Go.Proofs.YtdcoidmbainkmaaGreatDoor

namespace Go.Proofs.YtdcoidmbainkmaaGreatDoor
open Go.RowKit
set_option linter.unusedVariables false
set_option linter.unusedSimpArgs false
theorem dec_bytes (s:ByteArray) (pos:Nat) (h:pos<s.size) (ha:128≤(s.get! (pos+0)).toNat):∀ j,j<(Utf8.decode s pos).2→pos+j<s.size∧128≤(s.get! (pos+j)).toNat:=by
 have hn:¬ (s.get! (pos+0)).toNat<128:=(by omega);simp only [Utf8.decode,hn,if_false];split
 · rename_i h1;simp only [Bool.and_eq_true,decide_eq_true_eq,beq_iff_eq] at h1;split
   · intro j hj;simp only at hj;have:j=0∨j=1:=(by omega);rcases this with rfl | rfl
     · exact ⟨by omega,ha⟩
     · exact ⟨h1.2.1,by omega⟩
   · intro j hj;simp only at hj;obtain rfl:j=0:=(by omega);exact ⟨by omega,ha⟩
 split
 · rename_i h1;simp only [Bool.and_eq_true,decide_eq_true_eq,beq_iff_eq] at h1;split
   · intro j hj;simp only at hj;have:j=0∨j=1∨j=2:=(by omega);rcases this with rfl | rfl | rfl
     · exact ⟨by omega,ha⟩
     · exact ⟨h1.1.2.1,by omega⟩
     · exact ⟨h1.2.1,by omega⟩
   · intro j hj;simp only at hj;obtain rfl:j=0:=(by omega);exact ⟨by omega,ha⟩
 split
 · rename_i h1;simp only [Bool.and_eq_true,decide_eq_true_eq,beq_iff_eq] at h1;split
   · intro j hj;simp only at hj;have:j=0∨j=1∨j=2∨j=3:=(by omega);rcases this with rfl | rfl | rfl | rfl
     · exact ⟨by omega,ha⟩
     · exact ⟨h1.1.1.2.1,by omega⟩
     · exact ⟨h1.1.2.1,by omega⟩
     · exact ⟨h1.2.1,by omega⟩
   · intro j hj;simp only at hj;obtain rfl:j=0:=(by omega);exact ⟨by omega,ha⟩
 · intro j hj;simp only at hj;obtain rfl:j=0:=(by omega);exact ⟨by omega,ha⟩
theorem any_skip (l:List UInt8):∀ (k:Nat),(∀ j,j<k→∃ b,l[j]?=some b∧b≠10∧b≠13)→Lib.indexAny l [10,13]=if Lib.indexAny (l.drop k) [10,13] = -1 then -1 else Lib.indexAny (l.drop k) [10,13]+k:=by
 intro k;induction k generalizing l with
 | zero=>intro _;simp
 | succ k ih=>
  intro h;cases l with
  | nil=>obtain ⟨b,hb,_⟩:=h 0 (by omega);simp at hb
  | cons c l=>
   obtain ⟨b,hb,hb1,hb2⟩:=h 0 (by omega);simp at hb;subst hb;have ih':=ih l (fun j hj=>by simpa using h (j+1) (by omega));have hc:([10,13]:List UInt8).contains c=false:=(by simp [hb1,hb2]);have hge:=Lib.indexAny_ge [10,13] (l.drop k);rw [Lib.indexAny,hc,ih',List.drop_succ_cons];by_cases h0:Lib.indexAny (l.drop k) [10,13] = -1
   · simp [h0]
   · rw [if_neg h0,if_neg (by decide),if_neg h0,if_neg (by simp;omega)];push_cast;omega
end Go.Proofs.YtdcoidmbainkmaaGreatDoor

namespace Go.Proofs.YtdcoidmbainkmaaGreatDoor
open Go.RowKit
attribute [local go_sem ↓] Go.wp_at_zero Go.wp_at_succ
set_option linter.unusedVariables false
set_option linter.unusedSimpArgs false
def IrH:Prop:=∀ (r:Nat) (W:World),r≤1114111→Calls Tryz.prog 172 #[.string ⟨#[10,13]⟩,.int .i32 (r:Int)] W fun e w'=>e=.returned (.int .i64 (if r=10 then 0 else if r=13 then 1 else -1))∧Below W.heap.size W w'
theorem get_at' (s:ByteArray) (p:Nat) (h:p<s.size):s.get! p=s[p]'h:=by have:=get_at s p h;simpa using this
set_option maxHeartbeats 2000000 in
theorem ixs_of (hI:IrH):IxS:=by
 intro t w h8;have HI:=hidI hI;have hsh:∀ W,Calls Tryz.prog 173 #[.int .i64 (t.size:Int)] W fun e w'=>e=.returned (.bool false)∧w'=W:=fun W=>by
  have h8':¬ (8:Int)<(t.size:Int):=(by omega);go_enter Tryz.func173,Tryz.ntmps173;go_wp2;go_ret;exact ⟨rfl,rfl⟩
 clear hI;go_enter Tryz.func142,Tryz.ntmps142;go_wp2_with (first | (go_at_call 173;go_must (refine (hsh _).mono ?_;rintro e w' ⟨rfl,rfl⟩)))
 rename World=>w0
 go_loopg [] (t.size+1) (fun gk wx=>∃ pos:Nat,wx.heap[w0.heap.size]?=some (.stringIter t pos)∧Below w0.heap.size w0 wx∧Hid (pos≤t.size∧gk=t.size+1 - pos∧Lib.indexAny t.data.toList [10,13]=if Lib.indexAny (t.data.toList.drop pos) [10,13] = -1 then -1 else Lib.indexAny (t.data.toList.drop pos) [10,13]+pos))
 case atStart=>exact ⟨0,World.iter_heap w0 t 0,(Below.refl _ w0).alloc (Nat.le_refl _) _,hidI ⟨by omega,rfl,any_skip _ 0 (fun j hj=>absurd hj (by omega))⟩⟩
 case round=>
  obtain ⟨pos,hit,hbw,HH⟩:=hrel;obtain ⟨hp,hgk,he⟩:=HH.out;have HE:=hidI he;clear he HH;have hlen:t.data.toList.length=t.size:=rfl;by_cases hlt:pos<t.size;rotate_left
  · have hnx:∀ ty,(Instr.next (.pointer (some ⟨w0.heap.size,0,none⟩)) true ty).run Tryz.prog wr=_:=fun ty=>Lib.run_next_end_at wr w0.heap.size t pos ty hit hlt;have hnil:t.data.toList.drop pos=[]:=List.drop_eq_nil_of_le (by rw [hlen];omega);have hq:Lib.indexAny t.data.toList [10,13] = -1:=(by rw [HE.out,hnil];rfl);have HQ:=hidI hq;clear hq hnil hit;go_wp2_with fail
    go_ret;exact ⟨by rw [HQ.out];rfl,bel_gr hbw⟩
  have hnx:∀ ty,(Instr.next (.pointer (some ⟨w0.heap.size,0,none⟩)) true ty).run Tryz.prog wr=_:=fun ty=>Lib.run_next_any_at wr w0.heap.size t pos ty hit hlt;have hrl:=Lib.rune_le t pos;have hg0:(t.get! (pos+0)).toNat=(t[pos]'hlt).toNat:=(by rw [get_at t pos hlt]);have hbl:t.data.toList[pos]?=some (t[pos]'hlt):=(by rw [List.getElem?_eq_getElem (by rw [hlen];exact hlt)];rfl);have hstep:(((Utf8.decode t pos).1=10∨(Utf8.decode t pos).1=13)∧Lib.indexAny t.data.toList [10,13]=pos)∨(((Utf8.decode t pos).1≠10∧(Utf8.decode t pos).1≠13)∧1≤(Utf8.decode t pos).2∧pos+(Utf8.decode t pos).2≤t.size∧Lib.indexAny t.data.toList [10,13]=if Lib.indexAny (t.data.toList.drop (pos+(Utf8.decode t pos).2)) [10,13] = -1 then -1 else Lib.indexAny (t.data.toList.drop (pos+(Utf8.decode t pos).2)) [10,13]+((pos+(Utf8.decode t pos).2:Nat):Int)):=by
   by_cases hb:(t[pos]'hlt).toNat<128
   · rw [decode_ascii t pos hlt hb];simp only;by_cases h1:(t[pos]'hlt).toNat=10∨(t[pos]'hlt).toNat=13
     · refine Or.inl ⟨h1,?_⟩;have h00:Lib.indexAny (t.data.toList.drop pos) [10,13]=0:=by
        rw [drop_at t pos hlt,Lib.indexAny,if_pos (by
         have:(t[pos]'hlt)=10∨(t[pos]'hlt)=13:=h1.imp (fun h=>UInt8.toNat_inj.1 h) (fun h=>UInt8.toNat_inj.1 h);rcases this with h | h <;> rw [h] <;> decide)]
       rw [HE.out,h00];simp
     · refine Or.inr ⟨⟨fun h=>h1 (Or.inl h),fun h=>h1 (Or.inr h)⟩,by omega,by omega,?_⟩;have hs:=any_skip (t.data.toList.drop pos) 1 (fun j hj=>⟨t[pos]'hlt,by rw [List.getElem?_drop,show pos+j=pos by omega];exact hbl,fun h=>h1 (Or.inl (by rw [h];rfl)),fun h=>h1 (Or.inr (by rw [h];rfl))⟩);rw [List.drop_drop] at hs;have h0:=HE.out;have hge:=Lib.indexAny_ge [10,13] (t.data.toList.drop (pos+1));rw [hs] at h0;rw [h0];split <;> split <;> omega
   · have hd:=decode_high t pos hlt (by omega);have hby:=dec_bytes t pos hlt (by omega);generalize Utf8.decode t pos=D at hd hby ⊢;obtain ⟨R,K⟩:=D;simp only at hd hby ⊢;have hK:=(hby (K - 1) (by omega)).1;refine Or.inr ⟨⟨by omega,by omega⟩,hd.2,by omega,?_⟩;have hs:=any_skip (t.data.toList.drop pos) K (fun j hj=>by
      obtain ⟨h1,h2⟩:=hby j hj;rw [get_at' t (pos+j) h1] at h2;refine ⟨t[pos+j]'h1,by rw [List.getElem?_drop,List.getElem?_eq_getElem (by rw [hlen];exact h1)];rfl,fun h=>?_,fun h=>?_⟩
      · rw [h] at h2;exact absurd h2 (by decide)
      · rw [h] at h2;exact absurd h2 (by decide))
     rw [List.drop_drop] at hs;have h0:=HE.out;have hge:=Lib.indexAny_ge [10,13] (t.data.toList.drop (pos+K));rw [hs] at h0;rw [h0];push_cast;split <;> split <;> omega
  obtain ⟨R,hR⟩:∃ R,(Utf8.decode t pos).1=R:=⟨_,rfl⟩;obtain ⟨K,hK⟩:∃ K,(Utf8.decode t pos).2=K:=⟨_,rfl⟩;rw [hR,hK] at hnx hstep;rw [hR] at hrl;have hit2:=Lib.iterAt_heap wr w0.heap.size t pos (pos+K) hit;have hbw2:=Lib.below_iterAt hbw (k:=w0.heap.size) (by omega) t (pos+K);obtain ⟨W,hWd⟩:∃ W,wr.iterAt w0.heap.size t (pos+K)=W:=⟨_,rfl⟩;rw [hWd] at hnx hit2 hbw2;have cR:=HI.out R W hrl;have hszW:w0.heap.size<W.heap.size:=(Array.getElem?_eq_some_iff.1 hit2).1;clear hit hbw hWd hR hK hg0 hbl;rcases hstep with ⟨hr,hx⟩ | ⟨⟨hr1,hr2⟩,hk1,hk2,hx⟩
  · have HX:=hidI hx;obtain ⟨v,hv,hv0⟩:∃ v:Int,(if R=10 then (0:Int) else if R=13 then 1 else -1)=v∧0≤v:=⟨_,rfl,by rcases hr with rfl | rfl <;> decide⟩;rw [hv] at cR;clear hx hr hv;go_wp2_with (go_at_call 172;go_must (refine cR.mono ?_;rintro e W' ⟨rfl,hb3⟩))
    go_ret;exact ⟨by rw [HX.out];rfl,bel_gr (hbw2.trans (hb3.mono (by omega)))⟩
  · have HX:=hidI hx;rw [if_neg hr1,if_neg hr2] at cR;clear hx;go_wp2_with (go_at_call 172;go_must (refine cR.mono ?_;rintro e W' ⟨rfl,hb3⟩))
    go_roundg (t.size+1 - (pos+K))
    case measure=>omega
    case rel=>exact ⟨pos+K,(hb3.block _ hszW).trans hit2,hbw2.trans (hb3.mono (by omega)),hidI ⟨hk2,rfl,HX.out⟩⟩
end Go.Proofs.YtdcoidmbainkmaaGreatDoor

namespace Go.Proofs.YtdcoidmbainkmaaGreatDoor
open Go.RowKit
attribute [local go_sem ↓] Go.wp_at_zero Go.wp_at_succ
set_option linter.unusedVariables false
set_option linter.unusedSimpArgs false
set_option maxHeartbeats 2000000 in
set_option maxRecDepth 20000 in
theorem ir_high (r:Int) (h128:¬ r<128) (hr:¬ r=65533) (vb:Bool) (hvb:vb=Utf8.valid r) (W:World)
 (cV:∀ W,Calls Tryz.prog 199 #[.int .i32 r] W fun e w'=>e=.returned (.bool vb)∧w'=W)
 (cI:∀ (s:ByteArray) (c:Int) W,Calls Tryz.prog 198 #[.string s,.int .u8 c] W fun e w'=>e=.returned (.int .i64 (Lib.indexByte s.data.toList c.toNat.toUInt8))∧w'=W) :
 Calls Tryz.prog 172 #[.string ⟨#[10,13]⟩,.int .i32 r] W fun e w'=>e=.returned (.int .i64 (-1))∧Below W.heap.size W w':=by
 cases vb with
 | false=>
  clear hvb;go_enter Tryz.func172,Tryz.ntmps172;go_wp2_with (first | (go_at_call 199;go_must (refine (cV _).mono ?_;rintro e w' ⟨rfl,rfl⟩)))
  go_ret;exact ⟨rfl,Below.refl _ _⟩
 | true=>
  obtain ⟨s2,s4,sb⟩:=encode_facts r hvb.symm (by omega);have hcv:∀ W,(convert 21 9 (.int .i32 r)).run Tryz.prog W=.ok (.string (Utf8.encode r)) W:=fun W=>run_convert_int_string W 21 9 .i32 r (by kernel_rfl) Tryz.underlying9;generalize Utf8.encode r=rs at s2 s4 sb hcv;clear hvb;by_cases h2:rs.size=2
  · have sb:=sb (by omega);obtain ⟨b,hb⟩:∃ b,rs[rs.size - 1]'(by omega)=b:=⟨_,rfl⟩;rw [hb] at sb;have hb1:rs[1]'(by omega)=b:=(by rw [← hb];congr 1;omega);obtain ⟨S,hS⟩:∃ S:ByteArray,⟨#[10,13]⟩=S:=⟨_,rfl⟩;have hS2:S.size=2:=(by rw [← hS];rfl);have hS1:S[1]'(by omega)=13:=(by subst hS;rfl);rw [hS];have hx:¬ (13:Int)=(b.toNat:Int):=(by omega);have cJ:∀ W,Calls Tryz.prog 198 #[.string ByteArray.empty,.int .u8 (b.toNat:Int)] W fun e w'=>e=.returned (.int .i64 (-1))∧w'=W:=fun W=>cI ByteArray.empty (b.toNat:Int) W;have hS3:S.extract 2 2=ByteArray.empty:=(by subst hS;rfl);have hw2:IntKind.i64.wrap 2=2:=(by decide);clear sb cI s2 s4 hb hS;go_enter Tryz.func172,Tryz.ntmps172;go_wp2_with (first | (go_at_call 199;go_must (refine (cV _).mono ?_;rintro e w' ⟨rfl,rfl⟩)))
    go_step3
    go_wp2_with fail
    refine wp_loop_rounds 1 ?_;rw [rounds_succ];go_wp2_with fail
    go_step3
    go_wp2_with fail
    go_quiet (fail)
    go_wp2_with fail
    go_quiet ((refine (cJ _).mono ?_;rintro e w1 ⟨rfl,rfl⟩;exact ⟨rfl,_,rfl⟩))
    go_wp2_with fail
    rw [Exit.noGoto_ret];dsimp only [Exit.inBlock,Exit.then];rw [Exit.noGoto_ret];go_ret;exact ⟨rfl,rfl,rfl,rfl,Nat.le_refl _,fun _ _=>rfl⟩
  · have h3:¬ (rs.size:Int) - 1<2:=(by omega);clear sb cI;go_enter Tryz.func172,Tryz.ntmps172;go_wp2_with (first | (go_at_call 199;go_must (refine (cV _).mono ?_;rintro e w' ⟨rfl,rfl⟩)))
    go_step3
    go_wp2_with fail
    refine wp_loop_rounds 1 ?_;rw [rounds_succ];go_wp2_with fail
    rw [Exit.noGoto_ret];go_ret;exact ⟨rfl,Below.refl _ _⟩
set_option maxHeartbeats 2000000 in
set_option maxRecDepth 20000 in
theorem ir_err (W:World):Calls Tryz.prog 172 #[.string ⟨#[10,13]⟩,.int .i32 65533] W fun e w'=>e=.returned (.int .i64 (-1))∧Below W.heap.size W w':=by
 obtain ⟨S,hS⟩:∃ S:ByteArray,⟨#[10,13]⟩=S:=⟨_,rfl⟩;have hS2:S.size=2:=(by rw [← hS];rfl);have hd0:Utf8.decode S 0=(10,1):=(by subst hS;rfl);have hd1:Utf8.decode S 1=(13,1):=(by subst hS;rfl);rw [hS];clear hS;go_enter Tryz.func172,Tryz.ntmps172;go_wp2_with fail
 rename World=>w0
 go_loopg [] 3 (fun gk wx=>∃ pos:Nat,wx.heap[w0.heap.size]?=some (.stringIter S pos)∧Below w0.heap.size w0 wx∧Hid (pos≤2∧gk=3 - pos))
 case atStart=>exact ⟨0,World.iter_heap w0 S 0,(Below.refl _ w0).alloc (Nat.le_refl _) _,hidI ⟨by omega,rfl⟩⟩
 case round=>
  obtain ⟨pos,hit,hbw,HH⟩:=hrel;obtain ⟨hp,hgk⟩:=HH.out;clear HH;by_cases hlt:pos<S.size;rotate_left
  · have hnx:∀ ty,(Instr.next (.pointer (some ⟨w0.heap.size,0,none⟩)) true ty).run Tryz.prog wr=_:=fun ty=>Lib.run_next_end_at wr w0.heap.size S pos ty hit hlt;clear hit;go_wp2_with fail
    go_ret;exact ⟨rfl,hbw⟩
  have hnx:∀ ty,(Instr.next (.pointer (some ⟨w0.heap.size,0,none⟩)) true ty).run Tryz.prog wr=_:=fun ty=>Lib.run_next_any_at wr w0.heap.size S pos ty hit hlt;have hR:((Utf8.decode S pos).1:Int)≠65533∧(Utf8.decode S pos).2=1:=by
   have:pos=0∨pos=1:=(by omega);rcases this with rfl | rfl
   · rw [hd0];decide
   · rw [hd1];decide
  obtain ⟨hR1,hR2⟩:=hR;rw [hR2] at hnx;have hit2:=Lib.iterAt_heap wr w0.heap.size S pos (pos+1) hit;have hbw2:=Lib.below_iterAt hbw (k:=w0.heap.size) (by omega) S (pos+1);obtain ⟨W',hWd⟩:∃ W,wr.iterAt w0.heap.size S (pos+1)=W:=⟨_,rfl⟩;rw [hWd] at hnx hit2 hbw2;generalize (Utf8.decode S pos).1=R at hnx hR1;clear hit hbw hWd hR2 hd0 hd1;go_wp2_with fail
  go_roundg (3 - (pos+1))
  case measure=>omega
  case rel=>exact ⟨pos+1,hit2,hbw2,hidI ⟨by omega,rfl⟩⟩
theorem idx_low (r:Nat) (h:r<128):Lib.indexByte [10,13] ((r:Int).toNat.toUInt8)=if r=10 then 0 else if r=13 then 1 else -1:=by
 have k:∀ b:Fin 128,Lib.indexByte [10,13] (b.val.toUInt8)=if b.val=10 then 0 else if b.val=13 then 1 else -1:=by decide +kernel
 simpa using k ⟨r,h⟩
theorem irh:IrH:=by
 intro r W hr;by_cases h:r<128
 · refine (Tryz.strings_IndexRune_ascii ⟨#[10,13]⟩ (r:Int) W (by omega) (by omega)).mono ?_;rintro e w' ⟨rfl,rfl⟩;exact ⟨by rw [← idx_low r h],Below.refl _ _⟩
 · rw [if_neg (by omega),if_neg (by omega)];by_cases h3:r=65533
   · subst h3;exact ir_err W
   · exact ir_high (r:Int) (by omega) (by omega) _ rfl W (fun W=>by rw [validRune_eq];exact Tryz.utf8_ValidRune (r:Int) W) (fun s c W=>Tryz.strings_IndexByte s c W)
end Go.Proofs.YtdcoidmbainkmaaGreatDoor
