/- Texts put together: Yp. -/
import Derived.Test.YtdcoidmbainkmaaGreatDoorQ36
import Derived.Test.YtdcoidmbainkmaaGreatDoorQ34
namespace Go.Proofs.YtdcoidmbainkmaaGreatDoor
open Go.RowKit
attribute [local go_sem ↓] Go.wp_at_zero Go.wp_at_succ
set_option linter.unusedVariables false
set_option linter.unusedSimpArgs false
def PiA (V:World) (t:ByteArray) (B x:Int) (res:Int×Int):Prop:=
 ((x≤4294967295∧res=(x,0)∨4294967295<x∧res=(0,3))∧∀ W,Calls Tryz.prog 179 #[.string t,.int .i64 B,.int .i64 64] W fun e w'=>e=.returned (.tuple #[.int .i64 x,.nilIface])∧W.grownBy w' none)
 ∨(res=(0,3)∧∀ W,Vs V W→Calls Tryz.prog 179 #[.string t,.int .i64 B,.int .i64 64] W fun e w'=>∃ N,e=.returned (.tuple #[.int .i64 9223372036854775807,.iface 250 (.pointer (some ⟨N,0,none⟩))])∧W.grownBy w' none)
set_option maxHeartbeats 2000000 in
theorem rn_hash {V:World} (d bx D t:ByteArray) (B x r1 r2:Int) (res:Int×Int) (w:World) (hV:Vs V w) (hs:15≤w.heap.size)
 (cr:Calls Tryz.prog 176 #[.int .i64 4,.string d] w fun e w'=>e=.returned (.tuple #[.int .i64 r1,.int .i64 r2])∧w.grownBy w' none)
 (n1:r2≠1) (n2:r2≠2)
 (hcut:∀ W,Vs V W→Calls Tryz.prog 177 #[.string d,.string ⟨#[35]⟩] W fun e w'=>e=.returned (.tuple #[.string bx,.string D,.bool true])∧W.grownBy w' none)
 (hat:∀ W,Calls Tryz.prog 178 #[.string bx] W fun e w'=>e=.returned (.tuple #[.int .i64 B,.nilIface])∧W.grownBy w' none)
 (hrep:∀ W,Vs V W→Calls Tryz.prog 180 #[.string D,.string ⟨#[95]⟩,.string ⟨#[]⟩] W fun e w'=>e=.returned (.string t)∧W.grownBy w' none)
 (hpi:PiA V t B x res) :
 Calls Tryz.prog 144 #[.string d] w fun e w'=>e=.returned (.tuple #[.int .i64 res.1,.int .i64 res.2])∧w.grownBy w' none:=by
 have e1:(r2==1)=false:=(by simpa using n1);have e2:(r2==2)=false:=(by simpa using n2);have HV:=hidI hV;have HS:=hidI hs;have HC:=hidI hcut;have HA:=hidI hat;have HR:=hidI hrep;clear hV hs hcut hat hrep n1 n2;rcases hpi with ⟨hx,hp⟩ | ⟨rfl,hp⟩
 · have HP:=hidI hp;clear hp;rcases hx with ⟨hx,rfl⟩ | ⟨hx,rfl⟩
   all_goals go_enter Tryz.func144,Tryz.ntmps144
   all_goals go_wp2_with fail
   all_goals refine cr.mono ?_
   all_goals rintro e w1 ⟨rfl,g1⟩
   all_goals have V1:=hidI (HV.out.kept g1 HS.out (by simp))
   all_goals have S1:=hidI (Nat.le_trans HS.out g1.size)
   all_goals go_wp2_with fail
   all_goals refine (HC.out _ V1.out).mono ?_
   all_goals rintro e w2 ⟨rfl,g2⟩
   all_goals have V2:=hidI (V1.out.kept g2 S1.out (by simp))
   all_goals have S2:=hidI (Nat.le_trans S1.out g2.size)
   all_goals go_wp2_with fail
   all_goals refine (HA.out _).mono ?_
   all_goals rintro e w3 ⟨rfl,g3⟩
   all_goals have V3:=hidI (V2.out.kept g3 S2.out (by simp))
   all_goals have S3:=hidI (Nat.le_trans S2.out g3.size)
   all_goals go_wp2_with fail
   all_goals refine (HR.out _ V3.out).mono ?_
   all_goals rintro e w4 ⟨rfl,g4⟩
   all_goals go_wp2_with fail
   all_goals refine (HP.out _).mono ?_
   all_goals rintro e w5 ⟨rfl,g5⟩
   all_goals go_wp2_with fail
   all_goals go_ret2
   all_goals exact ⟨rfl,gtn (gtn (gtn (gtn g1 g2) g3) g4) g5⟩
 · have HP:=hidI hp;clear hp;go_enter Tryz.func144,Tryz.ntmps144;go_wp2_with fail
   refine cr.mono ?_;rintro e w1 ⟨rfl,g1⟩;have V1:=hidI (HV.out.kept g1 HS.out (by simp));have S1:=hidI (Nat.le_trans HS.out g1.size);go_wp2_with fail
   refine (HC.out _ V1.out).mono ?_;rintro e w2 ⟨rfl,g2⟩;have V2:=hidI (V1.out.kept g2 S1.out (by simp));have S2:=hidI (Nat.le_trans S1.out g2.size);go_wp2_with fail
   refine (HA.out _).mono ?_;rintro e w3 ⟨rfl,g3⟩;have V3:=hidI (V2.out.kept g3 S2.out (by simp));have S3:=hidI (Nat.le_trans S2.out g3.size);go_wp2_with fail
   refine (HR.out _ V3.out).mono ?_;rintro e w4 ⟨rfl,g4⟩;have V4:=hidI (V3.out.kept g4 S3.out (by simp));go_wp2_with fail
   refine (HP.out _ V4.out).mono ?_;rintro e w5 ⟨N,rfl,g5⟩;go_wp2_with fail
   go_ret2;exact ⟨rfl,gtn (gtn (gtn (gtn g1 g2) g3) g4) g5⟩
set_option maxHeartbeats 2000000 in
theorem rn_ten {V:World} (d bx D t:ByteArray) (x r1 r2:Int) (res:Int×Int) (w:World) (hV:Vs V w) (hs:15≤w.heap.size)
 (cr:Calls Tryz.prog 176 #[.int .i64 4,.string d] w fun e w'=>e=.returned (.tuple #[.int .i64 r1,.int .i64 r2])∧w.grownBy w' none)
 (n1:r2≠1) (n2:r2≠2)
 (hcut:∀ W,Vs V W→Calls Tryz.prog 177 #[.string d,.string ⟨#[35]⟩] W fun e w'=>e=.returned (.tuple #[.string bx,.string D,.bool false])∧W.grownBy w' none)
 (hrep:∀ W,Vs V W→Calls Tryz.prog 180 #[.string d,.string ⟨#[95]⟩,.string ⟨#[]⟩] W fun e w'=>e=.returned (.string t)∧W.grownBy w' none)
 (hpi:PiA V t 10 x res) :
 Calls Tryz.prog 144 #[.string d] w fun e w'=>e=.returned (.tuple #[.int .i64 res.1,.int .i64 res.2])∧w.grownBy w' none:=by
 have e1:(r2==1)=false:=(by simpa using n1);have e2:(r2==2)=false:=(by simpa using n2);have HV:=hidI hV;have HS:=hidI hs;have HC:=hidI hcut;have HR:=hidI hrep;clear hV hs hcut hrep n1 n2;rcases hpi with ⟨hx,hp⟩ | ⟨rfl,hp⟩
 · have HP:=hidI hp;clear hp;rcases hx with ⟨hx,rfl⟩ | ⟨hx,rfl⟩
   all_goals go_enter Tryz.func144,Tryz.ntmps144
   all_goals go_wp2_with fail
   all_goals refine cr.mono ?_
   all_goals rintro e w1 ⟨rfl,g1⟩
   all_goals have V1:=hidI (HV.out.kept g1 HS.out (by simp))
   all_goals have S1:=hidI (Nat.le_trans HS.out g1.size)
   all_goals go_wp2_with fail
   all_goals refine (HC.out _ V1.out).mono ?_
   all_goals rintro e w2 ⟨rfl,g2⟩
   all_goals have V2:=hidI (V1.out.kept g2 S1.out (by simp))
   all_goals go_wp2_with fail
   all_goals refine (HR.out _ V2.out).mono ?_
   all_goals rintro e w4 ⟨rfl,g4⟩
   all_goals go_wp2_with fail
   all_goals refine (HP.out _).mono ?_
   all_goals rintro e w5 ⟨rfl,g5⟩
   all_goals go_wp2_with fail
   all_goals go_ret2
   all_goals exact ⟨rfl,gtn (gtn (gtn g1 g2) g4) g5⟩
 · have HP:=hidI hp;clear hp;go_enter Tryz.func144,Tryz.ntmps144;go_wp2_with fail
   refine cr.mono ?_;rintro e w1 ⟨rfl,g1⟩;have V1:=hidI (HV.out.kept g1 HS.out (by simp));have S1:=hidI (Nat.le_trans HS.out g1.size);go_wp2_with fail
   refine (HC.out _ V1.out).mono ?_;rintro e w2 ⟨rfl,g2⟩;have V2:=hidI (V1.out.kept g2 S1.out (by simp));have S2:=hidI (Nat.le_trans S1.out g2.size);go_wp2_with fail
   refine (HR.out _ V2.out).mono ?_;rintro e w4 ⟨rfl,g4⟩;have V4:=hidI (V2.out.kept g4 S2.out (by simp));go_wp2_with fail
   refine (HP.out _ V4.out).mono ?_;rintro e w5 ⟨N,rfl,g5⟩;go_wp2_with fail
   go_ret2;exact ⟨rfl,gtn (gtn (gtn g1 g2) g4) g5⟩
theorem pi_is {V:World} {B:Int} (hb:B=2∨B=10∨B=16) (ev:Value) (hE:V.cell? ⟨12,0,none⟩=some ev) (hev:ev=.nilIface∨∃ te pe,ev=.iface te pe) (l:List UInt8) (h0:l≠[]) (hl:l.length≤40) (hok:∀ c∈l,okB B c) :
 PiA V ⟨l.toArray⟩ B (valB B 0 l) (if 4294967295<valB B 0 l then (0,3) else (valB B 0 l,0)):=by
 have hsz:(⟨l.toArray⟩:ByteArray).size=l.length:=List.size_toArray ..;have h1:1≤(⟨l.toArray⟩:ByteArray).size:=by
  rw [hsz];cases l with
  | nil=>exact absurd rfl h0
  | cons=>simp
 have h2:(⟨l.toArray⟩:ByteArray).size≤40:=(by rw [hsz];exact hl);by_cases h:valB B 0 l<9223372036854775808
 · refine Or.inl ⟨?_,fun W=>(psi_ok hb ⟨l.toArray⟩ h1 h2 hok W h).mono ?_⟩
   · by_cases hx:4294967295<valB B 0 l
     · exact Or.inr ⟨hx,by rw [if_pos hx]⟩
     · exact Or.inl ⟨by omega,by rw [if_neg hx]⟩
   · rintro e w' ⟨rfl,hb⟩;exact ⟨rfl,bel_gr hb⟩
 · refine Or.inr ⟨by rw [if_pos (by omega)],fun W hW=>(psi_err hb ⟨l.toArray⟩ h1 h2 hok ev W (hW.cell (by decide) hE) hev h).mono ?_⟩;rintro e w' ⟨N,rfl,hb⟩;exact ⟨N,rfl,bel_gr hb⟩
theorem rep_is {V:World} (m:Int) (hM:V.cell? ⟨6,0,none⟩=some (.int .i64 m)) (l:List UInt8) (hl:l.length≤40) (W:World) (hW:Vs V W) :
 Calls Tryz.prog 180 #[.string ⟨l.toArray⟩,.string ⟨#[95]⟩,.string ⟨#[]⟩] W fun e w'=>e=.returned (.string ⟨(l.filter (· != 95)).toArray⟩)∧W.grownBy w' none:=by
 have hsz:(⟨l.toArray⟩:ByteArray).size=l.length:=List.size_toArray ..;have hz:(⟨#[]⟩:ByteArray).size=0:=rfl;refine (Tryz.strings_ReplaceAll ⟨l.toArray⟩ ⟨#[95]⟩ ⟨#[]⟩ m W (by omega) (hW.cell (by decide) hM) (by decide) (by rw [hz];omega)).mono ?_;rintro e w' ⟨rfl,hb⟩;refine ⟨?_,bel_gr hb⟩;have:Lib.replaceAll l [95] []=l.filter (· != 95):=repl_all l;rw [← this]
theorem cut_is {V:World} (m:Int) (hM:V.cell? ⟨6,0,none⟩=some (.int .i64 m)) (d:ByteArray) (hd:d.size≤40) (a b:List UInt8) (f:Bool) (h:Lib.cut d.data.toList [35]=(a,b,f)) (W:World) (hW:Vs V W) :
 Calls Tryz.prog 177 #[.string d,.string ⟨#[35]⟩] W fun e w'=>e=.returned (.tuple #[.string ⟨a.toArray⟩,.string ⟨b.toArray⟩,.bool f])∧W.grownBy w' none:=by
 refine (Tryz.strings_Cut d ⟨#[35]⟩ m W (by omega) (hW.cell (by decide) hM)).mono ?_;rintro e w' ⟨rfl,n,rfl⟩;refine ⟨?_,gr_drewN (World.grownBy.refl _ _) n⟩;have:Lib.cut d.data.toList (⟨#[35]⟩:ByteArray).data.toList=(a,b,f):=h;rw [this]
theorem bw_gr (w:World) (t:ByteArray):w.grownBy (Lib.bytesWorld w 5 t) none:=bel_gr (Lib.bytesWorld_below w 5 t)
theorem ato_16 (W:World):Calls Tryz.prog 178 #[.string ⟨([49,54]:List UInt8).toArray⟩] W fun e w'=>e=.returned (.tuple #[.int .i64 16,.nilIface])∧W.grownBy w' none:=by
 refine (Tryz.strconv_Atoi ⟨([49,54]:List UInt8).toArray⟩ 16 (by decide) (by decide) W).mono ?_;rintro e w' ⟨rfl,t,rfl⟩;exact ⟨rfl,bw_gr W t⟩
theorem ato_2 (W:World):Calls Tryz.prog 178 #[.string ⟨([50]:List UInt8).toArray⟩] W fun e w'=>e=.returned (.tuple #[.int .i64 2,.nilIface])∧W.grownBy w' none:=by
 refine (Tryz.strconv_Atoi ⟨([50]:List UInt8).toArray⟩ 2 (by decide) (by decide) W).mono ?_;rintro e w' ⟨rfl,t,rfl⟩;exact ⟨rfl,bw_gr W t⟩
set_option maxHeartbeats 1000000 in
theorem rn_c {V:World} (m:Int) (hM:V.cell? ⟨6,0,none⟩=some (.int .i64 m)) (hU:∀ W,Vs V W→Lib.Utf8Tabs 7 8 W) (ev:Value) (hE:V.cell? ⟨12,0,none⟩=some ev) (hev:ev=.nilIface∨∃ te pe,ev=.iface te pe):RnC V:=by
 intro d w hV hs hsz hasc;have cr:Calls Tryz.prog 176 #[.int .i64 4,.string d] w fun e w'=>e=.returned (.tuple #[.int .i64 (readE 4 (mapS d.data.toList) d.size).1,.int .i64 (readE 4 (mapS d.data.toList) d.size).2])∧w.grownBy w' none:=
  (read_any 4 d w (hU w hV) (by omega)).mono fun _ _ h=>⟨h.1,bel_gr h.2⟩
 have hlen:d.data.toList.length=d.size:=rfl;have hnf:=num_form d.data.toList hasc;have hnr:numR d.data.toList=if (readE 4 (mapS d.data.toList) d.size).2=2∨(readE 4 (mapS d.data.toList) d.size).2=1 then (0,(readE 4 (mapS d.data.toList) d.size).2) else numR d.data.toList:=by
  by_cases h:(readE 4 (mapS d.data.toList) d.size).2=2∨(readE 4 (mapS d.data.toList) d.size).2=1
  · rw [if_pos h];simp only [numR];rw [hlen,if_pos h]
  · rw [if_neg h]
 rw [hlen] at hnf;generalize readE 4 (mapS d.data.toList) d.size=r at cr hnf hnr;obtain ⟨r1,r2⟩:=r;simp only at cr hnf hnr;by_cases hb:r2=2∨r2=1
 · rw [if_pos hb] at hnr;rw [hnr];clear hnf hnr hasc hV hU;rcases hb with rfl | rfl
   all_goals go_enter Tryz.func144,Tryz.ntmps144
   all_goals go_wp2_with (first | (go_at_call 176;go_must (refine cr.mono ?_;rintro e w1 ⟨rfl,g1⟩)))
   all_goals go_ret2
   all_goals exact ⟨rfl,g1⟩
 · obtain ⟨hl,B,a,r,hB,hok,hne,hx⟩:=hnf (fun h=>hb (Or.inr h)) (fun h=>hb (Or.inl h));have hdl:(r.filter (· != 95)).length≤r.length:=List.length_filter_le _ _;rw [hx];rcases hB with ⟨rfl,hd⟩ | ⟨rfl,hd⟩ | ⟨rfl,hd,h35⟩
   · have hrl:r.length≤40:=(by rw [← hlen,hd] at hl;simp at hl;omega);have hc:Lib.cut d.data.toList [35]=([49,54],r,true):=(by rw [hd];exact cut_at 35 [49,54] r (by decide));exact rn_hash d _ _ _ 16 _ r1 r2 _ w hV hs cr (fun h=>hb (Or.inr h)) (fun h=>hb (Or.inl h)) (fun W hW=>cut_is m hM d (by omega) _ _ _ hc W hW) ato_16 (fun W hW=>rep_is m hM r hrl W hW) (pi_is (Or.inr (Or.inr rfl)) ev hE hev _ hne (by omega) hok)
   · have hrl:r.length≤40:=(by rw [← hlen,hd] at hl;simp at hl;omega);have hc:Lib.cut d.data.toList [35]=([50],r,true):=(by rw [hd];exact cut_at 35 [50] r (by decide));exact rn_hash d _ _ _ 2 _ r1 r2 _ w hV hs cr (fun h=>hb (Or.inr h)) (fun h=>hb (Or.inl h)) (fun W hW=>cut_is m hM d (by omega) _ _ _ hc W hW) ato_2 (fun W hW=>rep_is m hM r hrl W hW) (pi_is (Or.inl rfl) ev hE hev _ hne (by omega) hok)
   · have hrl:r.length≤40:=(by rw [← hd];omega);have hc:Lib.cut d.data.toList [35]=(d.data.toList,[],false):=cut_no 35 _ h35;have hdd:d=⟨r.toArray⟩:=(by rw [← hd]);refine rn_ten d _ _ _ _ r1 r2 _ w hV hs cr (fun h=>hb (Or.inr h)) (fun h=>hb (Or.inl h)) (fun W hW=>cut_is m hM d (by omega) _ _ _ hc W hW) (fun W hW=>?_) (pi_is (Or.inr (Or.inl rfl)) ev hE hev _ hne (by omega) hok);rw [hdd];exact rep_is m hM r hrl W hW
end Go.Proofs.YtdcoidmbainkmaaGreatDoor
