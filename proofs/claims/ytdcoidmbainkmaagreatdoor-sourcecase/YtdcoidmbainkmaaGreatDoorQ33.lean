/- Texts put together: Yd, Ye. -/
import Derived.Test.YtdcoidmbainkmaaGreatDoorQ31
import Derived.Test.YtdcoidmbainkmaaGreatDoorQ28
import Derived.Test.YtdcoidmbainkmaaGreatDoorQ06
import Derived.Laws.Rows
namespace Go.Proofs.YtdcoidmbainkmaaGreatDoor
open Go.RowKit
attribute [local go_sem ↓] Go.wp_at_zero Go.wp_at_succ
set_option linter.unusedVariables false
set_option linter.unusedSimpArgs false
def valT (t : Tok) : Tok := if t.f = 0 then t else { t with c := 0 }
set_option maxHeartbeats 1000000 in
theorem valued_any (t : Tok) (w : World) : Calls Tryz.prog 145 #[tokV t] w fun e w' => e = .returned (tokV (valT t)) ∧ w.grownBy w' none := by
 obtain ⟨c,x,n,a,e,f⟩ := t
 by_cases hf : f = 0
 · subst hf
   have hv : valT ⟨c,x,n,a,e,0⟩ = ⟨c,x,n,a,e,0⟩ := by rw [valT,if_pos rfl]
   rw [hv]
   clear hv
   change Calls Tryz.prog 145 #[.agg #[.int .i64 c,.string x,.int .i64 n,.int .i64 a,.int .i64 e,.int .i64 0]] w _
   go_enter Tryz.func145,Tryz.ntmps145
   go_wp2_with fail
   exact bodyPost_ret (resBox rfl _ _ (w.heap.size + 1) _ rfl (ld73 (hp_new (by simp) _))) rfl ⟨rfl,gr_alloc (gr1 _ _) _⟩
 · have hf' : (f != 0) = true := by simp [hf]
   have hv : valT ⟨c,x,n,a,e,f⟩ = ⟨0,x,n,a,e,f⟩ := by rw [valT,if_neg hf]
   rw [hv]
   clear hv hf
   change Calls Tryz.prog 145 #[.agg #[.int .i64 c,.string x,.int .i64 n,.int .i64 a,.int .i64 e,.int .i64 f]] w _
   go_enter Tryz.func145,Tryz.ntmps145
   go_wp2_with fail
   exact bodyPost_ret (resBox rfl _ _ (w.heap.size + 1) _ rfl (ld73 (hp_new (by simp) _))) rfl ⟨rfl,gr_alloc (gr1 _ _) _⟩
theorem bel_gr {w w' : World} (h : Below w.heap.size w w') : w.grownBy w' none := ⟨h.os,h.tape,h.output,h.size,fun k hk _ => h.block k hk⟩
theorem clone_any (x : ByteArray) (w : World) (hx : x.size ≤ 60000) : Calls Tryz.prog 146 #[.string x] w fun e w' => e = .returned (.string x) ∧ w.grownBy w' none := by
 have c4 := Tryz.stringslite_Clone x w (by omega)
 go_enter Tryz.func146,Tryz.ntmps146
 go_wp2_with fail
 refine c4.mono ?_
 rintro e w1 ⟨rfl,hb⟩
 go_wp2_with fail
 go_ret
 exact ⟨rfl,bel_gr hb⟩
def spanT (l : List UInt8) (i : Nat) : Tok :=
 let k := runL true (l.drop i)
 let r := readE 5 (mapS ((l.drop i).take k)) k
 valT ⟨5,nob,r.1,i,(i + k : Nat),r.2⟩
theorem runL_le (h : Bool) (l : List UInt8) : runL h l ≤ l.length := (List.takeWhile_prefix _).length_le
theorem ext_two (s : ByteArray) (a k : Nat) : (s.extract a (a + k)).data.toList = (s.data.toList.drop a).take k := by
 rw [ByteArray.data_extract,Array.toList_extract,List.extract,show a + k - a = k by omega]
set_option maxHeartbeats 2000000 in
theorem span_any {V : World} (s : ByteArray) (i : Nat) (w : World) (hV : Vs V w) (hs : 15 ≤ w.heap.size) (hT : ∀ W,Vs V W → Lib.Utf8Tabs 7 8 W) (hsz : s.size ≤ 60000) (hi : i ≤ s.size) :
 Calls Tryz.prog 148 #[.string s,.int .i64 i] w fun e w' => e = .returned (tokV (spanT s.data.toList i)) ∧ w.grownBy w' none := by
 have hlen : s.data.toList.length = s.size := rfl
 obtain ⟨k,hk⟩ : ∃ k,runL true (s.data.toList.drop i) = k := ⟨_,rfl⟩
 have hkl : i + k ≤ s.size := by have := runL_le true (s.data.toList.drop i); rw [hk] at this; simp at this; omega
 obtain ⟨E,hE⟩ : ∃ E,i + k = E := ⟨_,rfl⟩
 have c1 : ∀ W,Calls Tryz.prog 143 #[.string s,.int .i64 i,.bool true] W fun e w' => e = .returned (.int .i64 (E : Int)) ∧ w' = W := fun W => by
  have h := run_any s i true W hsz hi
  rw [hk,hE] at h
  exact h
 have hts : (s.extract i E).size = k := by rw [ByteArray.size_extract]; omega
 obtain ⟨r,hr⟩ : ∃ r,readE 5 (mapS ((s.data.toList.drop i).take k)) k = r := ⟨_,rfl⟩
 have c2 : ∀ W,Vs V W → Calls Tryz.prog 176 #[.int .i64 5,.string (s.extract i E)] W fun e w' => e = .returned (.tuple #[.int .i64 r.1,.int .i64 r.2]) ∧ Below W.heap.size W w' := fun W hW => by
  have h := read_any 5 (s.extract i E) W (hT W hW) (by rw [hts]; omega)
  rw [hts,← hE,ext_two,hr] at h
  rw [← hE]
  exact h
 have e : Hid (spanT s.data.toList i = valT ⟨5,nob,r.1,i,E,r.2⟩) := by
  show _ = _
  simp only [spanT,hk,hr,hE]
 have HV := hidI hV
 have HS := hidI hs
 have hki : ((i : Int) ≤ (E : Int)) := by omega
 have hks : ((E : Int) ≤ (s.size : Int)) := by omega
 have hv := fun W => valued_any ⟨5,nob,r.1,i,E,r.2⟩ W
 rw [e.out]
 generalize valT ⟨5,nob,r.1,i,E,r.2⟩ = T at hv ⊢
 obtain ⟨t1,t2,t3,t4,t5,t6⟩ := T
 clear hT hk hr hV hE hts hkl e
 go_enter Tryz.func148,Tryz.ntmps148
 go_wp2_with (first | (go_at_call 143; go_must (refine (c1 _).mono ?_; rintro e w' ⟨rfl,rfl⟩)))
 refine (c2 _ (HV.out.kept (gr1 _ _) HS.out (by simp))).mono ?_
 rintro e w1 ⟨rfl,hb⟩
 have g1 := bel_gr hb
 have X1 := hidI (kept g1 (new w (.cells #[.int .i64 0,.string ⟨#[]⟩,.int .i64 0,.int .i64 0,.int .i64 0,.int .i64 0] 73)))
 have G1 := hidI (gtn (gr1 _ _) g1)
 clear hb g1
 go_wp2_with fail
 refine (hv _).mono ?_
 rintro e w2 ⟨rfl,g2⟩
 have X2 := hidI (kept g2 X1.out)
 obtain ⟨xp,xq,xr,xf,xg,xh⟩ := facts X2.out
 go_wp2_with fail
 exact bodyPost_ret (resBox rfl _ _ w.heap.size _ rfl (ld73 (box6 X2.out))) rfl ⟨rfl,gr6n (gtn G1.out g2) (Nat.le_refl _)⟩
end Go.Proofs.YtdcoidmbainkmaaGreatDoor

namespace Go.Proofs.YtdcoidmbainkmaaGreatDoor
open Go.RowKit
attribute [local go_sem ↓] Go.wp_at_zero Go.wp_at_succ
set_option linter.unusedVariables false
set_option linter.unusedSimpArgs false
def sgns : List ByteArray := [⟨#[58,61]⟩,⟨#[61,62]⟩,⟨#[46,46]⟩,⟨#[60,61]⟩,⟨#[62,61]⟩,⟨#[60,62]⟩,⟨#[43]⟩,⟨#[45]⟩,⟨#[42]⟩,⟨#[47]⟩,⟨#[38]⟩,⟨#[61]⟩,⟨#[60]⟩,⟨#[62]⟩,⟨#[40]⟩,⟨#[41]⟩,⟨#[91]⟩,⟨#[93]⟩,⟨#[44]⟩,⟨#[59]⟩,⟨#[58]⟩,⟨#[46]⟩]
def sgA : Array Value := #[.string ⟨#[58,61]⟩,.string ⟨#[61,62]⟩,.string ⟨#[46,46]⟩,.string ⟨#[60,61]⟩,.string ⟨#[62,61]⟩,.string ⟨#[60,62]⟩,.string ⟨#[43]⟩,.string ⟨#[45]⟩,.string ⟨#[42]⟩,.string ⟨#[47]⟩,.string ⟨#[38]⟩,.string ⟨#[61]⟩,.string ⟨#[60]⟩,.string ⟨#[62]⟩,.string ⟨#[40]⟩,.string ⟨#[41]⟩,.string ⟨#[91]⟩,.string ⟨#[93]⟩,.string ⟨#[44]⟩,.string ⟨#[59]⟩,.string ⟨#[58]⟩,.string ⟨#[46]⟩]
theorem sgi0 (W : World) : Sem.run Tryz.prog (Instr.index 184 (.agg #[.string ⟨#[58,61]⟩,.string ⟨#[61,62]⟩,.string ⟨#[46,46]⟩,.string ⟨#[60,61]⟩,.string ⟨#[62,61]⟩,.string ⟨#[60,62]⟩,.string ⟨#[43]⟩,.string ⟨#[45]⟩,.string ⟨#[42]⟩,.string ⟨#[47]⟩,.string ⟨#[38]⟩,.string ⟨#[61]⟩,.string ⟨#[60]⟩,.string ⟨#[62]⟩,.string ⟨#[40]⟩,.string ⟨#[41]⟩,.string ⟨#[91]⟩,.string ⟨#[93]⟩,.string ⟨#[44]⟩,.string ⟨#[59]⟩,.string ⟨#[58]⟩,.string ⟨#[46]⟩]) (.int .i64 0)) W = .ok (.string ⟨#[58,61]⟩) W := by kernel_rfl
theorem sgi1 (W : World) : Sem.run Tryz.prog (Instr.index 184 (.agg #[.string ⟨#[58,61]⟩,.string ⟨#[61,62]⟩,.string ⟨#[46,46]⟩,.string ⟨#[60,61]⟩,.string ⟨#[62,61]⟩,.string ⟨#[60,62]⟩,.string ⟨#[43]⟩,.string ⟨#[45]⟩,.string ⟨#[42]⟩,.string ⟨#[47]⟩,.string ⟨#[38]⟩,.string ⟨#[61]⟩,.string ⟨#[60]⟩,.string ⟨#[62]⟩,.string ⟨#[40]⟩,.string ⟨#[41]⟩,.string ⟨#[91]⟩,.string ⟨#[93]⟩,.string ⟨#[44]⟩,.string ⟨#[59]⟩,.string ⟨#[58]⟩,.string ⟨#[46]⟩]) (.int .i64 1)) W = .ok (.string ⟨#[61,62]⟩) W := by kernel_rfl
theorem sgi2 (W : World) : Sem.run Tryz.prog (Instr.index 184 (.agg #[.string ⟨#[58,61]⟩,.string ⟨#[61,62]⟩,.string ⟨#[46,46]⟩,.string ⟨#[60,61]⟩,.string ⟨#[62,61]⟩,.string ⟨#[60,62]⟩,.string ⟨#[43]⟩,.string ⟨#[45]⟩,.string ⟨#[42]⟩,.string ⟨#[47]⟩,.string ⟨#[38]⟩,.string ⟨#[61]⟩,.string ⟨#[60]⟩,.string ⟨#[62]⟩,.string ⟨#[40]⟩,.string ⟨#[41]⟩,.string ⟨#[91]⟩,.string ⟨#[93]⟩,.string ⟨#[44]⟩,.string ⟨#[59]⟩,.string ⟨#[58]⟩,.string ⟨#[46]⟩]) (.int .i64 2)) W = .ok (.string ⟨#[46,46]⟩) W := by kernel_rfl
theorem sgi3 (W : World) : Sem.run Tryz.prog (Instr.index 184 (.agg #[.string ⟨#[58,61]⟩,.string ⟨#[61,62]⟩,.string ⟨#[46,46]⟩,.string ⟨#[60,61]⟩,.string ⟨#[62,61]⟩,.string ⟨#[60,62]⟩,.string ⟨#[43]⟩,.string ⟨#[45]⟩,.string ⟨#[42]⟩,.string ⟨#[47]⟩,.string ⟨#[38]⟩,.string ⟨#[61]⟩,.string ⟨#[60]⟩,.string ⟨#[62]⟩,.string ⟨#[40]⟩,.string ⟨#[41]⟩,.string ⟨#[91]⟩,.string ⟨#[93]⟩,.string ⟨#[44]⟩,.string ⟨#[59]⟩,.string ⟨#[58]⟩,.string ⟨#[46]⟩]) (.int .i64 3)) W = .ok (.string ⟨#[60,61]⟩) W := by kernel_rfl
theorem sgi4 (W : World) : Sem.run Tryz.prog (Instr.index 184 (.agg #[.string ⟨#[58,61]⟩,.string ⟨#[61,62]⟩,.string ⟨#[46,46]⟩,.string ⟨#[60,61]⟩,.string ⟨#[62,61]⟩,.string ⟨#[60,62]⟩,.string ⟨#[43]⟩,.string ⟨#[45]⟩,.string ⟨#[42]⟩,.string ⟨#[47]⟩,.string ⟨#[38]⟩,.string ⟨#[61]⟩,.string ⟨#[60]⟩,.string ⟨#[62]⟩,.string ⟨#[40]⟩,.string ⟨#[41]⟩,.string ⟨#[91]⟩,.string ⟨#[93]⟩,.string ⟨#[44]⟩,.string ⟨#[59]⟩,.string ⟨#[58]⟩,.string ⟨#[46]⟩]) (.int .i64 4)) W = .ok (.string ⟨#[62,61]⟩) W := by kernel_rfl
theorem sgi5 (W : World) : Sem.run Tryz.prog (Instr.index 184 (.agg #[.string ⟨#[58,61]⟩,.string ⟨#[61,62]⟩,.string ⟨#[46,46]⟩,.string ⟨#[60,61]⟩,.string ⟨#[62,61]⟩,.string ⟨#[60,62]⟩,.string ⟨#[43]⟩,.string ⟨#[45]⟩,.string ⟨#[42]⟩,.string ⟨#[47]⟩,.string ⟨#[38]⟩,.string ⟨#[61]⟩,.string ⟨#[60]⟩,.string ⟨#[62]⟩,.string ⟨#[40]⟩,.string ⟨#[41]⟩,.string ⟨#[91]⟩,.string ⟨#[93]⟩,.string ⟨#[44]⟩,.string ⟨#[59]⟩,.string ⟨#[58]⟩,.string ⟨#[46]⟩]) (.int .i64 5)) W = .ok (.string ⟨#[60,62]⟩) W := by kernel_rfl
theorem sgi6 (W : World) : Sem.run Tryz.prog (Instr.index 184 (.agg #[.string ⟨#[58,61]⟩,.string ⟨#[61,62]⟩,.string ⟨#[46,46]⟩,.string ⟨#[60,61]⟩,.string ⟨#[62,61]⟩,.string ⟨#[60,62]⟩,.string ⟨#[43]⟩,.string ⟨#[45]⟩,.string ⟨#[42]⟩,.string ⟨#[47]⟩,.string ⟨#[38]⟩,.string ⟨#[61]⟩,.string ⟨#[60]⟩,.string ⟨#[62]⟩,.string ⟨#[40]⟩,.string ⟨#[41]⟩,.string ⟨#[91]⟩,.string ⟨#[93]⟩,.string ⟨#[44]⟩,.string ⟨#[59]⟩,.string ⟨#[58]⟩,.string ⟨#[46]⟩]) (.int .i64 6)) W = .ok (.string ⟨#[43]⟩) W := by kernel_rfl
theorem sgi7 (W : World) : Sem.run Tryz.prog (Instr.index 184 (.agg #[.string ⟨#[58,61]⟩,.string ⟨#[61,62]⟩,.string ⟨#[46,46]⟩,.string ⟨#[60,61]⟩,.string ⟨#[62,61]⟩,.string ⟨#[60,62]⟩,.string ⟨#[43]⟩,.string ⟨#[45]⟩,.string ⟨#[42]⟩,.string ⟨#[47]⟩,.string ⟨#[38]⟩,.string ⟨#[61]⟩,.string ⟨#[60]⟩,.string ⟨#[62]⟩,.string ⟨#[40]⟩,.string ⟨#[41]⟩,.string ⟨#[91]⟩,.string ⟨#[93]⟩,.string ⟨#[44]⟩,.string ⟨#[59]⟩,.string ⟨#[58]⟩,.string ⟨#[46]⟩]) (.int .i64 7)) W = .ok (.string ⟨#[45]⟩) W := by kernel_rfl
theorem sgi8 (W : World) : Sem.run Tryz.prog (Instr.index 184 (.agg #[.string ⟨#[58,61]⟩,.string ⟨#[61,62]⟩,.string ⟨#[46,46]⟩,.string ⟨#[60,61]⟩,.string ⟨#[62,61]⟩,.string ⟨#[60,62]⟩,.string ⟨#[43]⟩,.string ⟨#[45]⟩,.string ⟨#[42]⟩,.string ⟨#[47]⟩,.string ⟨#[38]⟩,.string ⟨#[61]⟩,.string ⟨#[60]⟩,.string ⟨#[62]⟩,.string ⟨#[40]⟩,.string ⟨#[41]⟩,.string ⟨#[91]⟩,.string ⟨#[93]⟩,.string ⟨#[44]⟩,.string ⟨#[59]⟩,.string ⟨#[58]⟩,.string ⟨#[46]⟩]) (.int .i64 8)) W = .ok (.string ⟨#[42]⟩) W := by kernel_rfl
theorem sgi9 (W : World) : Sem.run Tryz.prog (Instr.index 184 (.agg #[.string ⟨#[58,61]⟩,.string ⟨#[61,62]⟩,.string ⟨#[46,46]⟩,.string ⟨#[60,61]⟩,.string ⟨#[62,61]⟩,.string ⟨#[60,62]⟩,.string ⟨#[43]⟩,.string ⟨#[45]⟩,.string ⟨#[42]⟩,.string ⟨#[47]⟩,.string ⟨#[38]⟩,.string ⟨#[61]⟩,.string ⟨#[60]⟩,.string ⟨#[62]⟩,.string ⟨#[40]⟩,.string ⟨#[41]⟩,.string ⟨#[91]⟩,.string ⟨#[93]⟩,.string ⟨#[44]⟩,.string ⟨#[59]⟩,.string ⟨#[58]⟩,.string ⟨#[46]⟩]) (.int .i64 9)) W = .ok (.string ⟨#[47]⟩) W := by kernel_rfl
theorem sgi10 (W : World) : Sem.run Tryz.prog (Instr.index 184 (.agg #[.string ⟨#[58,61]⟩,.string ⟨#[61,62]⟩,.string ⟨#[46,46]⟩,.string ⟨#[60,61]⟩,.string ⟨#[62,61]⟩,.string ⟨#[60,62]⟩,.string ⟨#[43]⟩,.string ⟨#[45]⟩,.string ⟨#[42]⟩,.string ⟨#[47]⟩,.string ⟨#[38]⟩,.string ⟨#[61]⟩,.string ⟨#[60]⟩,.string ⟨#[62]⟩,.string ⟨#[40]⟩,.string ⟨#[41]⟩,.string ⟨#[91]⟩,.string ⟨#[93]⟩,.string ⟨#[44]⟩,.string ⟨#[59]⟩,.string ⟨#[58]⟩,.string ⟨#[46]⟩]) (.int .i64 10)) W = .ok (.string ⟨#[38]⟩) W := by kernel_rfl
theorem sgi11 (W : World) : Sem.run Tryz.prog (Instr.index 184 (.agg #[.string ⟨#[58,61]⟩,.string ⟨#[61,62]⟩,.string ⟨#[46,46]⟩,.string ⟨#[60,61]⟩,.string ⟨#[62,61]⟩,.string ⟨#[60,62]⟩,.string ⟨#[43]⟩,.string ⟨#[45]⟩,.string ⟨#[42]⟩,.string ⟨#[47]⟩,.string ⟨#[38]⟩,.string ⟨#[61]⟩,.string ⟨#[60]⟩,.string ⟨#[62]⟩,.string ⟨#[40]⟩,.string ⟨#[41]⟩,.string ⟨#[91]⟩,.string ⟨#[93]⟩,.string ⟨#[44]⟩,.string ⟨#[59]⟩,.string ⟨#[58]⟩,.string ⟨#[46]⟩]) (.int .i64 11)) W = .ok (.string ⟨#[61]⟩) W := by kernel_rfl
theorem sgi12 (W : World) : Sem.run Tryz.prog (Instr.index 184 (.agg #[.string ⟨#[58,61]⟩,.string ⟨#[61,62]⟩,.string ⟨#[46,46]⟩,.string ⟨#[60,61]⟩,.string ⟨#[62,61]⟩,.string ⟨#[60,62]⟩,.string ⟨#[43]⟩,.string ⟨#[45]⟩,.string ⟨#[42]⟩,.string ⟨#[47]⟩,.string ⟨#[38]⟩,.string ⟨#[61]⟩,.string ⟨#[60]⟩,.string ⟨#[62]⟩,.string ⟨#[40]⟩,.string ⟨#[41]⟩,.string ⟨#[91]⟩,.string ⟨#[93]⟩,.string ⟨#[44]⟩,.string ⟨#[59]⟩,.string ⟨#[58]⟩,.string ⟨#[46]⟩]) (.int .i64 12)) W = .ok (.string ⟨#[60]⟩) W := by kernel_rfl
theorem sgi13 (W : World) : Sem.run Tryz.prog (Instr.index 184 (.agg #[.string ⟨#[58,61]⟩,.string ⟨#[61,62]⟩,.string ⟨#[46,46]⟩,.string ⟨#[60,61]⟩,.string ⟨#[62,61]⟩,.string ⟨#[60,62]⟩,.string ⟨#[43]⟩,.string ⟨#[45]⟩,.string ⟨#[42]⟩,.string ⟨#[47]⟩,.string ⟨#[38]⟩,.string ⟨#[61]⟩,.string ⟨#[60]⟩,.string ⟨#[62]⟩,.string ⟨#[40]⟩,.string ⟨#[41]⟩,.string ⟨#[91]⟩,.string ⟨#[93]⟩,.string ⟨#[44]⟩,.string ⟨#[59]⟩,.string ⟨#[58]⟩,.string ⟨#[46]⟩]) (.int .i64 13)) W = .ok (.string ⟨#[62]⟩) W := by kernel_rfl
theorem sgi14 (W : World) : Sem.run Tryz.prog (Instr.index 184 (.agg #[.string ⟨#[58,61]⟩,.string ⟨#[61,62]⟩,.string ⟨#[46,46]⟩,.string ⟨#[60,61]⟩,.string ⟨#[62,61]⟩,.string ⟨#[60,62]⟩,.string ⟨#[43]⟩,.string ⟨#[45]⟩,.string ⟨#[42]⟩,.string ⟨#[47]⟩,.string ⟨#[38]⟩,.string ⟨#[61]⟩,.string ⟨#[60]⟩,.string ⟨#[62]⟩,.string ⟨#[40]⟩,.string ⟨#[41]⟩,.string ⟨#[91]⟩,.string ⟨#[93]⟩,.string ⟨#[44]⟩,.string ⟨#[59]⟩,.string ⟨#[58]⟩,.string ⟨#[46]⟩]) (.int .i64 14)) W = .ok (.string ⟨#[40]⟩) W := by kernel_rfl
theorem sgi15 (W : World) : Sem.run Tryz.prog (Instr.index 184 (.agg #[.string ⟨#[58,61]⟩,.string ⟨#[61,62]⟩,.string ⟨#[46,46]⟩,.string ⟨#[60,61]⟩,.string ⟨#[62,61]⟩,.string ⟨#[60,62]⟩,.string ⟨#[43]⟩,.string ⟨#[45]⟩,.string ⟨#[42]⟩,.string ⟨#[47]⟩,.string ⟨#[38]⟩,.string ⟨#[61]⟩,.string ⟨#[60]⟩,.string ⟨#[62]⟩,.string ⟨#[40]⟩,.string ⟨#[41]⟩,.string ⟨#[91]⟩,.string ⟨#[93]⟩,.string ⟨#[44]⟩,.string ⟨#[59]⟩,.string ⟨#[58]⟩,.string ⟨#[46]⟩]) (.int .i64 15)) W = .ok (.string ⟨#[41]⟩) W := by kernel_rfl
theorem sgi16 (W : World) : Sem.run Tryz.prog (Instr.index 184 (.agg #[.string ⟨#[58,61]⟩,.string ⟨#[61,62]⟩,.string ⟨#[46,46]⟩,.string ⟨#[60,61]⟩,.string ⟨#[62,61]⟩,.string ⟨#[60,62]⟩,.string ⟨#[43]⟩,.string ⟨#[45]⟩,.string ⟨#[42]⟩,.string ⟨#[47]⟩,.string ⟨#[38]⟩,.string ⟨#[61]⟩,.string ⟨#[60]⟩,.string ⟨#[62]⟩,.string ⟨#[40]⟩,.string ⟨#[41]⟩,.string ⟨#[91]⟩,.string ⟨#[93]⟩,.string ⟨#[44]⟩,.string ⟨#[59]⟩,.string ⟨#[58]⟩,.string ⟨#[46]⟩]) (.int .i64 16)) W = .ok (.string ⟨#[91]⟩) W := by kernel_rfl
theorem sgi17 (W : World) : Sem.run Tryz.prog (Instr.index 184 (.agg #[.string ⟨#[58,61]⟩,.string ⟨#[61,62]⟩,.string ⟨#[46,46]⟩,.string ⟨#[60,61]⟩,.string ⟨#[62,61]⟩,.string ⟨#[60,62]⟩,.string ⟨#[43]⟩,.string ⟨#[45]⟩,.string ⟨#[42]⟩,.string ⟨#[47]⟩,.string ⟨#[38]⟩,.string ⟨#[61]⟩,.string ⟨#[60]⟩,.string ⟨#[62]⟩,.string ⟨#[40]⟩,.string ⟨#[41]⟩,.string ⟨#[91]⟩,.string ⟨#[93]⟩,.string ⟨#[44]⟩,.string ⟨#[59]⟩,.string ⟨#[58]⟩,.string ⟨#[46]⟩]) (.int .i64 17)) W = .ok (.string ⟨#[93]⟩) W := by kernel_rfl
theorem sgi18 (W : World) : Sem.run Tryz.prog (Instr.index 184 (.agg #[.string ⟨#[58,61]⟩,.string ⟨#[61,62]⟩,.string ⟨#[46,46]⟩,.string ⟨#[60,61]⟩,.string ⟨#[62,61]⟩,.string ⟨#[60,62]⟩,.string ⟨#[43]⟩,.string ⟨#[45]⟩,.string ⟨#[42]⟩,.string ⟨#[47]⟩,.string ⟨#[38]⟩,.string ⟨#[61]⟩,.string ⟨#[60]⟩,.string ⟨#[62]⟩,.string ⟨#[40]⟩,.string ⟨#[41]⟩,.string ⟨#[91]⟩,.string ⟨#[93]⟩,.string ⟨#[44]⟩,.string ⟨#[59]⟩,.string ⟨#[58]⟩,.string ⟨#[46]⟩]) (.int .i64 18)) W = .ok (.string ⟨#[44]⟩) W := by kernel_rfl
theorem sgi19 (W : World) : Sem.run Tryz.prog (Instr.index 184 (.agg #[.string ⟨#[58,61]⟩,.string ⟨#[61,62]⟩,.string ⟨#[46,46]⟩,.string ⟨#[60,61]⟩,.string ⟨#[62,61]⟩,.string ⟨#[60,62]⟩,.string ⟨#[43]⟩,.string ⟨#[45]⟩,.string ⟨#[42]⟩,.string ⟨#[47]⟩,.string ⟨#[38]⟩,.string ⟨#[61]⟩,.string ⟨#[60]⟩,.string ⟨#[62]⟩,.string ⟨#[40]⟩,.string ⟨#[41]⟩,.string ⟨#[91]⟩,.string ⟨#[93]⟩,.string ⟨#[44]⟩,.string ⟨#[59]⟩,.string ⟨#[58]⟩,.string ⟨#[46]⟩]) (.int .i64 19)) W = .ok (.string ⟨#[59]⟩) W := by kernel_rfl
theorem sgi20 (W : World) : Sem.run Tryz.prog (Instr.index 184 (.agg #[.string ⟨#[58,61]⟩,.string ⟨#[61,62]⟩,.string ⟨#[46,46]⟩,.string ⟨#[60,61]⟩,.string ⟨#[62,61]⟩,.string ⟨#[60,62]⟩,.string ⟨#[43]⟩,.string ⟨#[45]⟩,.string ⟨#[42]⟩,.string ⟨#[47]⟩,.string ⟨#[38]⟩,.string ⟨#[61]⟩,.string ⟨#[60]⟩,.string ⟨#[62]⟩,.string ⟨#[40]⟩,.string ⟨#[41]⟩,.string ⟨#[91]⟩,.string ⟨#[93]⟩,.string ⟨#[44]⟩,.string ⟨#[59]⟩,.string ⟨#[58]⟩,.string ⟨#[46]⟩]) (.int .i64 20)) W = .ok (.string ⟨#[58]⟩) W := by kernel_rfl
theorem sgi21 (W : World) : Sem.run Tryz.prog (Instr.index 184 (.agg #[.string ⟨#[58,61]⟩,.string ⟨#[61,62]⟩,.string ⟨#[46,46]⟩,.string ⟨#[60,61]⟩,.string ⟨#[62,61]⟩,.string ⟨#[60,62]⟩,.string ⟨#[43]⟩,.string ⟨#[45]⟩,.string ⟨#[42]⟩,.string ⟨#[47]⟩,.string ⟨#[38]⟩,.string ⟨#[61]⟩,.string ⟨#[60]⟩,.string ⟨#[62]⟩,.string ⟨#[40]⟩,.string ⟨#[41]⟩,.string ⟨#[91]⟩,.string ⟨#[93]⟩,.string ⟨#[44]⟩,.string ⟨#[59]⟩,.string ⟨#[58]⟩,.string ⟨#[46]⟩]) (.int .i64 21)) W = .ok (.string ⟨#[46]⟩) W := by kernel_rfl
theorem sg_at (k : Nat) (hk : k < 22) (W : World) : Sem.run Tryz.prog (Instr.index 184 (.agg sgA) (.int .i64 (k : Int))) W = .ok (.string (sgns[k]'hk)) W := by
 have h : k = 0 ∨ k = 1 ∨ k = 2 ∨ k = 3 ∨ k = 4 ∨ k = 5 ∨ k = 6 ∨ k = 7 ∨ k = 8 ∨ k = 9 ∨ k = 10 ∨ k = 11 ∨ k = 12 ∨ k = 13 ∨ k = 14 ∨ k = 15 ∨ k = 16 ∨ k = 17 ∨ k = 18 ∨ k = 19 ∨ k = 20 ∨ k = 21 := by omega
 rcases h with rfl | rfl | rfl | rfl | rfl | rfl | rfl | rfl | rfl | rfl | rfl | rfl | rfl | rfl | rfl | rfl | rfl | rfl | rfl | rfl | rfl | rfl
 · exact sgi0 W
 · exact sgi1 W
 · exact sgi2 W
 · exact sgi3 W
 · exact sgi4 W
 · exact sgi5 W
 · exact sgi6 W
 · exact sgi7 W
 · exact sgi8 W
 · exact sgi9 W
 · exact sgi10 W
 · exact sgi11 W
 · exact sgi12 W
 · exact sgi13 W
 · exact sgi14 W
 · exact sgi15 W
 · exact sgi16 W
 · exact sgi17 W
 · exact sgi18 W
 · exact sgi19 W
 · exact sgi20 W
 · exact sgi21 W
def sgT (l : List UInt8) (i : Nat) : Tok := match sgns.find? (fun y => Lib.hasPrefix (l.drop i) y.data.toList) with
 | some y => ⟨3,y,0,i,(i + y.size : Nat),0⟩
 | none => ⟨0,nob,0,i,0,1⟩
theorem inf184 : (Tryz.prog.info? 184).map (·.size) = some 22 := by kernel_rfl
theorem sg_sz : ∀ (k : Nat) (hk : k < 22),(sgns[k]'hk).size ≤ 2 := by decide
set_option maxRecDepth 10000 in
set_option maxHeartbeats 4000000 in
theorem sign_any {V : World} (hT : V.heap[5]? = some (.cells sgA 184)) (s : ByteArray) (i : Nat) (w : World) (hV : Vs V w) (hs : 15 ≤ w.heap.size) (hsz : s.size ≤ 60000) (hi : i ≤ s.size) :
 Calls Tryz.prog 105 #[.string s,.int .i64 i] w fun e w' => e = .returned (tokV (sgT s.data.toList i)) ∧ w.grownBy w' none := by
 have hi0 : ((i : Int) ≤ (s.size : Int)) := by omega
 have cH : ∀ (p : ByteArray) W,Calls Tryz.prog 138 #[.string (s.extract i s.size),.string p] W fun e w' => e = .returned (.bool (Lib.hasPrefix (s.data.toList.drop i) p.data.toList)) ∧ w' = W := fun p W => by
  have h := Tryz.strings_HasPrefix (s.extract i s.size) p W
  rw [ext_list] at h
  exact h
 have hA := sg_at
 have HT0 : w.heap[5]? = some (.cells sgA 184) := (hV 5 (by omega)).trans hT
 clear hV hT
 go_enter Tryz.func105,Tryz.ntmps105
 go_wp2_with (refine wpList_load_row rfl 184 _ rfl 5 rfl 184 sgA (0,0) _ (old HT0 _) Tryz.underlying184 rfl inf184 ?_)
 go_loopg [8] 23 (fun gk s8 wx => ∃ k : Nat,s8 = .int .i64 (k : Int) ∧ wx = w.alloc (.cells #[.int .i64 0,.string ⟨#[]⟩,.int .i64 0,.int .i64 0,.int .i64 0,.int .i64 0] 73) ∧ Hid (k ≤ 22 ∧ gk = 23 - k ∧ (sgns.drop k).find? (fun y => Lib.hasPrefix (s.data.toList.drop i) y.data.toList) = sgns.find? (fun y => Lib.hasPrefix (s.data.toList.drop i) y.data.toList)))
 case atStart => exact ⟨0,rfl,rfl,hidI ⟨by omega,rfl,rfl⟩⟩
 case round =>
  obtain ⟨k,rfl,rfl,HH⟩ := hrel
  obtain ⟨hk,hgk,hf⟩ := HH.out
  have HF := hidI hf
  clear HH hf
  have X1 := hidI (new w (.cells #[.int .i64 0,.string ⟨#[]⟩,.int .i64 0,.int .i64 0,.int .i64 0,.int .i64 0] 73))
  obtain ⟨xp,xq,xr,xf,xg,xh⟩ := facts X1.out
  by_cases hlt : k < 22
  rotate_left
  · have hk2 : k = 22 := by omega
    subst hk2
    have e : sgT s.data.toList i = ⟨0,nob,0,i,0,1⟩ := by rw [sgT,← HF.out]; rfl
    have HE := hidI e
    clear e HF
    go_wp2_with fail
    exact bodyPost_ret (resBox rfl _ _ w.heap.size _ rfl (ld73 (hp_new rfl _))) rfl ⟨by rw [HE.out]; rfl,gr1 _ _⟩
  have hlt' : ((k : Int) < 22) := by omega
  have hAk := hA k hlt
  have hd : sgns.drop k = (sgns[k]'hlt) :: sgns.drop (k + 1) := List.drop_eq_getElem_cons hlt
  have hz := sg_sz k hlt
  generalize hY : sgns[k]'hlt = Y at hAk hd hz
  clear hA
  cases hP : Lib.hasPrefix (s.data.toList.drop i) Y.data.toList with
  | true =>
   have e : sgT s.data.toList i = ⟨3,Y,0,i,(i + Y.size : Nat),0⟩ := by rw [sgT,← HF.out,hd,List.find?_cons_of_pos (p := fun y : ByteArray => Lib.hasPrefix (s.data.toList.drop i) y.data.toList) hP]
   have HE := hidI e
   have hw : IntKind.i64.wrap ((i : Int) + (Y.size : Int)) = ((i + Y.size : Nat) : Int) := by rw [IntWalk.i64_in _ (by omega)]; push_cast; rfl
   have cP : ∀ W,Calls Tryz.prog 138 #[.string (s.extract i s.size),.string Y] W fun e w' => e = .returned (.bool true) ∧ w' = W := fun W => hP ▸ cH Y W
   clear e HF hd hY hP cH
   go_wp2_with (go_at_call 138; go_must (refine (cP _).mono ?_; rintro e w' ⟨rfl,rfl⟩))
   exact bodyPost_ret (resBox rfl _ _ w.heap.size _ rfl (ld73 (hp_new rfl _))) rfl ⟨by rw [HE.out]; rfl,gr1 _ _⟩
  | false =>
   have hq : (sgns.drop (k + 1)).find? (fun y => Lib.hasPrefix (s.data.toList.drop i) y.data.toList) = sgns.find? (fun y => Lib.hasPrefix (s.data.toList.drop i) y.data.toList) := by rw [← HF.out,hd,List.find?_cons_of_neg (p := fun y : ByteArray => Lib.hasPrefix (s.data.toList.drop i) y.data.toList) (by simp [hP])]
   have HQ := hidI hq
   have hw : IntKind.i64.wrap ((k : Int) + 1) = k + 1 := IntWalk.i64_in _ (by omega)
   have cP : ∀ W,Calls Tryz.prog 138 #[.string (s.extract i s.size),.string Y] W fun e w' => e = .returned (.bool false) ∧ w' = W := fun W => hP ▸ cH Y W
   clear hq HF hd hY hP cH
   go_wp2_with (go_at_call 138; go_must (refine (cP _).mono ?_; rintro e w' ⟨rfl,rfl⟩))
   go_roundg (23 - (k + 1))
   case measure => omega
   case rel => exact ⟨k + 1,by simp,rfl,hidI ⟨by omega,rfl,HQ.out⟩⟩
end Go.Proofs.YtdcoidmbainkmaaGreatDoor
