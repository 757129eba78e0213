/- Texts put together: Ya, Yb. -/
import Derived.Test.YtdcoidmbainkmaaGreatDoorQ04
import Derived.Test.YtdcoidmbainkmaaGreatDoorQ29
import Derived.Lib.IndexMore
namespace Go.Proofs.YtdcoidmbainkmaaGreatDoor
open Go.RowKit
attribute [local go_sem ↓] Go.wp_at_zero Go.wp_at_succ
set_option linter.unusedVariables false
set_option linter.unusedSimpArgs false
def blI (c : Int) : Bool := decide (c = 32) || decide (c = 9) || decide (c = 10) || decide (c = 13)
def dgI (c : Int) : Bool := decide (48 ≤ c) && decide (c ≤ 57)
def ltI (c : Int) : Bool := decide (97 ≤ c) && decide (c ≤ 122) || decide (65 ≤ c) && decide (c ≤ 90) || decide (c = 95)
theorem digit_any (c : Int) (w : World) : Calls Tryz.prog 72 #[.int .u8 c] w fun e w' => e = .returned (.bool (dgI c)) ∧ w' = w := by
 by_cases h1 : 48 ≤ c
 · by_cases h2 : c ≤ 57
   all_goals (go_enter Tryz.func72,Tryz.ntmps72; go_wp2; go_ret; exact ⟨ret_bool (by simp [dgI,h1,h2]),rfl⟩)
 · go_enter Tryz.func72,Tryz.ntmps72
   go_wp2
   go_ret
   exact ⟨ret_bool (by simp [dgI]; omega),rfl⟩
theorem blank_any (c : Int) (w : World) : Calls Tryz.prog 140 #[.int .u8 c] w fun e w' => e = .returned (.bool (blI c)) ∧ w' = w := by
 by_cases h1 : c = 32
 · have h1' : (c == 32) = true := by simpa using h1
   go_enter Tryz.func140,Tryz.ntmps140
   go_wp2
   go_ret
   exact ⟨ret_bool (by simp [blI,h1]),rfl⟩
 have h1' : (c == 32) = false := by simpa using h1
 by_cases h2 : c = 9
 · have h2' : (c == 9) = true := by simpa using h2
   go_enter Tryz.func140,Tryz.ntmps140
   go_wp2
   go_ret
   exact ⟨ret_bool (by simp [blI,h2]),rfl⟩
 have h2' : (c == 9) = false := by simpa using h2
 by_cases h3 : c = 10
 · have h3' : (c == 10) = true := by simpa using h3
   go_enter Tryz.func140,Tryz.ntmps140
   go_wp2
   go_ret
   exact ⟨ret_bool (by simp [blI,h3]),rfl⟩
 have h3' : (c == 10) = false := by simpa using h3
 by_cases h4 : c = 13
 · have h4' : (c == 13) = true := by simpa using h4
   go_enter Tryz.func140,Tryz.ntmps140
   go_wp2
   go_ret
   exact ⟨ret_bool (by simp [blI,h4]),rfl⟩
 have h4' : (c == 13) = false := by simpa using h4
 go_enter Tryz.func140,Tryz.ntmps140
 go_wp2
 go_ret
 exact ⟨ret_bool (by simp [blI,h1,h2,h3,h4]),rfl⟩
theorem letter_any (c : Int) (w : World) : Calls Tryz.prog 73 #[.int .u8 c] w fun e w' => e = .returned (.bool (ltI c)) ∧ w' = w := by
 have key : ∀ (a1 a2 a3 a4 a5 : Bool),decide (97 ≤ c) = a1 → decide (c ≤ 122) = a2 → decide (65 ≤ c) = a3 → decide (c ≤ 90) = a4 → decide (c = 95) = a5 → Calls Tryz.prog 73 #[.int .u8 c] w fun e w' => e = .returned (.bool (a1 && a2 || a3 && a4 || a5)) ∧ w' = w := by
  intro a1 a2 a3 a4 a5 h1 h2 h3 h4 h5
  have h5' : (c == 95) = a5 := by rw [← h5]; rfl
  cases a1 <;> cases a2 <;> cases a3 <;> cases a4 <;> cases a5
  all_goals simp only [decide_eq_true_eq,decide_eq_false_iff_not] at h1 h2 h3 h4
  all_goals clear h5
  all_goals go_enter Tryz.func73,Tryz.ntmps73
  all_goals go_wp2
  all_goals go_ret
  all_goals exact ⟨rfl,rfl⟩
 exact key _ _ _ _ _ rfl rfl rfl rfl rfl
def runL (h : Bool) (l : List UInt8) : Nat := (l.takeWhile fun b => ltI b.toNat || dgI b.toNat || h && decide ((b.toNat : Int) = 35)).length
theorem runL_step {h : Bool} {s : ByteArray} {i : Nat} (hi : i < s.size) (hc : (ltI (s[i]'hi).toNat || dgI (s[i]'hi).toNat || h && decide (((s[i]'hi).toNat : Int) = 35)) = true) : runL h (s.data.toList.drop i) = runL h (s.data.toList.drop (i + 1)) + 1 := by
 have e : s.data.toList.drop i = (s[i]'hi) :: s.data.toList.drop (i + 1) := by
  rw [List.drop_eq_getElem_cons (by simpa using hi)]; rfl
 rw [e,runL,List.takeWhile_cons,if_pos hc]; rfl
theorem runL_stop {h : Bool} {s : ByteArray} {i : Nat} (hi : i < s.size) (hc : (ltI (s[i]'hi).toNat || dgI (s[i]'hi).toNat || h && decide (((s[i]'hi).toNat : Int) = 35)) = false) : runL h (s.data.toList.drop i) = 0 := by
 have e : s.data.toList.drop i = (s[i]'hi) :: s.data.toList.drop (i + 1) := by
  rw [List.drop_eq_getElem_cons (by simpa using hi)]; rfl
 rw [e,runL,List.takeWhile_cons,if_neg (by rw [hc]; decide)]; rfl
set_option maxHeartbeats 2000000 in
theorem run_any (s : ByteArray) (at0 : Nat) (h : Bool) (w : World) (hsz : s.size ≤ 60000) (hat : at0 ≤ s.size) :
 Calls Tryz.prog 143 #[.string s,.int .i64 at0,.bool h] w fun e w' => e = .returned (.int .i64 ((at0 + runL h (s.data.toList.drop at0) : Nat) : Int)) ∧ w' = w := by
 obtain ⟨Z,hZ⟩ : ∃ Z : Nat,at0 + runL h (s.data.toList.drop at0) = Z := ⟨_,rfl⟩
 rw [hZ]
 have HZ := hidI hZ
 clear hZ
 go_enter Tryz.func143,Tryz.ntmps143
 go_wp2_with fail
 go_loopg [1] (s.size + 1 - at0) (fun gk s1 wx => ∃ pos : Nat,s1 = .int .i64 (pos : Int) ∧ wx = w ∧ Hid (pos ≤ s.size ∧ gk = s.size + 1 - pos ∧ pos + runL h (s.data.toList.drop pos) = Z))
 case atStart => exact ⟨at0,rfl,rfl,hidI ⟨hat,rfl,HZ.out⟩⟩
 case round =>
  obtain ⟨pos,rfl,rfl,HH⟩ := hrel
  obtain ⟨hp,hgk,hr⟩ := HH.out
  have HR := hidI hr
  clear hr HH
  by_cases hlt : pos < s.size
  rotate_left
  · have hi : ¬ ((pos : Int) < (s.size : Int)) := by omega
    have e : (s.data.toList.drop pos) = [] := List.drop_eq_nil_of_le (by show s.data.size ≤ pos; have : s.data.size = s.size := rfl; omega)
    have hq : pos = Z := by have := HR.out; rw [e] at this; simpa [runL] using this
    subst hq
    clear e HR HZ
    go_wp2_with fail
    go_ret
    exact ⟨rfl,rfl⟩
  have hi : ((pos : Int) < (s.size : Int)) := by omega
  have hst := fun hc => runL_step (h := h) hlt hc
  have hsp := fun hc => runL_stop (h := h) hlt hc
  obtain ⟨L,hL⟩ : ∃ L,ltI ((s[pos]'hlt).toNat : Int) = L := ⟨_,rfl⟩
  obtain ⟨G,hG⟩ : ∃ G,dgI ((s[pos]'hlt).toNat : Int) = G := ⟨_,rfl⟩
  obtain ⟨T,hT⟩ : ∃ T,decide (((s[pos]'hlt).toNat : Int) = 35) = T := ⟨_,rfl⟩
  rw [hL,hG,hT] at hst hsp
  have cL : ∀ W,Calls Tryz.prog 73 #[.int .u8 ((s[pos]'hlt).toNat : Int)] W fun e w' => e = .returned (.bool L) ∧ w' = W := fun W => hL ▸ letter_any _ W
  have cG : ∀ W,Calls Tryz.prog 72 #[.int .u8 ((s[pos]'hlt).toNat : Int)] W fun e w' => e = .returned (.bool G) ∧ w' = W := fun W => hG ▸ digit_any _ W
  have hT' : (((s[pos]'hlt).toNat : Int) == 35) = T := by rw [← hT]; rfl
  have hw : IntKind.i64.wrap ((pos : Int) + 1) = pos + 1 := IntWalk.i64_in _ (by omega)
  have HST := hidI hst
  have HSP := hidI hsp
  clear hL hG hT hst hsp
  cases L with
  | true =>
   have hs := HST.out (by simp)
   go_wp2_with (first | (go_at_call 73; go_must (refine (cL _).mono ?_; rintro e w' ⟨rfl,rfl⟩)) | (go_at_call 72; go_must (refine (cG _).mono ?_; rintro e w' ⟨rfl,rfl⟩)))
   go_roundg (s.size + 1 - (pos + 1))
   case measure => omega
   case rel => exact ⟨pos + 1,by simp,rfl,hidI ⟨by omega,rfl,by have := HR.out; omega⟩⟩
  | false =>
   cases G with
   | true =>
    have hs := HST.out (by simp)
    go_wp2_with (first | (go_at_call 73; go_must (refine (cL _).mono ?_; rintro e w' ⟨rfl,rfl⟩)) | (go_at_call 72; go_must (refine (cG _).mono ?_; rintro e w' ⟨rfl,rfl⟩)))
    go_roundg (s.size + 1 - (pos + 1))
    case measure => omega
    case rel => exact ⟨pos + 1,by simp,rfl,hidI ⟨by omega,rfl,by have := HR.out; omega⟩⟩
   | false =>
    cases h with
    | false =>
     have hs := HSP.out (by simp)
     have hq : pos = Z := by have := HR.out; omega
     subst hq
     go_wp2_with (first | (go_at_call 73; go_must (refine (cL _).mono ?_; rintro e w' ⟨rfl,rfl⟩)) | (go_at_call 72; go_must (refine (cG _).mono ?_; rintro e w' ⟨rfl,rfl⟩)))
     go_ret
     exact ⟨rfl,rfl⟩
    | true =>
     cases T with
     | true =>
      have hs := HST.out (by simp)
      go_wp2_with (first | (go_at_call 73; go_must (refine (cL _).mono ?_; rintro e w' ⟨rfl,rfl⟩)) | (go_at_call 72; go_must (refine (cG _).mono ?_; rintro e w' ⟨rfl,rfl⟩)))
      go_roundg (s.size + 1 - (pos + 1))
      case measure => omega
      case rel => exact ⟨pos + 1,by simp,rfl,hidI ⟨by omega,rfl,by have := HR.out; omega⟩⟩
     | false =>
      have hs := HSP.out (by simp)
      have hq : pos = Z := by have := HR.out; omega
      subst hq
      go_wp2_with (first | (go_at_call 73; go_must (refine (cL _).mono ?_; rintro e w' ⟨rfl,rfl⟩)) | (go_at_call 72; go_must (refine (cG _).mono ?_; rintro e w' ⟨rfl,rfl⟩)))
      go_ret
      exact ⟨rfl,rfl⟩
end Go.Proofs.YtdcoidmbainkmaaGreatDoor

namespace Go.Proofs.YtdcoidmbainkmaaGreatDoor
open Go.RowKit
attribute [local go_sem ↓] Go.wp_at_zero Go.wp_at_succ
set_option linter.unusedVariables false
set_option linter.unusedSimpArgs false
def skL (l : List UInt8) : Nat → Nat → Nat × Bool
 | 0,i => (i,false)
 | n + 1,i => match l[i]? with
  | none => (i,false)
  | some b => if blI b.toNat = true then skL l n (i + 1)
   else if Lib.hasPrefix (l.drop i) [40,42] = true then (if Lib.index (l.drop (i + 2)) [42,41] < 0 then (i,true) else skL l n (i + 2 + (Lib.index (l.drop (i + 2)) [42,41]).toNat + 2))
   else if Lib.hasPrefix (l.drop i) [47,47] = true then (if Lib.indexAny (l.drop i) [10,13] < 0 then (l.length,false) else skL l n (i + (Lib.indexAny (l.drop i) [10,13]).toNat))
   else (i,false)
theorem sk_s (l : List UInt8) (n i : Nat) : skL l (n + 1) i = (match l[i]? with
 | none => (i,false)
 | some b => if blI b.toNat = true then skL l n (i + 1)
  else if Lib.hasPrefix (l.drop i) [40,42] = true then (if Lib.index (l.drop (i + 2)) [42,41] < 0 then (i,true) else skL l n (i + 2 + (Lib.index (l.drop (i + 2)) [42,41]).toNat + 2))
  else if Lib.hasPrefix (l.drop i) [47,47] = true then (if Lib.indexAny (l.drop i) [10,13] < 0 then (l.length,false) else skL l n (i + (Lib.indexAny (l.drop i) [10,13]).toNat))
  else (i,false)) := rfl
theorem any_pos {l : List UInt8} (h : Lib.hasPrefix l [47,47] = true) (h0 : ¬ Lib.indexAny l [10,13] < 0) : 1 ≤ Lib.indexAny l [10,13] := by
 cases l with
 | nil => simp [Lib.hasPrefix] at h
 | cons b l =>
  have hb : b = 47 := by
   simp [Lib.hasPrefix,List.isPrefixOf] at h
   exact h.1.symm
  subst hb
  have := Lib.indexAny_ge [10,13] l
  unfold Lib.indexAny at h0 ⊢
  rw [if_neg (by decide)] at h0 ⊢
  split at h0
  · simp at h0
  · rename_i h1
    rw [if_neg h1]
    have h2 : Lib.indexAny l [10,13] ≠ -1 := by simpa using h1
    omega
theorem sk_fuel (l : List UInt8) : ∀ (n i : Nat),l.length + 1 ≤ n + i → skL l (n + 1) i = skL l n i := by
 intro n
 induction n with
 | zero =>
  intro i h
  have e : l[i]? = none := List.getElem?_eq_none (by omega)
  rw [sk_s,e]; rfl
 | succ n ih =>
  intro i h
  rw [sk_s l (n + 1) i,sk_s l n i]
  cases hb : l[i]? with
  | none => rfl
  | some b =>
   simp only
   split
   · exact ih (i + 1) (by omega)
   split
   · split
     · rfl
     · exact ih _ (by omega)
   split
   · rename_i hp
     split
     · rfl
     · rename_i h0
       have := any_pos hp h0
       exact ih _ (by omega)
   rfl
theorem sk_more (l : List UInt8) (k : Nat) : ∀ (n i : Nat),l.length + 1 ≤ n + i → skL l (n + k) i = skL l n i := by
 induction k with
 | zero => intro n i _; rfl
 | succ k ih => intro n i h; rw [← Nat.add_assoc,sk_fuel l (n + k) i (by omega)]; exact ih n i h
def IxA (V : World) : Prop := ∀ (t : ByteArray) (W : World),t.size ≤ 60000 → Vs V W → 15 ≤ W.heap.size → Calls Tryz.prog 142 #[.string t,.string ⟨#[10,13]⟩] W fun e w' => e = .returned (.int .i64 (Lib.indexAny t.data.toList [10,13])) ∧ W.grownBy w' none
theorem ext_list (s : ByteArray) (a : Nat) : (s.extract a s.size).data.toList = s.data.toList.drop a := by
 rw [ByteArray.data_extract,Array.toList_extract,List.extract]
 rw [List.take_of_length_le]
 simp
theorem Vs.cell {V w : World} (h : Vs V w) {b k : Nat} {v : Value} (hb : b < 15) (hv : V.cell? ⟨b,k,none⟩ = some v) : w.cell? ⟨b,k,none⟩ = some v := by
 rw [← hv]; exact World.cell?_of_block (h b hb)
theorem any_room : ∀ (l : List UInt8),Lib.indexAny l [10,13] ≤ l.length
 | [] => by simp [Lib.indexAny]
 | b :: l => by
  have ih := any_room l
  unfold Lib.indexAny
  split
  · simp; omega
  · split
    · simp; omega
    · simp; omega
def SkL (V : World) (s : ByteArray) (w : World) (r : Nat × Bool) (gk : Nat) (s1 : Value) (wx : World) : Prop := ∃ pos : Nat,s1 = .int .i64 (pos : Int) ∧ Hid (w.grownBy wx none ∧ pos ≤ s.size ∧ gk = s.size + 1 - pos ∧ skL s.data.toList (s.size + 1 - pos) pos = r)
set_option maxHeartbeats 4000000 in
theorem skip_any {V : World} (hIA : IxA V) (m : Int) (hM : V.cell? ⟨6,0,none⟩ = some (.int .i64 m)) (s : ByteArray) (at0 : Nat) (w : World) (hV : Vs V w) (hs : 15 ≤ w.heap.size) (hsz : s.size ≤ 60000) (hat : at0 ≤ s.size) :
 Calls Tryz.prog 102 #[.string s,.int .i64 at0] w fun e w' => e = .returned (.tuple #[.int .i64 ((skL s.data.toList (s.size + 1 - at0) at0).1 : Int),.bool (skL s.data.toList (s.size + 1 - at0) at0).2]) ∧ w.grownBy w' none := by
 obtain ⟨r,hr⟩ : ∃ r,skL s.data.toList (s.size + 1 - at0) at0 = r := ⟨_,rfl⟩
 rw [hr]
 have LS : Hid (SkL V s w r (s.size + 1 - at0) (.int .i64 (at0 : Int)) w) := ⟨at0,rfl,hidI ⟨World.grownBy.refl _ _,hat,rfl,hr⟩⟩
 have HIA := hidI hIA
 have HM := hidI hM
 have HV := hidI hV
 have HS := hidI hs
 clear hIA hM hV hr
 go_enter Tryz.func102,Tryz.ntmps102
 go_wp2_with fail
 go_loopg [1] (s.size + 1 - at0) (fun gk s1 wx => SkL V s w r gk s1 wx)
 case atStart => exact LS.out
 case round =>
  obtain ⟨pos,rfl,HH⟩ := hrel
  obtain ⟨hg,hp,hgk,hr⟩ := HH.out
  have HG := hidI hg
  have HGK := hidI hgk
  have VV := hidI (HV.out.kept hg HS.out (by simp))
  have SZ : Hid (15 ≤ wr.heap.size) := by have := hg.size; have := HS.out; show _ ≤ _; omega
  clear HH hg hgk
  by_cases hlt : pos < s.size
  rotate_left
  · have hi : ¬ ((pos : Int) < (s.size : Int)) := by omega
    have e : pos = s.size := by omega
    subst e
    have hr2 : r = (s.size,false) := by
     rw [← hr,show s.size + 1 - s.size = 0 + 1 by omega,sk_s,List.getElem?_eq_none (by show s.data.size ≤ s.size; exact Nat.le_refl _)]
    subst hr2
    clear hr
    go_wp2_with fail
    go_ret2
    exact ⟨rfl,HG.out⟩
  have hi : ((pos : Int) < (s.size : Int)) := by omega
  have hb : s.data.toList[pos]? = some (s[pos]'hlt) := by rw [List.getElem?_eq_getElem (by show pos < s.data.size; exact hlt)]; rfl
  rw [show s.size + 1 - pos = (s.size - pos) + 1 by omega,sk_s,hb] at hr
  simp only at hr
  have HR := hidI hr
  clear hr hb
  have hw : IntKind.i64.wrap ((pos : Int) + 1) = pos + 1 := IntWalk.i64_in _ (by omega)
  cases hB : blI ((s[pos]'hlt).toNat : Int) with
  | true =>
   have cB : ∀ W,Calls Tryz.prog 140 #[.int .u8 ((s[pos]'hlt).toNat : Int)] W fun e w' => e = .returned (.bool true) ∧ w' = W := fun W => hB ▸ blank_any _ W
   have hq := HR.out
   rw [if_pos hB] at hq
   have HQ := hidI hq
   clear hq hB
   go_wp2_with (go_at_call 140; go_must (refine (cB _).mono ?_; rintro e w' ⟨rfl,rfl⟩))
   have hgl := HGK.out
   go_roundg (s.size + 1 - (pos + 1))
   case measure => omega
   case rel => exact ⟨pos + 1,by simp,hidI ⟨HG.out,by omega,rfl,by rw [show s.size + 1 - (pos + 1) = s.size - pos by omega]; exact HQ.out⟩⟩
  | false =>
   have cB : ∀ W,Calls Tryz.prog 140 #[.int .u8 ((s[pos]'hlt).toNat : Int)] W fun e w' => e = .returned (.bool false) ∧ w' = W := fun W => hB ▸ blank_any _ W
   have hq := HR.out
   rw [if_neg (by rw [hB]; decide)] at hq
   have HQ := hidI hq
   clear hq hB HR
   have eL : (s.extract pos s.size).data.toList = s.data.toList.drop pos := ext_list s pos
   have hlen : s.data.toList.length = s.size := rfl
   have cH : ∀ (p : ByteArray) W,Calls Tryz.prog 138 #[.string (s.extract pos s.size),.string p] W fun e w' => e = .returned (.bool (Lib.hasPrefix (s.data.toList.drop pos) p.data.toList)) ∧ w' = W := fun p W => by
    have h := Tryz.strings_HasPrefix (s.extract pos s.size) p W
    rw [eL] at h
    exact h
   cases hP : Lib.hasPrefix (s.data.toList.drop pos) [40,42] with
   | true =>
    have c1 : ∀ W,Calls Tryz.prog 138 #[.string (s.extract pos s.size),.string ⟨#[40,42]⟩] W fun e w' => e = .returned (.bool true) ∧ w' = W := fun W => by
     have h := Tryz.strings_HasPrefix (s.extract pos s.size) ⟨#[40,42]⟩ W
     rw [eL,show (⟨#[40,42]⟩ : ByteArray).data.toList = [40,42] from rfl,hP] at h
     exact h
    have hp2 : pos + 2 ≤ s.size := by
     have h := List.IsPrefix.length_le (List.isPrefixOf_iff_prefix.1 hP)
     simp at h
     omega
    have hq := HQ.out
    rw [if_pos hP] at hq
    obtain ⟨I,hI⟩ : ∃ I,Lib.index (s.data.toList.drop (pos + 2)) [42,41] = I := ⟨_,rfl⟩
    have c2 : Calls Tryz.prog 141 #[.string (s.extract (pos + 2) s.size),.string ⟨#[42,41]⟩] wr fun e w' => e = .returned (.int .i64 I) ∧ w' = wr := by
     have h := Tryz.strings_Index (s.extract (pos + 2) s.size) ⟨#[42,41]⟩ m wr (by rw [ByteArray.size_extract]; omega) (VV.out.cell (by omega) HM.out)
     rw [ext_list s (pos + 2),show (⟨#[42,41]⟩ : ByteArray).data.toList = [42,41] from rfl,hI] at h
     exact h
    have hge := Lib.index_ge (s.data.toList.drop (pos + 2)) [42,41]
    have hroom := Lib.index_room (s.data.toList.drop (pos + 2)) [42,41]
    rw [hI] at hq hge hroom
    simp only [List.length_drop,hlen,List.length_cons,List.length_nil] at hroom
    have hw2 : IntKind.i64.wrap ((pos : Int) + 2) = ((pos + 2 : Nat) : Int) := by rw [IntWalk.i64_in _ (by omega)]; push_cast; rfl
    have HQ2 := hidI hq
    clear hq HQ hP hI
    by_cases hI0 : I < 0
    · have hr2 := HQ2.out
      rw [if_pos hI0] at hr2
      subst hr2
      clear HQ2
      go_wp2_with (first | (go_at_call 140; go_must (refine (cB _).mono ?_; rintro e w' ⟨rfl,rfl⟩)) | (go_at_call 138; go_must (refine (c1 _).mono ?_; rintro e w' ⟨rfl,rfl⟩)) | (go_at_call 141; go_must (refine c2.mono ?_; rintro e w' ⟨rfl,rfl⟩)))
      go_ret2
      exact ⟨rfl,HG.out⟩
    · have hr2 := HQ2.out
      rw [if_neg hI0] at hr2
      have HR2 := hidI hr2
      clear HQ2 hr2
      have hw3 : IntKind.i64.wrap (((pos + 2 : Nat) : Int) + I) = ((pos + 2 : Nat) : Int) + I := IntWalk.i64_in _ (by omega)
      have hw4 : IntKind.i64.wrap (((pos + 2 : Nat) : Int) + I + 2) = ((pos + 2 : Nat) : Int) + I + 2 := IntWalk.i64_in _ (by omega)
      go_wp2_with (first | (go_at_call 140; go_must (refine (cB _).mono ?_; rintro e w' ⟨rfl,rfl⟩)) | (go_at_call 138; go_must (refine (c1 _).mono ?_; rintro e w' ⟨rfl,rfl⟩)) | (go_at_call 141; go_must (refine c2.mono ?_; rintro e w' ⟨rfl,rfl⟩)))
      have hgl := HGK.out
      go_roundg (s.size + 1 - (pos + 2 + I.toNat + 2))
      case measure => omega
      case rel =>
       refine ⟨pos + 2 + I.toNat + 2,?_,hidI ⟨HG.out,by omega,rfl,?_⟩⟩
       · congr 1; push_cast; omega
       · have h := HR2.out
         rw [← h]
         have e := sk_more s.data.toList (I.toNat + 3) (s.size + 1 - (pos + 2 + I.toNat + 2)) (pos + 2 + I.toNat + 2) (by rw [hlen]; omega)
         rw [← e]; congr 1; omega
   | false =>
    have hA1 : Lib.hasPrefix (s.data.toList.drop pos) (⟨#[40,42]⟩ : ByteArray).data.toList = false := hP
    have hq := HQ.out
    rw [if_neg (by rw [hP]; decide)] at hq
    have HQ2 := hidI hq
    clear hq HQ hP
    cases hP : Lib.hasPrefix (s.data.toList.drop pos) [47,47] with
    | false =>
     have hA2 : Lib.hasPrefix (s.data.toList.drop pos) (⟨#[47,47]⟩ : ByteArray).data.toList = false := hP
     have hr2 := HQ2.out
     rw [if_neg (by rw [hP]; decide)] at hr2
     subst hr2
     clear HQ2 hP
     go_wp2_with (first | (go_at_call 140; go_must (refine (cB _).mono ?_; rintro e w' ⟨rfl,rfl⟩)) | (go_at_call 138; go_must (refine (cH _ _).mono ?_; rintro e w' ⟨rfl,rfl⟩; first | rw [hA1] | rw [hA2])))
     go_ret2
     exact ⟨rfl,HG.out⟩
    | true =>
     have hA2 : Lib.hasPrefix (s.data.toList.drop pos) (⟨#[47,47]⟩ : ByteArray).data.toList = true := hP
     have hq := HQ2.out
     rw [if_pos hP] at hq
     obtain ⟨I,hI⟩ : ∃ I,Lib.indexAny (s.data.toList.drop pos) [10,13] = I := ⟨_,rfl⟩
     have c3 := HIA.out (s.extract pos s.size) wr (by rw [ByteArray.size_extract]; omega) VV.out SZ.out
     rw [eL,hI] at c3
     have hge := Lib.indexAny_ge [10,13] (s.data.toList.drop pos)
     have hroom := any_room (s.data.toList.drop pos)
     have hpos := any_pos hP
     rw [hI] at hq hge hroom hpos
     simp only [List.length_drop,hlen] at hroom
     have HQ3 := hidI hq
     clear hq HQ2 hP hI
     by_cases hI0 : I < 0
     · have hr2 := HQ3.out
       rw [if_pos hI0,hlen] at hr2
       subst hr2
       clear HQ3
       go_wp2_with (first | (go_at_call 140; go_must (refine (cB _).mono ?_; rintro e w' ⟨rfl,rfl⟩)) | (go_at_call 138; go_must (refine (cH _ _).mono ?_; rintro e w' ⟨rfl,rfl⟩; first | rw [hA1] | rw [hA2])) | (go_at_call 142; go_must (refine c3.mono ?_; rintro e w3 ⟨rfl,g3⟩)))
       go_ret2
       exact ⟨rfl,gtn HG.out g3⟩
     · have hr2 := HQ3.out
       rw [if_neg hI0] at hr2
       have HR2 := hidI hr2
       clear HQ3 hr2
       have hp1 := hpos hI0
       have hw3 : IntKind.i64.wrap ((pos : Int) + I) = (pos : Int) + I := IntWalk.i64_in _ (by omega)
       go_wp2_with (first | (go_at_call 140; go_must (refine (cB _).mono ?_; rintro e w' ⟨rfl,rfl⟩)) | (go_at_call 138; go_must (refine (cH _ _).mono ?_; rintro e w' ⟨rfl,rfl⟩; first | rw [hA1] | rw [hA2])) | (go_at_call 142; go_must (refine c3.mono ?_; rintro e w3 ⟨rfl,g3⟩)))
       have hgl := HGK.out
       go_roundg (s.size + 1 - (pos + I.toNat))
       case measure => omega
       case rel =>
        refine ⟨pos + I.toNat,?_,hidI ⟨gtn HG.out g3,by omega,rfl,?_⟩⟩
        · congr 1; push_cast; omega
        · have h := HR2.out
          rw [← h]
          have e := sk_more s.data.toList (I.toNat - 1) (s.size + 1 - (pos + I.toNat)) (pos + I.toNat) (by rw [hlen]; omega)
          rw [← e]; congr 1; omega
end Go.Proofs.YtdcoidmbainkmaaGreatDoor
