/- Texts put together: Yf, Yg, Yh, Yi, Yj. -/
import Derived.Test.YtdcoidmbainkmaaGreatDoorQ33
import Derived.Test.YtdcoidmbainkmaaGreatDoorQ32
import Derived.Test.YtdcoidmbainkmaaGreatDoorQ01
namespace Go.Proofs.YtdcoidmbainkmaaGreatDoor
open Go.RowKit
attribute [local go_sem ↓] Go.wp_at_zero Go.wp_at_succ
set_option linter.unusedVariables false
set_option linter.unusedSimpArgs false
def wordX (l : List UInt8) (i : Nat) : ByteArray := ⟨(Lib.toLowerA ((l.drop i).take (runL false (l.drop i)))).toArray⟩
def wordT (l : List UInt8) (i : Nat) : Tok :=
 let k := runL false (l.drop i)
 let x := wordX l i
 if ((x.toList == [116]) || (x.toList == [116,105,109,101])) && Lib.hasPrefix (l.drop (i + k)) [35] then spanT l i
 else if 24 < x.size then ⟨0,x,0,i,(i + k : Nat),2⟩ else if resL x.toList then ⟨3,x,0,i,(i + k : Nat),0⟩ else ⟨2,x,0,i,(i + k : Nat),0⟩
theorem mem_tw (p : UInt8 → Bool) : ∀ (l : List UInt8),∀ b ∈ l.takeWhile p,p b = true
 | [],b,hb => by simp at hb
 | x :: l,b,hb => by
  rw [List.takeWhile_cons] at hb
  split at hb
  · rename_i h
    rcases List.mem_cons.1 hb with rfl | hb
    · exact h
    · exact mem_tw p l b hb
  · simp at hb
theorem run_ascii (h : Bool) (l : List UInt8) : ∀ b ∈ l.take (runL h l),b.toNat < 128 := by
 intro b hb
 have e : l.take (runL h l) = l.takeWhile fun b => ltI b.toNat || dgI b.toNat || h && decide ((b.toNat : Int) = 35) := by
  rw [runL]; exact (List.prefix_iff_eq_take.1 (List.takeWhile_prefix _)).symm
 rw [e] at hb
 have := mem_tw _ _ b hb
 simp [ltI,dgI] at this
 omega
set_option maxRecDepth 10000 in
set_option maxHeartbeats 8000000 in
theorem word_any {V : World} (s : ByteArray) (i : Nat) (w : World) (hV : Vs V w) (hs : 15 ≤ w.heap.size) (hT : ∀ W,Vs V W → Lib.Utf8Tabs 7 8 W) (hsz : s.size ≤ 60000) (hi : i ≤ s.size) :
 Calls Tryz.prog 104 #[.string s,.int .i64 i] w fun e w' => e = .returned (tokV (wordT s.data.toList i)) ∧ w.grownBy w' none := by
 have hlen : s.data.toList.length = s.size := rfl
 obtain ⟨k,hk⟩ : ∃ k,runL false (s.data.toList.drop i) = k := ⟨_,rfl⟩
 have hkl : i + k ≤ s.size := by have := runL_le false (s.data.toList.drop i); rw [hk] at this; simp at this; omega
 have hasc := run_ascii false (s.data.toList.drop i)
 obtain ⟨E,hE⟩ : ∃ E,i + k = E := ⟨_,rfl⟩
 have c1 : ∀ W,Calls Tryz.prog 143 #[.string s,.int .i64 i,.bool false] W fun e w' => e = .returned (.int .i64 (E : Int)) ∧ w' = W := fun W => by
  have h := run_any s i false W hsz hi
  rw [hk,hE] at h
  exact h
 obtain ⟨x,hx⟩ : ∃ x,wordX s.data.toList i = x := ⟨_,rfl⟩
 have hxe : (⟨(Lib.toLowerA ((s.data.toList.drop i).take k)).toArray⟩ : ByteArray) = x := by rw [← hx,wordX,hk]
 have hxs : x.size ≤ 60000 := by
  rw [← hxe]
  show (Lib.toLowerA ((s.data.toList.drop i).take k)).toArray.size ≤ 60000
  simp [Lib.toLowerA]
  omega
 have c2 : ∀ W,Calls Tryz.prog 147 #[.string (s.extract i E)] W fun e w' => e = .returned (.string x) ∧ Below W.heap.size W w' := fun W => by
  have h := Tryz.strings_ToLower_ascii (s.extract i E) W (by rw [ByteArray.size_extract]; omega) (by
   rw [← hE,ext_two]
   intro j b hb
   rw [hk] at hasc
   exact hasc b (List.mem_of_getElem? hb))
  rw [← hE,ext_two,hxe] at h
  rw [← hE]
  exact h
 have c3 := fun W => clone_any x W hxs
 have c4 := fun W => res_any x W
 have c5 : ∀ (p : ByteArray) W,Calls Tryz.prog 138 #[.string (s.extract E s.size),.string p] W fun e w' => e = .returned (.bool (Lib.hasPrefix (s.data.toList.drop E) p.data.toList)) ∧ w' = W := fun p W => by
  have h := Tryz.strings_HasPrefix (s.extract E s.size) p W
  rw [ext_list] at h
  exact h
 have c6 := fun W hW h15 => span_any (V := V) s i W hW h15 hT hsz hi
 have hW : Hid (wordT s.data.toList i = if ((x.toList == [116]) || (x.toList == [116,105,109,101])) && Lib.hasPrefix (s.data.toList.drop E) [35] then spanT s.data.toList i
  else if 24 < x.size then ⟨0,x,0,i,E,2⟩ else if resL x.toList then ⟨3,x,0,i,E,0⟩ else ⟨2,x,0,i,E,0⟩) := by
  show _ = _
  simp only [wordT,hk,hx,hE]
 have HV := hidI hV
 have HS := hidI hs
 have hki : ((i : Int) ≤ (E : Int)) := by omega
 have hks : ((E : Int) ≤ (s.size : Int)) := by omega
 generalize spanT s.data.toList i = TS at c6 hW
 generalize wordT s.data.toList i = TW at hW ⊢
 clear hk hx hE hxe hasc hT hV hkl
 obtain ⟨ts1,ts2,ts3,ts4,ts5,ts6⟩ := TS
 go_enter Tryz.func104,Tryz.ntmps104
 go_wp2_with (first | (go_at_call 143; go_must (refine (c1 _).mono ?_; rintro e w' ⟨rfl,rfl⟩)))
 refine (c2 _).mono ?_
 rintro e w1 ⟨rfl,hb⟩
 have X1 := hidI (kept (bel_gr hb) (new w (.cells #[.int .i64 0,.string ⟨#[]⟩,.int .i64 0,.int .i64 0,.int .i64 0,.int .i64 0] 73)))
 have G1 := hidI (gtn (gr1 _ _) (bel_gr hb))
 clear hb
 go_wp2_with fail
 refine (c3 _).mono ?_
 rintro e w2 ⟨rfl,g2⟩
 have X2 := hidI (kept g2 X1.out)
 have G2 := hidI (gtn G1.out g2)
 have S2 : Hid (w.heap.size + 1 ≤ w2.heap.size) := by have := at_lt X2.out; show _ ≤ _; omega
 clear g2 X1 G1
 obtain ⟨xp,xq,xr,xf,xg,xh⟩ := facts X2.out
 cases h1 : (x.toList == [116]) with
 | true =>
  cases hP0 : Lib.hasPrefix (s.data.toList.drop E) [35] with
  | true =>
   have hP : Lib.hasPrefix (s.data.toList.drop E) (⟨#[35]⟩ : ByteArray).data.toList = true := hP0
   have hw := hW.out
   rw [if_pos (by simp [h1,hP0])] at hw
   subst hw
   go_wp2_with (first | (go_at_call 138; go_must (refine (c5 _ _).mono ?_; rintro e w' ⟨rfl,rfl⟩; rw [hP])))
   refine (c6 _ (HV.out.kept (gr_alloc G2.out _) HS.out (by simp)) (by have := S2.out; have := HS.out; simp; omega)).mono ?_
   rintro e w3 ⟨rfl,g3⟩
   have X3 := hidI (kept g3 (old X2.out _))
   obtain ⟨ap,aq,ar,af,ag,ah⟩ := facts X3.out
   go_wp2_with fail
   exact bodyPost_ret (resBox rfl _ _ w.heap.size _ rfl (ld73 (box6 X3.out))) rfl ⟨rfl,gr6n (gtn (gr_alloc G2.out _) g3) (Nat.le_refl _)⟩
  | false =>
   have hP : Lib.hasPrefix (s.data.toList.drop E) (⟨#[35]⟩ : ByteArray).data.toList = false := hP0
   have hw := hW.out
   rw [if_neg (by simp [h1,hP0])] at hw
   by_cases hL : 24 < x.size
   · rw [if_pos hL] at hw
     subst hw
     have hL2 : ((24 : Int) < (x.size : Int)) := by omega
     go_wp2_with (first | (go_at_call 138; go_must (refine (c5 _ _).mono ?_; rintro e w' ⟨rfl,rfl⟩; rw [hP])))
     exact bodyPost_ret (resBox rfl _ _ w.heap.size _ rfl (ld73 (box6 (old X2.out _)))) rfl ⟨rfl,gr6n (gr_alloc G2.out _) (Nat.le_refl _)⟩
   rw [if_neg hL] at hw
   have hL2 : ¬ ((24 : Int) < (x.size : Int)) := by omega
   cases hR : resL x.toList with
   | true =>
    rw [hR] at hw
    simp only [if_true,Bool.false_eq_true,if_false] at hw
    subst hw
    go_wp2_with (first | (go_at_call 138; go_must (refine (c5 _ _).mono ?_; rintro e w' ⟨rfl,rfl⟩; rw [hP])) | (go_at_call 49; go_must (refine (c4 _).mono ?_; rintro e w' ⟨rfl,rfl⟩; rw [hR])))
    exact bodyPost_ret (resBox rfl _ _ w.heap.size _ rfl (ld73 (box6 (old X2.out _)))) rfl ⟨rfl,gr6n (gr_alloc G2.out _) (Nat.le_refl _)⟩
   | false =>
    rw [hR] at hw
    simp only [if_true,Bool.false_eq_true,if_false] at hw
    subst hw
    go_wp2_with (first | (go_at_call 138; go_must (refine (c5 _ _).mono ?_; rintro e w' ⟨rfl,rfl⟩; rw [hP])) | (go_at_call 49; go_must (refine (c4 _).mono ?_; rintro e w' ⟨rfl,rfl⟩; rw [hR])))
    exact bodyPost_ret (resBox rfl _ _ w.heap.size _ rfl (ld73 (box6 (old X2.out _)))) rfl ⟨rfl,gr6n (gr_alloc G2.out _) (Nat.le_refl _)⟩
 | false =>
  cases h2 : (x.toList == [116,105,109,101]) with
  | true =>
   cases hP0 : Lib.hasPrefix (s.data.toList.drop E) [35] with
   | true =>
    have hP : Lib.hasPrefix (s.data.toList.drop E) (⟨#[35]⟩ : ByteArray).data.toList = true := hP0
    have hw := hW.out
    rw [if_pos (by simp [h1,h2,hP0])] at hw
    subst hw
    go_wp2_with (first | (go_at_call 138; go_must (refine (c5 _ _).mono ?_; rintro e w' ⟨rfl,rfl⟩; rw [hP])))
    refine (c6 _ (HV.out.kept (gr_alloc G2.out _) HS.out (by simp)) (by have := S2.out; have := HS.out; simp; omega)).mono ?_
    rintro e w3 ⟨rfl,g3⟩
    have X3 := hidI (kept g3 (old X2.out _))
    obtain ⟨ap,aq,ar,af,ag,ah⟩ := facts X3.out
    go_wp2_with fail
    exact bodyPost_ret (resBox rfl _ _ w.heap.size _ rfl (ld73 (box6 X3.out))) rfl ⟨rfl,gr6n (gtn (gr_alloc G2.out _) g3) (Nat.le_refl _)⟩
   | false =>
    have hP : Lib.hasPrefix (s.data.toList.drop E) (⟨#[35]⟩ : ByteArray).data.toList = false := hP0
    have hw := hW.out
    rw [if_neg (by simp [h1,h2,hP0])] at hw
    by_cases hL : 24 < x.size
    · rw [if_pos hL] at hw
      subst hw
      have hL2 : ((24 : Int) < (x.size : Int)) := by omega
      go_wp2_with (first | (go_at_call 138; go_must (refine (c5 _ _).mono ?_; rintro e w' ⟨rfl,rfl⟩; rw [hP])))
      exact bodyPost_ret (resBox rfl _ _ w.heap.size _ rfl (ld73 (box6 (old X2.out _)))) rfl ⟨rfl,gr6n (gr_alloc G2.out _) (Nat.le_refl _)⟩
    rw [if_neg hL] at hw
    have hL2 : ¬ ((24 : Int) < (x.size : Int)) := by omega
    cases hR : resL x.toList with
    | true =>
     rw [hR] at hw
     simp only [if_true,Bool.false_eq_true,if_false] at hw
     subst hw
     go_wp2_with (first | (go_at_call 138; go_must (refine (c5 _ _).mono ?_; rintro e w' ⟨rfl,rfl⟩; rw [hP])) | (go_at_call 49; go_must (refine (c4 _).mono ?_; rintro e w' ⟨rfl,rfl⟩; rw [hR])))
     exact bodyPost_ret (resBox rfl _ _ w.heap.size _ rfl (ld73 (box6 (old X2.out _)))) rfl ⟨rfl,gr6n (gr_alloc G2.out _) (Nat.le_refl _)⟩
    | false =>
     rw [hR] at hw
     simp only [if_true,Bool.false_eq_true,if_false] at hw
     subst hw
     go_wp2_with (first | (go_at_call 138; go_must (refine (c5 _ _).mono ?_; rintro e w' ⟨rfl,rfl⟩; rw [hP])) | (go_at_call 49; go_must (refine (c4 _).mono ?_; rintro e w' ⟨rfl,rfl⟩; rw [hR])))
     exact bodyPost_ret (resBox rfl _ _ w.heap.size _ rfl (ld73 (box6 (old X2.out _)))) rfl ⟨rfl,gr6n (gr_alloc G2.out _) (Nat.le_refl _)⟩
  | false =>
   have hw := hW.out
   rw [if_neg (by simp [h1,h2])] at hw
   by_cases hL : 24 < x.size
   · rw [if_pos hL] at hw
     subst hw
     have hL2 : ((24 : Int) < (x.size : Int)) := by omega
     go_wp2_with fail
     exact bodyPost_ret (resBox rfl _ _ w.heap.size _ rfl (ld73 (box6 (old X2.out _)))) rfl ⟨rfl,gr6n (gr_alloc G2.out _) (Nat.le_refl _)⟩
   rw [if_neg hL] at hw
   have hL2 : ¬ ((24 : Int) < (x.size : Int)) := by omega
   cases hR : resL x.toList with
   | true =>
    rw [hR] at hw
    simp only [if_true,Bool.false_eq_true,if_false] at hw
    subst hw
    go_wp2_with (first | (go_at_call 49; go_must (refine (c4 _).mono ?_; rintro e w' ⟨rfl,rfl⟩; rw [hR])))
    exact bodyPost_ret (resBox rfl _ _ w.heap.size _ rfl (ld73 (box6 (old X2.out _)))) rfl ⟨rfl,gr6n (gr_alloc G2.out _) (Nat.le_refl _)⟩
   | false =>
    rw [hR] at hw
    simp only [if_true,Bool.false_eq_true,if_false] at hw
    subst hw
    go_wp2_with (first | (go_at_call 49; go_must (refine (c4 _).mono ?_; rintro e w' ⟨rfl,rfl⟩; rw [hR])))
    exact bodyPost_ret (resBox rfl _ _ w.heap.size _ rfl (ld73 (box6 (old X2.out _)))) rfl ⟨rfl,gr6n (gr_alloc G2.out _) (Nat.le_refl _)⟩
end Go.Proofs.YtdcoidmbainkmaaGreatDoor

namespace Go.Proofs.YtdcoidmbainkmaaGreatDoor
open Go.RowKit
attribute [local go_sem ↓] Go.wp_at_zero Go.wp_at_succ
set_option linter.unusedVariables false
set_option linter.unusedSimpArgs false
def scanT (numT : List UInt8 → Nat → Tok) (l : List UInt8) (i : Nat) : Tok :=
 let r := skL l (l.length + 1 - i) i
 if r.2 = true then ⟨0,nob,0,r.1,0,1⟩ else match l[r.1]? with
  | none => ⟨1,nob,0,r.1,r.1,0⟩
  | some b => if dgI b.toNat = true then numT l r.1 else if ltI b.toNat = true then wordT l r.1 else sgT l r.1
theorem sk_le (l : List UInt8) : ∀ (n i : Nat),i ≤ l.length → i ≤ (skL l n i).1 ∧ (skL l n i).1 ≤ l.length := by
 intro n
 induction n with
 | zero => intro i h; exact ⟨Nat.le_refl _,h⟩
 | succ n ih =>
  intro i h
  rw [sk_s]
  cases hb : l[i]? with
  | none => exact ⟨Nat.le_refl _,h⟩
  | some b =>
   have hi : i < l.length := (List.getElem?_eq_some_iff.1 hb).1
   simp only
   split
   · have := ih (i + 1) (by omega); omega
   split
   · split
     · exact ⟨Nat.le_refl _,h⟩
     · rename_i h0
       have hroom := Lib.index_room (l.drop (i + 2)) [42,41] (by omega)
       simp at hroom
       have := ih (i + 2 + (Lib.index (l.drop (i + 2)) [42,41]).toNat + 2) (by omega); omega
   split
   · split
     · exact ⟨by show i ≤ l.length; omega,Nat.le_refl _⟩
     · rename_i h0
       have hroom := any_room (l.drop i)
       simp at hroom
       have := ih (i + (Lib.indexAny (l.drop i) [10,13]).toNat) (by omega); omega
   exact ⟨Nat.le_refl _,h⟩
def NumC (V : World) (numT : List UInt8 → Nat → Tok) : Prop := ∀ (s : ByteArray) (i : Nat) (w : World),s.size ≤ 60000 → i < s.size → Vs V w → 15 ≤ w.heap.size → Calls Tryz.prog 103 #[.string s,.int .i64 i] w fun e w' => e = .returned (tokV (numT s.data.toList i)) ∧ w.grownBy w' none
set_option maxRecDepth 10000 in
set_option maxHeartbeats 4000000 in
theorem scan_any {V : World} {numT : List UInt8 → Nat → Tok} (hN : NumC V numT) (hIA : IxA V) (m : Int) (hM : V.cell? ⟨6,0,none⟩ = some (.int .i64 m)) (hSg : V.heap[5]? = some (.cells sgA 184)) (hT : ∀ W,Vs V W → Lib.Utf8Tabs 7 8 W) (s : ByteArray) (i : Nat) (w : World) (hV : Vs V w) (hs : 15 ≤ w.heap.size) (hsz : s.size ≤ 60000) (hi : i ≤ s.size) :
 Calls Tryz.prog 63 #[.string s,.int .i64 i] w fun e w' => e = .returned (tokV (scanT numT s.data.toList i)) ∧ w.grownBy w' none := by
 have hlen : s.data.toList.length = s.size := rfl
 have hsk := sk_le s.data.toList (s.size + 1 - i) i hi
 obtain ⟨r,hr⟩ : ∃ r,skL s.data.toList (s.size + 1 - i) i = r := ⟨_,rfl⟩
 obtain ⟨at1,op⟩ := r
 have c1 := fun W h1 h2 => skip_any hIA m hM s i W h1 h2 hsz hi
 rw [hr] at hsk
 simp only [hr] at c1
 simp only [hlen] at hsk
 have hW : Hid (scanT numT s.data.toList i = if op = true then ⟨0,nob,0,at1,0,1⟩ else match s.data.toList[at1]? with
  | none => ⟨1,nob,0,at1,at1,0⟩
  | some b => if dgI b.toNat = true then numT s.data.toList at1 else if ltI b.toNat = true then wordT s.data.toList at1 else sgT s.data.toList at1) := by
  show _ = _
  simp only [scanT,hlen,hr]
 have c2 := fun W h1 h2 (h : at1 < s.size) => hN s at1 W hsz h h1 h2
 have c3 := fun W h1 h2 => word_any (V := V) s at1 W h1 h2 hT hsz hsk.2
 have c4 := fun W h1 h2 => sign_any (V := V) hSg s at1 W h1 h2 hsz hsk.2
 have HV := hidI hV
 have HS := hidI hs
 generalize scanT numT s.data.toList i = T0 at hW ⊢
 generalize numT s.data.toList at1 = T1 at hW c2
 generalize wordT s.data.toList at1 = T2 at hW c3
 generalize sgT s.data.toList at1 = T3 at hW c4
 clear hr hN hIA hM hSg hT hV
 have g0 := gr1 w (.cells #[.int .i64 0,.string ⟨#[]⟩,.int .i64 0,.int .i64 0,.int .i64 0,.int .i64 0] 73)
 have c1' := hidI (c1 _ (HV.out.kept g0 HS.out (by simp)) (by have := HS.out; simp; omega))
 clear c1
 go_enter Tryz.func63,Tryz.ntmps63
 go_wp2_with fail
 refine c1'.out.mono ?_
 rintro e w1 ⟨rfl,g1⟩
 have X1 := hidI (kept g1 (new w (.cells #[.int .i64 0,.string ⟨#[]⟩,.int .i64 0,.int .i64 0,.int .i64 0,.int .i64 0] 73)))
 have G1 := hidI (gtn g0 g1)
 have V1 := hidI (HV.out.kept G1.out HS.out (by simp))
 have S1 : Hid (15 ≤ w1.heap.size) := by have := G1.out.size; have := HS.out; show _ ≤ _; omega
 clear g0 g1 c1'
 obtain ⟨xp,xq,xr,xf,xg,xh⟩ := facts X1.out
 cases op with
 | true =>
  have hw := hW.out
  rw [if_pos rfl] at hw
  subst hw
  go_wp2_with fail
  exact bodyPost_ret (resBox rfl _ _ w.heap.size _ rfl (ld73 (box6 X1.out))) rfl ⟨rfl,gr6n G1.out (Nat.le_refl _)⟩
 | false =>
  have hw := hW.out
  rw [if_neg (by decide)] at hw
  by_cases hlt : at1 < s.size
  rotate_left
  · have he : at1 = s.size := by omega
    rw [List.getElem?_eq_none (by rw [hlen]; omega)] at hw
    simp only at hw
    subst hw
    have heq : ((at1 : Int) == (s.size : Int)) = true := by rw [he]; simp
    clear he
    go_wp2_with fail
    exact bodyPost_ret (resBox rfl _ _ w.heap.size _ rfl (ld73 (box6 X1.out))) rfl ⟨rfl,gr6n G1.out (Nat.le_refl _)⟩
  have hne : ((at1 : Int) == (s.size : Int)) = false := by rw [beq_eq_false_iff_ne]; omega
  have hb : s.data.toList[at1]? = some (s[at1]'hlt) := by rw [List.getElem?_eq_getElem (by rw [hlen]; exact hlt)]; rfl
  rw [hb] at hw
  simp only at hw
  have hlt' : ((at1 : Int) < (s.size : Int)) := by omega
  obtain ⟨G,hG⟩ : ∃ G,dgI ((s[at1]'hlt).toNat : Int) = G := ⟨_,rfl⟩
  obtain ⟨L,hL⟩ : ∃ L,ltI ((s[at1]'hlt).toNat : Int) = L := ⟨_,rfl⟩
  have cG : ∀ W,Calls Tryz.prog 72 #[.int .u8 ((s[at1]'hlt).toNat : Int)] W fun e w' => e = .returned (.bool G) ∧ w' = W := fun W => hG ▸ digit_any _ W
  have cL : ∀ W,Calls Tryz.prog 73 #[.int .u8 ((s[at1]'hlt).toNat : Int)] W fun e w' => e = .returned (.bool L) ∧ w' = W := fun W => hL ▸ letter_any _ W
  rw [hG,hL] at hw
  clear hG hL hb hsk
  cases G with
  | true =>
   rw [if_pos rfl] at hw
   subst hw
   obtain ⟨t1,t2,t3,t4,t5,t6⟩ := T0
   go_wp2_with (first | (go_at_call 72; go_must (refine (cG _).mono ?_; rintro e w' ⟨rfl,rfl⟩)))
   refine (c2 _ V1.out S1.out hlt).mono ?_
   rintro e w2 ⟨rfl,g2⟩
   have X2 := hidI (kept g2 X1.out)
   obtain ⟨yp,yq,yr,yf,yg,yh⟩ := facts X2.out
   go_wp2_with fail
   exact bodyPost_ret (resBox rfl _ _ w.heap.size _ rfl (ld73 (box6 X2.out))) rfl ⟨rfl,gr6n (gtn G1.out g2) (Nat.le_refl _)⟩
  | false =>
   rw [if_neg (by decide)] at hw
   cases L with
   | true =>
    rw [if_pos rfl] at hw
    subst hw
    obtain ⟨t1,t2,t3,t4,t5,t6⟩ := T0
    go_wp2_with (first | (go_at_call 72; go_must (refine (cG _).mono ?_; rintro e w' ⟨rfl,rfl⟩)) | (go_at_call 73; go_must (refine (cL _).mono ?_; rintro e w' ⟨rfl,rfl⟩)))
    refine (c3 _ V1.out S1.out).mono ?_
    rintro e w2 ⟨rfl,g2⟩
    have X2 := hidI (kept g2 X1.out)
    obtain ⟨yp,yq,yr,yf,yg,yh⟩ := facts X2.out
    go_wp2_with fail
    exact bodyPost_ret (resBox rfl _ _ w.heap.size _ rfl (ld73 (box6 X2.out))) rfl ⟨rfl,gr6n (gtn G1.out g2) (Nat.le_refl _)⟩
   | false =>
    rw [if_neg (by decide)] at hw
    subst hw
    obtain ⟨t1,t2,t3,t4,t5,t6⟩ := T0
    go_wp2_with (first | (go_at_call 72; go_must (refine (cG _).mono ?_; rintro e w' ⟨rfl,rfl⟩)) | (go_at_call 73; go_must (refine (cL _).mono ?_; rintro e w' ⟨rfl,rfl⟩)))
    refine (c4 _ V1.out S1.out).mono ?_
    rintro e w2 ⟨rfl,g2⟩
    have X2 := hidI (kept g2 X1.out)
    obtain ⟨yp,yq,yr,yf,yg,yh⟩ := facts X2.out
    go_wp2_with fail
    exact bodyPost_ret (resBox rfl _ _ w.heap.size _ rfl (ld73 (box6 X2.out))) rfl ⟨rfl,gr6n (gtn G1.out g2) (Nat.le_refl _)⟩
end Go.Proofs.YtdcoidmbainkmaaGreatDoor

namespace Go.Proofs.YtdcoidmbainkmaaGreatDoor
open Go.RowKit
set_option linter.unusedVariables false
set_option linter.unusedSimpArgs false
abbrev lo := Lib.lowerB
abbrev lw (l : List UInt8) : List UInt8 := l.map Lib.lowerB
theorem lo_bl : ∀ b : UInt8,blI (lo b).toNat = blI b.toNat := by
 have h : ∀ b : Fin 256,blI (lo (UInt8.ofNat b.val)).toNat = blI (UInt8.ofNat b.val).toNat := by decide +kernel
 intro b; simpa using h ⟨b.toNat,b.toNat_lt⟩
theorem lo_dg : ∀ b : UInt8,dgI (lo b).toNat = dgI b.toNat := by
 have h : ∀ b : Fin 256,dgI (lo (UInt8.ofNat b.val)).toNat = dgI (UInt8.ofNat b.val).toNat := by decide +kernel
 intro b; simpa using h ⟨b.toNat,b.toNat_lt⟩
theorem lo_lt : ∀ b : UInt8,ltI (lo b).toNat = ltI b.toNat := by
 have h : ∀ b : Fin 256,ltI (lo (UInt8.ofNat b.val)).toNat = ltI (UInt8.ofNat b.val).toNat := by decide +kernel
 intro b; simpa using h ⟨b.toNat,b.toNat_lt⟩
theorem lo_lo : ∀ b : UInt8,lo (lo b) = lo b := by
 have h : ∀ b : Fin 256,lo (lo (UInt8.ofNat b.val)) = lo (UInt8.ofNat b.val) := by decide +kernel
 intro b; simpa using h ⟨b.toNat,b.toNat_lt⟩
def noL (c : UInt8) : Bool := decide (∀ b : Fin 256,(lo (UInt8.ofNat b.val) == c) = (UInt8.ofNat b.val == c))
theorem noL_eq {c : UInt8} (h : noL c = true) (b : UInt8) : (lo b == c) = (b == c) := by
 have h := of_decide_eq_true h ⟨b.toNat,b.toNat_lt⟩
 simpa using h
theorem lo_pre (p : List UInt8) (hp : ∀ c ∈ p,noL c = true) : ∀ (l : List UInt8),Lib.hasPrefix (lw l) p = Lib.hasPrefix l p := by
 induction p with
 | nil => intro l; rfl
 | cons c p ih =>
  intro l
  cases l with
  | nil => rfl
  | cons b l =>
   have h1 := noL_eq (hp c (by simp)) b
   have h2 := ih (fun d hd => hp d (by simp [hd])) l
   simp only [Lib.hasPrefix] at h2
   simp only [Lib.hasPrefix,lw,List.map_cons,List.isPrefixOf]
   have e1 : (c == lo b) = (c == b) := by rw [BEq.comm,h1,BEq.comm]
   rw [e1]
   congr 1
theorem lo_idx (p : List UInt8) (hp : ∀ c ∈ p,noL c = true) : ∀ (l : List UInt8),Lib.index (lw l) p = Lib.index l p
 | [] => rfl
 | b :: l => by
  have ih := lo_idx p hp l
  have h1 := lo_pre p hp (b :: l)
  simp only [Lib.hasPrefix,lw,List.map_cons] at h1 ih
  simp only [lw,List.map_cons,Lib.index]
  rw [h1,ih]
theorem lo_any (p : List UInt8) (hp : ∀ c ∈ p,noL c = true) : ∀ (l : List UInt8),Lib.indexAny (lw l) p = Lib.indexAny l p
 | [] => rfl
 | b :: l => by
  have ih := lo_any p hp l
  have h1 : p.contains (lo b) = p.contains b := by
   clear ih
   induction p with
   | nil => rfl
   | cons c p ih2 =>
    rw [List.contains_cons,List.contains_cons,noL_eq (hp c (by simp)) b,ih2 (fun d hd => hp d (by simp [hd]))]
  simp only [lw] at ih
  simp only [lw,List.map_cons,Lib.indexAny]
  rw [h1,ih]
theorem lo_sk (l : List UInt8) : ∀ (n i : Nat),skL (lw l) n i = skL l n i := by
 intro n
 induction n with
 | zero => intro i; rfl
 | succ n ih =>
  intro i
  rw [sk_s,sk_s]
  have e : (lw l)[i]? = (l[i]?).map lo := by simp [lw]
  rw [e]
  cases l[i]? with
  | none => rfl
  | some b =>
   simp only [Option.map_some,lo_bl]
   have d : ∀ k,(lw l).drop k = lw (l.drop k) := fun k => by simp [lw]
   rw [d,d,lo_pre [40,42] (by decide +kernel),lo_pre [47,47] (by decide +kernel),lo_idx [42,41] (by decide +kernel),lo_any [10,13] (by decide +kernel)]
   simp only [ih,List.length_map]
theorem lo_run (h : Bool) : ∀ (l : List UInt8),runL h (lw l) = runL h l
 | [] => rfl
 | b :: l => by
  have ih := lo_run h l
  have e35 : decide (((lo b).toNat : Int) = 35) = decide ((b.toNat : Int) = 35) := by
   have h : ∀ b : Fin 256,decide (((lo (UInt8.ofNat b.val)).toNat : Int) = 35) = decide (((UInt8.ofNat b.val).toNat : Int) = 35) := by decide +kernel
   simpa using h ⟨b.toNat,b.toNat_lt⟩
  simp only [runL,lw,List.map_cons,List.takeWhile_cons,lo_lt,lo_dg,e35] at ih ⊢
  split
  · simp only [List.length_cons]; rw [ih]
  · rfl
theorem lo_low (l : List UInt8) : Lib.toLowerA (lw l) = Lib.toLowerA l := by
 simp only [Lib.toLowerA,lw,List.map_map]
 congr 1
 funext b
 exact lo_lo b
theorem lo_map (l : List UInt8) (h : ∀ b ∈ l,b.toNat < 128) : mapS (lw l) = mapS l := by
 have hl : ∀ b ∈ lw l,b.toNat < 128 := by
  intro b hb
  obtain ⟨c,hc,rfl⟩ := List.mem_map.1 hb
  have h2 : ∀ b : Fin 128,(lo (UInt8.ofNat b.val)).toNat < 128 := by decide +kernel
  have := h2 ⟨c.toNat,h c hc⟩
  simpa using this
 rw [mapS_ascii _ hl,mapS_ascii _ h]
 exact lo_low l
theorem lo_span (l : List UInt8) (i : Nat) : spanT (lw l) i = spanT l i := by
 have d : (lw l).drop i = lw (l.drop i) := by simp [lw]
 have hasc := run_ascii true (l.drop i)
 simp only [spanT,d,lo_run]
 have t : (lw (l.drop i)).take (runL true (l.drop i)) = lw ((l.drop i).take (runL true (l.drop i))) := by simp [lw,List.map_take]
 rw [t,lo_map _ hasc]
theorem lo_wx (l : List UInt8) (i : Nat) : wordX (lw l) i = wordX l i := by
 have d : (lw l).drop i = lw (l.drop i) := by simp [lw]
 simp only [wordX,d,lo_run]
 have t : (lw (l.drop i)).take (runL false (l.drop i)) = lw ((l.drop i).take (runL false (l.drop i))) := by simp [lw,List.map_take]
 rw [t,lo_low]
theorem lo_word (l : List UInt8) (i : Nat) : wordT (lw l) i = wordT l i := by
 have d : ∀ k,(lw l).drop k = lw (l.drop k) := fun k => by simp [lw]
 simp only [wordT,d,lo_run,lo_wx,lo_span]
 rw [lo_pre [35] (by decide +kernel)]
theorem lo_sg (l : List UInt8) (i : Nat) : sgT (lw l) i = sgT l i := by
 have d : (lw l).drop i = lw (l.drop i) := by simp [lw]
 have e : ∀ y ∈ sgns,Lib.hasPrefix ((lw l).drop i) y.data.toList = Lib.hasPrefix (l.drop i) y.data.toList := by
  intro y hy
  rw [d]
  refine lo_pre _ ?_ _
  have h : ∀ y ∈ sgns,∀ c ∈ y.data.toList,noL c = true := by decide +kernel
  exact h y hy
 have f : ∀ (L : List ByteArray),(∀ y ∈ L,Lib.hasPrefix ((lw l).drop i) y.data.toList = Lib.hasPrefix (l.drop i) y.data.toList) → L.find? (fun y => Lib.hasPrefix ((lw l).drop i) y.data.toList) = L.find? (fun y => Lib.hasPrefix (l.drop i) y.data.toList) := by
  intro L
  induction L with
  | nil => intro _; rfl
  | cons y L ih =>
   intro h
   simp only [List.find?_cons,h y (by simp),ih (fun z hz => h z (by simp [hz]))]
 rw [sgT,sgT,f sgns e]
theorem lo_scan {numT : List UInt8 → Nat → Tok} (hn : ∀ l i,numT (lw l) i = numT l i) (l : List UInt8) (i : Nat) : scanT numT (lw l) i = scanT numT l i := by
 have e : ∀ k : Nat,(lw l)[k]? = (l[k]?).map lo := fun k => by simp [lw]
 simp only [scanT,lo_sk,e,List.length_map,lo_word,lo_sg,hn]
 split
 · rfl
 · cases l[(skL l (l.length + 1 - i) i).1]? with
   | none => rfl
   | some b => simp only [Option.map_some,lo_dg,lo_lt]
end Go.Proofs.YtdcoidmbainkmaaGreatDoor

namespace Go.Proofs.YtdcoidmbainkmaaGreatDoor
open Go.RowKit
set_option linter.unusedVariables false
set_option linter.unusedSimpArgs false
def numR (d : List UInt8) : Int × Int :=
 let r := readE 4 (mapS d) d.length
 if r.2 = 2 ∨ r.2 = 1 then (0,r.2) else if 4294967295 < (numD (mapS d)).1 then (0,3) else ((numD (mapS d)).1,0)
def numT (l : List UInt8) (i : Nat) : Tok :=
 let k := runL true (l.drop i)
 let r := numR ((l.drop i).take k)
 valT ⟨4,nob,r.1,i,(i + k : Nat),r.2⟩
theorem lo_num (l : List UInt8) (i : Nat) : numT (lw l) i = numT l i := by
 have d : (lw l).drop i = lw (l.drop i) := by simp [lw]
 have hasc := run_ascii true (l.drop i)
 simp only [numT,d,lo_run]
 have t : (lw (l.drop i)).take (runL true (l.drop i)) = lw ((l.drop i).take (runL true (l.drop i))) := by simp [lw,List.map_take]
 rw [t,numR,numR,lo_map _ hasc]
 simp only [List.length_map]
theorem run_pos {h : Bool} {l : List UInt8} {i : Nat} {b : UInt8} (hb : l[i]? = some b) (hl : dgI b.toNat = true ∨ ltI b.toNat = true) : 1 ≤ runL h (l.drop i) := by
 have hi := (List.getElem?_eq_some_iff.1 hb)
 obtain ⟨h1,h2⟩ := hi
 rw [List.drop_eq_getElem_cons h1,h2,runL,List.takeWhile_cons,if_pos (by rcases hl with hl | hl <;> simp [hl])]
 simp
theorem feed_nn (base : Int) (hb : 0 ≤ base) : ∀ (l : List UInt8) (st st' : Int × Bool),0 ≤ st.1 → feed base st l = some st' → 0 ≤ st'.1
 | [],st,st',h,e => by simp only [feed] at e; injection e with e; subst e; exact h
 | c :: l,st,st',h,e => by
  simp only [feed] at e
  split at e
  · cases e
  · rename_i st2 h2
    refine feed_nn base hb l st2 st' ?_ e
    rw [stepD] at h2
    split at h2
    · split at h2
      · injection h2 with h2; subst h2; exact h
      · cases h2
    · split at h2
      · cases h2
      · rename_i hw
        injection h2 with h2
        subst h2
        show 0 ≤ min _ _
        have : 0 ≤ st.1 * base := Int.mul_nonneg h hb
        omega
theorem read_nn (base : Int) (hb : 0 ≤ base) (l : List UInt8) : 0 ≤ (readD base l).1 := by
 rw [readD]
 cases h : feed base (0,false) l with
 | none => decide
 | some st => exact feed_nn base hb l (0,false) st (by decide) h
theorem num_nn (l : List UInt8) : 0 ≤ (numD l).1 := by
 rw [numD]
 split
 · exact read_nn 16 (by decide) _
 · split
   · exact read_nn 2 (by decide) _
   · exact read_nn 10 (by decide) _
theorem numR_bd (d : List UInt8) : 0 ≤ (numR d).1 ∧ (numR d).1 ≤ 4294967295 := by
 simp only [numR]
 split
 · simp
 · split
   · simp
   · have := num_nn (mapS d); simp; omega
theorem span_bd (l : List UInt8) (n : Nat) : 0 ≤ (readE 5 l n).1 ∧ (readE 5 l n).1 ≤ 4294967295 := by
 simp only [readE]
 split
 · split
   · simp
   · split
     · split
       · rename_i h
         have h2 : wrapK 5 (asD 5 l).1 = (asD 5 l).1 := by simp [fitsK] at h; exact h.2
         rw [wrapK5] at h2
         simp
         omega
       · simp
     · simp
 · simp
theorem valT_ok {N : Nat} {c n : Int} {i e : Nat} {f : Int} (h1 : i < e) (h2 : e ≤ N) (h3 : 0 ≤ n ∧ n ≤ 4294967295) (x : ByteArray) : TokOk N (valT ⟨c,x,n,i,e,f⟩) ∧ (valT ⟨c,x,n,i,e,f⟩).a = i := by
 rw [valT]
 split
 · exact ⟨⟨by simp,by simp; omega,fun _ => ⟨by simp; omega,by simp; omega,fun _ => by simp; omega⟩,h3.1,h3.2⟩,rfl⟩
 · exact ⟨⟨by simp,by simp; omega,fun h => absurd rfl h,h3.1,h3.2⟩,rfl⟩
theorem tok_ok {N : Nat} (l : List UInt8) (hN : l.length = N) (i : Nat) (hi : i ≤ N) : TokOk N (scanT numT l i) ∧ (i : Int) ≤ (scanT numT l i).a := by
 have hsk := sk_le l (l.length + 1 - i) i (by omega)
 simp only [scanT]
 generalize skL l (l.length + 1 - i) i = r at hsk ⊢
 obtain ⟨p,op⟩ := r
 simp only at hsk ⊢
 split
 · exact ⟨⟨by simp,by simp; omega,fun h => absurd rfl h,by simp,by simp⟩,by simp; omega⟩
 cases hb : l[p]? with
 | none => exact ⟨⟨by simp,by simp; omega,fun _ => ⟨by simp,by simp; omega,fun h => absurd rfl h⟩,by simp,by simp⟩,by simp; omega⟩
 | some b =>
  have hp : p < l.length := (List.getElem?_eq_some_iff.1 hb).1
  simp only
  split
  · rename_i hd
    have h1 := run_pos (h := true) hb (Or.inl hd)
    have h2 := runL_le true (l.drop p)
    simp at h2
    have h := valT_ok (c := 4) (i := p) (e := p + runL true (l.drop p)) (N := N) (n := (numR ((l.drop p).take (runL true (l.drop p)))).1) (f := (numR ((l.drop p).take (runL true (l.drop p)))).2) (by omega) (by omega) (numR_bd _) nob
    exact ⟨h.1,by rw [numT,h.2]; omega⟩
  split
  · rename_i hd hl
    have h1 := run_pos (h := false) hb (Or.inr hl)
    have h2 := runL_le false (l.drop p)
    have h3 := run_pos (h := true) hb (Or.inr hl)
    have h4 := runL_le true (l.drop p)
    simp at h2 h4
    simp only [wordT]
    split
    · have h := valT_ok (c := 5) (i := p) (e := p + runL true (l.drop p)) (N := N) (n := (readE 5 (mapS ((l.drop p).take (runL true (l.drop p)))) (runL true (l.drop p))).1) (f := (readE 5 (mapS ((l.drop p).take (runL true (l.drop p)))) (runL true (l.drop p))).2) (by omega) (by omega) (span_bd _ _) nob
      exact ⟨h.1,by rw [spanT,h.2]; omega⟩
    split
    · exact ⟨⟨by simp,by simp; omega,fun h => absurd rfl h,by simp,by simp⟩,by simp; omega⟩
    split
    · exact ⟨⟨by simp,by simp; omega,fun _ => ⟨by simp; omega,by simp; omega,fun _ => by simp; omega⟩,by simp,by simp⟩,by simp; omega⟩
    · exact ⟨⟨by simp,by simp; omega,fun _ => ⟨by simp; omega,by simp; omega,fun _ => by simp; omega⟩,by simp,by simp⟩,by simp; omega⟩
  · simp only [sgT]
    split
    · rename_i y hy
      have hm := List.mem_of_find?_eq_some hy
      have hpr : Lib.hasPrefix (l.drop p) y.data.toList = true := by simpa using List.find?_some hy
      have hle : y.size ≤ (l.drop p).length := by
       have := List.IsPrefix.length_le (List.isPrefixOf_iff_prefix.1 hpr)
       exact this
      have hps : 1 ≤ y.size := by
       have h : ∀ y ∈ sgns,1 ≤ y.size := by decide +kernel
       exact h y hm
      simp at hle
      exact ⟨⟨by simp,by simp; omega,fun _ => ⟨by simp; omega,by simp; omega,fun _ => by simp; omega⟩,by simp,by simp⟩,by simp; omega⟩
    · exact ⟨⟨by simp,by simp; omega,fun h => absurd rfl h,by simp,by simp⟩,by simp; omega⟩
def tokF (s : ByteArray) : Int → Tok := fun i => scanT numT s.data.toList i.toNat
theorem tok_good (s : ByteArray) : GoodF s.size (tokF s) := by
 intro i h0 h1
 have h := tok_ok (N := s.size) s.data.toList rfl i.toNat (by omega)
 exact ⟨h.1,by have := h.2; simp only [tokF]; omega⟩
theorem tok_case (s t : ByteArray) (h : lw s.data.toList = lw t.data.toList) : tokF s = tokF t := by
 funext i
 simp only [tokF]
 rw [← lo_scan lo_num s.data.toList,← lo_scan lo_num t.data.toList,h]
end Go.Proofs.YtdcoidmbainkmaaGreatDoor

namespace Go.Proofs.YtdcoidmbainkmaaGreatDoor
open Go.RowKit
attribute [local go_sem ↓] Go.wp_at_zero Go.wp_at_succ
set_option linter.unusedVariables false
set_option linter.unusedSimpArgs false
def RnC (V : World) : Prop := ∀ (d : ByteArray) (W : World),Vs V W → 15 ≤ W.heap.size → d.size ≤ 60000 → (∀ b ∈ d.data.toList,b.toNat < 128) → Calls Tryz.prog 144 #[.string d] W fun e w' => e = .returned (.tuple #[.int .i64 (numR d.data.toList).1,.int .i64 (numR d.data.toList).2]) ∧ W.grownBy w' none
set_option maxHeartbeats 2000000 in
theorem number_any {V : World} (hR : RnC V) (s : ByteArray) (i : Nat) (w : World) (hV : Vs V w) (hs : 15 ≤ w.heap.size) (hsz : s.size ≤ 60000) (hi : i ≤ s.size) :
 Calls Tryz.prog 103 #[.string s,.int .i64 i] w fun e w' => e = .returned (tokV (numT s.data.toList i)) ∧ w.grownBy w' none := by
 have hlen : s.data.toList.length = s.size := rfl
 obtain ⟨k,hk⟩ : ∃ k,runL true (s.data.toList.drop i) = k := ⟨_,rfl⟩
 have hkl : i + k ≤ s.size := by have := runL_le true (s.data.toList.drop i); rw [hk] at this; simp at this; omega
 obtain ⟨E,hE⟩ : ∃ E,i + k = E := ⟨_,rfl⟩
 have c1 : ∀ W,Calls Tryz.prog 143 #[.string s,.int .i64 i,.bool true] W fun e w' => e = .returned (.int .i64 (E : Int)) ∧ w' = W := fun W => by
  have h := run_any s i true W hsz hi
  rw [hk,hE] at h
  exact h
 have hts : (s.extract i E).size = k := by rw [ByteArray.size_extract]; omega
 obtain ⟨r,hr⟩ : ∃ r,numR ((s.data.toList.drop i).take k) = r := ⟨_,rfl⟩
 have hasc := run_ascii true (s.data.toList.drop i)
 have c2 : ∀ W,Vs V W → 15 ≤ W.heap.size → Calls Tryz.prog 144 #[.string (s.extract i E)] W fun e w' => e = .returned (.tuple #[.int .i64 r.1,.int .i64 r.2]) ∧ W.grownBy w' none := fun W hW h15 => by
  have h := hR (s.extract i E) W hW h15 (by rw [hts]; omega) (by rw [← hE,ext_two]; rw [hk] at hasc; exact hasc)
  rw [← hE,ext_two,hr] at h
  rw [← hE]
  exact h
 have e : Hid (numT s.data.toList i = valT ⟨4,nob,r.1,i,E,r.2⟩) := by
  show _ = _
  simp only [numT,hk,hr,hE]
 have HV := hidI hV
 have HS := hidI hs
 have hki : ((i : Int) ≤ (E : Int)) := by omega
 have hks : ((E : Int) ≤ (s.size : Int)) := by omega
 have hv := fun W => valued_any ⟨4,nob,r.1,i,E,r.2⟩ W
 rw [e.out]
 generalize valT ⟨4,nob,r.1,i,E,r.2⟩ = T at hv ⊢
 obtain ⟨t1,t2,t3,t4,t5,t6⟩ := T
 clear hk hr hV hE hts hkl e hasc hR
 go_enter Tryz.func103,Tryz.ntmps103
 go_wp2_with (first | (go_at_call 143; go_must (refine (c1 _).mono ?_; rintro e w' ⟨rfl,rfl⟩)))
 refine (c2 _ (HV.out.kept (gr1 _ _) HS.out (by simp)) (by have := HS.out; simp; omega)).mono ?_
 rintro e w1 ⟨rfl,hb⟩
 have g1 := hb
 have X1 := hidI (kept g1 (new w (.cells #[.int .i64 0,.string ⟨#[]⟩,.int .i64 0,.int .i64 0,.int .i64 0,.int .i64 0] 73)))
 have G1 := hidI (gtn (gr1 _ _) g1)
 clear hb g1
 go_wp2_with fail
 refine (hv _).mono ?_
 rintro e w2 ⟨rfl,g2⟩
 have X2 := hidI (kept g2 X1.out)
 obtain ⟨xp,xq,xr,xf,xg,xh⟩ := facts X2.out
 go_wp2_with fail
 exact bodyPost_ret (resBox rfl _ _ w.heap.size _ rfl (ld73 (box6 X2.out))) rfl ⟨rfl,gr6n (gtn G1.out g2) (Nat.le_refl _)⟩
theorem num_c {V : World} (hR : RnC V) : NumC V numT := fun s i w h1 h2 h3 h4 => number_any hR s i w h3 h4 h1 (by omega)
theorem scn_any {V : World} (hR : RnC V) (hIA : IxA V) (m : Int) (hM : V.cell? ⟨6,0,none⟩ = some (.int .i64 m)) (hSg : V.heap[5]? = some (.cells sgA 184)) (hT : ∀ W,Vs V W → Lib.Utf8Tabs 7 8 W) (s : ByteArray) (hs : s.size ≤ 60000) : Scn V s (tokF s) := by
 intro i w h0 h1 hV h15
 obtain ⟨n,rfl⟩ : ∃ n : Nat,i = n := ⟨i.toNat,by omega⟩
 have h := scan_any (num_c hR) hIA m hM hSg hT s n w hV h15 hs (by omega)
 exact h
end Go.Proofs.YtdcoidmbainkmaaGreatDoor
