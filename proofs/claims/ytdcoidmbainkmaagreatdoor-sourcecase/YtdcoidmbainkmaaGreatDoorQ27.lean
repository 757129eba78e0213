/- Texts put together: Ke. -/
import Derived.Test.YtdcoidmbainkmaaGreatDoorQ26
import Derived.Laws.BytesString
namespace Go.Proofs.YtdcoidmbainkmaaGreatDoor
open Go.RowKit
structure TSt where
 total : Int
 last : Int
 v : Int
 wh : Bool
 unit : List UInt8
def partT (st : TSt) : Option TSt :=
 if st.unit = [] then some st
 else if rightP st.last st.wh (unitL st.unit) = true then some ⟨st.total + st.v * unitL st.unit,unitL st.unit,0,false,[]⟩ else none
def stepT (st : TSt) (r : Int) : Option TSt :=
 if 97 ≤ r ∧ r ≤ 122 then some { st with unit := st.unit ++ [UInt8.ofNat r.toNat] }
 else (partT st).bind fun s => (stepD 10 (s.v,s.wh) r).map fun d => { s with v := d.1,wh := d.2 }
def feedT : TSt → List UInt8 → Option TSt
 | st,[] => some st
 | st,c :: l => (stepT st c.toNat).bind fun st' => feedT st' l
def t0 : TSt := ⟨0,86400001,0,false,[]⟩
def endT (o : Option TSt) : Int × Bool := match o with
 | none => (0,false)
 | some st => (st.total + st.v * unitL st.unit,rightP st.last st.wh (unitL st.unit))
def timeD (l : List UInt8) : Int × Bool := if (behindD l).2 = true then endT (feedT t0 (behindD l).1) else (0,false)
theorem unitL_is (u : List UInt8) : unitL u = 0 ∨ unitL u = 1 ∨ unitL u = 1000 ∨ unitL u = 60000 ∨ unitL u = 3600000 ∨ unitL u = 86400000 := by
 unfold unitL
 repeat' split
 all_goals omega
structure TBd (st : TSt) : Prop where
 v0 : 0 ≤ st.v
 v1 : st.v ≤ 4294967296
 t0 : 0 ≤ st.total
 t1 : st.total + 4294967296 * st.last ≤ 4294967296 * 172800001
 l : (st.last = 86400001 ∧ st.total = 0) ∨ st.last = 1 ∨ st.last = 1000 ∨ st.last = 60000 ∨ st.last = 3600000 ∨ st.last = 86400000
theorem TBd.small {st : TSt} (h : TBd st) : st.total ≤ 1000000000000000000 := by
 have := h.t1
 rcases h.l with h | h | h | h | h | h <;> omega
theorem t0_bd : TBd t0 := ⟨by decide,by decide,by decide,by decide,.inl ⟨rfl,rfl⟩⟩
theorem partT_bd {st st' : TSt} (h : TBd st) (e : partT st = some st') : TBd st' := by
 unfold partT at e
 split at e
 · cases e; exact h
 · split at e
   · rename_i hr
     cases e
     have hp : 0 < unitL st.unit ∧ unitL st.unit < st.last := by
      simp only [rightP,Bool.and_eq_true,decide_eq_true_eq] at hr
      exact ⟨hr.1.2,hr.2⟩
     have hu := unitL_is st.unit
     have hl := h.l
     have h1 := h.t1
     have h2 := h.t0
     have h3 := h.v0
     have h4 := h.v1
     obtain ⟨L,hL⟩ : ∃ L,unitL st.unit = L := ⟨_,rfl⟩
     rw [hL] at hp hu ⊢
     refine ⟨by show (0 : Int) ≤ 0; omega,by show (0 : Int) ≤ _; omega,?_,?_,?_⟩
     · show 0 ≤ st.total + st.v * L
       rcases hu with rfl | rfl | rfl | rfl | rfl | rfl <;> omega
     · show st.total + st.v * L + 4294967296 * L ≤ _
       rcases hu with rfl | rfl | rfl | rfl | rfl | rfl <;> rcases hl with hl | hl | hl | hl | hl | hl <;> omega
     · show (L = 86400001 ∧ st.total + st.v * L = 0) ∨ L = 1 ∨ L = 1000 ∨ L = 60000 ∨ L = 3600000 ∨ L = 86400000
       clear h1 h2 h3 h4 h hl
       omega
   · cases e
theorem stepT_bd {st st' : TSt} {r : Int} (h : TBd st) (e : stepT st r = some st') : TBd st' := by
 unfold stepT at e
 split at e
 · cases e; exact ⟨h.v0,h.v1,h.t0,h.t1,h.l⟩
 · cases hp : partT st with
   | none => rw [hp] at e; cases e
   | some s =>
    rw [hp] at e
    have hb := partT_bd h hp
    simp only [Option.bind_some,Option.map_eq_some_iff] at e
    obtain ⟨d,hd,rfl⟩ := e
    have := stepD_bd (base := 10) (.inl rfl) hb.v0 hb.v1 hd
    exact ⟨this.1,this.2,hb.t0,hb.t1,hb.l⟩
theorem stepT_high (st : TSt) (r : Int) (h : 128 ≤ r) : stepT st r = none := by
 unfold stepT
 rw [if_neg (by omega)]
 cases partT st with
 | none => rfl
 | some s => simp [stepD_high 10 _ r h]
theorem enc_letter (n : Nat) (h0 : 97 ≤ n) (h1 : n ≤ 122) : Utf8.encode (n : Int) = ⟨#[UInt8.ofNat n]⟩ := by
 have hn : n = 97 ∨ n = 98 ∨ n = 99 ∨ n = 100 ∨ n = 101 ∨ n = 102 ∨ n = 103 ∨ n = 104 ∨ n = 105 ∨ n = 106 ∨ n = 107 ∨ n = 108 ∨ n = 109 ∨ n = 110 ∨ n = 111 ∨ n = 112 ∨ n = 113 ∨ n = 114 ∨ n = 115 ∨ n = 116 ∨ n = 117 ∨ n = 118 ∨ n = 119 ∨ n = 120 ∨ n = 121 ∨ n = 122 := by omega
 rcases hn with rfl | rfl | rfl | rfl | rfl | rfl | rfl | rfl | rfl | rfl | rfl | rfl | rfl | rfl | rfl | rfl | rfl | rfl | rfl | rfl | rfl | rfl | rfl | rfl | rfl | rfl
 all_goals decide
theorem conv_letter (n : Nat) (h0 : 97 ≤ n) (h1 : n ≤ 122) (w : World) : (convert 21 9 (.int .i32 n)).run Tryz.prog w = .ok (.string ⟨#[UInt8.ofNat n]⟩) w := by
 rw [← enc_letter n h0 h1]
 simp [convert,go_sem,Conv.intToString]
theorem app_list (u : ByteArray) (x : UInt8) : (u ++ (⟨#[x]⟩ : ByteArray)).data.toList = u.data.toList ++ [x] := by
 rw [ByteArray.data_append]
 simp
theorem app_size (u : ByteArray) (x : UInt8) : (u ++ (⟨#[x]⟩ : ByteArray)).size = u.size + 1 := by
 rw [ByteArray.size_append]
 rfl
theorem time_start (w : World) (s : ByteArray) :
 TimeAt w.heap.size 0 86400001 0 false ⟨#[]⟩ (((((w.alloc (oneO (.int .i64 0) 3)).alloc (oneO (.int .i64 86400001) 3)).alloc (digO 10 0 false)).alloc (oneO (.string ⟨#[]⟩) 9)).iter s 0) ∧
 (((((w.alloc (oneO (.int .i64 0) 3)).alloc (oneO (.int .i64 86400001) 3)).alloc (digO 10 0 false)).alloc (oneO (.string ⟨#[]⟩) 9)).iter s 0).heap[w.heap.size + 4]? = some (.stringIter s 0) ∧
 Below w.heap.size w (((((w.alloc (oneO (.int .i64 0) 3)).alloc (oneO (.int .i64 86400001) 3)).alloc (digO 10 0 false)).alloc (oneO (.string ⟨#[]⟩) 9)).iter s 0) := by
 have e1 : ∀ (W : World) o,(W.alloc o).heap.size = W.heap.size + 1 := fun W o => by simp
 have n1 := heap_alloc_new w (oneO (.int .i64 0) 3)
 have b1 := (Below.refl _ w).alloc (Nat.le_refl _) (oneO (.int .i64 0) 3)
 have s1 := e1 w (oneO (.int .i64 0) 3)
 obtain ⟨W1,hW1⟩ : ∃ W1,w.alloc (oneO (.int .i64 0) 3) = W1 := ⟨_,rfl⟩
 rw [hW1] at n1 b1 s1 ⊢
 have n2 := heap_alloc_new W1 (oneO (.int .i64 86400001) 3)
 have b2 := (Below.refl _ W1).alloc (Nat.le_refl _) (oneO (.int .i64 86400001) 3)
 have s2 := e1 W1 (oneO (.int .i64 86400001) 3)
 obtain ⟨W2,hW2⟩ : ∃ W2,W1.alloc (oneO (.int .i64 86400001) 3) = W2 := ⟨_,rfl⟩
 rw [hW2] at n2 b2 s2 ⊢
 have n3 := heap_alloc_new W2 (digO 10 0 false)
 have b3 := (Below.refl _ W2).alloc (Nat.le_refl _) (digO 10 0 false)
 have s3 := e1 W2 (digO 10 0 false)
 obtain ⟨W3,hW3⟩ : ∃ W3,W2.alloc (digO 10 0 false) = W3 := ⟨_,rfl⟩
 rw [hW3] at n3 b3 s3 ⊢
 have n4 := heap_alloc_new W3 (oneO (.string ⟨#[]⟩) 9)
 have b4 := (Below.refl _ W3).alloc (Nat.le_refl _) (oneO (.string ⟨#[]⟩) 9)
 have s4 := e1 W3 (oneO (.string ⟨#[]⟩) 9)
 obtain ⟨W4,hW4⟩ : ∃ W4,W3.alloc (oneO (.string ⟨#[]⟩) 9) = W4 := ⟨_,rfl⟩
 rw [hW4] at n4 b4 s4 ⊢
 have n5 := World.iter_heap W4 s 0
 have b5 : Below W4.heap.size W4 (W4.iter s 0) := (Below.refl _ W4).alloc (Nat.le_refl _) _
 rw [s1] at s2 n2 b2
 rw [s2] at s3 n3 b3
 rw [s3] at s4 n4 b4
 rw [s4] at n5 b5
 refine ⟨⟨?_,?_,?_,?_⟩,n5,?_⟩
 · rw [b5.block _ (by omega),b4.block _ (by omega),b3.block _ (by omega),b2.block _ (by omega)]; exact n1
 · rw [b5.block _ (by omega),b4.block _ (by omega),b3.block _ (by omega)]; exact n2
 · rw [b5.block _ (by omega),b4.block _ (by omega)]; exact n3
 · rw [b5.block _ (by omega)]; exact n4
 · exact (((b1.trans (b2.mono (by omega))).trans (b3.mono (by omega))).trans (b4.mono (by omega))).trans (b5.mono (by omega))
theorem TimeAt.below {B : Nat} {total last v : Int} {wh : Bool} {u : ByteArray} {w : World} (h : TimeAt B total last v wh u w) {w' : World} (k : But (B + 2) w w') {v' : Int} {wh' : Bool} (hd : w'.heap[B + 2]? = some (digO 10 v' wh')) : TimeAt B total last v' wh' u w' :=
 ⟨(k.block _ (by omega)).trans h.total,(k.block _ (by omega)).trans h.last,hd,(k.block _ (by omega)).trans h.unit⟩
set_option maxHeartbeats 4000000 in
theorem readTime_yes (s t : ByteArray) (w : World) (hsz : s.size < 35184372088832) (hb : behindD t.data.toList = (s.data.toList,true)) :
 Calls Tryz.prog 217 #[.string t] w fun e w' =>
  e = .returned (.tuple #[.int .i64 (endT (feedT t0 s.data.toList)).1,.bool (endT (feedT t0 s.data.toList)).2]) ∧ Below w.heap.size w w' := by
 obtain ⟨F,hF⟩ : ∃ F,feedT t0 s.data.toList = F := ⟨_,rfl⟩
 rw [hF]
 have cB : ∀ W,Calls Tryz.prog 232 #[.string t] W fun e w' => e = .returned (.tuple #[.string s,.bool true]) ∧ w' = W := fun W => by
  have := behind_any t W
  rw [hb] at this
  exact this
 clear hb
 go_enter Tryz.func217,Tryz.ntmps217
 go_wp2_with (go_at_call 232; go_must (refine (cB _).mono ?_; rintro e w' ⟨rfl,rfl⟩))
 go_loopg [] s.size (fun gk wx => ∃ (pos : Nat) (st : TSt) (u : ByteArray),TimeAt w'.heap.size st.total st.last st.v st.wh u wx ∧ u.data.toList = st.unit ∧ wx.heap[w'.heap.size + 4]? = some (.stringIter s pos) ∧ Below w'.heap.size w' wx ∧
  feedT st (s.data.toList.drop pos) = F ∧ TBd st ∧ u.size ≤ pos ∧ s.size ≤ pos + gk ∧ pos ≤ s.size)
 case atStart =>
  obtain ⟨h1,h2,h3⟩ := time_start w' s
  exact ⟨0,t0,⟨#[]⟩,h1,rfl,h2,h3,by simpa using hF,t0_bd,by decide,by omega,by omega⟩
 case round =>
  obtain ⟨pos,st,u,hT,hu,hit,hbw,hf,hbd,hup,hfu,hps⟩ := hrel
  have hsz1 : w'.heap.size + 4 < wr.heap.size := (Array.getElem?_eq_some_iff.1 hit).1
  by_cases hlt : pos < s.size
  · obtain ⟨g',rfl⟩ : ∃ g',gk = g' + 1 := ⟨gk - 1,by omega⟩
    have hnx : ∀ ty,(Instr.next (.pointer (some ⟨w'.heap.size + 4,0,none⟩)) true ty).run Tryz.prog wr = _ := fun ty => Lib.run_next_any_at wr (w'.heap.size + 4) s pos ty hit hlt
    have hrl := Lib.rune_le s pos
    have hfe := drop_at s pos hlt
    obtain ⟨R,hR⟩ : ∃ R,(Utf8.decode s pos).1 = R := ⟨_,rfl⟩
    obtain ⟨K,hK⟩ : ∃ K,(Utf8.decode s pos).2 = K := ⟨_,rfl⟩
    have hst : (stepT st (R : Int) = none ∧ F = none) ∨ (K = 1 ∧ ∃ st',stepT st (R : Int) = some st' ∧ feedT st' (s.data.toList.drop (pos + 1)) = F) := by
     rw [hfe,feedT] at hf
     by_cases ha : (s[pos]'hlt).toNat < 128
     · have hd := decode_ascii s pos hlt ha
       rw [hd] at hR hK
       subst hR
       cases hq : stepT st ((s[pos]'hlt).toNat : Int) with
       | none => rw [hq] at hf; exact .inl ⟨rfl,hf.symm⟩
       | some st' => rw [hq] at hf; exact .inr ⟨hK.symm,st',rfl,hf⟩
     · have hd := (decode_high s pos hlt (by omega)).1
       rw [hR] at hd
       rw [stepT_high st _ (by omega : (128 : Int) ≤ ((s[pos]'hlt).toNat : Int))] at hf
       exact .inl ⟨stepT_high st _ (by omega),hf.symm⟩
    rw [hR,hK] at hnx
    rw [hR] at hrl
    have hit2 := Lib.iterAt_heap wr (w'.heap.size + 4) s pos (pos + K) hit
    have hbw2 := Lib.below_iterAt hbw (k := w'.heap.size + 4) (by omega) s (pos + K)
    have hT2 : TimeAt w'.heap.size st.total st.last st.v st.wh u (wr.iterAt (w'.heap.size + 4) s (pos + K)) :=
     ⟨(Lib.iterAt_other wr _ _ s _ (by omega)).trans hT.total,(Lib.iterAt_other wr _ _ s _ (by omega)).trans hT.last,(Lib.iterAt_other wr _ _ s _ (by omega)).trans hT.count,(Lib.iterAt_other wr _ _ s _ (by omega)).trans hT.unit⟩
    obtain ⟨W,hWd⟩ : ∃ W,wr.iterAt (w'.heap.size + 4) s (pos + K) = W := ⟨_,rfl⟩
    rw [hWd] at hnx hit2 hbw2 hT2
    have hszW : w'.heap.size + 4 < W.heap.size := (Array.getElem?_eq_some_iff.1 hit2).1
    clear hit hbw hT hWd hf hfe
    by_cases hlet : 97 ≤ R ∧ R ≤ 122
    · obtain ⟨hl0,hl1⟩ := hlet
      obtain ⟨u0,uf⟩ := one_cell hT2.unit
      have hcv : ∀ w0,(convert 21 9 (.int .i32 (R : Int))).run Tryz.prog w0 = .ok (.string ⟨#[UInt8.ofNat R]⟩) w0 := fun w0 => conv_letter R hl0 hl1 w0
      obtain ⟨st',hs',hf'⟩ : ∃ st',some { st with unit := st.unit ++ [UInt8.ofNat R] } = some st' ∧ K = 1 ∧ feedT st' (s.data.toList.drop (pos + 1)) = F := by
       have e : stepT st (R : Int) = some { st with unit := st.unit ++ [UInt8.ofNat R] } := by
        rw [stepT,if_pos (by omega)]; rfl
       rw [e] at hst
       rcases hst with ⟨h,_⟩ | ⟨hk,st',h1,h2⟩
       · cases h
       · exact ⟨st',h1,hk,h2⟩
      clear hst
      go_wp2
      go_roundg g'
      case measure => omega
      case rel =>
       cases hs'
       obtain ⟨hk,hf'⟩ := hf'
       refine ⟨pos + 1,{ st with unit := st.unit ++ [UInt8.ofNat R] },u ++ ⟨#[UInt8.ofNat R]⟩,?_,?_,?_,?_,hf',⟨hbd.v0,hbd.v1,hbd.t0,hbd.t1,hbd.l⟩,?_,by omega,by omega⟩
       · exact ⟨set_other (by omega) hT2.total,set_other (by omega) hT2.last,set_other (by omega) hT2.count,one_set hT2.unit⟩
       · rw [app_list,hu]
       · exact set_other (by omega) (hk ▸ hit2)
       · exact hbw2.setCell (by show _ ≤ w'.heap.size + 1 + 1 + 1; omega) _
       · rw [app_size]; omega
    · obtain ⟨u0,uf⟩ := one_cell hT2.unit
      have est : stepT st (R : Int) = (partT st).bind fun s => (stepD 10 (s.v,s.wh) (R : Int)).map fun d => { s with v := d.1,wh := d.2 } := by
       rw [stepT,if_neg (by omega)]
      have hlet' : ¬ (R : Int) ≤ 122 ∨ ¬ 97 ≤ (R : Int) := by omega
      by_cases hem : st.unit = []
      · have he : (u.toList == []) = true := by rw [ByteArray.toList_eq,hu,hem]; rfl
        have ep : partT st = some st := by rw [partT,if_pos hem]
        rw [ep,Option.bind_some] at est
        have cT := dtake_any (w'.heap.size + 2) 10 st.v (R : Int) st.wh W hT2.count (by omega) (by omega) hbd.v0 hbd.v1 (.inl rfl)
        cases hq : stepD 10 (st.v,st.wh) (R : Int) with
        | none =>
         have hF2 : F = none := by
          rw [est,hq] at hst
          rcases hst with ⟨_,h⟩ | ⟨_,_,h,_⟩
          · exact h
          · cases h
         rw [hq] at cT
         clear hst est hq hem ep
         rcases hlet' with hl | hl
         all_goals go_wp2_with (first | (go_at_call 235; go_must (refine cT.mono ?_; rintro e W' ⟨rfl,hbut,-⟩)))
         all_goals go_ret2
         all_goals exact ⟨by rw [hF2]; rfl,hbw2.trans (hbut.below (by omega))⟩
        | some d =>
         have hbd2 : TBd { st with v := d.1,wh := d.2 } := by
          have := stepD_bd (base := 10) (.inl rfl) hbd.v0 hbd.v1 hq
          exact ⟨this.1,this.2,hbd.t0,hbd.t1,hbd.l⟩
         obtain ⟨hk,hf'⟩ : K = 1 ∧ feedT { st with v := d.1,wh := d.2 } (s.data.toList.drop (pos + 1)) = F := by
          rw [est,hq] at hst
          rcases hst with ⟨h,_⟩ | ⟨hk,_,h,h2⟩
          · cases h
          · cases h; exact ⟨hk,h2⟩
         rw [hq] at cT
         clear hst est hq ep
         rcases hlet' with hl | hl
         all_goals go_wp2_with (first | (go_at_call 235; go_must (refine cT.mono ?_; rintro e W' ⟨rfl,hbut,hdg⟩)))
         all_goals go_roundg g'
         case measure => omega
         case rel =>
          exact ⟨pos + 1,{ st with v := d.1,wh := d.2 },u,hT2.below hbut (hdg d rfl),hu,(hbut.block _ (by omega)).trans (hk ▸ hit2),hbw2.trans (hbut.below (by omega)),hf',hbd2,by omega,by omega,by omega⟩
         case measure => omega
         case rel =>
          exact ⟨pos + 1,{ st with v := d.1,wh := d.2 },u,hT2.below hbut (hdg d rfl),hu,(hbut.block _ (by omega)).trans (hk ▸ hit2),hbw2.trans (hbut.below (by omega)),hf',hbd2,by omega,by omega,by omega⟩
      · have he : (u.toList == []) = false := by rw [ByteArray.toList_eq,hu]; simpa using hem
        have cP := part_any w'.heap.size st.total st.last st.v st.wh u W hT2 hbd.t0 hbd.small hbd.v0 hbd.v1
        have hBP := fun st' => partT_bd (st' := st') hbd
        have ep : partT st = if rightP st.last st.wh (unitL st.unit) = true then some ⟨st.total + st.v * unitL st.unit,unitL st.unit,0,false,[]⟩ else none := by rw [partT,if_neg hem]
        rw [hu] at cP
        cases hr : rightP st.last st.wh (unitL st.unit) with
        | false =>
         rw [hr] at ep cP
         have hF2 : F = none := by
          rw [est,ep] at hst
          rcases hst with ⟨_,h⟩ | ⟨_,_,h,_⟩
          · exact h
          · cases h
         clear hst est ep hr hBP
         rcases hlet' with hl | hl
         all_goals go_wp2_with (first | (go_at_call 233; go_must (refine cP.mono ?_; rintro e W' ⟨rfl,hwin,-⟩)))
         all_goals go_ret2
         all_goals exact ⟨by rw [hF2]; rfl,hbw2.trans (hwin.below (Nat.le_refl _))⟩
        | true =>
         rw [hr] at ep cP
         rw [if_pos rfl] at ep
         have hb1 := hBP _ ep
         rw [ep,Option.bind_some] at est
         obtain ⟨s1,hs1⟩ : ∃ s1 : TSt,(⟨st.total + st.v * unitL st.unit,unitL st.unit,0,false,[]⟩ : TSt) = s1 := ⟨_,rfl⟩
         have e1 : s1.unit = [] := by rw [← hs1]
         have e2 : s1.v = 0 := by rw [← hs1]
         have e3 : s1.wh = false := by rw [← hs1]
         have cP' : Calls Tryz.prog 233 #[.pointer (some ⟨w'.heap.size + 3,0,none⟩),.pointer (some ⟨w'.heap.size + 2,0,none⟩),.pointer (some ⟨w'.heap.size + 1,0,none⟩),.pointer (some ⟨w'.heap.size,0,none⟩)] W fun e w2 =>
          e = .returned (.bool true) ∧ Win w'.heap.size (w'.heap.size + 4) W w2 ∧ TimeAt w'.heap.size s1.total s1.last 0 false ⟨#[]⟩ w2 := by rw [← hs1]; exact cP
         rw [hs1] at est hb1
         rw [e2,e3] at est
         clear cP ep hr hBP hs1
         have cT := fun W' h => dtake_any (w'.heap.size + 2) 10 0 (R : Int) false W' h (by omega) (by omega) (by omega) (by omega) (.inl rfl)
         cases hq : stepD 10 (0,false) (R : Int) with
         | none =>
          have hF2 : F = none := by
           rw [est,hq] at hst
           rcases hst with ⟨_,h⟩ | ⟨_,_,h,_⟩
           · exact h
           · cases h
          rw [hq] at cT
          clear hst est hq hem
          rcases hlet' with hl | hl
          all_goals go_wp2_with (first | (go_at_call 233; go_must (refine cP'.mono ?_; rintro e W' ⟨rfl,hwin,hT3⟩)) | (go_at_call 235; go_must (refine (cT _ hT3.count).mono ?_; rintro e W'' ⟨rfl,hbut,-⟩)))
          all_goals go_ret2
          all_goals exact ⟨by rw [hF2]; rfl,(hbw2.trans (hwin.below (Nat.le_refl _))).trans (hbut.below (by omega))⟩
         | some d =>
          have hbd2 : TBd { s1 with v := d.1,wh := d.2 } := by
           have := stepD_bd (base := 10) (st := (0,false)) (.inl rfl) (by decide) (by decide) hq
           exact ⟨this.1,this.2,hb1.t0,hb1.t1,hb1.l⟩
          obtain ⟨hk,hf'⟩ : K = 1 ∧ feedT { s1 with v := d.1,wh := d.2 } (s.data.toList.drop (pos + 1)) = F := by
           rw [est,hq] at hst
           rcases hst with ⟨h,_⟩ | ⟨hk,_,h,h2⟩
           · cases h
           · cases h; exact ⟨hk,h2⟩
          rw [hq] at cT
          clear hst est hq
          rcases hlet' with hl | hl
          all_goals go_wp2_with (first | (go_at_call 233; go_must (refine cP'.mono ?_; rintro e W' ⟨rfl,hwin,hT3⟩)) | (go_at_call 235; go_must (refine (cT _ hT3.count).mono ?_; rintro e W'' ⟨rfl,hbut,hdg⟩)))
          all_goals go_roundg g'
          case measure => omega
          case rel =>
           exact ⟨pos + 1,{ s1 with v := d.1,wh := d.2 },⟨#[]⟩,hT3.below hbut (hdg d rfl),e1.symm,(hbut.block _ (by omega)).trans ((hwin.block _ (by omega)).trans (hk ▸ hit2)),(hbw2.trans (hwin.below (Nat.le_refl _))).trans (hbut.below (by omega)),hf',hbd2,by show 0 ≤ _; omega,by omega,by omega⟩
          case measure => omega
          case rel =>
           exact ⟨pos + 1,{ s1 with v := d.1,wh := d.2 },⟨#[]⟩,hT3.below hbut (hdg d rfl),e1.symm,(hbut.block _ (by omega)).trans ((hwin.block _ (by omega)).trans (hk ▸ hit2)),(hbw2.trans (hwin.below (Nat.le_refl _))).trans (hbut.below (by omega)),hf',hbd2,by show 0 ≤ _; omega,by omega,by omega⟩
  · have hnx : ∀ ty,(Instr.next (.pointer (some ⟨w'.heap.size + 4,0,none⟩)) true ty).run Tryz.prog wr = _ := fun ty => Lib.run_next_end_at wr (w'.heap.size + 4) s pos ty hit hlt
    have hnil : s.data.toList.drop pos = [] := List.drop_eq_nil_of_le (by rw [Array.length_toList]; show s.size ≤ pos; omega)
    rw [hnil,feedT] at hf
    have cP := part_any w'.heap.size st.total st.last st.v st.wh u wr hT hbd.t0 hbd.small hbd.v0 hbd.v1
    rw [hu] at cP
    clear hnil hT hit
    go_wp2_with (first | (go_at_call 233; go_must (refine cP.mono ?_; rintro e W' ⟨rfl,hwin,hT3⟩; obtain ⟨a0,af⟩ := one_cell hT3.total)))
    go_ret2
    exact ⟨by rw [← hf]; rfl,hbw.trans (hwin.below (Nat.le_refl _))⟩
end Go.Proofs.YtdcoidmbainkmaaGreatDoor
