/- Texts put together: Sm, Kf, Kg. -/
import Derived.Shelf.LaysM
import Derived.Shelf.Strings.MapGrows
import Derived.Test.YtdcoidmbainkmaaGreatDoorProg
import Derived.Test.YtdcoidmbainkmaaGreatDoorQ27
import Derived.Lib.Case
import Derived.Lib.TrimAscii
import Derived.Lib.LaidU8
namespace Go.Proofs
open Go.Shelf
def Tryz.lays230_ren : Go.Shelf.Ren := ⟨fun | 230 => 58 | 197 => 88 | 118 => 89 | 165 => 55 | 166 => 56 | 168 => 90 | 270 => 91 | 167 => 57 | 169 => 15 | 260 => 129 | 240 => 86 | 241 => 87 | 242 => 130 | 276 => 127 | 277 => 128 | 278 => 160 | n => n,fun | 107 => 122 | 9 => 9 | 72 => 51 | 0 => 0 | 4 => 4 | 3 => 3 | 21 => 21 | 105 => 141 | 76 => 118 | 5 => 5 | 75 => 117 | 70 => 49 | 20 => 20 | 37 => 40 | 127 => 89 | 119 => 191 | 46 => 175 | 139 => 194 | 138 => 193 | 164 => 165 | 51 => 195 | 80 => 55 | n => n,fun | 3 => 7 | 4 => 8 | n => n⟩
theorem Tryz.lays230 : Go.Proofs.Lays.n230 Tryz.prog Tryz.lays230_ren := {
 mixed := by kernel_rfl
 f118 := Tryz.func89.trans (congrArg some (by kernel_rfl))
 f165 := Tryz.func55.trans (congrArg some (by kernel_rfl))
 f166 := Tryz.func56.trans (congrArg some (by kernel_rfl))
 f167 := Tryz.func57.trans (congrArg some (by kernel_rfl))
 f168 := Tryz.func90.trans (congrArg some (by kernel_rfl))
 f169 := Tryz.func15.trans (congrArg some (by kernel_rfl))
 f197 := Tryz.func88.trans (congrArg some (by kernel_rfl))
 f230 := Tryz.func58.trans (congrArg some (by kernel_rfl))
 f240 := Tryz.func86.trans (congrArg some (by kernel_rfl))
 f241 := Tryz.func87.trans (congrArg some (by kernel_rfl))
 f242 := Tryz.func130.trans (congrArg some (by kernel_rfl))
 f260 := Tryz.func129.trans (congrArg some (by kernel_rfl))
 f270 := Tryz.func91.trans (congrArg some (by kernel_rfl))
 f276 := Tryz.func127.trans (congrArg some (by kernel_rfl))
 f277 := Tryz.func128.trans (congrArg some (by kernel_rfl))
 f278 := Tryz.func160.trans (congrArg some (by kernel_rfl))
 t0 := Tryz.underlying0
 a0 := Tryz.isAgg0
 z0 := Tryz.sizeOf0
 v0 := Tryz.zeroValue0
 t3 := Tryz.underlying3
 a3 := Tryz.isAgg3
 z3 := Tryz.sizeOf3
 v3 := Tryz.zeroValue3
 t4 := Tryz.underlying4
 a4 := Tryz.isAgg4
 z4 := Tryz.sizeOf4
 v4 := Tryz.zeroValue4
 t5 := Tryz.underlying5
 a5 := Tryz.isAgg5
 z5 := Tryz.sizeOf5
 v5 := Tryz.zeroValue5
 t9 := Tryz.underlying9
 a9 := Tryz.isAgg9
 z9 := Tryz.sizeOf9
 v9 := Tryz.zeroValue9
 t20 := Tryz.underlying20
 a20 := Tryz.isAgg20
 z20 := Tryz.sizeOf20
 v20 := Tryz.zeroValue20
 t21 := Tryz.underlying21
 a21 := Tryz.isAgg21
 z21 := Tryz.sizeOf21
 v21 := Tryz.zeroValue21
 t37 := Tryz.underlying40
 a37 := Tryz.isAgg40
 z37 := Tryz.sizeOf40
 v37 := Tryz.zeroValue40
 t46 := Tryz.underlying175
 a46 := Tryz.isAgg175
 z46 := Tryz.sizeOf175
 v46 := Tryz.zeroValue175
 t51 := Tryz.underlying195
 a51 := Tryz.isAgg195
 z51 := Tryz.sizeOf195
 v51 := Tryz.zeroValue195
 t70 := Tryz.underlying49
 a70 := Tryz.isAgg49
 z70 := Tryz.sizeOf49
 v70 := Tryz.zeroValue49
 t72 := Tryz.underlying51
 a72 := Tryz.isAgg51
 z72 := Tryz.sizeOf51
 v72 := Tryz.zeroValue51
 t75 := Tryz.underlying117
 a75 := Tryz.isAgg117
 z75 := Tryz.sizeOf117
 v75 := Tryz.zeroValue117
 t76 := Tryz.underlying118
 a76 := Tryz.isAgg118
 z76 := Tryz.sizeOf118
 v76 := Tryz.zeroValue118
 t105 := Tryz.underlying141
 a105 := Tryz.isAgg141
 z105 := Tryz.sizeOf141
 v105 := Tryz.zeroValue141
 t107 := Tryz.underlying122
 a107 := Tryz.isAgg122
 z107 := Tryz.sizeOf122
 v107 := Tryz.zeroValue122
 t119 := Tryz.underlying191
 a119 := Tryz.isAgg191
 z119 := Tryz.sizeOf191
 t127 := Tryz.underlying89
 a127 := Tryz.isAgg89
 z127 := Tryz.sizeOf89
 v127 := Tryz.zeroValue89
 t138 := Tryz.underlying193
 a138 := Tryz.isAgg193
 z138 := Tryz.sizeOf193
 v138 := Tryz.zeroValue193
 t139 := Tryz.underlying194
 a139 := Tryz.isAgg194
 z139 := Tryz.sizeOf194
 v139 := Tryz.zeroValue194
 t164 := Tryz.underlying165
 a164 := Tryz.isAgg165
 z164 := Tryz.sizeOf165
 v164 := Tryz.zeroValue165
 g3 := by kernel_rfl
 g4 := by kernel_rfl }
theorem Tryz.Builder_Extra_230 : Builder.Extra Tryz.prog Tryz.lays230_ren := {
 sizeBuilder := by kernel_rfl
 liesBuilder := by kernel_rfl
 t5 := Tryz.underlying5
 a5 := Tryz.isAgg5
 z5 := Tryz.sizeOf5
 v5 := Tryz.zeroValue5
 infoByte := by kernel_rfl
 cellsByte := by kernel_rfl
 sizeByte := by kernel_rfl
 neB5 := by decide }
open Go.RowKit Go.Lib in
theorem Tryz.strings_Map_grows (g : Nat) (lb : Array Value) (eg : ∀ args w,(callFunc g args).run Tryz.prog w = .ok (.enter g args) w) (f : Int → Int) (s : ByteArray) (w : World) (hs : s.size < 35184372088832) (hf : MapGrows Tryz.prog g lb f w) (hnn : ∀ x : Nat,x ≤ 1114111 → -2147483648 ≤ f x ∧ f x ≤ 2147483647) (hT : Lib.Utf8Tabs 7 8 w) :
 Calls Tryz.prog 58 #[.func (.func g) #[] lb,.string s] w fun e w' => e = .returned (.string ⟨(Lib.mapD f s.data.toList).toArray⟩) ∧ Below w.heap.size w w' := Any.strings_Map_grows Tryz.lays230 Tryz.Builder_Extra_230 g lb eg f s w hs hf hnn hT
end Go.Proofs

namespace Go.Proofs.YtdcoidmbainkmaaGreatDoor
open Go.RowKit
def lowL (l : List UInt8) : List UInt8 := Lib.toLowerA l
def mapS (l : List UInt8) : List UInt8 := Lib.mapD smallI l
theorem low_byte : ∀ b : Fin 128,Lib.encodeRune (smallI ((b.val : Nat) : Int)) = [Lib.lowerB (UInt8.ofNat b.val)] := by decide +kernel
theorem smallI_nn (x : Int) (h : 0 ≤ x) : 0 ≤ smallI x := by unfold smallI; split <;> omega
theorem mapS_ascii : ∀ (l : List UInt8),(∀ b ∈ l,b.toNat < 128) → mapS l = lowL l
 | [],_ => rfl
 | b :: t,ha => by
  have hb := ha b List.mem_cons_self
  have ih := mapS_ascii t (fun x hx => ha x (List.mem_cons_of_mem _ hx))
  unfold mapS at ih ⊢
  rw [Lib.mapD_step smallI (b :: t) (by simp),Lib.decodeL_ascii b t hb]
  dsimp only
  have e := low_byte ⟨b.toNat,hb⟩
  dsimp only at e
  rw [if_pos (smallI_nn _ (by omega)),e,List.drop_succ_cons,List.drop_zero,ih]
  simp [lowL,Lib.toLowerA]
theorem enc_high (r : Int) (h : 128 ≤ r) : ∃ b ∈ Lib.encodeRune r,128 ≤ b.toNat := by
 unfold Lib.encodeRune
 have big : ∀ x : Int,128 ≤ x → x < 256 → 128 ≤ (x.toNat.toUInt8).toNat := fun x h0 h1 => by
  have e : (x.toNat.toUInt8).toNat = x.toNat % 256 := by simp [Nat.toUInt8]
  rw [e]; omega
 by_cases h1 : r ≤ 2047
 · rw [Lib.encodeRuneZ_two h h1]
   exact ⟨_,List.mem_cons_self,big _ (by omega) (by omega)⟩
 · by_cases h2 : (2048 ≤ r ∧ r < 55296) ∨ (57343 < r ∧ r ≤ 65535)
   · rw [Lib.encodeRuneZ_three h2]
     exact ⟨_,List.mem_cons_self,big _ (by omega) (by omega)⟩
   · by_cases h3 : 65536 ≤ r ∧ r ≤ 1114111
     · rw [Lib.encodeRuneZ_four h3.1 h3.2]
       exact ⟨_,List.mem_cons_self,big _ (by omega) (by omega)⟩
     · rw [Lib.encodeRuneZ_bad (by omega)]
       exact ⟨_,List.mem_cons_self,by decide⟩
theorem enc_le4 (z : Int) : (Lib.encodeRune z).length ≤ 4 := by
 unfold Lib.encodeRune Lib.encodeRuneZ
 rw [List.length_map]
 repeat' split
 all_goals simp
theorem mapS_len : ∀ (n : Nat) (l : List UInt8),l.length ≤ n → (mapS l).length ≤ 4 * l.length
 | 0,l,hn => by
  have : l = [] := List.eq_nil_of_length_eq_zero (by omega)
  subst this
  decide
 | n + 1,l,hn => by
  by_cases hne : l = []
  · subst hne; decide
  · have hw := Lib.decodeL_width l
    have hle := Lib.decodeL_le l hne
    have ih := mapS_len n (l.drop (Lib.decodeL l).2) (by rw [List.length_drop]; omega)
    unfold mapS at ih ⊢
    rw [List.length_drop] at ih
    rw [Lib.mapD_step smallI l hne,List.length_append]
    have hh : (if 0 ≤ smallI (Lib.decodeL l).1 then Lib.encodeRune (smallI (Lib.decodeL l).1) else []).length ≤ 4 := by
     split
     · exact enc_le4 _
     · simp
    omega
theorem mapS_high : ∀ (l : List UInt8),(∃ b ∈ l,128 ≤ b.toNat) → ∃ b ∈ mapS l,128 ≤ b.toNat
 | [],h => by obtain ⟨b,hb,_⟩ := h; cases hb
 | c :: t,h => by
  by_cases hc : c.toNat < 128
  · have ht : ∃ b ∈ t,128 ≤ b.toNat := by
     obtain ⟨b,hb,hh⟩ := h
     rcases List.mem_cons.1 hb with rfl | hb
     · omega
     · exact ⟨b,hb,hh⟩
    obtain ⟨b,hb,hh⟩ := mapS_high t ht
    refine ⟨b,?_,hh⟩
    unfold mapS at hb ⊢
    rw [Lib.mapD_step smallI (c :: t) (by simp),Lib.decodeL_ascii c t hc,List.drop_succ_cons,List.drop_zero]
    exact List.mem_append_right _ hb
  · have hd : 128 ≤ (Lib.decodeL (c :: t)).1 := by
     have h0 : 0 < (⟨(c :: t).toArray⟩ : ByteArray).size := by
      show 0 < (c :: t).toArray.size
      rw [List.size_toArray]; simp
     exact (decode_high ⟨(c :: t).toArray⟩ 0 h0 (by show 128 ≤ c.toNat; omega)).1
    obtain ⟨b,hb,hh⟩ := enc_high (Lib.decodeL (c :: t)).1 (by omega)
    refine ⟨b,?_,hh⟩
    unfold mapS
    have e : smallI (Lib.decodeL (c :: t)).1 = (Lib.decodeL (c :: t)).1 := by unfold smallI; rw [if_neg (by omega)]
    rw [Lib.mapD_step smallI (c :: t) (by simp),e,if_pos (by omega)]
    exact List.mem_append_left _ hb
theorem feed_high (base : Int) : ∀ (l : List UInt8) (st : Int × Bool),(∃ b ∈ l,128 ≤ b.toNat) → feed base st l = none
 | [],_,h => by obtain ⟨b,hb,_⟩ := h; cases hb
 | c :: t,st,h => by
  rw [feed_cons]
  by_cases hc : c.toNat < 128
  · have ht : ∃ b ∈ t,128 ≤ b.toNat := by
     obtain ⟨b,hb,hh⟩ := h
     rcases List.mem_cons.1 hb with rfl | hb
     · omega
     · exact ⟨b,hb,hh⟩
    cases stepD base st c.toNat with
    | none => rfl
    | some st' => exact feed_high base t st' ht
  · rw [stepD_high base st _ (by omega)]; rfl
theorem feedT_high : ∀ (l : List UInt8) (st : TSt),(∃ b ∈ l,128 ≤ b.toNat) → feedT st l = none
 | [],_,h => by obtain ⟨b,hb,_⟩ := h; cases hb
 | c :: t,st,h => by
  rw [feedT]
  by_cases hc : c.toNat < 128
  · have ht : ∃ b ∈ t,128 ≤ b.toNat := by
     obtain ⟨b,hb,hh⟩ := h
     rcases List.mem_cons.1 hb with rfl | hb
     · omega
     · exact ⟨b,hb,hh⟩
    cases stepT st c.toNat with
    | none => rfl
    | some st' => exact feedT_high t st' ht
  · rw [stepT_high st _ (by omega)]; rfl
theorem high_drop (l p : List UInt8) (hp : ∀ b ∈ p,b.toNat < 128) (h : Lib.hasPrefix l p = true) (hh : ∃ b ∈ l,128 ≤ b.toNat) : ∃ b ∈ l.drop p.length,128 ≤ b.toNat := by
 obtain ⟨t,rfl⟩ := List.isPrefixOf_iff_prefix.1 h
 obtain ⟨b,hb,h1⟩ := hh
 rcases List.mem_append.1 hb with hb | hb
 · have := hp b hb; omega
 · exact ⟨b,by simpa using hb,h1⟩
theorem readD_high (base : Int) (l : List UInt8) (h : ∃ b ∈ l,128 ≤ b.toNat) : readD base l = (0,false) := by rw [readD,feed_high base l _ h]; rfl
theorem numD_high (l : List UInt8) (h : ∃ b ∈ l,128 ≤ b.toNat) : numD l = (0,false) := by
 unfold numD
 split
 · rename_i h1; exact readD_high _ _ (high_drop l [49,54,35] (by decide) h1 h)
 · split
   · rename_i h1; exact readD_high _ _ (high_drop l [50,35] (by decide) h1 h)
   · exact readD_high _ _ h
theorem timeD_high (l : List UInt8) (h : ∃ b ∈ l,128 ≤ b.toNat) : timeD l = (0,false) := by
 unfold timeD behindD
 by_cases h1 : Lib.hasPrefix l [116,105,109,101,35] = true
 · have hd : ∃ b ∈ l.drop 5,128 ≤ b.toNat := high_drop l [116,105,109,101,35] (by decide) h1 h
   rw [if_pos h1]
   show endT (feedT t0 (l.drop 5)) = _
   rw [feedT_high _ _ hd]; rfl
 · rw [if_neg h1]
   by_cases h2 : Lib.hasPrefix l [116,35] = true
   · have hd : ∃ b ∈ l.drop 2,128 ≤ b.toNat := high_drop l [116,35] (by decide) h2 h
     rw [if_pos h2]
     show endT (feedT t0 (l.drop 2)) = _
     rw [feedT_high _ _ hd]; rfl
   · rw [if_neg h2]; rfl
def asD (k : Int) (l : List UInt8) : Int × Bool :=
 if k = 1 then (tru (l == [116,114,117,101]),l == [116,114,117,101] || l == [102,97,108,115,101])
 else if k = 5 then timeD l
 else if (k = 2 ∨ k = 3) ∧ Lib.hasPrefix l [45] = true then (-(readD 10 (l.drop 1)).1,(readD 10 (l.drop 1)).2) else numD l
theorem asD_high (k : Int) (l : List UInt8) (h : ∃ b ∈ l,128 ≤ b.toNat) : (asD k l).2 = false := by
 unfold asD
 split
 · have a : ∀ m : List UInt8,(∀ b ∈ m,b.toNat < 128) → (l == m) = false := fun m hm => by
    rw [beq_eq_false_iff_ne]
    rintro rfl
    obtain ⟨b,hb,h1⟩ := h
    have := hm b hb; omega
   show (_ || _) = false
   rw [a _ (by decide),a _ (by decide)]; rfl
 · split
   · rw [timeD_high l h]
   · split
     · rename_i h2
       have hd : ∃ b ∈ l.drop 1,128 ≤ b.toNat := high_drop l [45] (by decide) h2.2 h
       show (readD 10 (l.drop 1)).2 = false
       rw [readD_high _ _ hd]
     · rw [numD_high l h]
end Go.Proofs.YtdcoidmbainkmaaGreatDoor

namespace Go.Proofs.YtdcoidmbainkmaaGreatDoor
open Go.RowKit
theorem behind_size (t : ByteArray) (h : t.size < 35184372088832) : (⟨(behindD t.data.toList).1.toArray⟩ : ByteArray).size < 35184372088832 := by
 show (behindD t.data.toList).1.toArray.size < _
 rw [List.size_toArray]
 have hl : t.data.toList.length = t.size := by rw [Array.length_toList]; rfl
 unfold behindD
 split
 · rw [List.length_drop]; omega
 · split
   · rw [List.length_drop]; omega
   · show t.data.toList.length < _; omega
theorem readTime_any (t : ByteArray) (w : World) (hsz : t.size < 35184372088832) :
 Calls Tryz.prog 217 #[.string t] w fun e w' => e = .returned (.tuple #[.int .i64 (timeD t.data.toList).1,.bool (timeD t.data.toList).2]) ∧ Below w.heap.size w w' := by
 cases hb : (behindD t.data.toList).2 with
 | true =>
  have e : timeD t.data.toList = endT (feedT t0 (behindD t.data.toList).1) := by rw [timeD,if_pos hb]
  rw [e]
  exact readTime_yes ⟨(behindD t.data.toList).1.toArray⟩ t w (behind_size t hsz) (by rw [← hb])
 | false =>
  have e : timeD t.data.toList = (0,false) := by rw [timeD,if_neg (by rw [hb]; decide)]
  rw [e]
  have cB : ∀ W,Calls Tryz.prog 232 #[.string t] W fun e w' => e = .returned (.tuple #[.string ⟨(behindD t.data.toList).1.toArray⟩,.bool false]) ∧ w' = W := fun W => by
   have := behind_any t W
   rw [hb] at this
   exact this
  clear e hb
  go_enter Tryz.func217,Tryz.ntmps217
  go_wp2_with (go_at_call 232; go_must (refine (cB _).mono ?_; rintro e w' ⟨rfl,rfl⟩))
  go_ret2
  exact ⟨rfl,Below.refl _ _⟩
theorem readD_bd (l : List UInt8) (base : Int) (hs : base = 10 ∨ base = 16 ∨ base = 2) : 0 ≤ (readD base l).1 ∧ (readD base l).1 ≤ 4294967296 := by
 have key : ∀ (l : List UInt8) (st st' : Int × Bool),0 ≤ st.1 → st.1 ≤ 4294967296 → feed base st l = some st' → 0 ≤ st'.1 ∧ st'.1 ≤ 4294967296 := by
  intro l
  induction l with
  | nil => intro st st' h0 h1 h; cases h; exact ⟨h0,h1⟩
  | cons c t ih =>
   intro st st' h0 h1 h
   rw [feed_cons] at h
   cases hq : stepD base st c.toNat with
   | none => rw [hq] at h; cases h
   | some d =>
    rw [hq] at h
    have := stepD_bd hs h0 h1 hq
    exact ih d st' this.1 this.2 h
 unfold readD
 cases hf : feed base (0,false) l with
 | none => exact ⟨by decide,by decide⟩
 | some st => exact key l (0,false) st (by decide) (by decide) hf
set_option maxHeartbeats 1000000 in
theorem readAs_int (k : Int) (s : ByteArray) (w : World) (hk : k = 2 ∨ k = 3) (hsz : s.size < 35184372088832) :
 Calls Tryz.prog 200 #[.int .i64 k,.string s] w fun e w' => e = .returned (.tuple #[.int .i64 (asD k s.data.toList).1,.bool (asD k s.data.toList).2]) ∧ Below w.heap.size w w' := by
 have h1 : ¬ k = 1 := by omega
 have h5 : ¬ k = 5 := by omega
 cases hp : Lib.hasPrefix s.data.toList [45] with
 | true =>
  have e : Hid (asD k s.data.toList = (-(readD 10 (Lib.trimPrefix s.data.toList [45])).1,(readD 10 (Lib.trimPrefix s.data.toList [45])).2)) := by
   show _ = _
   rw [asD,if_neg h1,if_neg h5,if_pos ⟨hk,hp⟩,trim_yes hp]; rfl
  have hbd := readD_bd (Lib.trimPrefix s.data.toList [45]) 10 (.inl rfl)
  have c4 : ∀ w,Calls Tryz.prog 219 #[.string ⟨(Lib.trimPrefix s.data.toList [45]).toArray⟩,.int .i64 10] w fun e w' =>
   e = .returned (.tuple #[.int .i64 (readD 10 (Lib.trimPrefix s.data.toList [45])).1,.bool (readD 10 (Lib.trimPrefix s.data.toList [45])).2]) ∧ Below w.heap.size w w' := fun w =>
   readDigits_any ⟨(Lib.trimPrefix s.data.toList [45]).toArray⟩ 10 w (.inl rfl) (trim_size s [45] hsz)
  obtain ⟨D,hD⟩ : ∃ D,readD 10 (Lib.trimPrefix s.data.toList [45]) = D := ⟨_,rfl⟩
  rw [hD] at e hbd c4
  clear hD
  rcases hk with rfl | rfl
  all_goals go_enter Tryz.func200,Tryz.ntmps200
  all_goals go_wp2_with (first | (go_at_call 218; go_must (refine (Tryz.strings_CutPrefix s _ _).mono ?_; rintro e w' ⟨rfl,rfl⟩)) | (go_at_call 219; go_must (refine (c4 _).mono ?_; rintro e w1 ⟨rfl,hb⟩)))
  all_goals go_ret2
  all_goals exact ⟨by rw [e.out]; rfl,hb⟩
 | false =>
  have e : Hid (asD k s.data.toList = numD s.data.toList) := by
   show _ = _
   rw [asD,if_neg h1,if_neg h5,if_neg (by rw [hp]; simp)]
  rcases hk with rfl | rfl
  all_goals go_enter Tryz.func200,Tryz.ntmps200
  all_goals go_wp2_with (first | (go_at_call 218; go_must (refine (Tryz.strings_CutPrefix s _ _).mono ?_; rintro e w' ⟨rfl,rfl⟩)) | (go_at_call 220; go_must (refine (readNumber_any s _ hsz).mono ?_; rintro e w1 ⟨rfl,hb⟩)))
  all_goals go_ret2
  all_goals exact ⟨by rw [e.out]; rfl,hb⟩
set_option maxHeartbeats 1000000 in
theorem readAs_any (k : Int) (s : ByteArray) (w : World) (hk : isK k = true) (hsz : s.size < 35184372088832) :
 Calls Tryz.prog 200 #[.int .i64 k,.string s] w fun e w' => e = .returned (.tuple #[.int .i64 (asD k s.data.toList).1,.bool (asD k s.data.toList).2]) ∧ Below w.heap.size w w' := by
 have hk' : k = 1 ∨ k = 2 ∨ k = 3 ∨ k = 4 ∨ k = 5 := by
  simp only [isK,Bool.and_eq_true,decide_eq_true_eq] at hk; omega
 clear hk
 rcases hk' with rfl | rfl | rfl | rfl | rfl
 · have e : asD 1 s.data.toList = (tru (s.toList == [116,114,117,101]),s.toList == [116,114,117,101] || s.toList == [102,97,108,115,101]) := by rw [ByteArray.toList_eq]; rfl
   rw [e]
   clear e
   cases h1 : (s.toList == [116,114,117,101]) with
   | true =>
    go_enter Tryz.func200,Tryz.ntmps200
    go_wp2_with (go_at_call 216; go_must (refine (truth_any _ _).mono ?_; rintro e w' ⟨rfl,rfl⟩))
    go_ret2
    exact ⟨rfl,Below.refl _ _⟩
   | false =>
    go_enter Tryz.func200,Tryz.ntmps200
    go_wp2_with (go_at_call 216; go_must (refine (truth_any _ _).mono ?_; rintro e w' ⟨rfl,rfl⟩))
    go_ret2
    exact ⟨rfl,Below.refl _ _⟩
 · exact readAs_int 2 s w (.inl rfl) hsz
 · exact readAs_int 3 s w (.inr rfl) hsz
 · have e : asD 4 s.data.toList = numD s.data.toList := rfl
   rw [e]
   clear e
   go_enter Tryz.func200,Tryz.ntmps200
   go_wp2_with (go_at_call 220; go_must (refine (readNumber_any s _ hsz).mono ?_; rintro e w' ⟨rfl,hb⟩))
   go_ret2
   exact ⟨rfl,hb⟩
 · have e : asD 5 s.data.toList = timeD s.data.toList := rfl
   rw [e]
   clear e
   go_enter Tryz.func200,Tryz.ntmps200
   go_wp2_with (go_at_call 217; go_must (refine (readTime_any s _ hsz).mono ?_; rintro e w' ⟨rfl,hb⟩))
   go_ret2
   exact ⟨rfl,hb⟩
def readE (k : Int) (l : List UInt8) (n : Nat) : Int × Int :=
 if isK k = true then (if 40 < n then (0,2) else if (asD k l).2 = true then (if fitsK k (asD k l).1 = true then ((asD k l).1,0) else (0,3)) else (0,1)) else (0,5)
theorem small_grows (w : World) : MapGrows Tryz.prog 201 #[] smallI w := fun W x hx _ =>
 (small_any (x : Int) W (by omega) (by omega)).mono fun _ _ ⟨he,hw⟩ => ⟨he,hw ▸ Below.refl _ _⟩
theorem small_range (x : Nat) (h : x ≤ 1114111) : -2147483648 ≤ smallI x ∧ smallI x ≤ 2147483647 := by unfold smallI; split <;> omega
theorem map_any (s : ByteArray) (w : World) (hsz : s.size < 35184372088832) (hT : Lib.Utf8Tabs 7 8 w) :
 Calls Tryz.prog 58 #[.func (.func 201) #[] #[],.string s] w fun e w' => e = .returned (.string ⟨(mapS s.data.toList).toArray⟩) ∧ Below w.heap.size w w' :=
 Tryz.strings_Map_grows 201 #[] (enters_of Tryz.func201 (by kernel_rfl) rfl) smallI s w hsz (small_grows w) small_range hT
set_option maxHeartbeats 1000000 in
theorem read_any (k : Int) (s : ByteArray) (w : World) (hT : Lib.Utf8Tabs 7 8 w) (hmax : s.size ≤ 9223372036854775807) :
 Calls Tryz.prog 176 #[.int .i64 k,.string s] w fun e w' => e = .returned (.tuple #[.int .i64 (readE k (mapS s.data.toList) s.size).1,.int .i64 (readE k (mapS s.data.toList) s.size).2]) ∧ Below w.heap.size w w' := by
 cases hk : isK k with
 | false =>
  have e : readE k (mapS s.data.toList) s.size = (0,5) := by rw [readE,if_neg (by rw [hk]; decide)]
  rw [e]
  clear e
  go_enter Tryz.func176,Tryz.ntmps176
  go_wp2_with (go_at_call 158; go_must (refine (isKind_any _ _).mono ?_; rintro e w' ⟨rfl,rfl⟩))
  go_ret2
  exact ⟨rfl,Below.refl _ _⟩
 | true =>
  by_cases hl : 40 < s.size
  · have e : readE k (mapS s.data.toList) s.size = (0,2) := by rw [readE,if_pos hk,if_pos hl]
    rw [e]
    clear e
    go_enter Tryz.func176,Tryz.ntmps176
    go_wp2_with (go_at_call 158; go_must (refine (isKind_any _ _).mono ?_; rintro e w' ⟨rfl,rfl⟩))
    go_ret2
    exact ⟨rfl,Below.refl _ _⟩
  · have hs1 : s.size < 35184372088832 := by omega
    have hlen : s.data.toList.length = s.size := by rw [Array.length_toList]; rfl
    have hs2 : (⟨(mapS s.data.toList).toArray⟩ : ByteArray).size < 35184372088832 := by
     show (mapS s.data.toList).toArray.size < _
     rw [List.size_toArray]
     have := mapS_len s.data.toList.length s.data.toList (Nat.le_refl _)
     omega
    have cA := fun W => readAs_any k ⟨(mapS s.data.toList).toArray⟩ W hk hs2
    have cM := fun W h => map_any s W hs1 h
    have e : Hid (readE k (mapS s.data.toList) s.size = if (asD k (mapS s.data.toList)).2 = true then (if fitsK k (asD k (mapS s.data.toList)).1 = true then ((asD k (mapS s.data.toList)).1,0) else (0,3)) else (0,1)) := by
     show _ = _
     rw [readE,if_pos hk,if_neg hl]
    change ∀ W,Calls Tryz.prog 200 #[.int .i64 k,.string ⟨(mapS s.data.toList).toArray⟩] W fun e w' => e = .returned (.tuple #[.int .i64 (asD k (mapS s.data.toList)).1,.bool (asD k (mapS s.data.toList)).2]) ∧ Below W.heap.size W w' at cA
    obtain ⟨M,hM⟩ : ∃ M,mapS s.data.toList = M := ⟨_,rfl⟩
    rw [hM] at cA cM e ⊢
    obtain ⟨D,hD⟩ : ∃ D,asD k M = D := ⟨_,rfl⟩
    rw [hD] at cA e
    clear hD hM hs2
    cases h2 : D.2 with
    | false =>
     go_enter Tryz.func176,Tryz.ntmps176
     go_wp2_with (first | (go_at_call 158; go_must (refine (isKind_any _ _).mono ?_; rintro e w' ⟨rfl,rfl⟩)) | (go_at_call 58; go_must (refine (cM _ hT).mono ?_; rintro e w1 ⟨rfl,hb1⟩)) | (go_at_call 200; go_must (refine (cA _).mono ?_; rintro e w2 ⟨rfl,hb2⟩)))
     go_ret2
     exact ⟨by rw [e.out,h2]; rfl,hb1.trans (hb2.mono hb1.size)⟩
    | true =>
     cases h3 : fitsK k D.1 with
     | false =>
      go_enter Tryz.func176,Tryz.ntmps176
      go_wp2_with (first | (go_at_call 158; go_must (refine (isKind_any _ _).mono ?_; rintro e w' ⟨rfl,rfl⟩)) | (go_at_call 58; go_must (refine (cM _ hT).mono ?_; rintro e w1 ⟨rfl,hb1⟩)) | (go_at_call 200; go_must (refine (cA _).mono ?_; rintro e w2 ⟨rfl,hb2⟩)) | (go_at_call 118; go_must (refine (fits_any _ _ _).mono ?_; rintro e w' ⟨rfl,rfl⟩)))
      go_ret2
      exact ⟨by rw [e.out,h2,h3]; rfl,hb1.trans (hb2.mono hb1.size)⟩
     | true =>
      go_enter Tryz.func176,Tryz.ntmps176
      go_wp2_with (first | (go_at_call 158; go_must (refine (isKind_any _ _).mono ?_; rintro e w' ⟨rfl,rfl⟩)) | (go_at_call 58; go_must (refine (cM _ hT).mono ?_; rintro e w1 ⟨rfl,hb1⟩)) | (go_at_call 200; go_must (refine (cA _).mono ?_; rintro e w2 ⟨rfl,hb2⟩)) | (go_at_call 118; go_must (refine (fits_any _ _ _).mono ?_; rintro e w' ⟨rfl,rfl⟩)))
      go_ret2
      exact ⟨by rw [e.out,h2,h3]; rfl,hb1.trans (hb2.mono hb1.size)⟩
end Go.Proofs.YtdcoidmbainkmaaGreatDoor
