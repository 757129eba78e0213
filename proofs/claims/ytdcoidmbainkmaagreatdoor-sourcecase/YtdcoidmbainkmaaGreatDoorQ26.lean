/- Texts put together: Ka, Kb, Kc, Sb, Kd. -/
import Derived.Test.YtdcoidmbainkmaaGreatDoorQ02
import Derived.WalkSpells
import Derived.WalkLawsBesides
import Derived.Outline
import Derived.BigQuiet
import Derived.Lib.OthersKept
import Derived.Laws.RangeString
import Derived.Laws.RangeAny
import Derived.Lib.TrimU
import Derived.Deep.LoopGhost
import Derived.Deep.DeepMust
import Derived.Shelf.LaysM
import Derived.Shelf.Small.Wraps
import Derived.Test.YtdcoidmbainkmaaGreatDoorProg
namespace Go.Proofs.YtdcoidmbainkmaaGreatDoor
open Go.RowKit
def wrapK (k n : Int) : Int :=
 if k = 1 then n % 2 else if k = 2 then (n + 32768) % 65536 - 32768 else if k = 3 then (n + 2147483648) % 4294967296 - 2147483648
 else if k = 4 then n % 65536 else if k = 5 then n % 4294967296 else 0
theorem wrapK1 (n : Int) : wrapK 1 n = n % 2 := by simp [wrapK]
theorem wrapK2 (n : Int) : wrapK 2 n = (n + 32768) % 65536 - 32768 := by simp [wrapK]
theorem wrapK3 (n : Int) : wrapK 3 n = (n + 2147483648) % 4294967296 - 2147483648 := by simp [wrapK]
theorem wrapK4 (n : Int) : wrapK 4 n = n % 65536 := by simp [wrapK]
theorem wrapK5 (n : Int) : wrapK 5 n = n % 4294967296 := by simp [wrapK]
theorem wrapK_else {k : Int} (n : Int) (h1 : k ≠ 1) (h2 : k ≠ 2) (h3 : k ≠ 3) (h4 : k ≠ 4) (h5 : k ≠ 5) : wrapK k n = 0 := by simp [wrapK,h1,h2,h3,h4,h5]
theorem wrap64_id {n : Int} (h0 : -9223372036854775808 ≤ n) (h1 : n ≤ 9223372036854775807) : wrap64 n = n := by unfold wrap64; omega
theorem i16_is (n : Int) : IntKind.i16.wrap n = (n + 32768) % 65536 - 32768 := by
 unfold IntKind.wrap
 simp only [IntKind.bits,IntKind.signed]
 simp
 split <;> omega
theorem u16_is (n : Int) : IntKind.u16.wrap n = n % 65536 := by
 unfold IntKind.wrap
 simp only [IntKind.bits,IntKind.signed]
 simp
theorem and1 (n : Int) : bits .and .i64 n 1 = n % 2 := by
 unfold bits
 have e : (BitVec.ofInt IntKind.i64.bits n &&& BitVec.ofInt IntKind.i64.bits 1).toNat = (n % 2).toNat := by
  have h1 : (BitVec.ofInt 64 1) = 1#64 := by decide
  show (BitVec.ofInt 64 n &&& BitVec.ofInt 64 1).toNat = _
  rw [h1]
  rw [BitVec.toNat_and,BitVec.toNat_ofInt]
  show ((n % ((2 ^ 64 : Nat) : Int)).toNat &&& 1) = _
  rw [Nat.and_one_is_mod]
  omega
 simp only [e]
 rw [IntWalk.i64_left]
 unfold wrap64
 omega
theorem wrapK_bd (k n : Int) : -2147483648 ≤ wrapK k n ∧ wrapK k n ≤ 4294967295 := by
 unfold wrapK; repeat' split
 all_goals omega
theorem wrapK_small (k n : Int) (h : k = 2 ∨ k = 3) : -2147483648 ≤ wrapK k n ∧ wrapK k n ≤ 2147483647 := by
 rcases h with rfl | rfl
 · rw [wrapK2]; omega
 · rw [wrapK3]; omega
theorem wrapK_idem (k n : Int) : wrapK k (wrapK k n) = wrapK k n := by
 unfold wrapK; repeat' split
 all_goals omega
theorem wrapK_eq_of_emod {k m n : Int} (h : m % 4294967296 = n % 4294967296) : wrapK k m = wrapK k n := by
 unfold wrapK; repeat' split
 all_goals omega
theorem wrapK_w64 (k n : Int) : wrapK k (wrap64 n) = wrapK k n := wrapK_eq_of_emod (by unfold wrap64; omega)
theorem wrapK_mod2 (n : Int) : (wrapK 2 n) % 65536 = n % 65536 := by rw [wrapK2]; omega
theorem wrapK_mod3 (n : Int) : (wrapK 3 n) % 4294967296 = n % 4294967296 := by rw [wrapK3]; omega
theorem wrapK2_of {m n : Int} (h : m % 65536 = n % 65536) : wrapK 2 m = wrapK 2 n := by rw [wrapK2,wrapK2]; omega
theorem wrapK3_of {m n : Int} (h : m % 4294967296 = n % 4294967296) : wrapK 3 m = wrapK 3 n := by rw [wrapK3,wrapK3]; omega
theorem ring_add (k a b : Int) (h : k = 2 ∨ k = 3) : wrapK k (wrapK k a + wrapK k b) = wrapK k (a + b) := by
 rcases h with rfl | rfl
 · apply wrapK2_of; rw [Int.add_emod,wrapK_mod2,wrapK_mod2,← Int.add_emod]
 · apply wrapK3_of; rw [Int.add_emod,wrapK_mod3,wrapK_mod3,← Int.add_emod]
theorem ring_sub (k a b : Int) (h : k = 2 ∨ k = 3) : wrapK k (wrapK k a - wrapK k b) = wrapK k (a - b) := by
 rcases h with rfl | rfl
 · apply wrapK2_of; rw [Int.sub_emod,wrapK_mod2,wrapK_mod2,← Int.sub_emod]
 · apply wrapK3_of; rw [Int.sub_emod,wrapK_mod3,wrapK_mod3,← Int.sub_emod]
theorem ring_mul (k a b : Int) (h : k = 2 ∨ k = 3) : wrapK k (wrapK k a * wrapK k b) = wrapK k (a * b) := by
 rcases h with rfl | rfl
 · apply wrapK2_of; rw [Int.mul_emod,wrapK_mod2,wrapK_mod2,← Int.mul_emod]
 · apply wrapK3_of; rw [Int.mul_emod,wrapK_mod3,wrapK_mod3,← Int.mul_emod]
set_option maxHeartbeats 400000 in
theorem wrap_any (k n : Int) (w : World) :
 Calls Tryz.prog 159 #[.int .i64 k,.int .i64 n] w fun e w' => e = .returned (.int .i64 (wrapK k n)) ∧ w' = w := by
 go_enter Tryz.func159,Tryz.ntmps159
 go_wp2
 · go_ret
   have e : k = 1 := by simpa using ‹(k == 1) = true›
   exact ⟨ret_int (by rw [e,wrapK1]; exact and1 n),rfl⟩
 · go_ret
   have e : k = 2 := by simpa using ‹(k == 2) = true›
   exact ⟨ret_int (by show wrap64 (IntKind.i16.wrap n) = _; rw [e,wrapK2,i16_is,wrap64_id (by omega) (by omega)]),rfl⟩
 · go_ret
   have e : k = 3 := by simpa using ‹(k == 3) = true›
   exact ⟨ret_int (by show wrap64 (wrap32 n) = _; rw [e,wrapK3]; unfold wrap32; rw [wrap64_id (by omega) (by omega)]),rfl⟩
 · go_ret
   have e : k = 4 := by simpa using ‹(k == 4) = true›
   exact ⟨ret_int (by show wrap64 (IntKind.u16.wrap n) = _; rw [e,wrapK4,u16_is,wrap64_id (by omega) (by omega)]),rfl⟩
 · go_ret
   have e : k = 5 := by simpa using ‹(k == 5) = true›
   exact ⟨ret_int (by show n % 4294967296 = _; rw [e,wrapK5]),rfl⟩
 · go_ret
   exact ⟨ret_int (by show 0 = _; rw [wrapK_else n (by simp_all) (by simp_all) (by simp_all) (by simp_all) (by simp_all)]),rfl⟩
def isK (k : Int) : Bool := decide (1 ≤ k) && decide (k ≤ 5)
theorem isKind_any (k : Int) (w : World) :
 Calls Tryz.prog 158 #[.int .i64 k] w fun e w' => e = .returned (.bool (isK k)) ∧ w' = w := by
 by_cases h1 : 1 ≤ k
 · by_cases h2 : k ≤ 5
   · go_enter Tryz.func158,Tryz.ntmps158
     go_wp2
     go_ret
     exact ⟨ret_bool (by simp [isK,h1,h2]),rfl⟩
   · go_enter Tryz.func158,Tryz.ntmps158
     go_wp2
     go_ret
     exact ⟨ret_bool (by simp [isK,h1,h2]),rfl⟩
 · go_enter Tryz.func158,Tryz.ntmps158
   go_wp2
   go_ret
   exact ⟨ret_bool (by simp [isK]; omega),rfl⟩
def fitsK (k n : Int) : Bool := isK k && (wrapK k n == n)
theorem fits_any (k n : Int) (w : World) :
 Calls Tryz.prog 118 #[.int .i64 k,.int .i64 n] w fun e w' => e = .returned (.bool (fitsK k n)) ∧ w' = w := by
 by_cases h : isK k = true
 · go_enter Tryz.func118,Tryz.ntmps118
   go_wp2_with (first | (go_at_call 158; refine (isKind_any _ _).mono ?_; rintro e w' ⟨rfl,rfl⟩) | (go_at_call 159; refine (wrap_any _ _ _).mono ?_; rintro e w' ⟨rfl,rfl⟩))
   go_ret
   exact ⟨ret_bool (by simp [fitsK,h]),rfl⟩
 · have h : isK k = false := by simpa using h
   go_enter Tryz.func118,Tryz.ntmps118
   go_wp2_with (first | (go_at_call 158; refine (isKind_any _ _).mono ?_; rintro e w' ⟨rfl,rfl⟩) | (go_at_call 159; refine (wrap_any _ _ _).mono ?_; rintro e w' ⟨rfl,rfl⟩))
   go_ret
   exact ⟨ret_bool (by simp [fitsK,h]),rfl⟩
def tru (b : Bool) : Int := if b = true then 1 else 0
theorem truth_any (b : Bool) (w : World) :
 Calls Tryz.prog 216 #[.bool b] w fun e w' => e = .returned (.int .i64 (tru b)) ∧ w' = w := by
 cases b
 · go_enter Tryz.func216,Tryz.ntmps216
   go_wp2
   go_ret
   exact ⟨rfl,rfl⟩
 · go_enter Tryz.func216,Tryz.ntmps216
   go_wp2
   go_ret
   exact ⟨rfl,rfl⟩
def worthI (r : Int) : Int := if 48 ≤ r ∧ r ≤ 57 then r - 48 else if 97 ≤ r ∧ r ≤ 102 then r - 87 else -1
theorem worth_any (r : Int) (w : World) (h0 : 0 ≤ r) (h1 : r ≤ 1114111) :
 Calls Tryz.prog 245 #[.int .i32 r] w fun e w' => e = .returned (.int .i64 (worthI r)) ∧ w' = w := by
 by_cases a1 : 48 ≤ r
 · by_cases a2 : r ≤ 57
   · have e : worthI r = r - 48 := by simp [worthI,a1,a2]
     go_enter Tryz.func245,Tryz.ntmps245
     go_wp2
     go_ret
     exact ⟨ret_int (by omega),rfl⟩
   · by_cases a3 : 97 ≤ r
     · by_cases a4 : r ≤ 102
       · have e : worthI r = r - 87 := by simp [worthI,a2,a3,a4]
         go_enter Tryz.func245,Tryz.ntmps245
         go_wp2
         go_ret
         exact ⟨ret_int (by omega),rfl⟩
       · have e : worthI r = -1 := by simp [worthI,a2,a4]
         go_enter Tryz.func245,Tryz.ntmps245
         go_wp2
         go_ret
         exact ⟨ret_int (by omega),rfl⟩
     · have e : worthI r = -1 := by simp [worthI,a2,a3]
       go_enter Tryz.func245,Tryz.ntmps245
       go_wp2
       go_ret
       exact ⟨ret_int (by omega),rfl⟩
 · have e : worthI r = -1 := by
    have : ¬ 97 ≤ r := by omega
    simp [worthI,a1,this]
   go_enter Tryz.func245,Tryz.ntmps245
   go_wp2
   go_ret
   exact ⟨ret_int (by omega),rfl⟩
structure But (b : Nat) (w w' : World) : Prop where
 os : w'.os = w.os
 tape : w'.tape = w.tape
 output : w'.output = w.output
 size : w'.heap.size = w.heap.size
 block : ∀ k,k ≠ b → w'.heap[k]? = w.heap[k]?
def digO (base v : Int) (wh : Bool) : Obj := .cells #[.int .i64 base,.int .i64 v,.bool wh] 258 (0,0)
def stepD (base : Int) (st : Int × Bool) (r : Int) : Option (Int × Bool) :=
 if r = 95 then (if st.2 = true then some (st.1,false) else none)
 else if worthI r < 0 ∨ base ≤ worthI r then none else some (min (st.1 * base + worthI r) 4294967296,true)
theorem dig_cells {b : Nat} {base v : Int} {wh : Bool} {w : World} (hb : w.heap[b]? = some (digO base v wh)) :
 w.cell? ⟨b,0,none⟩ = some (.int .i64 base) ∧ w.cell? ⟨b,1,none⟩ = some (.int .i64 v) ∧ w.cell? ⟨b,2,none⟩ = some (.bool wh) ∧
 w.frozen? ⟨b,1,none⟩ = false ∧ w.frozen? ⟨b,2,none⟩ = false := by
 refine ⟨?_,?_,?_,?_,?_⟩
 · simp [World.cell?,hb,digO]
 · simp [World.cell?,hb,digO]
 · simp [World.cell?,hb,digO]
 · simp [World.frozen?,hb,digO]
 · simp [World.frozen?,hb,digO]
theorem But.refl (b : Nat) (w : World) : But b w w := ⟨rfl,rfl,rfl,rfl,fun _ _ => rfl⟩
theorem But.trans {b : Nat} {a x c : World} (h : But b a x) (k : But b x c) : But b a c :=
 ⟨k.os.trans h.os,k.tape.trans h.tape,k.output.trans h.output,k.size.trans h.size,fun i hi => (k.block i hi).trans (h.block i hi)⟩
theorem But.drew {b : Nat} {a x : World} (h : But b a x) : But b a x.drew := ⟨h.os,h.tape,h.output,h.size,h.block⟩
theorem But.set {b : Nat} {a x : World} (h : But b a x) (o : Nat) (u : Value) : But b a (x.setCell ⟨b,o,none⟩ u) := by
 have hb := Below.setCell (B := 0) (Below.refl 0 x) (p := ⟨b,o,none⟩) (Nat.zero_le _) u
 refine ⟨hb.os.trans h.os,hb.tape.trans h.tape,hb.output.trans h.output,?_,fun k hk => (Below.heap_setCell x ⟨b,o,none⟩ u k hk).trans (h.block k hk)⟩
 rw [← h.size]
 unfold World.setCell
 split <;> simp
theorem But.below {b B : Nat} {w w' : World} (h : But b w w') (hB : B ≤ b) : Below B w w' :=
 ⟨h.os,h.tape,h.output,Nat.le_of_eq h.size.symm,fun k hk => h.block k (by omega)⟩
theorem dig_set1 {b : Nat} {base v u : Int} {wh : Bool} {w : World} (hb : w.heap[b]? = some (digO base v wh)) :
 (w.setCell ⟨b,1,none⟩ (.int .i64 u)).heap[b]? = some (digO base u wh) := by
 have hlt : b < w.heap.size := by
  apply Classical.byContradiction
  intro h
  rw [Array.getElem?_eq_none (by omega)] at hb
  cases hb
 unfold World.setCell
 simp [Array.getElem?_modify,hb,digO]
theorem dig_set2 {b : Nat} {base v : Int} {wh u : Bool} {w : World} (hb : w.heap[b]? = some (digO base v wh)) :
 (w.setCell ⟨b,2,none⟩ (.bool u)).heap[b]? = some (digO base v u) := by
 have hlt : b < w.heap.size := by
  apply Classical.byContradiction
  intro h
  rw [Array.getElem?_eq_none (by omega)] at hb
  cases hb
 unfold World.setCell
 simp [Array.getElem?_modify,hb,digO]
def DigIs (base : Int) (b : Nat) (o : Option (Int × Bool)) (w : World) : Prop := ∀ st,o = some st → w.heap[b]? = some (digO base st.1 st.2)
theorem digIs_none {base : Int} {b : Nat} {w : World} {o : Option (Int × Bool)} (h : o = none) : DigIs base b o w := fun st hs => by rw [h] at hs; cases hs
theorem digIs_some {base v : Int} {wh : Bool} {b : Nat} {w : World} {o : Option (Int × Bool)} (h : o = some (v,wh)) (hw : w.heap[b]? = some (digO base v wh)) : DigIs base b o w := fun st hs => by
 rw [h] at hs; cases hs; exact hw
set_option maxHeartbeats 1000000 in
theorem dtake_any (b : Nat) (base v r : Int) (wh : Bool) (w : World) (hb : w.heap[b]? = some (digO base v wh)) (h0 : 0 ≤ r) (h1 : r ≤ 1114111)
 (hv0 : 0 ≤ v) (hv1 : v ≤ 4294967296) (hs : base = 10 ∨ base = 16 ∨ base = 2) :
 Calls Tryz.prog 235 #[.pointer (some ⟨b,0,none⟩),.int .i32 r] w fun e w' =>
  e = .returned (.bool (stepD base (v,wh) r).isSome) ∧ But b w w' ∧ DigIs base b (stepD base (v,wh) r) w' := by
 obtain ⟨c0,c1,c2,f1,f2⟩ := dig_cells hb
 by_cases hr : r = 95
 · have e : stepD base (v,wh) r = if wh = true then some (v,false) else none := by simp [stepD,hr]
   go_enter Tryz.func235,Tryz.ntmps235
   go_wp2
   go_ret
   refine ⟨?_,(But.refl b w).set 2 _,?_⟩
   · show Ending.returned (.bool wh) = _
     rw [e]
     cases wh <;> rfl
   · cases wh
     · exact digIs_none (by rw [e]; rfl)
     · exact digIs_some (by rw [e]; rfl) (dig_set2 hb)
 · by_cases hn : worthI r < 0
   · have e : stepD base (v,wh) r = none := by simp [stepD,hr,hn]
     have E : Hid (stepD base (v,wh) r = none) := e
     clear e
     go_enter Tryz.func235,Tryz.ntmps235
     go_wp2_with (go_at_call 245; refine (worth_any _ _ h0 h1).mono ?_; rintro e w' ⟨rfl,rfl⟩)
     go_ret
     refine ⟨?_,But.refl b _,digIs_none E.out⟩
     rw [E.out]; rfl
   · by_cases hm : base ≤ worthI r
     · have e : stepD base (v,wh) r = none := by simp [stepD,hr,hm]
       have E : Hid (stepD base (v,wh) r = none) := e
       clear e
       go_enter Tryz.func235,Tryz.ntmps235
       go_wp2_with (go_at_call 245; refine (worth_any _ _ h0 h1).mono ?_; rintro e w' ⟨rfl,rfl⟩)
       go_ret
       refine ⟨?_,But.refl b _,digIs_none E.out⟩
       rw [E.out]; rfl
     · have e : stepD base (v,wh) r = some (min (v * base + worthI r) 4294967296,true) := by simp [stepD,hr,hn,hm]
       have E : Hid (stepD base (v,wh) r = some (min (v * base + worthI r) 4294967296,true)) := e
       clear e
       obtain ⟨n,hN⟩ : ∃ n,worthI r = n := ⟨_,rfl⟩
       have HN : Hid (worthI r = n) := hN
       have cW : ∀ W,Calls Tryz.prog 245 #[.int .i32 r] W fun e w' => e = .returned (.int .i64 n) ∧ w' = W := fun W => hN ▸ worth_any r W h0 h1
       rw [hN] at hn hm
       clear hN
       rcases hs with rfl | rfl | rfl
       all_goals go_enter Tryz.func235,Tryz.ntmps235
       all_goals go_wp2_with (go_at_call 245; refine (cW _).mono ?_; rintro e w' ⟨rfl,rfl⟩)
       all_goals go_region
       all_goals go_wp2
       all_goals go_ret
       all_goals have E1 := E.out
       all_goals rw [HN.out] at E1
       all_goals refine ⟨?_,(((But.refl b w').set 1 _).drew).set 2 _,digIs_some E1 ?_⟩
       all_goals first
        | (rw [E1]; rfl)
        | (have e2 : ∀ x : Int,(if 4294967296 < x then 4294967296 else x) = min x 4294967296 := fun x => by split <;> omega
           simp only [← e2]
           first | exact dig_set2 (dig_set1 (w := w') hb) | (rw [if_pos (by omega)]; exact dig_set2 (dig_set1 (w := w') hb)) | (rw [if_neg (by omega)]; exact dig_set2 (dig_set1 (w := w') hb)))
def smallI (r : Int) : Int := if 65 ≤ r ∧ r ≤ 90 then r + 32 else r
theorem small_any (r : Int) (w : World) (h0 : 0 ≤ r) (h1 : r ≤ 1114111) :
 Calls Tryz.prog 201 #[.int .i32 r] w fun e w' => e = .returned (.int .i32 (smallI r)) ∧ w' = w := by
 by_cases a1 : 65 ≤ r
 · by_cases a2 : r ≤ 90
   · have e : smallI r = r + 32 := by simp [smallI,a1,a2]
     go_enter Tryz.func201,Tryz.ntmps201
     go_wp2
     go_ret
     exact ⟨ret_int (by omega),rfl⟩
   · have e : smallI r = r := by simp [smallI,a2]
     go_enter Tryz.func201,Tryz.ntmps201
     go_wp2
     go_ret
     exact ⟨ret_int (by omega),rfl⟩
 · have e : smallI r = r := by simp [smallI,a1]
   go_enter Tryz.func201,Tryz.ntmps201
   go_wp2
   go_ret
   exact ⟨ret_int (by omega),rfl⟩
def unitL (u : List UInt8) : Int := if u = [100] then 86400000 else if u = [104] then 3600000 else if u = [109] then 60000 else if u = [115] then 1000 else if u = [109,115] then 1 else 0
theorem str_is (l m : List UInt8) : ((⟨l.toArray⟩ : ByteArray) = ⟨m.toArray⟩) = (l = m) := by
 apply propext
 constructor
 · intro h
   have := congrArg (fun x : ByteArray => x.data.toList) h
   simpa using this
 · rintro rfl; rfl
theorem ulen_any (u : ByteArray) (w : World) :
 Calls Tryz.prog 234 #[.string u] w fun e w' => e = .returned (.int .i64 (unitL u.data.toList)) ∧ w' = w := by
 go_enter Tryz.func234,Tryz.ntmps234
 go_wp2
 all_goals go_ret
 all_goals refine ⟨?_,rfl⟩
 all_goals simp_all [unitL,ByteArray.toList_eq]
end Go.Proofs.YtdcoidmbainkmaaGreatDoor

namespace Go.Proofs.YtdcoidmbainkmaaGreatDoor
open Go.RowKit
def feed (base : Int) : Int × Bool → List UInt8 → Option (Int × Bool)
 | st,[] => some st
 | st,c :: l => match stepD base st c.toNat with
  | none => none
  | some st' => feed base st' l
def readD (base : Int) (l : List UInt8) : Int × Bool := (feed base (0,false) l).getD (0,false)
theorem stepD_high (base : Int) (st : Int × Bool) (r : Int) (h : 128 ≤ r) : stepD base st r = none := by
 have e : worthI r = -1 := by
  have a : ¬ r ≤ 57 := by omega
  have b : ¬ r ≤ 102 := by omega
  simp [worthI,a,b]
 have h95 : ¬ r = 95 := by omega
 simp [stepD,e,h95]
theorem stepD_bd {base : Int} {st st' : Int × Bool} {r : Int} (hs : base = 10 ∨ base = 16 ∨ base = 2) (h0 : 0 ≤ st.1) (h1 : st.1 ≤ 4294967296) (h : stepD base st r = some st') : 0 ≤ st'.1 ∧ st'.1 ≤ 4294967296 := by
 unfold stepD at h
 split at h
 · split at h
   · cases h; exact ⟨h0,h1⟩
   · cases h
 · split at h
   · cases h
   · rename_i hn
     cases h
     have hw : 0 ≤ worthI r := by omega
     have : 0 ≤ st.1 * base := by rcases hs with rfl | rfl | rfl <;> omega
     constructor
     · show 0 ≤ min _ _; omega
     · show min _ _ ≤ _; omega
theorem feed_cons (base : Int) (st : Int × Bool) (c : UInt8) (l : List UInt8) : feed base st (c :: l) = (stepD base st c.toNat).bind fun st' => feed base st' l := by
 rw [feed]
 cases stepD base st c.toNat <;> rfl
theorem drop_at (s : ByteArray) (pos : Nat) (h : pos < s.size) : s.data.toList.drop pos = (s[pos]'h) :: s.data.toList.drop (pos + 1) := by
 have hl : pos < s.data.toList.length := by rw [Array.length_toList]; exact h
 rw [List.drop_eq_getElem_cons hl]
 rfl
set_option maxHeartbeats 1000000 in
theorem readDigits_any (s : ByteArray) (base : Int) (w : World) (hs : base = 10 ∨ base = 16 ∨ base = 2) (hsz : s.size < 35184372088832) :
 Calls Tryz.prog 219 #[.string s,.int .i64 base] w fun e w' =>
  e = .returned (.tuple #[.int .i64 (readD base s.data.toList).1,.bool (readD base s.data.toList).2]) ∧ Below w.heap.size w w' := by
 obtain ⟨F,hF⟩ : ∃ F,feed base (0,false) s.data.toList = F := ⟨_,rfl⟩
 have hR : readD base s.data.toList = F.getD (0,false) := by rw [readD,hF]
 rw [hR]
 clear hR
 go_enter Tryz.func219,Tryz.ntmps219
 go_wp2
 go_loopg [] s.size (fun gk wx => ∃ (pos : Nat) (v : Int) (wh : Bool),wx.heap[w.heap.size]? = some (digO base v wh) ∧ wx.heap[w.heap.size + 1]? = some (.stringIter s pos) ∧ Below w.heap.size w wx ∧
  feed base (v,wh) (s.data.toList.drop pos) = F ∧ 0 ≤ v ∧ v ≤ 4294967296 ∧ s.size ≤ pos + gk ∧ pos ≤ s.size)
 case atStart =>
  refine ⟨0,0,false,?_,?_,((Below.refl _ w).alloc (Nat.le_refl _) _).alloc (by simp) _,by simpa using hF,by omega,by omega,by omega,by omega⟩
  · have h1 := heap_alloc_new w (digO base 0 false)
    exact (Below.heap_alloc _ _ _ (by simp)).trans h1
  · have := World.iter_heap (w.alloc (digO base 0 false)) s 0
    have e : (w.alloc (digO base 0 false)).heap.size = w.heap.size + 1 := by simp
    rw [e] at this
    exact this
 case round =>
  obtain ⟨pos,v,wh,hd,hit,hbw,hf,hv0,hv1,hfu,hps⟩ := hrel
  have hsz1 : w.heap.size + 1 < wr.heap.size := (Array.getElem?_eq_some_iff.1 hit).1
  by_cases hlt : pos < s.size
  · obtain ⟨g',rfl⟩ : ∃ g',gk = g' + 1 := ⟨gk - 1,by omega⟩
    have hnx : ∀ ty,(Instr.next (.pointer (some ⟨w.heap.size + 1,0,none⟩)) true ty).run Tryz.prog wr = _ := fun ty => Lib.run_next_any_at wr (w.heap.size + 1) s pos ty hit hlt
    have hrl := Lib.rune_le s pos
    have hfe := drop_at s pos hlt
    obtain ⟨R,hR⟩ : ∃ R,(Utf8.decode s pos).1 = R := ⟨_,rfl⟩
    obtain ⟨K,hK⟩ : ∃ K,(Utf8.decode s pos).2 = K := ⟨_,rfl⟩
    have hst : (stepD base (v,wh) (R : Int) = none ∧ F = none) ∨ (K = 1 ∧ ∃ st,stepD base (v,wh) (R : Int) = some st ∧ feed base st (s.data.toList.drop (pos + 1)) = F) := by
     rw [hfe,feed_cons] at hf
     by_cases ha : (s[pos]'hlt).toNat < 128
     · have hd := decode_ascii s pos hlt ha
       rw [hd] at hR hK
       subst hR
       cases hq : stepD base (v,wh) ((s[pos]'hlt).toNat : Int) with
       | none => rw [hq] at hf; exact .inl ⟨rfl,hf.symm⟩
       | some st => rw [hq] at hf; exact .inr ⟨hK.symm,st,rfl,hf⟩
     · have hd := (decode_high s pos hlt (by omega)).1
       rw [hR] at hd
       rw [stepD_high base (v,wh) _ (by omega : (128 : Int) ≤ ((s[pos]'hlt).toNat : Int))] at hf
       exact .inl ⟨stepD_high base (v,wh) _ (by omega),hf.symm⟩
    rw [hR,hK] at hnx
    rw [hR] at hrl
    have hit2 := Lib.iterAt_heap wr (w.heap.size + 1) s pos (pos + K) hit
    have hbw2 := Lib.below_iterAt hbw (k := w.heap.size + 1) (by omega) s (pos + K)
    have hd2 : (wr.iterAt (w.heap.size + 1) s (pos + K)).heap[w.heap.size]? = _ := (Lib.iterAt_other wr (w.heap.size + 1) w.heap.size s (pos + K) (by omega)).trans hd
    obtain ⟨W,hWd⟩ : ∃ W,wr.iterAt (w.heap.size + 1) s (pos + K) = W := ⟨_,rfl⟩
    rw [hWd] at hnx hit2 hbw2 hd2
    have cT := dtake_any w.heap.size base v (R : Int) wh W hd2 (by omega) (by omega) hv0 hv1 hs
    have hszW : w.heap.size + 1 < W.heap.size := (Array.getElem?_eq_some_iff.1 hit2).1
    clear hit hbw hd hWd hf hfe
    rcases hst with ⟨h1,h2⟩ | ⟨hK1,st,h1,h2⟩
    · rw [h1] at cT
      clear h1
      go_wp2_with (go_at_call 235; go_must (refine cT.mono ?_; rintro e W' ⟨rfl,hbut,-⟩))
      go_ret2
      exact ⟨by rw [h2]; rfl,hbw2.trans (hbut.below (Nat.le_refl _))⟩
    · have hbd := stepD_bd hs hv0 hv1 h1
      rw [h1] at cT
      clear h1
      go_wp2_with (go_at_call 235; go_must (refine cT.mono ?_; rintro e W' ⟨rfl,hbut,hdg⟩))
      go_roundg g'
      case measure => omega
      case rel => exact ⟨pos + 1,st.1,st.2,hdg st rfl,(hbut.block _ (by omega)).trans (hK1 ▸ hit2),hbw2.trans (hbut.below (Nat.le_refl _)),h2,hbd.1,hbd.2,by omega,by omega⟩
  · have hnx : ∀ ty,(Instr.next (.pointer (some ⟨w.heap.size + 1,0,none⟩)) true ty).run Tryz.prog wr = _ := fun ty => Lib.run_next_end_at wr (w.heap.size + 1) s pos ty hit hlt
    have hnil : s.data.toList.drop pos = [] := List.drop_eq_nil_of_le (by rw [Array.length_toList]; show s.size ≤ pos; omega)
    rw [hnil,feed] at hf
    obtain ⟨c0,c1,c2,f1,f2⟩ := dig_cells hd
    clear hnil hd hit
    go_wp2
    go_region
    all_goals go_wp2
    all_goals go_ret2
    all_goals exact ⟨by rw [← hf]; rfl,hbw.drew⟩
end Go.Proofs.YtdcoidmbainkmaaGreatDoor

namespace Go.Proofs.YtdcoidmbainkmaaGreatDoor
open Go.RowKit
structure Win (lo hi : Nat) (w w' : World) : Prop where
 os : w'.os = w.os
 tape : w'.tape = w.tape
 output : w'.output = w.output
 size : w'.heap.size = w.heap.size
 block : ∀ k,k < lo ∨ hi ≤ k → w'.heap[k]? = w.heap[k]?
theorem Win.refl (lo hi : Nat) (w : World) : Win lo hi w w := ⟨rfl,rfl,rfl,rfl,fun _ _ => rfl⟩
theorem Win.trans {lo hi : Nat} {a x c : World} (h : Win lo hi a x) (k : Win lo hi x c) : Win lo hi a c :=
 ⟨k.os.trans h.os,k.tape.trans h.tape,k.output.trans h.output,k.size.trans h.size,fun i hi => (k.block i hi).trans (h.block i hi)⟩
theorem Win.drew {lo hi : Nat} {a x : World} (h : Win lo hi a x) : Win lo hi a x.drew := ⟨h.os,h.tape,h.output,h.size,h.block⟩
theorem Win.set {lo hi : Nat} {a x : World} (h : Win lo hi a x) {b : Nat} (h0 : lo ≤ b) (h1 : b < hi) (o : Nat) (u : Value) : Win lo hi a (x.setCell ⟨b,o,none⟩ u) := by
 have hb := (But.refl b x).set o u
 exact ⟨hb.os.trans h.os,hb.tape.trans h.tape,hb.output.trans h.output,hb.size.trans h.size,fun k hk => (hb.block k (by omega)).trans (h.block k hk)⟩
theorem Win.below {lo hi B : Nat} {w w' : World} (h : Win lo hi w w') (hB : B ≤ lo) : Below B w w' :=
 ⟨h.os,h.tape,h.output,Nat.le_of_eq h.size.symm,fun k hk => h.block k (.inl (by omega))⟩
theorem But.win {lo hi b : Nat} {w w' : World} (h : But b w w') (h0 : lo ≤ b) (h1 : b < hi) : Win lo hi w w' :=
 ⟨h.os,h.tape,h.output,h.size,fun k hk => h.block k (by omega)⟩
def oneO (v : Value) (t : Nat) : Obj := .cells #[v] t (0,0)
theorem one_cell {b t : Nat} {v : Value} {w : World} (hb : w.heap[b]? = some (oneO v t)) : w.cell? ⟨b,0,none⟩ = some v ∧ w.frozen? ⟨b,0,none⟩ = false := by
 constructor
 · simp [World.cell?,hb,oneO]
 · simp [World.frozen?,hb,oneO]
theorem one_set {b t : Nat} {v u : Value} {w : World} (hb : w.heap[b]? = some (oneO v t)) : (w.setCell ⟨b,0,none⟩ u).heap[b]? = some (oneO u t) := by
 unfold World.setCell
 simp [Array.getElem?_modify,hb,oneO]
theorem set_other {b k o : Nat} {u : Value} {x : Option Obj} {w : World} (h : k ≠ b) (hk : w.heap[k]? = x) : (w.setCell ⟨b,o,none⟩ u).heap[k]? = x :=
 (Below.heap_setCell w ⟨b,o,none⟩ u k h).trans hk
structure TimeAt (B : Nat) (total last v : Int) (wh : Bool) (unit : ByteArray) (w : World) : Prop where
 total : w.heap[B]? = some (oneO (.int .i64 total) 3)
 last : w.heap[B + 1]? = some (oneO (.int .i64 last) 3)
 count : w.heap[B + 2]? = some (digO 10 v wh)
 unit : w.heap[B + 3]? = some (oneO (.string unit) 9)
theorem unitL_bd (u : List UInt8) : 0 ≤ unitL u ∧ unitL u ≤ 86400000 := by
 unfold unitL
 repeat' split
 all_goals omega
def rightP (last : Int) (wh : Bool) (L : Int) : Bool := wh && decide (0 < L) && decide (L < last)
theorem dig_set0 {b : Nat} {base v u : Int} {wh : Bool} {w : World} (hb : w.heap[b]? = some (digO base v wh)) :
 (w.setCell ⟨b,0,none⟩ (.int .i64 u)).heap[b]? = some (digO u v wh) := by
 unfold World.setCell
 simp [Array.getElem?_modify,hb,digO]
theorem part_world {B : Nat} {total last v T L : Int} {wh : Bool} {unit : ByteArray} {w : World} (h : TimeAt B total last v wh unit w) :
 Win B (B + 4) w ((((((w.setCell ⟨B,0,none⟩ (.int .i64 T)).setCell ⟨B + 1,0,none⟩ (.int .i64 L)).setCell ⟨B + 2,0,none⟩ (.int .i64 10)).setCell ⟨B + 2,1,none⟩ (.int .i64 0)).setCell ⟨B + 2,2,none⟩ (.bool false)).setCell ⟨B + 3,0,none⟩ (.string ⟨#[]⟩)) ∧
 TimeAt B T L 0 false ⟨#[]⟩ ((((((w.setCell ⟨B,0,none⟩ (.int .i64 T)).setCell ⟨B + 1,0,none⟩ (.int .i64 L)).setCell ⟨B + 2,0,none⟩ (.int .i64 10)).setCell ⟨B + 2,1,none⟩ (.int .i64 0)).setCell ⟨B + 2,2,none⟩ (.bool false)).setCell ⟨B + 3,0,none⟩ (.string ⟨#[]⟩)) := by
 refine ⟨((((((Win.refl B (B + 4) w).set (by omega) (by omega) _ _).set (by omega) (by omega) _ _).set (by omega) (by omega) _ _).set (by omega) (by omega) _ _).set (by omega) (by omega) _ _).set (by omega) (by omega) _ _,?_,?_,?_,?_⟩
 · exact set_other (by omega) (set_other (by omega) (set_other (by omega) (set_other (by omega) (set_other (by omega) (one_set h.total)))))
 · exact set_other (by omega) (set_other (by omega) (set_other (by omega) (set_other (by omega) (one_set (set_other (by omega) h.last)))))
 · exact set_other (by omega) (dig_set2 (dig_set1 (dig_set0 (set_other (by omega) (set_other (by omega) h.count)))))
 · exact one_set (set_other (by omega) (set_other (by omega) (set_other (by omega) (set_other (by omega) (set_other (by omega) h.unit)))))
set_option maxHeartbeats 1000000 in
theorem part_any (B : Nat) (total last v : Int) (wh : Bool) (unit : ByteArray) (w : World) (h : TimeAt B total last v wh unit w)
 (ht0 : 0 ≤ total) (ht1 : total ≤ 1000000000000000000) (hv0 : 0 ≤ v) (hv1 : v ≤ 4294967296) :
 Calls Tryz.prog 233 #[.pointer (some ⟨B + 3,0,none⟩),.pointer (some ⟨B + 2,0,none⟩),.pointer (some ⟨B + 1,0,none⟩),.pointer (some ⟨B,0,none⟩)] w fun e w' =>
  e = .returned (.bool (rightP last wh (unitL unit.data.toList))) ∧ Win B (B + 4) w w' ∧ TimeAt B (total + v * unitL unit.data.toList) (unitL unit.data.toList) 0 false ⟨#[]⟩ w' := by
 obtain ⟨L,hL⟩ : ∃ L,unitL unit.data.toList = L := ⟨_,rfl⟩
 have hbd := unitL_bd unit.data.toList
 have cU : ∀ W,Calls Tryz.prog 234 #[.string unit] W fun e w' => e = .returned (.int .i64 L) ∧ w' = W := fun W => hL ▸ ulen_any unit W
 rw [hL] at hbd ⊢
 clear hL
 have hh := h
 obtain ⟨hc0,hc1,hc2,hc3⟩ := h
 have df0 : w.frozen? ⟨B + 2,0,none⟩ = false := by simp [World.frozen?,hc2,digO]
 obtain ⟨d0,d1,d2,df1,df2⟩ := dig_cells hc2
 obtain ⟨a0,af⟩ := one_cell hc0
 obtain ⟨b0,bf⟩ := one_cell hc1
 obtain ⟨u0,uf⟩ := one_cell hc3
 have hP0 : 0 ≤ v * L := Int.mul_nonneg hv0 hbd.1
 have hP1 : v * L ≤ 4294967296 * 86400000 := Int.mul_le_mul hv1 hbd.2 hbd.1 (by omega)
 go_enter Tryz.func233,Tryz.ntmps233
 go_wp2_with (go_at_call 234; go_must (refine (cU _).mono ?_; rintro e w' ⟨rfl,rfl⟩))
 all_goals go_ret
 all_goals refine ⟨ret_bool ?_,part_world hh⟩
 all_goals simp_all [rightP]
 all_goals omega
end Go.Proofs.YtdcoidmbainkmaaGreatDoor

namespace Go.Proofs
open Go.Shelf
def Tryz.lays103_ren : Go.Shelf.Ren := ⟨fun | 103 => 218 | 210 => 236 | 206 => 170 | n => n,fun | 9 => 9 | 4 => 4 | 24 => 247 | 3 => 3 | n => n,fun | n => n⟩
theorem Tryz.lays103 : Go.Proofs.Lays.n103 Tryz.prog Tryz.lays103_ren := {
 mixed := by kernel_rfl
 f103 := Tryz.func218.trans (congrArg some (by kernel_rfl))
 f206 := Tryz.func170.trans (congrArg some (by kernel_rfl))
 f210 := Tryz.func236.trans (congrArg some (by kernel_rfl))
 t3 := Tryz.underlying3
 a3 := Tryz.isAgg3
 z3 := Tryz.sizeOf3
 v3 := Tryz.zeroValue3
 t4 := Tryz.underlying4
 a4 := Tryz.isAgg4
 z4 := Tryz.sizeOf4
 v4 := Tryz.zeroValue4
 t9 := Tryz.underlying9
 a9 := Tryz.isAgg9
 z9 := Tryz.sizeOf9
 v9 := Tryz.zeroValue9
 t24 := Tryz.underlying247
 a24 := Tryz.isAgg247
 z24 := Tryz.sizeOf247
 v24 := Tryz.zeroValue247 }
open Go.RowKit in
theorem Tryz.strings_CutPrefix (s p : ByteArray) (w : World) :
 Calls Tryz.prog 218 #[.string s,.string p] w fun e w' => e = .returned (.tuple #[.string ⟨(Lib.trimPrefix s.data.toList p.data.toList).toArray⟩,.bool (Lib.hasPrefix s.data.toList p.data.toList)]) ∧ w' = w := Any.strings_CutPrefix Tryz.lays103 s p w
end Go.Proofs

namespace Go.Proofs.YtdcoidmbainkmaaGreatDoor
open Go.RowKit
def numD (l : List UInt8) : Int × Bool :=
 if Lib.hasPrefix l [49,54,35] = true then readD 16 (l.drop 3) else if Lib.hasPrefix l [50,35] = true then readD 2 (l.drop 2) else readD 10 l
theorem trim_yes {l p : List UInt8} (h : Lib.hasPrefix l p = true) : Lib.trimPrefix l p = l.drop p.length := by rw [Lib.trimPrefix,h]; rfl
theorem trim_no {l p : List UInt8} (h : Lib.hasPrefix l p = false) : Lib.trimPrefix l p = l := by rw [Lib.trimPrefix,h]; rfl
theorem trim_size (s : ByteArray) (p : List UInt8) (h : s.size < 35184372088832) : (⟨(Lib.trimPrefix s.data.toList p).toArray⟩ : ByteArray).size < 35184372088832 := by
 show (Lib.trimPrefix s.data.toList p).toArray.size < _
 rw [List.size_toArray]
 have hl : s.data.toList.length = s.size := by rw [Array.length_toList]; rfl
 unfold Lib.trimPrefix
 split
 · rw [List.length_drop]; omega
 · omega
set_option maxHeartbeats 1000000 in
theorem readNumber_any (s : ByteArray) (w : World) (hsz : s.size < 35184372088832) :
 Calls Tryz.prog 220 #[.string s] w fun e w' => e = .returned (.tuple #[.int .i64 (numD s.data.toList).1,.bool (numD s.data.toList).2]) ∧ Below w.heap.size w w' := by
 have c4 : ∀ p base w,(base = 10 ∨ base = 16 ∨ base = 2) → Calls Tryz.prog 219 #[.string ⟨(Lib.trimPrefix s.data.toList p).toArray⟩,.int .i64 base] w fun e w' =>
  e = .returned (.tuple #[.int .i64 (readD base (Lib.trimPrefix s.data.toList p)).1,.bool (readD base (Lib.trimPrefix s.data.toList p)).2]) ∧ Below w.heap.size w w' := fun p base w hs =>
  readDigits_any ⟨(Lib.trimPrefix s.data.toList p).toArray⟩ base w hs (trim_size s p hsz)
 cases h1 : Lib.hasPrefix s.data.toList [49,54,35] with
 | true =>
  have e : Hid (numD s.data.toList = readD 16 (Lib.trimPrefix s.data.toList [49,54,35])) := by
   show _ = _
   rw [numD,if_pos h1,trim_yes h1]; rfl
  go_enter Tryz.func220,Tryz.ntmps220
  go_wp2_with (first | (go_at_call 218; go_must (refine (Tryz.strings_CutPrefix s _ _).mono ?_; rintro e w' ⟨rfl,rfl⟩)) | (go_at_call 219; go_must (refine (c4 _ _ _ (by omega)).mono ?_; rintro e w1 ⟨rfl,hb⟩)))
  go_ret2
  exact ⟨by rw [e.out]; rfl,hb⟩
 | false =>
  cases h2 : Lib.hasPrefix s.data.toList [50,35] with
  | true =>
   have e : Hid (numD s.data.toList = readD 2 (Lib.trimPrefix s.data.toList [50,35])) := by
    show _ = _
    rw [numD,if_neg (by rw [h1]; decide),if_pos h2,trim_yes h2]; rfl
   go_enter Tryz.func220,Tryz.ntmps220
   go_wp2_with (first | (go_at_call 218; go_must (refine (Tryz.strings_CutPrefix s _ _).mono ?_; rintro e w' ⟨rfl,rfl⟩)) | (go_at_call 219; go_must (refine (c4 _ _ _ (by omega)).mono ?_; rintro e w1 ⟨rfl,hb⟩)))
   go_ret2
   exact ⟨by rw [e.out]; rfl,hb⟩
  | false =>
   have e : Hid (numD s.data.toList = readD 10 s.data.toList) := by
    show _ = _
    rw [numD,if_neg (by rw [h1]; decide),if_neg (by rw [h2]; decide)]
   go_enter Tryz.func220,Tryz.ntmps220
   go_wp2_with (first | (go_at_call 218; go_must (refine (Tryz.strings_CutPrefix s _ _).mono ?_; rintro e w' ⟨rfl,rfl⟩)) | (go_at_call 219; go_must (refine (readDigits_any s _ _ (by omega) hsz).mono ?_; rintro e w1 ⟨rfl,hb⟩)))
   go_ret2
   exact ⟨by rw [e.out]; rfl,hb⟩
def behindD (l : List UInt8) : List UInt8 × Bool :=
 if Lib.hasPrefix l [116,105,109,101,35] = true then (l.drop 5,true) else if Lib.hasPrefix l [116,35] = true then (l.drop 2,true) else (l,false)
theorem behind_any (s : ByteArray) (w : World) :
 Calls Tryz.prog 232 #[.string s] w fun e w' => e = .returned (.tuple #[.string ⟨(behindD s.data.toList).1.toArray⟩,.bool (behindD s.data.toList).2]) ∧ w' = w := by
 cases h1 : Lib.hasPrefix s.data.toList [116,105,109,101,35] with
 | true =>
  have e : Hid (behindD s.data.toList = (Lib.trimPrefix s.data.toList [116,105,109,101,35],true)) := by
   show _ = _
   rw [behindD,if_pos h1,trim_yes h1]; rfl
  go_enter Tryz.func232,Tryz.ntmps232
  go_wp2_with (go_at_call 218; go_must (refine (Tryz.strings_CutPrefix s _ _).mono ?_; rintro e w' ⟨rfl,rfl⟩))
  go_ret2
  exact ⟨by rw [e.out]; rfl,rfl⟩
 | false =>
  cases h2 : Lib.hasPrefix s.data.toList [116,35] with
  | true =>
   have e : Hid (behindD s.data.toList = (Lib.trimPrefix s.data.toList [116,35],true)) := by
    show _ = _
    rw [behindD,if_neg (by rw [h1]; decide),if_pos h2,trim_yes h2]; rfl
   go_enter Tryz.func232,Tryz.ntmps232
   go_wp2_with (go_at_call 218; go_must (refine (Tryz.strings_CutPrefix s _ _).mono ?_; rintro e w' ⟨rfl,rfl⟩))
   go_ret2
   exact ⟨by rw [e.out]; rfl,rfl⟩
  | false =>
   have e : Hid (behindD s.data.toList = (Lib.trimPrefix s.data.toList [116,35],false)) := by
    show _ = _
    rw [behindD,if_neg (by rw [h1]; decide),if_neg (by rw [h2]; decide),trim_no h2]
   go_enter Tryz.func232,Tryz.ntmps232
   go_wp2_with (go_at_call 218; go_must (refine (Tryz.strings_CutPrefix s _ _).mono ?_; rintro e w' ⟨rfl,rfl⟩))
   go_ret2
   exact ⟨by rw [e.out]; rfl,rfl⟩
end Go.Proofs.YtdcoidmbainkmaaGreatDoor
