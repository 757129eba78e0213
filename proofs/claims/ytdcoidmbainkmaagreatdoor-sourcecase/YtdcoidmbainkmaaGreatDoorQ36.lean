/- Texts put together: Yn, Yo. -/
import Derived.Test.YtdcoidmbainkmaaGreatDoorQ34
import Derived.Lib.Replace
import Derived.Test.YtdcoidmbainkmaaGreatDoorQ30
import Derived.Lib.ConvBytes
import Derived.Lib.IfaceNeq
import Derived.Laws.Closers25b
namespace Go.Proofs.YtdcoidmbainkmaaGreatDoor
open Go.RowKit
set_option linter.unusedVariables false
set_option linter.unusedSimpArgs false
def dgW (c : UInt8) : Int := worthI (lo c).toNat
def okB (base : Int) (c : UInt8) : Prop := 0 ≤ dgW c ∧ dgW c < base
def valB (base : Int) : Int → List UInt8 → Int
 | a,[] => a
 | a,c :: l => valB base (a * base + dgW c) l
theorem valB_ge {base : Int} (hb : 1 ≤ base) : ∀ (l : List UInt8) (a : Int),0 ≤ a → (∀ c ∈ l,okB base c) → a ≤ valB base a l
 | [],a,_,_ => Int.le_refl _
 | c :: l,a,ha,h => by
  have h1 := h c (by simp)
  have h2 : a * 1 ≤ a * base := Int.mul_le_mul_of_nonneg_left hb ha
  have := valB_ge hb l (a * base + dgW c) (by have := h1.1; omega) (fun d hd => h d (by simp [hd]))
  have := h1.1
  rw [valB]
  omega
theorem lo95 (b : UInt8) : (lo b).toNat = 95 ↔ b = 95 := by
 have h : ∀ b : Fin 256,(lo (UInt8.ofNat b.val)).toNat = 95 ↔ (UInt8.ofNat b.val) = 95 := by decide +kernel
 simpa using h ⟨b.toNat,b.toNat_lt⟩
theorem feed_val {base : Int} (hb : 1 ≤ base) : ∀ (l : List UInt8) (v V : Int) (wh : Bool) (st : Int × Bool),0 ≤ V → v = min V 4294967296 → feed base (v,wh) (lw l) = some st →
 st.1 = min (valB base V (l.filter (· != 95))) 4294967296 ∧ (∀ c ∈ l.filter (· != 95),okB base c) ∧ (st.2 = true → wh = true ∨ l.filter (· != 95) ≠ [])
 | [],v,V,wh,st,hV,hv,h => by
  simp only [lw,List.map_nil,feed] at h
  injection h with h
  subst h
  exact ⟨hv,by simp,fun h => Or.inl h⟩
 | c :: l,v,V,wh,st,hV,hv,h => by
  simp only [lw,List.map_cons] at h
  rw [feed_cons,stepD] at h
  by_cases hc : c = 95
  · subst hc
    rw [if_pos (by decide)] at h
    split at h
    · rename_i hw
      simp only [Option.bind] at h
      have ih := feed_val hb l v V false st hV hv h
      simp only [List.filter_cons]
      exact ⟨by simpa using ih.1,by simpa using ih.2.1,fun h2 => by rcases ih.2.2 h2 with h | h; cases h; exact Or.inr (by simpa using h)⟩
    · cases h
  · have hn : ¬ (((lo c).toNat : Nat) : Int) = 95 := fun e => hc ((lo95 c).1 (by omega))
    rw [if_neg hn] at h
    split at h
    · cases h
    · rename_i hw
      simp only [Option.bind] at h
      have hok : okB base c := by
       show 0 ≤ worthI ((Lib.lowerB c).toNat) ∧ worthI ((Lib.lowerB c).toNat) < base
       omega
      have h0 := hok.1
      have hVb : 0 ≤ V * base := Int.mul_nonneg hV (by omega)
      have hcap : min (v * base + worthI ((lo c).toNat)) 4294967296 = min (V * base + dgW c) 4294967296 := by
       show min (v * base + dgW c) _ = _
       by_cases hle : V ≤ 4294967296
       · have : v = V := by omega
         rw [this]
       · have e : v = 4294967296 := by omega
         have h1 : 4294967296 * 1 ≤ 4294967296 * base := Int.mul_le_mul_of_nonneg_left hb (by omega)
         have h2 : V * 1 ≤ V * base := Int.mul_le_mul_of_nonneg_left hb (by omega)
         rw [e]
         omega
      have ih := feed_val hb l _ (V * base + dgW c) true st (by omega) hcap h
      have hne : (c != 95) = true := by simpa using hc
      rw [List.filter_cons,if_pos hne]
      refine ⟨ih.1,fun d hd => ?_,fun _ => Or.inr (by simp)⟩
      rcases List.mem_cons.1 hd with rfl | hd
      · exact hok
      · exact ih.2.1 d hd
theorem readD_val {base : Int} (hb : 1 ≤ base) (l : List UInt8) (h : (readD base (lw l)).2 = true) :
 (readD base (lw l)).1 = min (valB base 0 (l.filter (· != 95))) 4294967296 ∧ (∀ c ∈ l.filter (· != 95),okB base c) ∧ l.filter (· != 95) ≠ [] := by
 rw [readD] at h ⊢
 cases hf : feed base (0,false) (lw l) with
 | none => rw [hf] at h; cases h
 | some st =>
  rw [hf] at h
  have := feed_val hb l 0 0 false st (by omega) (by decide) hf
  exact ⟨this.1,this.2.1,(this.2.2 h).resolve_left (by simp)⟩
theorem idx_spec (x : UInt8) : ∀ (s : List UInt8),(Lib.index s [x] = -1 ∧ x ∉ s) ∨ ∃ i : Nat,Lib.index s [x] = i ∧ x ∉ s.take i ∧ s.drop i = x :: s.drop (i + 1) ∧ i < s.length
 | [] => Or.inl ⟨rfl,by simp⟩
 | b :: l => by
  by_cases hb : x = b
  · subst hb
    exact Or.inr ⟨0,by simp [Lib.index],by simp,by simp,by simp⟩
  · have hp : ([x].isPrefixOf (b :: l)) = false := by simp [List.isPrefixOf]; exact hb
    rcases idx_spec x l with ⟨h1,h2⟩ | ⟨i,h1,h2,h3,h4⟩
    · refine Or.inl ⟨?_,by simp [hb,h2]⟩
      rw [Lib.index,hp,h1]; rfl
    · refine Or.inr ⟨i + 1,?_,by simp [hb,h2],by simpa using h3,by simp; omega⟩
      rw [Lib.index,hp,h1]
      have : ¬ ((i : Int) == -1) = true := by simp
      rw [if_neg (by decide),if_neg this]
      omega
theorem filt_no {x : UInt8} : ∀ {s : List UInt8},x ∉ s → s.filter (· != x) = s := by
 intro s h
 rw [List.filter_eq_self]
 intro a ha
 have : a ≠ x := fun e => h (e ▸ ha)
 simpa using this
theorem repl_from (x : UInt8) : ∀ (n : Nat) (s : List UInt8),s.length ≤ n → ∀ fuel,s.length < fuel → Lib.replaceK [x] [] (Lib.countFrom [x] fuel s) s = s.filter (· != x)
 | n,s,hn,0,hf => absurd hf (by omega)
 | n,s,hn,fuel + 1,hf => by
  rcases idx_spec x s with ⟨h1,h2⟩ | ⟨i,h1,h2,h3,h4⟩
  · rw [Lib.countFrom,h1]
    simp only [BEq.rfl,if_true]
    rw [Lib.replaceK,filt_no h2]
  · have hm : ¬ (Lib.index s [x] == -1) = true := by rw [h1]; simp
    rw [Lib.countFrom,if_neg hm,Nat.add_comm,Lib.replaceK_hit _ _ _ _ i h1,h1]
    have hl : (s.drop (i + 1)).length = s.length - (i + 1) := List.length_drop
    match n,hn with
    | 0,hn => omega
    | n + 1,hn =>
     have ih := repl_from x n (s.drop (i + 1)) (by omega) fuel (by omega)
     simp only [Int.toNat_natCast,List.length_singleton,List.append_nil]
     rw [ih]
     conv => rhs; rw [← List.take_append_drop i s,h3]
     rw [List.filter_append,filt_no h2,List.filter_cons,if_neg (by simp)]
theorem repl_all (s : List UInt8) : Lib.replaceAll s [95] [] = s.filter (· != 95) := by
 rw [Lib.replaceAll,Lib.replace,if_neg (by decide),Lib.replaceNum,if_pos (Or.inl (by decide)),Lib.count]
 exact repl_from 95 s.length s (Nat.le_refl _) _ (by omega)
theorem cut_at (x : UInt8) (a r : List UInt8) (h : x ∉ a) : Lib.cut (a ++ x :: r) [x] = (a,r,true) := by
 have hi : Lib.index (a ++ x :: r) [x] = (a.length : Int) := by
  induction a with
  | nil => simp [Lib.index]
  | cons b a ih =>
   have hb : x ≠ b := fun e => h (by simp [e])
   have ih := ih (fun e => h (by simp [e]))
   rw [List.cons_append,Lib.index,ih]
   have h1 : ¬ ([x].isPrefixOf (b :: (a ++ x :: r))) = true := by simp [List.isPrefixOf]; exact hb
   have h2 : ¬ (((a.length : Nat) : Int) == -1) = true := by simp
   rw [if_neg h1,if_neg h2]
   simp
 rw [Lib.cut,hi,if_pos (by omega)]
 simp
theorem cut_no (x : UInt8) (a : List UInt8) (h : x ∉ a) : Lib.cut a [x] = (a,[],false) := by
 rcases idx_spec x a with ⟨h1,_⟩ | ⟨i,h1,h2,h3,h4⟩
 · rw [Lib.cut,h1,if_neg (by decide)]
 · exact absurd (by rw [← List.take_append_drop i a,h3]; simp) h
theorem ok35 {base : Int} {l : List UInt8} (h : ∀ c ∈ l.filter (· != 95),okB base c) : (35 : UInt8) ∉ l := by
 intro hm
 have := h 35 (by simp [hm])
 exact absurd this.1 (by decide)
theorem num_form (d : List UInt8) (ha : ∀ b ∈ d,b.toNat < 128) (h1 : (readE 4 (mapS d) d.length).2 ≠ 1) (h2 : (readE 4 (mapS d) d.length).2 ≠ 2) :
 d.length ≤ 40 ∧ ∃ (base : Int) (a r : List UInt8),((base = 16 ∧ d = [49,54] ++ 35 :: r) ∨ (base = 2 ∧ d = [50] ++ 35 :: r) ∨ (base = 10 ∧ d = r ∧ (35 : UInt8) ∉ d)) ∧
  (∀ c ∈ r.filter (· != 95),okB base c) ∧ r.filter (· != 95) ≠ [] ∧ numR d = if 4294967295 < valB base 0 (r.filter (· != 95)) then (0,3) else (valB base 0 (r.filter (· != 95)),0) := by
 have hm : mapS d = lw d := by rw [mapS_ascii d ha]; rfl
 have hn : numR d = if 4294967295 < (numD (mapS d)).1 then (0,3) else ((numD (mapS d)).1,0) := by
  simp only [numR]
  rw [if_neg (fun h => h.elim h2 h1)]
 rw [hm] at h1 h2 hn
 have hk : isK 4 = true := by decide
 have ha4 : asD 4 (lw d) = numD (lw d) := rfl
 have hl : d.length ≤ 40 := by
  apply Classical.byContradiction
  intro h
  rw [readE,if_pos hk,if_pos (by omega)] at h2
  exact h2 rfl
 have hok : (numD (lw d)).2 = true := by
  apply Classical.byContradiction
  intro h
  rw [readE,if_pos hk,if_neg (by omega),ha4,if_neg h] at h1
  exact h1 rfl
 have fin : ∀ (base : Int) (r : List UInt8),1 ≤ base → numD (lw d) = readD base (lw r) → (∀ c ∈ r.filter (· != 95),okB base c) ∧ r.filter (· != 95) ≠ [] ∧ numR d = if 4294967295 < valB base 0 (r.filter (· != 95)) then (0,3) else (valB base 0 (r.filter (· != 95)),0) := by
  intro base r hb e
  rw [e] at hn hok
  have h := readD_val hb r hok
  refine ⟨h.2.1,h.2.2,?_⟩
  rw [hn,h.1]
  by_cases hlt : 4294967295 < valB base 0 (r.filter (· != 95))
  · rw [if_pos hlt,if_pos (by omega)]
  · rw [if_neg hlt,if_neg (by omega)]
    congr 1
    omega
 refine ⟨hl,?_⟩
 have p1 := lo_pre [49,54,35] (by decide +kernel) d
 have p2 := lo_pre [50,35] (by decide +kernel) d
 by_cases q1 : Lib.hasPrefix d [49,54,35] = true
 · obtain ⟨r,hr⟩ := List.isPrefixOf_iff_prefix.1 q1
   have e : numD (lw d) = readD 16 (lw r) := by
    rw [numD,if_pos (by rw [p1]; exact q1),← hr]
    simp [lw]
   exact ⟨16,[],r,Or.inl ⟨rfl,by rw [← hr]; rfl⟩,fin 16 r (by decide) e⟩
 · by_cases q2 : Lib.hasPrefix d [50,35] = true
   · obtain ⟨r,hr⟩ := List.isPrefixOf_iff_prefix.1 q2
     have e : numD (lw d) = readD 2 (lw r) := by
      rw [numD,if_neg (by rw [p1]; exact q1),if_pos (by rw [p2]; exact q2),← hr]
      simp [lw]
     exact ⟨2,[],r,Or.inr (Or.inl ⟨rfl,by rw [← hr]; rfl⟩),fin 2 r (by decide) e⟩
   · have e : numD (lw d) = readD 10 (lw d) := by
      rw [numD,if_neg (by rw [p1]; exact q1),if_neg (by rw [p2]; exact q2)]
     have f := fin 10 d (by decide) e
     exact ⟨10,[],d,Or.inr (Or.inr ⟨rfl,rfl,ok35 f.1⟩),f⟩
end Go.Proofs.YtdcoidmbainkmaaGreatDoor

namespace Go.Proofs.YtdcoidmbainkmaaGreatDoor
open Go.RowKit
attribute [local go_sem ↓] Go.wp_at_zero Go.wp_at_succ
set_option linter.unusedVariables false
set_option linter.unusedSimpArgs false
theorem dig_one (c : UInt8) (h : 0 ≤ dgW c) : (48 ≤ c.toNat ∧ c.toNat ≤ 57 ∧ dgW c = (c.toNat : Int) - 48) ∨ ((65 ≤ c.toNat ∧ c.toNat ≤ 70 ∨ 97 ≤ c.toNat ∧ c.toNat ≤ 102) ∧ 97 ≤ bits .or .u8 (c.toNat : Int) 32 ∧ bits .or .u8 (c.toNat : Int) 32 ≤ 102 ∧ dgW c = bits .or .u8 (c.toNat : Int) 32 - 87) := by
 have k : ∀ b : Fin 256,0 ≤ dgW (UInt8.ofNat b.val) → (48 ≤ (UInt8.ofNat b.val).toNat ∧ (UInt8.ofNat b.val).toNat ≤ 57 ∧ dgW (UInt8.ofNat b.val) = ((UInt8.ofNat b.val).toNat : Int) - 48) ∨ ((65 ≤ (UInt8.ofNat b.val).toNat ∧ (UInt8.ofNat b.val).toNat ≤ 70 ∨ 97 ≤ (UInt8.ofNat b.val).toNat ∧ (UInt8.ofNat b.val).toNat ≤ 102) ∧ 97 ≤ bits .or .u8 ((UInt8.ofNat b.val).toNat : Int) 32 ∧ bits .or .u8 ((UInt8.ofNat b.val).toNat : Int) 32 ≤ 102 ∧ dgW (UInt8.ofNat b.val) = bits .or .u8 ((UInt8.ofNat b.val).toNat : Int) 32 - 87) := by decide +kernel
 have := k ⟨c.toNat,c.toNat_lt⟩
 simp only [UInt8.ofNat_toNat] at this
 exact this h
theorem low_any (c : Int) (w : World) : Calls Tryz.prog 238 #[.int .u8 c] w fun e w' => e = .returned (.int .u8 (bits .or .u8 c 32)) ∧ w' = w := by
 go_enter Tryz.func238,Tryz.ntmps238
 go_wp2
 go_ret
 exact ⟨rfl,rfl⟩
def puV (v : Int) : Value := if v < 18446744073709551616 then .tuple #[.int .u64 v,.nilIface] else .tuple #[.int .u64 18446744073709551615,.iface 249 (.int .i64 1)]
set_option maxHeartbeats 4000000 in
set_option maxRecDepth 100000 in
theorem pu_10 (t : ByteArray) (h0 : 1 ≤ t.size) (hs : t.size ≤ 40) (hok : ∀ c ∈ t.data.toList,okB 10 c) (w : World) :
 Calls Tryz.prog 225 #[.string t,.int .i64 10,.int .i64 64] w fun e w' => e = .returned (puV (valB 10 0 t.data.toList)) ∧ Lib.bytesWorld w 5 t = w' := by
 have hemp : t.toList.isEmpty = false := by
  rw [← decide_eq_emptyBytes]
  exact decide_eq_false (fun h => by rw [h] at h0; exact absurd h0 (by decide))
 have hcv := Lib.run_convert_string_bytes (P := Tryz.prog) w 9 40 5 t (u := .string) Tryz.underlying9 Tryz.underlying40 Tryz.underlying5
 have hB : ∀ j,j < t.size → (Lib.bytesWorld w 5 t).cell? ⟨w.heap.size,j,none⟩ = some (.int .u8 (t.data.toList.getD j 0).toNat) := fun j hj => Lib.bytesWorld_cell w 5 t j hj
 obtain ⟨W1,hW1⟩ : ∃ W1,W1 = Lib.bytesWorld w 5 t := ⟨_,rfl⟩
 rw [← hW1] at hcv hB ⊢
 clear hW1
 obtain ⟨bs,hL⟩ : ∃ bs,bs = t.data.toList := ⟨_,rfl⟩
 have hLn : bs.length = t.size := by rw [hL]; rfl
 rw [← hL] at hB hok ⊢
 clear hL
 have HO := hidI hok
 have hmv : IntKind.u64.wrap (IntKind.u64.wrap 18446744073709551616 - 1) = 18446744073709551615 := by
  rw [IntKind.wrap_u64,IntKind.wrap_u64]
  decide
 obtain ⟨V,hV⟩ : ∃ V,valB 10 0 bs = V := ⟨_,rfl⟩
 have HV0 := hidI hV
 rw [hV]
 clear hV hok
 go_enter Tryz.func225,Tryz.ntmps225
 go_wp2
 go_loop [12,13,101] (fun vu vn vi => ∃ (k : Nat) (a : Int),vu = .bool false ∧ vn = .int .u64 a ∧ vi = .int .i64 k ∧ k ≤ t.size ∧ Hid (0 ≤ a ∧ a < 18446744073709551616 ∧ valB 10 a (bs.drop k) = V))
  (fun _ _ vi => t.size - (intOf vi).toNat)
 case atStart => exact ⟨0,0,rfl,rfl,rfl,by omega,hidI ⟨by omega,by omega,HV0.out⟩⟩
 case round =>
  obtain ⟨k,a,rfl,rfl,rfl,hk,hh⟩ := hrel
  obtain ⟨a0,a1,hdec⟩ := hh.out
  clear hh
  by_cases hkn : k < t.size
  · have hc := hB k hkn
    have hdrop : bs.drop k = bs[k]'(by omega) :: bs.drop (k + 1) := List.drop_eq_getElem_cons (by omega)
    have hget : bs.getD k 0 = bs[k]'(by omega) := by simp [List.getD,List.getElem?_eq_getElem (show k < bs.length by omega)]
    have hmem : bs[k]'(by omega) ∈ bs := List.getElem_mem _
    rw [hdrop] at hdec
    rw [hget] at hc
    have hok := HO.out _ hmem
    have hrest : ∀ d ∈ bs.drop (k + 1),okB 10 d := fun d hd => HO.out d (List.mem_of_mem_drop hd)
    clear hmem
    generalize bs[k]'(by omega) = c at hc hdec hok
    have hc256 : c.toNat < 256 := c.toNat_lt
    clear hB hdrop hget
    obtain ⟨e0,e1⟩ := hok
    have hdo := dig_one c e0
    rw [valB] at hdec
    have hge := fun h => valB_ge (base := 10) (by decide) (bs.drop (k + 1)) (a * 10 + dgW c) h hrest
    rw [hdec] at hge
    have hbig : 18446744073709551616 ≤ a * 10 + dgW c → puV V = .tuple #[.int .u64 18446744073709551615,.iface 249 (.int .i64 1)] := fun h => by
     rw [puV,if_neg]
     have := hge (by omega)
     omega
    have HBG := hidI hbig
    have HD := hidI hdec
    clear hge hrest hdec hbig HO
    rcases hdo with ⟨d0,d1,he⟩ | ⟨hr,d0,d1,he⟩
    rotate_left
    · omega
    have e2 : (c.toNat : Int) - 48 < 10 := by omega
    clear e0
    by_cases hcut : 1844674407370955162 ≤ a
    · have hq := hidI (HBG.out (by omega))
      go_wp2
      go_ret2
      exact ⟨by rw [hq.out]; rfl,rfl⟩
    · have icut : a < 1844674407370955162 := by omega
      by_cases hov : 18446744073709551616 ≤ a * 10 + ((c.toNat : Int) - 48)
      · have hq := hidI (HBG.out (by omega))
        have hwr : IntKind.u64.wrap (a * 10 + ((c.toNat : Int) - 48)) = a * 10 + ((c.toNat : Int) - 48) - 18446744073709551616 := by
         rw [IntKind.wrap_u64]
         omega
        clear hcut
        go_wp2
        go_ret2
        exact ⟨by rw [hq.out]; rfl,rfl⟩
      · have iov : a * 10 + ((c.toNat : Int) - 48) < 18446744073709551616 := by omega
        clear hcut hov
        go_wp2
        refine ⟨⟨k + 1,a * 10 + ((c.toNat : Int) - 48),rfl,(by first | rfl | (congr 1; omega)),(by first | rfl | (congr 1; omega)),by omega,hidI ⟨by omega,by omega,by rw [← he]; exact HD.out⟩⟩,by simp [intOf]; omega⟩
  · have hkk : k = t.size := by omega
    subst hkk
    have hF : bs.drop t.size = [] := List.drop_eq_nil_of_le (by omega)
    rw [hF,valB] at hdec
    subst hdec
    have hq := hidI (show puV a = .tuple #[.int .u64 a,.nilIface] by rw [puV,if_pos a1])
    clear hF HV0 HO
    go_wp2
    go_ret2
    exact ⟨by rw [hq.out]; rfl,rfl⟩
set_option maxHeartbeats 4000000 in
set_option maxRecDepth 100000 in
theorem pu_2 (t : ByteArray) (h0 : 1 ≤ t.size) (hs : t.size ≤ 40) (hok : ∀ c ∈ t.data.toList,okB 2 c) (w : World) :
 Calls Tryz.prog 225 #[.string t,.int .i64 2,.int .i64 64] w fun e w' => e = .returned (puV (valB 2 0 t.data.toList)) ∧ Lib.bytesWorld w 5 t = w' := by
 have hemp : t.toList.isEmpty = false := by
  rw [← decide_eq_emptyBytes]
  exact decide_eq_false (fun h => by rw [h] at h0; exact absurd h0 (by decide))
 have hcv := Lib.run_convert_string_bytes (P := Tryz.prog) w 9 40 5 t (u := .string) Tryz.underlying9 Tryz.underlying40 Tryz.underlying5
 have hB : ∀ j,j < t.size → (Lib.bytesWorld w 5 t).cell? ⟨w.heap.size,j,none⟩ = some (.int .u8 (t.data.toList.getD j 0).toNat) := fun j hj => Lib.bytesWorld_cell w 5 t j hj
 obtain ⟨W1,hW1⟩ : ∃ W1,W1 = Lib.bytesWorld w 5 t := ⟨_,rfl⟩
 rw [← hW1] at hcv hB ⊢
 clear hW1
 obtain ⟨bs,hL⟩ : ∃ bs,bs = t.data.toList := ⟨_,rfl⟩
 have hLn : bs.length = t.size := by rw [hL]; rfl
 rw [← hL] at hB hok ⊢
 clear hL
 have HO := hidI hok
 have hmv : IntKind.u64.wrap (IntKind.u64.wrap 18446744073709551616 - 1) = 18446744073709551615 := by
  rw [IntKind.wrap_u64,IntKind.wrap_u64]
  decide
 obtain ⟨V,hV⟩ : ∃ V,valB 2 0 bs = V := ⟨_,rfl⟩
 have HV0 := hidI hV
 rw [hV]
 clear hV hok
 go_enter Tryz.func225,Tryz.ntmps225
 go_wp2
 go_loop [12,13,101] (fun vu vn vi => ∃ (k : Nat) (a : Int),vu = .bool false ∧ vn = .int .u64 a ∧ vi = .int .i64 k ∧ k ≤ t.size ∧ Hid (0 ≤ a ∧ a < 18446744073709551616 ∧ valB 2 a (bs.drop k) = V))
  (fun _ _ vi => t.size - (intOf vi).toNat)
 case atStart => exact ⟨0,0,rfl,rfl,rfl,by omega,hidI ⟨by omega,by omega,HV0.out⟩⟩
 case round =>
  obtain ⟨k,a,rfl,rfl,rfl,hk,hh⟩ := hrel
  obtain ⟨a0,a1,hdec⟩ := hh.out
  clear hh
  by_cases hkn : k < t.size
  · have hc := hB k hkn
    have hdrop : bs.drop k = bs[k]'(by omega) :: bs.drop (k + 1) := List.drop_eq_getElem_cons (by omega)
    have hget : bs.getD k 0 = bs[k]'(by omega) := by simp [List.getD,List.getElem?_eq_getElem (show k < bs.length by omega)]
    have hmem : bs[k]'(by omega) ∈ bs := List.getElem_mem _
    rw [hdrop] at hdec
    rw [hget] at hc
    have hok := HO.out _ hmem
    have hrest : ∀ d ∈ bs.drop (k + 1),okB 2 d := fun d hd => HO.out d (List.mem_of_mem_drop hd)
    clear hmem
    generalize bs[k]'(by omega) = c at hc hdec hok
    have hc256 : c.toNat < 256 := c.toNat_lt
    clear hB hdrop hget
    obtain ⟨e0,e1⟩ := hok
    have hdo := dig_one c e0
    rw [valB] at hdec
    have hge := fun h => valB_ge (base := 2) (by decide) (bs.drop (k + 1)) (a * 2 + dgW c) h hrest
    rw [hdec] at hge
    have hbig : 18446744073709551616 ≤ a * 2 + dgW c → puV V = .tuple #[.int .u64 18446744073709551615,.iface 249 (.int .i64 1)] := fun h => by
     rw [puV,if_neg]
     have := hge (by omega)
     omega
    have HBG := hidI hbig
    have HD := hidI hdec
    clear hge hrest hdec hbig HO
    rcases hdo with ⟨d0,d1,he⟩ | ⟨hr,d0,d1,he⟩
    rotate_left
    · omega
    have e2 : (c.toNat : Int) - 48 < 2 := by omega
    clear e0
    by_cases hcut : 9223372036854775808 ≤ a
    · have hq := hidI (HBG.out (by omega))
      go_wp2
      go_ret2
      exact ⟨by rw [hq.out]; rfl,rfl⟩
    · have icut : a < 9223372036854775808 := by omega
      by_cases hov : 18446744073709551616 ≤ a * 2 + ((c.toNat : Int) - 48)
      · exact absurd hov (by omega)
      · have iov : a * 2 + ((c.toNat : Int) - 48) < 18446744073709551616 := by omega
        clear hcut hov
        go_wp2
        refine ⟨⟨k + 1,a * 2 + ((c.toNat : Int) - 48),rfl,(by first | rfl | (congr 1; omega)),(by first | rfl | (congr 1; omega)),by omega,hidI ⟨by omega,by omega,by rw [← he]; exact HD.out⟩⟩,by simp [intOf]; omega⟩
  · have hkk : k = t.size := by omega
    subst hkk
    have hF : bs.drop t.size = [] := List.drop_eq_nil_of_le (by omega)
    rw [hF,valB] at hdec
    subst hdec
    have hq := hidI (show puV a = .tuple #[.int .u64 a,.nilIface] by rw [puV,if_pos a1])
    clear hF HV0 HO
    go_wp2
    go_ret2
    exact ⟨by rw [hq.out]; rfl,rfl⟩
set_option maxHeartbeats 4000000 in
set_option maxRecDepth 100000 in
theorem pu_16 (t : ByteArray) (h0 : 1 ≤ t.size) (hs : t.size ≤ 40) (hok : ∀ c ∈ t.data.toList,okB 16 c) (w : World) :
 Calls Tryz.prog 225 #[.string t,.int .i64 16,.int .i64 64] w fun e w' => e = .returned (puV (valB 16 0 t.data.toList)) ∧ Lib.bytesWorld w 5 t = w' := by
 have hemp : t.toList.isEmpty = false := by
  rw [← decide_eq_emptyBytes]
  exact decide_eq_false (fun h => by rw [h] at h0; exact absurd h0 (by decide))
 have hcv := Lib.run_convert_string_bytes (P := Tryz.prog) w 9 40 5 t (u := .string) Tryz.underlying9 Tryz.underlying40 Tryz.underlying5
 have hB : ∀ j,j < t.size → (Lib.bytesWorld w 5 t).cell? ⟨w.heap.size,j,none⟩ = some (.int .u8 (t.data.toList.getD j 0).toNat) := fun j hj => Lib.bytesWorld_cell w 5 t j hj
 obtain ⟨W1,hW1⟩ : ∃ W1,W1 = Lib.bytesWorld w 5 t := ⟨_,rfl⟩
 rw [← hW1] at hcv hB ⊢
 clear hW1
 obtain ⟨bs,hL⟩ : ∃ bs,bs = t.data.toList := ⟨_,rfl⟩
 have hLn : bs.length = t.size := by rw [hL]; rfl
 rw [← hL] at hB hok ⊢
 clear hL
 have HO := hidI hok
 have hmv : IntKind.u64.wrap (IntKind.u64.wrap 18446744073709551616 - 1) = 18446744073709551615 := by
  rw [IntKind.wrap_u64,IntKind.wrap_u64]
  decide
 obtain ⟨V,hV⟩ : ∃ V,valB 16 0 bs = V := ⟨_,rfl⟩
 have HV0 := hidI hV
 rw [hV]
 clear hV hok
 go_enter Tryz.func225,Tryz.ntmps225
 go_wp2
 go_loop [12,13,101] (fun vu vn vi => ∃ (k : Nat) (a : Int),vu = .bool false ∧ vn = .int .u64 a ∧ vi = .int .i64 k ∧ k ≤ t.size ∧ Hid (0 ≤ a ∧ a < 18446744073709551616 ∧ valB 16 a (bs.drop k) = V))
  (fun _ _ vi => t.size - (intOf vi).toNat)
 case atStart => exact ⟨0,0,rfl,rfl,rfl,by omega,hidI ⟨by omega,by omega,HV0.out⟩⟩
 case round =>
  obtain ⟨k,a,rfl,rfl,rfl,hk,hh⟩ := hrel
  obtain ⟨a0,a1,hdec⟩ := hh.out
  clear hh
  by_cases hkn : k < t.size
  · have hc := hB k hkn
    have hdrop : bs.drop k = bs[k]'(by omega) :: bs.drop (k + 1) := List.drop_eq_getElem_cons (by omega)
    have hget : bs.getD k 0 = bs[k]'(by omega) := by simp [List.getD,List.getElem?_eq_getElem (show k < bs.length by omega)]
    have hmem : bs[k]'(by omega) ∈ bs := List.getElem_mem _
    rw [hdrop] at hdec
    rw [hget] at hc
    have hok := HO.out _ hmem
    have hrest : ∀ d ∈ bs.drop (k + 1),okB 16 d := fun d hd => HO.out d (List.mem_of_mem_drop hd)
    clear hmem
    generalize bs[k]'(by omega) = c at hc hdec hok
    have hc256 : c.toNat < 256 := c.toNat_lt
    clear hB hdrop hget
    obtain ⟨e0,e1⟩ := hok
    have hdo := dig_one c e0
    rw [valB] at hdec
    have hge := fun h => valB_ge (base := 16) (by decide) (bs.drop (k + 1)) (a * 16 + dgW c) h hrest
    rw [hdec] at hge
    have hbig : 18446744073709551616 ≤ a * 16 + dgW c → puV V = .tuple #[.int .u64 18446744073709551615,.iface 249 (.int .i64 1)] := fun h => by
     rw [puV,if_neg]
     have := hge (by omega)
     omega
    have HBG := hidI hbig
    have HD := hidI hdec
    clear hge hrest hdec hbig HO
    rcases hdo with ⟨d0,d1,he⟩ | ⟨hr,d0,d1,he⟩
    · have e2 : (c.toNat : Int) - 48 < 16 := by omega
      clear e0
      by_cases hcut : 1152921504606846976 ≤ a
      · have hq := hidI (HBG.out (by omega))
        go_wp2
        go_ret2
        exact ⟨by rw [hq.out]; rfl,rfl⟩
      · have icut : a < 1152921504606846976 := by omega
        by_cases hov : 18446744073709551616 ≤ a * 16 + ((c.toNat : Int) - 48)
        · exact absurd hov (by omega)
        · have iov : a * 16 + ((c.toNat : Int) - 48) < 18446744073709551616 := by omega
          clear hcut hov
          go_wp2
          refine ⟨⟨k + 1,a * 16 + ((c.toNat : Int) - 48),rfl,(by first | rfl | (congr 1; omega)),(by first | rfl | (congr 1; omega)),by omega,hidI ⟨by omega,by omega,by rw [← he]; exact HD.out⟩⟩,by simp [intOf]; omega⟩
    · have hn : ¬ (48 ≤ c.toNat ∧ c.toNat ≤ 57) := by omega
      have hn1 : ¬ (c.toNat : Int) ≤ 57 := by omega
      have h48 : (48 : Int) ≤ (c.toNat : Int) := by omega
      have h95 : ¬ (c.toNat : Int) = 95 := by omega
      obtain ⟨L,hL⟩ : ∃ L,bits .or .u8 (c.toNat : Int) 32 = L := ⟨_,rfl⟩
      rw [hL] at d0 d1 he
      have cl : ∀ W,Calls Tryz.prog 238 #[.int .u8 (c.toNat : Int)] W fun e w' => e = .returned (.int .u8 L) ∧ w' = W := fun W => by
       have h := low_any (c.toNat : Int) W
       rw [hL] at h
       exact h
      have d2 : L ≤ 122 := by omega
      have d3 : L - 97 + 10 < 16 := by omega
      have he : dgW c = L - 97 + 10 := by omega
      clear e0 hr hn hL
      by_cases hcut : 1152921504606846976 ≤ a
      · have hq := hidI (HBG.out (by omega))
        go_wp2_with (go_at_call 238; refine (cl _).mono ?_; rintro e w' ⟨rfl,rfl⟩)
        go_ret2
        exact ⟨by rw [hq.out]; rfl,rfl⟩
      · have icut : a < 1152921504606846976 := by omega
        by_cases hov : 18446744073709551616 ≤ a * 16 + (L - 97 + 10)
        · exact absurd hov (by omega)
        · have iov : a * 16 + (L - 97 + 10) < 18446744073709551616 := by omega
          clear hcut hov
          go_wp2_with (go_at_call 238; refine (cl _).mono ?_; rintro e w' ⟨rfl,rfl⟩)
          refine ⟨⟨k + 1,a * 16 + (L - 97 + 10),rfl,(by first | rfl | (congr 1; omega)),(by first | rfl | (congr 1; omega)),by omega,hidI ⟨by omega,by omega,by rw [← he]; exact HD.out⟩⟩,by simp [intOf]; omega⟩
  · have hkk : k = t.size := by omega
    subst hkk
    have hF : bs.drop t.size = [] := List.drop_eq_nil_of_le (by omega)
    rw [hF,valB] at hdec
    subst hdec
    have hq := hidI (show puV a = .tuple #[.int .u64 a,.nilIface] by rw [puV,if_pos a1])
    clear hF HV0 HO
    go_wp2
    go_ret2
    exact ⟨by rw [hq.out]; rfl,rfl⟩
theorem pu_any {B : Int} (hb : B = 2 ∨ B = 10 ∨ B = 16) (t : ByteArray) (h0 : 1 ≤ t.size) (hs : t.size ≤ 40) (hok : ∀ c ∈ t.data.toList,okB B c) (w : World) :
 Calls Tryz.prog 225 #[.string t,.int .i64 B,.int .i64 64] w fun e w' => e = .returned (puV (valB B 0 t.data.toList)) ∧ Lib.bytesWorld w 5 t = w' := by
 rcases hb with rfl | rfl | rfl
 · exact pu_2 t h0 hs hok w
 · exact pu_10 t h0 hs hok w
 · exact pu_16 t h0 hs hok w
def piV (v : Int) : Value := if v < 9223372036854775808 then .tuple #[.int .i64 v,.nilIface] else .tuple #[.int .i64 9223372036854775807,.iface 249 (.int .i64 1)]
set_option maxHeartbeats 4000000 in
theorem pi_any {B : Int} (hb : B = 2 ∨ B = 10 ∨ B = 16) (t : ByteArray) (h0 : 1 ≤ t.size) (hs : t.size ≤ 40) (hok : ∀ c ∈ t.data.toList,okB B c) (w : World) :
 Calls Tryz.prog 205 #[.string t,.int .i64 B,.int .i64 64] w fun e w' => e = .returned (piV (valB B 0 t.data.toList)) ∧ Lib.bytesWorld w 5 t = w' := by
 have hemp : t.toList.isEmpty = false := by
  rw [← decide_eq_emptyBytes]
  exact decide_eq_false (fun h => by rw [h] at h0; exact absurd h0 (by decide))
 have hU := pu_any hb t h0 hs hok w
 have hge := valB_ge (base := B) (by omega) t.data.toList 0 (by omega) hok
 have hpos : 0 < t.size := by omega
 have hc : okB B (t[0]'hpos) := hok _ (by
  have : t[0]'hpos = t.data.toList[0]'(by rw [Array.length_toList]; exact hpos) := rfl
  rw [this]; exact List.getElem_mem _)
 have hdo := dig_one _ hc.1
 obtain ⟨c0,hc0⟩ : ∃ c0,t[0]'hpos = c0 := ⟨_,rfl⟩
 have i43 : ¬ (c0.toNat : Int) = 43 := by rw [← hc0]; omega
 have i45 : ¬ (c0.toNat : Int) = 45 := by rw [← hc0]; omega
 have hq1 : ∀ W,(binOp .neq 117 (.iface 249 (.int .i64 1)) (.iface 249 (.int .i64 1))).run Tryz.prog W = .ok (.bool false) W := fun W => Lib.run_neq_iface_int W 1 1 Tryz.underlying117 (by kernel_rfl) Tryz.underlying249
 obtain ⟨V,hV⟩ : ∃ V,valB B 0 t.data.toList = V := ⟨_,rfl⟩
 rw [hV] at hU hge ⊢
 clear hV hdo hc hok
 by_cases h64 : V < 18446744073709551616
 · rw [puV,if_pos h64] at hU
   by_cases h63 : V < 9223372036854775808
   · rw [piV,if_pos h63]
     clear h64
     go_enter Tryz.func205,Tryz.ntmps205
     go_wp2_with (go_at_call 225; refine hU.mono ?_; rintro e w1 ⟨rfl,rfl⟩)
     go_ret2
     exact ⟨rfl,rfl⟩
   · rw [piV,if_neg h63]
     have h63' : 9223372036854775808 ≤ V := by omega
     clear h63
     go_enter Tryz.func205,Tryz.ntmps205
     go_wp2_with (go_at_call 225; refine hU.mono ?_; rintro e w1 ⟨rfl,rfl⟩)
     go_ret2
     exact ⟨rfl,rfl⟩
 · rw [puV,if_neg h64] at hU
   rw [piV,if_neg (by omega)]
   clear h64 hge
   go_enter Tryz.func205,Tryz.ntmps205
   go_wp2_with (go_at_call 225; refine hU.mono ?_; rintro e w1 ⟨rfl,rfl⟩)
   go_ret2
   exact ⟨rfl,rfl⟩
theorem psi_ok {B : Int} (hb : B = 2 ∨ B = 10 ∨ B = 16) (t : ByteArray) (h0 : 1 ≤ t.size) (hs : t.size ≤ 40) (hok : ∀ c ∈ t.data.toList,okB B c) (w : World) (h : valB B 0 t.data.toList < 9223372036854775808) :
 Calls Tryz.prog 179 #[.string t,.int .i64 B,.int .i64 64] w fun e w' => e = .returned (.tuple #[.int .i64 (valB B 0 t.data.toList),.nilIface]) ∧ Below w.heap.size w w' := by
 have hU := pi_any hb t h0 hs hok w
 obtain ⟨V,hV⟩ : ∃ V,valB B 0 t.data.toList = V := ⟨_,rfl⟩
 rw [hV] at hU h ⊢
 rw [piV,if_pos h] at hU
 clear hV h hok
 go_enter Tryz.func179,Tryz.ntmps179
 go_wp2_with (go_at_call 205; refine hU.mono ?_; rintro e w1 ⟨rfl,rfl⟩)
 go_ret2
 exact ⟨rfl,Lib.bytesWorld_below _ _ _⟩
theorem psi_err {B : Int} (hb : B = 2 ∨ B = 10 ∨ B = 16) (t : ByteArray) (h0 : 1 ≤ t.size) (hs : t.size ≤ 40) (hok : ∀ c ∈ t.data.toList,okB B c) (ev : Value) (w : World) (hv : w.cell? ⟨12,0,none⟩ = some ev) (hev : ev = .nilIface ∨ ∃ te pe,ev = .iface te pe) (h : ¬ valB B 0 t.data.toList < 9223372036854775808) :
 Calls Tryz.prog 179 #[.string t,.int .i64 B,.int .i64 64] w fun e w' => ∃ N,e = .returned (.tuple #[.int .i64 9223372036854775807,.iface 250 (.pointer (some ⟨N,0,none⟩))]) ∧ Below w.heap.size w w' := by
 have hU := pi_any hb t h0 hs hok w
 have hG : 12 < w.heap.size := Lib.lt_of_cell hv
 obtain ⟨V,hV⟩ : ∃ V,valB B 0 t.data.toList = V := ⟨_,rfl⟩
 rw [hV] at hU h
 rw [piV,if_neg h] at hU
 have hb1 := Lib.bytesWorld_below w 5 t
 generalize Lib.bytesWorld w 5 t = W1 at hU hb1
 have hv1 : W1.cell? ⟨12,0,none⟩ = some ev := (hb1.cell (show (⟨12,0,none⟩ : Addr).block < w.heap.size from hG)).trans hv
 have cE := Tryz.strconv_toError_range ⟨#[80,97,114,115,101,73,110,116]⟩ t B 64 ev W1 (by omega) hv1 hev
 clear hV h hok hv hv1
 go_enter Tryz.func179,Tryz.ntmps179
 go_wp2_with (go_at_call 205; refine hU.mono ?_; rintro e w1 ⟨rfl,rfl⟩)
 refine cE.mono ?_
 rintro e W2 ⟨N,rfl,h1,h2,h3⟩
 go_wp2
 go_ret2
 exact ⟨N,rfl,hb1.trans (h3.mono hb1.size)⟩
end Go.Proofs.YtdcoidmbainkmaaGreatDoor
