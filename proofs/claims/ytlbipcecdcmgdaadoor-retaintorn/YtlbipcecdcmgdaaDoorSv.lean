/- Save, the program's. -/
import Derived.Test.YtlbipcecdcmgdaaDoorLc
namespace Go.Proofs.YtlbipcecdcmgdaaDoor
open Go.RowKit
attribute [local go_sem ↓] Go.wp_at_zero Go.wp_at_succ
set_option linter.unusedVariables false
set_option linter.unusedSimpArgs false

def nextS (la lb : List Nat) : Nat × Nat := if (newS la lb).e = 0 then (1 - (newS la lb).slot, ((newS la lb).ser + 1) % 4294967296) else (0, 1)
theorem newS_slot (la lb : List Nat) : (newS la lb).slot ≤ 1 := by
  unfold newS
  split
  · simp
  · split <;> simp
theorem newS_ser {la lb : List Nat} (ha : isB la) (hb : isB lb) : (newS la lb).ser < 2 ^ 32 := by
  have h1 := readN_lt ha
  have h2 := readN_lt hb
  unfold newS
  split
  · simp
  · split
    · exact h2
    · exact h1
theorem w64n (z : Int) (y : Nat) (h : z = y) (hy : y < 2 ^ 62) : wrap64 z = y := by
  subst h
  unfold wrap64
  omega
theorem u32n (z : Int) (y : Nat) (h : z % 4294967296 = y) : IntKind.u32.wrap z = y := by rw [IntKind.wrap_u32]; exact h
set_option maxHeartbeats 1000000 in
theorem next_any (la lb : List Nat) (u v : Value) (w : World) (ba : isB la) (bb : isB lb) (hu : rdB w u la) (hv : rdB w v lb) (ma : la.length ≤ maxLen) (mb : lb.length ≤ maxLen) (hB : Beg w) :
    Calls Tryd.prog 39 #[u, v] w fun e w' => e = .returned (.tuple #[.int .i64 ((nextS la lb).1 : Int), .int .i64 ((nextS la lb).2 : Int)]) ∧ w.grownBy w' none := by
  have c := newest_any la lb u v w ba bb hu hv ma mb hB
  have h1 := newS_slot la lb
  have h2 := newS_ser ba bb
  unfold nextS
  generalize newS la lb = R at *
  obtain ⟨W, sl, sr, E⟩ := R
  dsimp only at *
  by_cases hE : E = 0
  · subst hE
    rw [if_pos rfl]
    obtain ⟨d, hd⟩ : ∃ d, (sr + 1) % 4294967296 = d := ⟨_, rfl⟩
    obtain ⟨t, ht⟩ : ∃ t, 1 - sl = t := ⟨_, rfl⟩
    obtain ⟨q, hq⟩ : ∃ t, sr + 1 = t := ⟨_, rfl⟩
    have HD : Hid ((t : Int) = 1 - (sl : Int)) := hidI (by omega)
    have HT : Hid ((d : Int) = ((sr : Int) + 1) % 4294967296) := hidI (by omega)
    rw [hd, ht]
    clear hd ht hq
    go_enter Tryd.func39, Tryd.ntmps39
    go_wp2_with fail
    refine c.mono ?_
    rintro e w1 ⟨x0, c0, rfl, ho0, hg1⟩
    dsimp only
    go_wp2
    go_ret2
    exact ⟨by rw [HD.out, HT.out]; rfl, hg1⟩
  · rw [if_neg hE]
    have h0 : ¬ (E : Int) = 0 := by omega
    go_enter Tryd.func39, Tryd.ntmps39
    go_wp2_with fail
    refine c.mono ?_
    rintro e w1 ⟨x0, c0, rfl, ho0, hg1⟩
    dsimp only
    go_wp2
    go_ret2
    exact ⟨rfl, hg1⟩

/-- The writes of a Save in memory: none, or three. -/
def wsRow (sl : Nat) (x1 x2 : Value) : Array Value := #[.int .i64 (sl : Int), .bool true, .int .i64 0, .slice none 0 0, .int .i64 (sl : Int), .bool false, .int .i64 16, x1, .int .i64 (sl : Int), .bool false, .int .i64 0, x2]
structure SvOk (w w' : World) (g : Nat) (sl : Nat) (bd hd : List Nat) (a : Option Addr) (c : Nat) (a' : Option Addr) (c' : Nat) (B : Nat) : Prop where
  row : w'.heap[g]? = some (.cells (wsRow sl (.slice a' bd.length c') (.slice a hd.length c)) 43)
  base : w.heap.size ≤ B
  ohd : OwnB w.heap.size w' a c hd
  hdlt : ∀ x, (Value.slice a hd.length c).ownBlock = some x → x < B
  obd : OwnB B w' a' c' bd
  bdlt : ∀ x, (Value.slice a' bd.length c').ownBlock = some x → x < g
  glt : B ≤ g
set_option maxHeartbeats 1000000 in
theorem save_any (la lb : List Nat) (l : List Int) (u v x : Value) (w : World) (ba : isB la) (bb : isB lb) (hu : rdB w u la) (hv : rdB w v lb) (hx : rd w x l) (ma : la.length ≤ maxLen) (mb : lb.length ≤ maxLen) (ml : l.length ≤ 17592186044416) (hB : Beg w) :
    Calls Tryd.prog 20 #[u, v, x] w fun e w' => w.grownBy w' none ∧ ((lookE l ((nextS la lb).2 : Int) ≠ 0 ∧ e = .returned (.tuple #[.slice none 0 0, .int .i64 (lookE l ((nextS la lb).2 : Int) : Int)])) ∨
      lookE l ((nextS la lb).2 : Int) = 0 ∧ ∃ g a c a' c' B, e = .returned (.tuple #[.slice (some ⟨g, 0, none⟩) 3 3, .int .i64 0]) ∧ SvOk w w' g (nextS la lb).1 (bodyS l) (headS l (nextS la lb).2) a c a' c' B) := by
  have cN := next_any la lb u v w ba bb hu hv ma mb hB
  generalize nextS la lb = X at *
  obtain ⟨sl, sr⟩ := X
  dsimp only at *
  have cL := fun (W : World) (hg : w.grownBy W none) => lookAt_any l (sr : Int) x W (rd_grown hx hg) ml
  by_cases h : lookE l (sr : Int) = 0
  · have cP := fun (W : World) (hg : w.grownBy W none) => partsL_any l (sr : Int) x W (rd_grown hx hg) h (hB.grown hg)
    have HZ : Hid (lookE l (sr : Int) = 0) := h
    simp only [h, Int.toNat_natCast] at cL cP
    clear h
    have HBl : Hid (0 < (bodyS l).length) := hidI (by rw [bodyS_len]; omega)
    generalize headS l sr = HD at *
    generalize bodyS l = BD at *
    go_enter Tryd.func20, Tryd.ntmps20
    go_wp2_with fail
    refine cN.mono ?_
    rintro e w1 ⟨rfl, hg1⟩
    go_wp2_with fail
    refine (cL _ hg1).mono ?_
    rintro e w2 ⟨rfl, hg2⟩
    have hg02 := grown_join hg1 hg2 (.inl rfl)
    go_wp2_with fail
    refine (cP _ hg02).mono ?_
    rintro e w3 ⟨a, c, a', c', rfl, ho, ⟨B, hB1, hlt, ho'⟩, hg3⟩
    have hg03 := grown_join hg02 hg3 (.inl rfl)
    have hb' : ∀ y, (Value.slice a' BD.length c').ownBlock = some y → B ≤ y ∧ y < w3.heap.size := World.ownsRow.lt ho'
    go_wp2
    go_ret2
    have hga := gr_alloc (World.grownBy.refl w3 none) (.cells #[.int .i64 (sl : Int), .bool true, .int .i64 0, .slice none 0 0, .int .i64 (sl : Int), .bool false, .int .i64 16, .slice a' BD.length c', .int .i64 (sl : Int), .bool false, .int .i64 0, .slice a HD.length c] 43)
    have hBg : B ≤ w3.heap.size := by
      obtain ⟨_, ⟨_, h0⟩ | ⟨g', cap', cur, e, h1, h2, _⟩⟩ := id ho'
      · have := HBl.out; omega
      · have := at_lt h2; omega
    have s1 := hg02.size
    exact ⟨gr_alloc hg03 _, .inr ⟨HZ.out, w3.heap.size, a, c, a', c', B, rfl, ⟨heap_alloc_new _ _, by omega, own_low (own_keep ho hga) s1, hlt, own_keep ho' hga, fun y hy => (hb' y hy).2, hBg⟩⟩⟩
  · have h0 : ¬ ((lookE l (sr : Int) : Nat) : Int) = 0 := by omega
    have H : Hid (lookE l (sr : Int) ≠ 0) := h
    clear h
    generalize lookE l (sr : Int) = E at *
    go_enter Tryd.func20, Tryd.ntmps20
    go_wp2_with fail
    refine cN.mono ?_
    rintro e w1 ⟨rfl, hg1⟩
    go_wp2_with fail
    refine (cL _ hg1).mono ?_
    rintro e w2 ⟨rfl, hg2⟩
    go_wp2
    go_ret2
    exact ⟨grown_join hg1 hg2 (.inl rfl), .inl ⟨H.out, rfl⟩⟩

structure RfOk (w w' : World) (g : Nat) (sl : Nat) (bd hd : List Nat) (bk d : Nat) : Prop where
  row : w'.heap[g]? = some (.cells (wsRow sl (.slice (some ⟨bk, 16, none⟩) bd.length (d - 16)) (.slice (some ⟨bk, 0, none⟩) 16 d)) 43)
  own : OwnB w.heap.size w' (some ⟨bk, 0, none⟩) d (hd ++ bd)
  base : w.heap.size ≤ bk
  lt : bk < g
def RfP (w w' : World) (e : Ending) (LE sl : Nat) (BD HD : List Nat) : Prop := w.grownBy w' none ∧ ((LE ≠ 0 ∧ e = .returned (.tuple #[.slice none 0 0, .int .i64 (LE : Int)])) ∨ LE = 0 ∧ ∃ g bk d, e = .returned (.tuple #[.slice (some ⟨g, 0, none⟩) 3 3, .int .i64 0]) ∧ RfOk w w' g sl BD HD bk d)
set_option maxHeartbeats 1000000 in
theorem refSave_any (la lb : List Nat) (l : List Int) (u v x : Value) (w : World) (ba : isB la) (bb : isB lb) (hu : rdB w u la) (hv : rdB w v lb) (hx : rd w x l) (ma : la.length ≤ maxLen) (mb : lb.length ≤ maxLen) :
    Calls Tryd.prog 19 #[u, v, x] w fun e w' => RfP w w' e (lookE l ((nextS la lb).2 : Int)) (nextS la lb).1 (bodyS l) (headS l (nextS la lb).2) := by
  have cN := refNewest_any la lb u v w ba bb hu hv ma mb
  have h1 := newS_slot la lb
  have h2 := newS_ser ba bb
  obtain ⟨X, hX⟩ : ∃ X, nextS la lb = X := ⟨_, rfl⟩
  rw [hX]
  unfold nextS at hX
  generalize newS la lb = R at *
  obtain ⟨W, sl, sr, E⟩ := R
  obtain ⟨t, d⟩ := X
  dsimp only at *
  have cR := fun (W : World) (hg : w.grownBy W none) => refRecord_any l (d : Int) x W (rd_grown hx hg)
  have HREC : Hid (lookE l (d : Int) = 0 → recS l (d : Int) = headS l d ++ bodyS l) := hidI (fun h => by unfold recS; rw [if_pos h]; rfl)
  have HHl : Hid ((headS l d).length = 16) := headS_len l d
  have HBl : Hid ((bodyS l).length = l.length * 4 + 4) := bodyS_len l
  have HLl : Hid (lookE l (d : Int) = 0 → l.length ≤ 2000) := hidI (fun h => (look_ok h).1)
  generalize headS l d = HD at *
  generalize bodyS l = BD at *
  generalize recS l (d : Int) = RC at *
  generalize lookE l (d : Int) = LE at *
  have hcase : (E = 0 ∧ (t : Int) = 1 - (sl : Int) ∧ (d : Int) = ((sr : Int) + 1) % 4294967296) ∨ (E ≠ 0 ∧ t = 0 ∧ d = 1) := by
    by_cases hE : E = 0
    · rw [if_pos hE] at hX
      injection hX with hX1 hX2
      left
      exact ⟨hE, by omega, by omega⟩
    · rw [if_neg hE] at hX
      injection hX with hX1 hX2
      right
      exact ⟨hE, by omega, by omega⟩
  clear hX
  have hcase2 : ∃ dI tI : Int, (d : Int) = dI ∧ (t : Int) = tI ∧ ((E = 0 ∧ tI = 1 - (sl : Int) ∧ dI = ((sr : Int) + 1) % 4294967296) ∨ (E ≠ 0 ∧ tI = 0 ∧ dI = 1)) := by
    rcases hcase with ⟨h1, h2, h3⟩ | ⟨h1, rfl, rfl⟩
    · exact ⟨_, _, rfl, rfl, .inl ⟨h1, h2, h3⟩⟩
    · exact ⟨_, _, rfl, rfl, .inr ⟨h1, rfl, rfl⟩⟩
  obtain ⟨dI, tI, hdI, htI, hc⟩ := hcase2
  clear hcase
  rw [hdI] at cR
  have HT : Hid ((t : Int) = tI) := htI
  clear hdI htI
  have tail : ∀ (w1 : World), w.grownBy w1 none → Calls Tryd.prog 9 #[x, .int .i64 dI] w1 (fun e w' => RecP w1 w' e RC LE) := fun w1 hg => cR w1 hg
  rcases hc with ⟨rfl, rfl, rfl⟩ | ⟨hE, rfl, rfl⟩
  all_goals (
    go_enter Tryd.func19, Tryd.ntmps19
    try (have hE0 : ¬ (E : Int) = 0 := by omega)
    go_wp2_with fail
    refine cN.mono ?_
    rintro e w1 ⟨x0, c0, rfl, ho0, hg1⟩
    dsimp only
    go_wp2_with fail
    refine (tail _ hg1).mono ?_
    rintro e w2 ⟨b, dd, rfl, ho, hg2⟩
    have hg02 := grown_join hg1 hg2 (.inl rfl)
    clear tail cR cN
    by_cases hL : LE = 0
    · subst hL
      have hRC := HREC.out rfl
      have HRC : Hid (RC = HD ++ BD) := hRC
      have hlen : RC.length = 16 + BD.length := by rw [hRC, List.length_append, HHl.out]
      have h2000 := HLl.out rfl
      obtain ⟨_, ⟨_, h0⟩ | ⟨bk, dd', cur, e, hbb, hcc, hn, _⟩⟩ := id ho
      · omega
      injection e with e1 e2 e3
      subst e1 e3
      have hlt := at_lt hcc
      have HOW : Hid (OwnB w1.heap.size w2 (some ⟨bk, 0, none⟩) dd RC) := ho
      have hs1 := hg1.size
      obtain ⟨M, hM⟩ : ∃ M, BD.length = M := ⟨_, rfl⟩
      have HM : Hid (BD.length = M) := hM
      rw [hM] at hlen
      have hMle : M ≤ 8004 := by have := HBl.out; omega
      have HN2 : Hid (w.heap.size ≤ bk ∧ bk < w2.heap.size ∧ 16 + M ≤ dd) := hidI ⟨by omega, hlt, by omega⟩
      rw [hlen]
      have i1 : (16 : Int) ≤ ((16 + M : Nat) : Int) := by omega
      have i2 : ((16 + M : Nat) : Int) ≤ (dd : Int) := by omega
      have i3 : ¬ dd = 16 := by have := HBl.out; omega
      have i4 : (16 : Int) ≤ (dd : Int) := by omega
      have i5 : (16 : Int) + (M : Int) ≤ (dd : Int) := by omega
      clear ho hcc hn hRC hlen hlt hbb hM h1 h2
      go_wp2
      go_region
      go_wp2
      go_ret2
      refine ⟨gr_drew (gr_alloc hg02 _), .inr ⟨rfl, w2.heap.size, bk, dd, rfl, ⟨?_, ?_, HN2.out.1, HN2.out.2.1⟩⟩⟩
      · rw [hp_drew, HM.out]
        unfold wsRow
        rw [HT.out]
        exact heap_alloc_new _ _
      · have hq := HOW.out
        rw [HRC.out] at hq
        exact own_low (own_keep hq (gr_drew (gr_alloc (World.grownBy.refl _ _) _))) hs1
    · have h0 : ¬ (LE : Int) = 0 := by omega
      have H : Hid (LE ≠ 0) := hL
      clear hL
      go_wp2
      go_ret2
      exact ⟨hg02, .inl ⟨H.out, rfl⟩⟩)
end Go.Proofs.YtlbipcecdcmgdaaDoor
