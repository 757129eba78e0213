/- The law of Save, whole. -/
import Derived.Test.YtlbipcecdcmgdaaDoorLv
namespace Go.Proofs.YtlbipcecdcmgdaaDoor
open Go.RowKit
attribute [local go_sem ↓] Go.wp_at_zero Go.wp_at_succ
set_option linter.unusedVariables false
set_option linter.unusedSimpArgs false

theorem blk_ne {w w' : World} {k : Nat} {o : Obj} {r : Option Nat} (hg : w.grownBy w' r) (h : w.heap[k]? = some o) (hne : r ≠ some k) : w'.heap[k]? = some o := (hg.block k (at_lt h) (fun e => hne e.symm)).trans h
theorem RfOk.step {w w' W : World} {g sl : Nat} {bd hd : List Nat} {bk d : Nat} {r : Option Nat} (h : RfOk w w' g sl bd hd bk d) (hg : w'.grownBy W r) (h1 : r ≠ some g) (h2 : r ≠ some bk) : RfOk w W g sl bd hd bk d :=
  ⟨blk_ne hg h.row h1, own_ne h.own hg (fun x hx e => h2 (by rw [e]; simpa [Value.ownBlock] using hx.symm)), h.base, h.lt⟩
theorem SvOk.step {w w' W : World} {g sl : Nat} {bd hd : List Nat} {a : Option Addr} {c : Nat} {a' : Option Addr} {c' B : Nat} {r : Option Nat} (h : SvOk w w' g sl bd hd a c a' c' B) (hg : w'.grownBy W r) (hr : ∀ x, r = some x → x < w.heap.size ∨ g < x) : SvOk w W g sl bd hd a c a' c' B := by
  refine ⟨blk_ne hg h.row (fun e => ?_), h.base, own_ne h.ohd hg (fun x hx e => ?_), h.hdlt, own_ne h.obd hg (fun x hx e => ?_), h.bdlt, h.glt⟩
  · have := hr g e; have := h.base; have := h.glt; omega
  · have h1 := hr x e; have h2 := World.ownsRow.lt h.ohd x hx; have h3 := h.hdlt x hx; have := h.glt; omega
  · have h1 := hr x e; have h2 := World.ownsRow.lt h.obd x hx; have h3 := h.bdlt x hx; have := h.base; omega
theorem RfOk.ws {w w' : World} {g sl : Nat} {bd hd : List Nat} {bk d : Nat} (h : RfOk w w' g sl bd hd bk d) (hh : hd.length = 16) : WsAt w' g sl bd hd (.slice (some ⟨bk, 16, none⟩) bd.length (d - 16)) (.slice (some ⟨bk, 0, none⟩) 16 d) := by
  have hr := h.own.rd
  have hcap : (hd ++ bd).length ≤ d := by
    obtain ⟨a, c, e, hc, _⟩ := hr
    injection e with e1 e2 e3
    omega
  rw [List.length_append] at hcap
  refine ⟨h.row, ?_, ?_⟩
  · have := rdB_drop hr 16 bd.length (d - 16) (by rw [List.length_append]; omega) (by omega)
    rw [Nat.zero_add, ← hh, List.drop_left] at this
    rw [← hh]
    exact this
  · have := rdB_take hr 16 (by rw [List.length_append]; omega)
    rw [← hh, List.take_left, hh] at this
    exact this
theorem SvOk.ws {w w' : World} {g sl : Nat} {bd hd : List Nat} {a : Option Addr} {c : Nat} {a' : Option Addr} {c' B : Nat} (h : SvOk w w' g sl bd hd a c a' c' B) : WsAt w' g sl bd hd (.slice a' bd.length c') (.slice a hd.length c) := ⟨h.row, h.obd.rd, h.ohd.rd⟩
/-- What Save answers, under one name. -/
def SvP (w w' : World) (e : Ending) (LE sl : Nat) (BD HD : List Nat) : Prop := w.grownBy w' none ∧ ((LE ≠ 0 ∧ e = .returned (.tuple #[.slice none 0 0, .int .i64 (LE : Int)])) ∨ LE = 0 ∧ ∃ g a c a' c' B, e = .returned (.tuple #[.slice (some ⟨g, 0, none⟩) 3 3, .int .i64 0]) ∧ SvOk w w' g sl BD HD a c a' c' B)

set_option maxRecDepth 10000 in
set_option maxHeartbeats 4000000 in
theorem saveLaw_any (la lb : List Nat) (l : List Int) (u v x : Value) (w : World) (ba : isB la) (bb : isB lb) (hu : rdB w u la) (hv : rdB w v lb) (hx : rd w x l) (ma : la.length ≤ 140737488351232) (mb : lb.length ≤ 140737488351232) (ml : l.length ≤ 17592186043904) (hB : Beg w) :
    Calls Tryd.prog 6 #[u, v, x] w fun e w' => e = .returned (.bool true) ∧ w.grownBy w' none := by
  have ma' : la.length ≤ maxLen := by unfold maxLen; omega
  have mb' : lb.length ≤ maxLen := by unfold maxLen; omega
  obtain ⟨a, cap, rfl, _, _⟩ := id hu
  obtain ⟨b, cap', rfl, _, _⟩ := id hv
  obtain ⟨z, cap2, rfl, _⟩ := id hx
  have cS := refSave_any la lb l _ _ _ w ba bb hu hv hx ma' mb'
  have cR : ∀ (W : World) (x y z : Value), rdB W x la → rdB W y lb → rd W z l → Beg W → Calls Tryd.prog 20 #[x, y, z] W fun e w' => SvP W w' e (lookE l ((nextS la lb).2 : Int)) (nextS la lb).1 (bodyS l) (headS l (nextS la lb).2) := fun W x y z h1 h2 h3 hB => save_any la lb l x y z W ba bb h1 h2 h3 ma' mb' (by omega) hB
  have HHD : Hid ((headS l (nextS la lb).2).length = 16) := headS_len l _
  have HBD : Hid (lookE l ((nextS la lb).2 : Int) = 0 → (bodyS l).length ≤ 10000) := hidI (fun h => by rw [bodyS_len]; have := (look_ok h).1; omega)
  generalize headS l (nextS la lb).2 = HD at *
  generalize bodyS l = BD at *
  generalize lookE l ((nextS la lb).2 : Int) = LE at *
  generalize (nextS la lb).1 = sl at *
  go_enter Tryd.func6, Tryd.ntmps6
  go_wp2_with fail
  refine cS.mono ?_
  rintro e w1 ⟨hg1, hw1⟩
  obtain ⟨oa, oc, w2, hrun, hown, hg2⟩ := copyB (rdB_grown hu hg1) ma
  have hg02 := grown_join hg1 hg2 (.inl rfl)
  obtain ⟨ob, od, w3, hrun', hown', hg3⟩ := copyB (rdB_grown hv hg02) mb
  have hg03 := grown_join hg02 hg3 (.inl rfl)
  obtain ⟨oz, oe, w4, hrun2, hown2, hg4⟩ := copyL (rd_grown hx hg03) ml
  have hg04 := grown_join hg03 hg4 (.inl rfl)
  have hg24 := grown_join hg3 hg4 (.inl rfl)
  have hg14 := grown_join hg2 hg24 (.inl rfl)
  have HRUN : Hid (_ = _) := hrun
  have HRUN' : Hid (_ = _) := hrun'
  have HRUN2 : Hid (_ = _) := hrun2
  have cV := cR w4 _ _ _ (hown.kept hg24).rd (hown'.kept hg4).rd hown2.rd (hB.grown hg04)
  have cW := fun (W : World) (hg : w4.grownBy W none) => cR W _ _ _ ((hown.kept hg24).kept hg).rd ((hown'.kept hg4).kept hg).rd (hown2.kept hg).rd ((hB.grown hg04).grown hg)
  have hbX : ∀ x, (Value.slice oa la.length oc).ownBlock = some x → w1.heap.size ≤ x ∧ x < w2.heap.size := World.ownsRow.lt hown
  have hbY : ∀ x, (Value.slice ob lb.length od).ownBlock = some x → w2.heap.size ≤ x ∧ x < w3.heap.size := World.ownsRow.lt hown'
  have s01 := hg1.size
  have s12 := hg2.size
  have s23 := hg3.size
  have s34 := hg4.size
  clear hrun hrun' hrun2 cR cS
  rcases hw1 with ⟨hL, rfl⟩ | ⟨hL, g0, bk, d, rfl, hR0⟩
  · have h0 : ¬ (LE : Int) = 0 := by omega
    go_wp2_with (first | (at_builtin; refine hidG ?_))
    refine hidI ?_
    refine wpList_append_run rfl _ _ 23 rfl _ _ _ w2 rfl rfl HRUN.out ?_
    go_wp2_with (first | (at_builtin; refine hidG ?_))
    refine hidI ?_
    refine wpList_append_run rfl _ _ 23 rfl _ _ _ w3 rfl rfl HRUN'.out ?_
    go_wp2_with (first | (at_builtin; refine hidG ?_))
    refine hidI ?_
    refine wpList_append_run rfl _ _ 22 rfl _ _ _ w4 rfl rfl HRUN2.out ?_
    go_wp2_with fail
    refine cV.mono ?_
    rintro e w5 ⟨hg5, ⟨_, rfl⟩ | ⟨hbad, _⟩⟩
    · go_wp2_with fail
      refine (cW _ hg5).mono ?_
      rintro e w6 ⟨hg6, ⟨_, rfl⟩ | ⟨hbad, _⟩⟩
      · have hg46 := grown_join hg5 hg6 (.inl rfl)
        go_wp2_with fail
        refine (sameWrites_nil _).mono ?_
        rintro e w7 ⟨rfl, hg7⟩
        go_wp2_with fail
        refine (sameWrites_nil _).mono ?_
        rintro e w8 ⟨rfl, hg8⟩
        have hg48 := grown_join (grown_join hg46 hg7 (.inl rfl)) hg8 (.inl rfl)
        have hg08 := grown_join hg04 hg48 (.inl rfl)
        go_wp2_with fail
        refine (sameBytes_yes _ _ la _ ((hown.kept hg24).kept hg48).rd (rdB_grown hu hg08)).mono ?_
        rintro e w9 ⟨rfl, rfl⟩
        go_wp2_with fail
        refine (sameBytes_yes _ _ lb _ ((hown'.kept hg4).kept hg48).rd (rdB_grown hv hg08)).mono ?_
        rintro e w9 ⟨rfl, rfl⟩
        go_wp2_with fail
        refine (sameInts_yes _ _ l _ (hown2.kept hg48).rd (rd_grown hx hg08) (by omega)).mono ?_
        rintro e w9 ⟨rfl, hg9⟩
        have hg49 := grown_join hg48 hg9 (.inl rfl)
        have hg09 := grown_join hg04 hg49 (.inl rfl)
        have oX := (hown.kept hg24).kept hg49
        have oY := (hown'.kept hg4).kept hg49
        go_wp2_with fail
        refine (spoil_any _ _ _ _ (by simpa using ma) oX.u).mono ?_
        rintro e w10 ⟨rfl, hg10⟩
        have oY2 : OwnB _ w10 ob od lb := own_ne oY hg10 (fun x hx e => by have := hbX x e; have := hbY x hx; omega)
        have hg010 := grown_join hg09 hg10 (.inr fun x hx => by have := hbX x hx; omega)
        go_wp2_with fail
        refine (spoil_any _ _ _ _ (by simpa using mb) oY2.u).mono ?_
        rintro e w11 ⟨rfl, hg11⟩
        have hg011 := grown_join hg010 hg11 (.inr fun x hx => by have := hbY x hx; omega)
        go_wp2_with fail
        refine wp_loop_rounds 1 ?_
        rw [rounds_succ]
        go_wp2_with fail
        refine (sameWrites_nil _).mono ?_
        rintro e w12 ⟨rfl, hg12⟩
        go_wp2
        go_ret
        exact ⟨rfl, grown_join hg011 hg12 (.inl rfl)⟩
      · exact absurd hbad hL
    · exact absurd hbad hL
  · subst hL
    have hBD := HBD.out rfl
    have HR1 := hidI (hR0.step hg14 (by simp) (by simp))
    have hg0lt : g0 < w1.heap.size := at_lt hR0.row
    have hbk0 := hR0.lt
    clear hR0
    go_wp2_with (first | (at_builtin; refine hidG ?_))
    refine hidI ?_
    refine wpList_append_run rfl _ _ 23 rfl _ _ _ w2 rfl rfl HRUN.out ?_
    go_wp2_with (first | (at_builtin; refine hidG ?_))
    refine hidI ?_
    refine wpList_append_run rfl _ _ 23 rfl _ _ _ w3 rfl rfl HRUN'.out ?_
    go_wp2_with (first | (at_builtin; refine hidG ?_))
    refine hidI ?_
    refine wpList_append_run rfl _ _ 22 rfl _ _ _ w4 rfl rfl HRUN2.out ?_
    go_wp2_with fail
    refine cV.mono ?_
    rintro e w5 ⟨hg5, ⟨hbad, _⟩ | ⟨_, g5, va, vc, va', vc', B5, rfl, hV5⟩⟩
    · exact absurd rfl hbad
    have hg5lt : g5 < w5.heap.size := at_lt hV5.row
    have s45 := hg5.size
    go_wp2_with fail
    refine (cW _ hg5).mono ?_
    rintro e w6 ⟨hg6, ⟨hbad, _⟩ | ⟨_, g6, ya, yc, ya', yc', B6, rfl, hW6⟩⟩
    · exact absurd rfl hbad
    have hg46 := grown_join hg5 hg6 (.inl rfl)
    have V6 := hV5.step hg6 (by simp)
    have R6 := HR1.out.step hg46 (by simp) (by simp)
    go_wp2_with fail
    refine (sameWrites_yes _ _ sl BD HD _ _ _ _ _ V6.ws (R6.ws HHD.out)).mono ?_
    rintro e w7 ⟨rfl, hg7⟩
    have W7 := hW6.step hg7 (by simp)
    have R7 := R6.step hg7 (by simp) (by simp)
    go_wp2_with fail
    refine (sameWrites_yes _ _ sl BD HD _ _ _ _ _ W7.ws (R7.ws HHD.out)).mono ?_
    rintro e w8 ⟨rfl, hg8⟩
    have hg48 := grown_join (grown_join hg46 hg7 (.inl rfl)) hg8 (.inl rfl)
    have hg08 := grown_join hg04 hg48 (.inl rfl)
    go_wp2_with fail
    refine (sameBytes_yes _ _ la _ ((hown.kept hg24).kept hg48).rd (rdB_grown hu hg08)).mono ?_
    rintro e w9 ⟨rfl, rfl⟩
    go_wp2_with fail
    refine (sameBytes_yes _ _ lb _ ((hown'.kept hg4).kept hg48).rd (rdB_grown hv hg08)).mono ?_
    rintro e w9 ⟨rfl, rfl⟩
    go_wp2_with fail
    refine (sameInts_yes _ _ l _ (hown2.kept hg48).rd (rd_grown hx hg08) (by omega)).mono ?_
    rintro e w9 ⟨rfl, hg9⟩
    have hg49 := grown_join hg48 hg9 (.inl rfl)
    have hg09 := grown_join hg04 hg49 (.inl rfl)
    have oX := (hown.kept hg24).kept hg49
    have oY := (hown'.kept hg4).kept hg49
    have hg89 := grown_join hg8 hg9 (.inl rfl)
    have hg79 := grown_join hg7 hg89 (.inl rfl)
    have V9 := V6.step hg79 (by simp)
    have W9 := W7.step hg89 (by simp)
    have R9 := R7.step hg89 (by simp) (by simp)
    clear V6 W7 R6 R7 hV5 hW6 HR1 cV cW hown hown' hown2 HRUN HRUN' HRUN2 hg7 hg8 hg9 hg6 hg46 hg48 hg08 hg89 hg79 hg24 hg14 hg03 hg02
    go_wp2_with fail
    refine (spoil_any _ _ _ _ (by simpa using ma) oX.u).mono ?_
    rintro e w10 ⟨rfl, hg10⟩
    have oY2 : OwnB _ w10 ob od lb := own_ne oY hg10 (fun x hx e => by have := hbX x e; have := hbY x hx; omega)
    have hg010 := grown_join hg09 hg10 (.inr fun x hx => by have := hbX x hx; omega)
    have V10 := V9.step hg10 (fun x hx => by have := hbX x hx; omega)
    have W10 := W9.step hg10 (fun x hx => by have := hbX x hx; omega)
    have R10 := R9.step hg10 (fun e => by have := hbX _ e; omega) (fun e => by have := hbX _ e; omega)
    go_wp2_with fail
    refine (spoil_any _ _ _ _ (by simpa using mb) oY2.u).mono ?_
    rintro e w11 ⟨rfl, hg11⟩
    have hg011 := grown_join hg010 hg11 (.inr fun x hx => by have := hbY x hx; omega)
    have V11 := V10.step hg11 (fun x hx => by have := hbY x hx; omega)
    have W11 := W10.step hg11 (fun x hx => by have := hbY x hx; omega)
    have R11 := R10.step hg11 (fun e => by have := hbY _ e; omega) (fun e => by have := hbY _ e; omega)
    clear V9 W9 R9 V10 W10 R10 oX oY oY2 hg10 hg11 hg09 hg010
    have q0 : w11.cell? ⟨g5, 3, none⟩ = some (.slice none 0 0) := at_cell V11.row 3
    go_wp2_with fail
    refine wp_loop_rounds 4 ?_
    rw [rounds_succ]
    go_wp2_with fail
    refine (spoil_nil _).mono ?_
    rintro e w12 ⟨rfl, hg12⟩
    have hg012 := grown_join hg011 hg12 (.inl rfl)
    have V12 := V11.step hg12 (by simp)
    have W12 := W11.step hg12 (by simp)
    have R12 := R11.step hg12 (by simp) (by simp)
    have q1 : w12.cell? ⟨g5, 7, none⟩ = some (.slice va' BD.length vc') := at_cell V12.row 7
    clear q0 V11 W11 R11 hg12 hg011
    go_wp2_with fail
    rw [rounds_succ]
    go_wp2_with fail
    refine (spoil_any _ _ _ _ (by simp; omega) V12.obd.u).mono ?_
    rintro e w13 ⟨rfl, hg13⟩
    have hbB : ∀ x, (Value.slice va' BD.length vc').ownBlock = some x → B5 ≤ x ∧ x < g5 := fun x hx => ⟨(World.ownsRow.lt V12.obd x hx).1, V12.bdlt x hx⟩
    have hB5 := V12.base
    have hg013 := grown_join hg012 hg13 (.inr fun x hx => by have := hbB x hx; omega)
    have row13 := blk_ne hg13 V12.row (fun e => by have := hbB _ e; omega)
    have hd13 : OwnB w4.heap.size w13 va vc HD := own_ne V12.ohd hg13 (fun x hx e => by have := hbB x e; have := V12.hdlt x hx; omega)
    have hbH : ∀ x, (Value.slice va HD.length vc).ownBlock = some x → w4.heap.size ≤ x ∧ x < B5 := fun x hx => ⟨(World.ownsRow.lt V12.ohd x hx).1, V12.hdlt x hx⟩
    have hB6 := V12.glt
    have W13 := W12.step hg13 (fun x hx => by have := hbB x hx; omega)
    have R13 := R12.step hg13 (fun e => by have := hbB _ e; omega) (fun e => by have := hbB _ e; omega)
    have q2 : w13.cell? ⟨g5, 11, none⟩ = some (.slice va HD.length vc) := at_cell row13 11
    clear q1 V12 W12 R12 hg13 hg012
    go_wp2_with fail
    rw [rounds_succ]
    go_wp2_with fail
    refine (spoil_any _ _ _ _ (by have := HHD.out; simp; omega) hd13.u).mono ?_
    rintro e w14 ⟨rfl, hg14'⟩
    have hg014 := grown_join hg013 hg14' (.inr fun x hx => by have := hbH x hx; omega)
    have W14 := W13.step hg14' (fun x hx => by have := hbH x hx; omega)
    have R14 := R13.step hg14' (fun e => by have := hbH _ e; omega) (fun e => by have := hbH _ e; omega)
    clear q2 W13 R13 hg14' hg013 hd13 row13
    go_wp2_with fail
    rw [rounds_succ]
    go_wp2_with fail
    refine (sameWrites_yes _ _ sl BD HD _ _ _ _ _ W14.ws (R14.ws HHD.out)).mono ?_
    rintro e w15 ⟨rfl, hg15⟩
    go_wp2
    go_ret
    exact ⟨rfl, grown_join hg014 hg15 (.inl rfl)⟩
end Go.Proofs.YtlbipcecdcmgdaaDoor
