/- The law of Newest. -/
import Derived.Test.YtlbipcecdcmgdaaDoorNw
namespace Go.Proofs.YtlbipcecdcmgdaaDoor
open Go.RowKit
attribute [local go_sem ↓] Go.wp_at_zero Go.wp_at_succ
set_option linter.unusedVariables false
set_option linter.unusedSimpArgs false

theorem hidG {p : Prop} (h : Hid p) : p := h
theorem hidI {p : Prop} (h : p) : Hid p := h
theorem newS_len (la lb : List Nat) : (newS la lb).ws.length ≤ 2000 := by
  have h1 := read_len la
  have h2 := read_len lb
  unfold newS
  split
  · simp
  · split
    · exact h2
    · exact h1
set_option maxHeartbeats 1000000 in
theorem facedNewest_any (la lb : List Nat) (u v : Value) (w : World) (ba : isB la) (bb : isB lb) (hu : rdB w u la) (hv : rdB w v lb) (ma : la.length ≤ maxLen) (mb : lb.length ≤ maxLen) (hB : Beg w) :
    Calls Tryd.prog 18 #[u, v] w fun e w' => ReadP w w' e (newS la lb).ws (newS la lb).slot (newS la lb).e := by
  have c := newest_any la lb u v w ba bb hu hv ma mb hB
  generalize newS la lb = R at *
  go_enter Tryd.func18, Tryd.ntmps18
  go_wp2_with fail
  refine c.mono ?_
  rintro e w1 ⟨x0, c0, rfl, ho0, hg1⟩
  go_wp2
  go_ret3
  exact ⟨_, _, rfl, ho0, hg1⟩

set_option maxRecDepth 10000 in
set_option maxHeartbeats 2000000 in
theorem newestLaw_any (la lb : List Nat) (u v : Value) (w : World) (ba : isB la) (bb : isB lb) (hu : rdB w u la) (hv : rdB w v lb) (ma : la.length ≤ 140737488351232) (mb : lb.length ≤ 140737488351232) (hB : Beg w) :
    Calls Tryd.prog 5 #[u, v] w fun e w' => e = .returned (.bool true) ∧ w.grownBy w' none := by
  have ma' : la.length ≤ maxLen := by unfold maxLen; omega
  have mb' : lb.length ≤ maxLen := by unfold maxLen; omega
  obtain ⟨a, cap, rfl, _, _⟩ := id hu
  obtain ⟨b, cap', rfl, _, _⟩ := id hv
  have cS := refNewest_any la lb _ _ w ba bb hu hv ma' mb'
  have cR := fun (W : World) (x y : Value) (h1 : rdB W x la) (h2 : rdB W y lb) (hB : Beg W) => facedNewest_any la lb x y W ba bb h1 h2 ma' mb' hB
  have hlen := newS_len la lb
  generalize newS la lb = R at *
  obtain ⟨R, N, sr, E⟩ := R
  dsimp only at *
  go_enter Tryd.func5, Tryd.ntmps5
  go_wp2_with fail
  refine cS.mono ?_
  rintro e w1 ⟨a0, c0, rfl, ho0, hg1⟩
  dsimp only at ho0 ⊢
  obtain ⟨oa, oc, w2, hrun, hown, hg2⟩ := copyB (rdB_grown hu hg1) ma
  have hg02 := grown_join hg1 hg2 (.inl rfl)
  obtain ⟨ob, od, w3, hrun', hown', hg3⟩ := copyB (rdB_grown hv hg02) mb
  have hg03 := grown_join hg02 hg3 (.inl rfl)
  have HRUN : Hid (_ = _) := hrun
  have HRUN' : Hid (_ = _) := hrun'
  clear hrun hrun'
  go_wp2_with (first | (at_builtin; refine hidG ?_))
  refine hidI ?_
  refine wpList_append_run rfl _ _ 23 rfl _ _ _ w2 rfl rfl HRUN.out ?_
  go_wp2_with (first | (at_builtin; refine hidG ?_))
  refine hidI ?_
  refine wpList_append_run rfl _ _ 23 rfl _ _ _ w3 rfl rfl HRUN'.out ?_
  go_wp2_with fail
  refine (cR _ _ _ (hown.kept hg3).rd hown'.rd (hB.grown hg03)).mono ?_
  rintro e w4 ⟨a1, c1, rfl, ho1, hg4⟩
  have hg04 := grown_join hg03 hg4 (.inl rfl)
  have hg24 := grown_join hg3 hg4 (.inl rfl)
  go_wp2_with fail
  refine (cR _ _ _ (hown.kept hg24).rd (hown'.kept hg4).rd (hB.grown hg04)).mono ?_
  rintro e w5 ⟨a2, c2, rfl, ho2, hg5⟩
  have hg25 := grown_join hg24 hg5 (.inl rfl)
  have hg35 := grown_join hg4 hg5 (.inl rfl)
  go_wp2_with fail
  refine (sameInts_yes _ _ R _ (ho1.kept hg5).rd ((ho0.kept hg2).kept hg25).rd (by omega)).mono ?_
  rintro e w6 ⟨rfl, hg6⟩
  have hg26 := grown_join hg25 hg6 (.inl rfl)
  have hg36 := grown_join hg35 hg6 (.inl rfl)
  go_wp2_with fail
  refine (sameInts_yes _ _ R _ (ho2.kept hg6).rd ((ho0.kept hg2).kept hg26).rd (by omega)).mono ?_
  rintro e w7 ⟨rfl, hg7⟩
  have hg27 := grown_join hg26 hg7 (.inl rfl)
  have hg37 := grown_join hg36 hg7 (.inl rfl)
  have hg07 := grown_join hg02 hg27 (.inl rfl)
  go_wp2_with fail
  refine (sameBytes_yes _ _ la _ (hown.kept hg27).rd (rdB_grown hu hg07)).mono ?_
  rintro e w8 ⟨rfl, rfl⟩
  go_wp2_with fail
  refine (sameBytes_yes _ _ lb _ (hown'.kept hg37).rd (rdB_grown hv hg07)).mono ?_
  rintro e w8 ⟨rfl, rfl⟩
  have hA0 : ∀ x, (Value.slice a0 R.length c0).ownBlock = some x → w.heap.size ≤ x ∧ x < w1.heap.size := World.ownsRow.lt ho0
  have hA1 : ∀ x, (Value.slice a1 R.length c1).ownBlock = some x → w3.heap.size ≤ x ∧ x < w4.heap.size := World.ownsRow.lt ho1
  have hA2 : ∀ x, (Value.slice a2 R.length c2).ownBlock = some x → w4.heap.size ≤ x ∧ x < w5.heap.size := World.ownsRow.lt ho2
  have s01 := hg1.size
  have s12 := hg2.size
  have s23 := hg3.size
  have hg57 := grown_join hg6 hg7 (.inl rfl)
  have o0 := (ho0.kept hg2).kept hg27
  have o1 := (ho1.kept hg5).kept hg57
  have o2 := ho2.kept hg57
  clear hg1 hg2 hg3 hg4 hg5 hg6 hg24 hg25 hg03 hg02 ho0 ho1 ho2 cS cR
  go_wp2_with fail
  refine (over_any _ _ R _ _ (by omega) o1).mono ?_
  rintro e w8 ⟨rfl, hg8⟩
  have t0 : OwnL _ w8 a0 c0 R := own_ne o0 hg8 (fun x hx e => by have := hA1 x e; have := hA0 x hx; omega)
  have t2 : OwnL _ w8 a2 c2 R := own_ne o2 hg8 (fun x hx e => by have := hA1 x e; have := hA2 x hx; omega)
  have hg08 := grown_join hg07 hg8 (.inr fun x hx => by have := hA1 x hx; omega)
  go_wp2_with fail
  refine (sameInts_yes _ _ R _ t2.rd t0.rd (by omega)).mono ?_
  rintro e w9 ⟨rfl, hg9⟩
  go_wp2
  go_ret
  exact ⟨rfl, grown_join hg08 hg9 (.inl rfl)⟩
end Go.Proofs.YtlbipcecdcmgdaaDoor
