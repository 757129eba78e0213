/- The law of Take. -/
import Derived.Test.YtaiicehifailhaaP2
import Derived.Test.YtaiicehifailhaaU2
namespace Go.Proofs.Ytaiicehifailhaa
open Go.RowKit
attribute [local go_sem ↓] Go.wp_at_zero Go.wp_at_succ
set_option linter.unusedVariables false
set_option linter.unusedSimpArgs false

def EnvT (xb : Nat) (cv : Value) (l : List Nat) (W : World) : Prop := W.cell? ⟨xb, 0, none⟩ = some cv ∧ rdB W cv l
theorem EnvT.grown {xb : Nat} {cv : Value} {l : List Nat} (W W' : World) (h : EnvT xb cv l W) (hg : W.grownBy W' none) : EnvT xb cv l W' := ⟨hg.cell h.1 (by simp), rdB_grown h.2 hg⟩
set_option maxRecDepth 10000 in
set_option maxHeartbeats 1000000 in
theorem closT_any (L : Lk) (l : List Nat) (xb : Nat) (cv : Value) (w : World) (x y : Value) (hE : EnvT xb cv l w) (h : LkR w L x y) (hl1 : L.sa.length ≤ 17592186043904) (hl2 : L.wo.length ≤ 17592186043904) (hb : isB l) (hm : l.length ≤ maxLen) :
    Calls Try.prog 22 #[lkV L x y, .pointer (some ⟨xb, 0, none⟩)] w fun e w' => LkE w w' e (takeL L l) (takeE L l) := by
  have cS := fun (X : World) (hX : w.grownBy X none) => take_any L l x y cv X (h.grown hX) hl1 hl2 hb (rdB_grown hE.2 hX) hm
  generalize takeL L l = R at *
  generalize takeE L l = E at *
  dsimp only [lkV, lkA] at *
  obtain ⟨p, hp⟩ : ∃ p, w.heap.size = p := ⟨_, rfl⟩
  have hW1 : ((w.alloc (.cells #[.int .i64 L.st, .int .i64 L.wa, x, y, .int .i64 L.sq, .int .i64 L.ag, .bool L.fr] 40)).alloc (.cells #[.int .i64 0, .int .i64 0, .slice none 0 0, .slice none 0 0, .int .i64 0, .int .i64 0, .bool false] 40)).heap[p]? = some (.cells #[.int .i64 L.st, .int .i64 L.wa, x, y, .int .i64 L.sq, .int .i64 L.ag, .bool L.fr] 40) := by
    rw [hp_old (by simp; omega)]; exact hp_new hp.symm _
  have hW2 : ((w.alloc (.cells #[.int .i64 L.st, .int .i64 L.wa, x, y, .int .i64 L.sq, .int .i64 L.ag, .bool L.fr] 40)).alloc (.cells #[.int .i64 0, .int .i64 0, .slice none 0 0, .slice none 0 0, .int .i64 0, .int .i64 0, .bool false] 40)).heap[p + 1]? = some (.cells #[.int .i64 0, .int .i64 0, .slice none 0 0, .slice none 0 0, .int .i64 0, .int .i64 0, .bool false] 40) := hp_new (by simp; omega) _
  have hgW : w.grownBy ((w.alloc (.cells #[.int .i64 L.st, .int .i64 L.wa, x, y, .int .i64 L.sq, .int .i64 L.ag, .bool L.fr] 40)).alloc (.cells #[.int .i64 0, .int .i64 0, .slice none 0 0, .slice none 0 0, .int .i64 0, .int .i64 0, .bool false] 40)) none := gr_alloc (gr_alloc (World.grownBy.refl _ _) _) _
  go_enter Try.func22, Try.ntmps22
  go_upto_region 1 with fail
  have HP := hidI hp
  clear hp
  generalize (w.alloc (.cells #[.int .i64 L.st, .int .i64 L.wa, x, y, .int .i64 L.sq, .int .i64 L.ag, .bool L.fr] 40)).alloc (.cells #[.int .i64 0, .int .i64 0, .slice none 0 0, .slice none 0 0, .int .i64 0, .int .i64 0, .bool false] 40) = W at *
  obtain ⟨x1, _⟩ := EnvT.grown _ _ hE hgW
  have cS := cS W hgW
  obtain ⟨i0, i1, i2, i3, i4, i5, i6⟩ := at7 (hW1)
  have HW := hidI (And.intro hW2 hgW)
  clear hW2 hgW hW1 hE h
  go_wp2_with fail
  refine cS.mono ?_
  rintro e w1 ⟨V, rfl, a1, c1, a2, c2, rfl, o1, o2, e6, g1⟩
  obtain ⟨hW2, hgW⟩ := HW.out
  have hW1 := kept g1 hW2
  have hpW := at_lt hW2
  dsimp only [lkV, lkA] at *
  clear i0 i1 i2 i3 i4 i5 i6
  clear x1
  obtain ⟨j0, j1, j2, j3, j4, j5, j6⟩ := at7 (hW1)
  obtain ⟨f0, f1, f2, f3, f4, f5, f6⟩ := fz7 hW1
  have HH := hidI (And.intro hW1 (And.intro o1 (And.intro o2 (And.intro e6 (And.intro (grown_join hgW g1 (.inl rfl)) (And.intro hpW hgW.size))))))
  clear hW1 o1 o2 e6 g1 hpW cS hgW hW2
  go_wp2
  obtain ⟨hW1, o1, o2, e6, g1, hpW, hs⟩ := HH.out
  refine bodyPost_ret (results2 rfl _ _ (p + 1) R (.slice a1 R.sa.length c1) (.slice a2 R.wo.length c2) rfl (box7 hW1)) rfl ?_
  have hp := HP.out
  exact ⟨_, rfl, a1, c1, a2, c2, rfl, own_low (own_but o1 (gr7 (World.grownBy.refl _ _)) (by omega)) (by omega), own_low (own_but o2 (gr7 (World.grownBy.refl _ _)) (by omega)) (by omega), e6, gr7n g1 (by omega)⟩
theorem takeL_len (L : Lk) (l : List Nat) (h1 : L.sa.length ≤ 17592186043904) (h2 : L.wo.length ≤ 17592186043904) : (takeL L l).sa.length ≤ 17592186043904 ∧ (takeL L l).wo.length ≤ 17592186043904 := by
  have h3 : (openW l).length ≤ 60 := by
    unfold openW
    split
    · rename_i h
      rw [wordsOf_len]
      exact (open_yes h).2.2.2.2
    · simp
  unfold takeL
  split
  · split
    · exact ⟨h1, by show (openW l).length ≤ _; omega⟩
    · exact ⟨h1, h2⟩
  · exact ⟨by simp [zeroL], by simp [zeroL]⟩
set_option maxRecDepth 10000 in
set_option maxHeartbeats 1000000 in
theorem takeLaw_any (L : Lk) (s t : Value) (l : List Nat) (v : Value) (w : World) (h : LkR w L s t) (hl1 : L.sa.length ≤ 17592186043904) (hl2 : L.wo.length ≤ 17592186043904) (hb : isB l) (hv : rdB w v l) (hl : l.length ≤ 140737488351232) : Calls Try.prog 6 #[lkV L s t, v] w fun e w' => e = .returned (.bool true) ∧ w.grownBy w' none := by
  have hm : l.length ≤ maxLen := by unfold maxLen; omega
  have cR := fun (W : World) (hW : w.grownBy W none) => heard_any L l s t v W (h.grown hW) hl1 hl2 hb (rdB_grown hv hW) hm
  have hlen := takeL_len L l hl1 hl2
  have cL := fun (X : World) (xb : Nat) (cv s' t' : Value) (hE : EnvT xb cv l X) (k : LkR X L s t) (k' : LkR X (takeL L l) s' t') => linkAs_22 L (takeL L l) (takeE L l) s t s' t' xb X k k' hl1 hl2 hlen.1 hlen.2 (EnvT xb cv l) hE EnvT.grown (fun W x y hE k => closT_any L l xb cv W x y hE k hl1 hl2 hb hm)
  generalize takeL L l = R at *
  generalize takeE L l = E at *
  obtain ⟨va, vc, rfl, _⟩ := id hv
  dsimp only [lkV, lkA] at *
  obtain ⟨p, hp⟩ : ∃ p, w.heap.size = p := ⟨_, rfl⟩
  have B1 : (w.alloc (.cells #[.int .i64 L.st, .int .i64 L.wa, s, t, .int .i64 L.sq, .int .i64 L.ag, .bool L.fr] 40)).heap[p]? = some (.cells #[.int .i64 L.st, .int .i64 L.wa, s, t, .int .i64 L.sq, .int .i64 L.ag, .bool L.fr] 40) := hp_new hp.symm _
  have hgW : w.grownBy (w.alloc (.cells #[.int .i64 L.st, .int .i64 L.wa, s, t, .int .i64 L.sq, .int .i64 L.ag, .bool L.fr] 40)) none := gr_alloc (World.grownBy.refl _ _) _
  go_enter Try.func6, Try.ntmps6
  go_upto_region 1 with fail
  clear hp
  generalize w.alloc (.cells #[.int .i64 L.st, .int .i64 L.wa, s, t, .int .i64 L.sq, .int .i64 L.ag, .bool L.fr] 40) = W at *
  obtain ⟨i0, i1, i2, i3, i4, i5, i6⟩ := at7 (B1)
  go_wp2_with fail
  refine (cR W hgW).mono ?_
  rintro e w1 ⟨V, rfl, a1, c1, a2, c2, rfl, o1, o2, e6, g1⟩
  dsimp only [lkV, lkA] at *
  clear i0 i1 i2 i3 i4 i5 i6
  obtain ⟨q, hq⟩ : ∃ q, w1.heap.size = q := ⟨_, rfl⟩
  have hgA : w1.grownBy (w1.alloc (.cells #[.int .i64 R.st, .int .i64 R.wa, (.slice a1 R.sa.length c1), (.slice a2 R.wo.length c2), .int .i64 R.sq, .int .i64 R.ag, .bool R.fr] 40)) none := gr_alloc (World.grownBy.refl _ _) _
  have B2 : (w1.alloc (.cells #[.int .i64 R.st, .int .i64 R.wa, (.slice a1 R.sa.length c1), (.slice a2 R.wo.length c2), .int .i64 R.sq, .int .i64 R.ag, .bool R.fr] 40)).heap[q]? = some (.cells #[.int .i64 R.st, .int .i64 R.wa, (.slice a1 R.sa.length c1), (.slice a2 R.wo.length c2), .int .i64 R.sq, .int .i64 R.ag, .bool R.fr] 40) := hp_new hq.symm _
  have gWA := grown_join g1 hgA (.inl rfl)
  have gwA := grown_join hgW gWA (.inl rfl)
  obtain ⟨oa, oc, w2, hrun, hown, g2⟩ := copyB (rdB_grown hv gwA) hl
  have HRUN := hidI hrun
  have gW2 := grown_join gWA g2 (.inl rfl)
  have gA2 := grown_join hgA g2 (.inl rfl)
  have gw2 := grown_join hgW gW2 (.inl rfl)
  obtain ⟨r, hr⟩ : ∃ r, w2.heap.size = r := ⟨_, rfl⟩
  have gC : w2.grownBy (w2.alloc (.cells #[.slice oa l.length oc] 23)) none := gr_alloc (World.grownBy.refl _ _) _
  have B3 : (w2.alloc (.cells #[.slice oa l.length oc] 23)).heap[r]? = some (.cells #[.slice oa l.length oc] 23) := hp_new hr.symm _
  have gWC := grown_join gW2 gC (.inl rfl)
  have gAC := grown_join gA2 gC (.inl rfl)
  have gwC := grown_join gw2 gC (.inl rfl)
  have c3 : (w2.alloc (.cells #[.slice oa l.length oc] 23)).cell? ⟨r, 0, none⟩ = some (.slice oa l.length oc) := at_cell B3 0
  have hown3 := OwnB.kept hown gC
  have B1 := kept gWC B1
  have B2 := kept (grown_join g2 gC (.inl rfl)) B2
  have cL := cL (w2.alloc (.cells #[.slice oa l.length oc] 23)) r (.slice oa l.length oc) (.slice a1 R.sa.length c1) (.slice a2 R.wo.length c2) ⟨c3, hown3.rd⟩ (h.grown gwC) ⟨(OwnL.kept o1 gAC).rd, (OwnL.kept o2 gAC).rd⟩
  obtain ⟨i0, i1, i2, i3, i4, i5, i6⟩ := at7 (B1)
  obtain ⟨j0, j1, j2, j3, j4, j5, j6⟩ := at7 (B2)
  have HG := hidI (And.intro gwC (And.intro hown3 (And.intro c3 hv)))
  clear B1 B2 B3 hgA gWA gwA hgW h o1 o2 g1 cR e6 hrun hown g2 gW2 gA2 gw2 gC gWC gAC gwC c3 hown3 hv
  go_wp2_with (first | (at_builtin; refine hidG ?_))
  refine hidI ?_
  refine wpList_append_run rfl _ _ 23 rfl _ _ _ w2 rfl rfl HRUN.out ?_
  go_wp2_with fail
  refine cL.mono ?_
  rintro e w3 ⟨rfl, g3⟩
  obtain ⟨gwC, hown3, c3, hv⟩ := HG.out
  have c4 := g3.cell c3 (by simp)
  have gw3 := grown_join gwC g3 (.inl rfl)
  have cB := sameBytes_yes _ _ l w3 (OwnB.kept hown3 g3).rd (rdB_grown hv gw3)
  clear i0 i1 i2 i3 i4 i5 i6 j0 j1 j2 j3 j4 j5 j6
  clear cL gwC hown3 c3 hv g3
  go_wp2_with fail
  refine cB.mono ?_
  rintro e w4 ⟨rfl, rfl⟩
  go_wp2
  go_ret
  exact ⟨rfl, gw3⟩
end Go.Proofs.Ytaiicehifailhaa
