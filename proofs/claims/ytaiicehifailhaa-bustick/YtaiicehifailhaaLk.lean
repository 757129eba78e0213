/- The law of Tick. -/
import Derived.Test.YtaiicehifailhaaP3
import Derived.Test.YtaiicehifailhaaT2
namespace Go.Proofs.Ytaiicehifailhaa
open Go.RowKit
attribute [local go_sem ↓] Go.wp_at_zero Go.wp_at_succ
set_option linter.unusedVariables false
set_option linter.unusedSimpArgs false

theorem tickL_len (L : Lk) (h1 : L.sa.length ≤ 17592186043904) (h2 : L.wo.length ≤ 17592186043904) : (tickL L).sa.length ≤ 17592186043904 ∧ (tickL L).wo.length ≤ 17592186043904 := by
  unfold tickL
  split
  · split
    · split
      · exact ⟨h1, h1⟩
      · exact ⟨h1, h2⟩
    · exact ⟨h1, h2⟩
  · exact ⟨by simp [zeroL], by simp [zeroL]⟩
set_option maxRecDepth 10000 in
set_option maxHeartbeats 1000000 in
theorem tickLaw_any (L : Lk) (s t : Value) (w : World) (h : LkR w L s t) (hl1 : L.sa.length ≤ 17592186043904) (hl2 : L.wo.length ≤ 17592186043904) : Calls Try.prog 7 #[lkV L s t] w fun e w' => e = .returned (.bool true) ∧ w.grownBy w' none := by
  have cR := fun (W : World) (hW : w.grownBy W none) => ticked_any L s t W (h.grown hW) hl1 hl2
  have cC := fun (X : World) (x y : Value) (hE : True) (k : LkR X L x y) => tick_any L x y X k hl1 hl2
  have hlen := tickL_len L hl1 hl2
  have cL := fun (X : World) (s' t' : Value) (k : LkR X L s t) (k' : LkR X (tickL L) s' t') => linkAs_25 L (tickL L) (tickE L) s t s' t' X k k' hl1 hl2 hlen.1 hlen.2 (fun _ => True) trivial (fun _ _ _ _ => trivial) cC
  generalize tickL L = R at *
  generalize tickE L = E at *
  dsimp only [lkV, lkA] at *
  obtain ⟨p, hp⟩ : ∃ p, w.heap.size = p := ⟨_, rfl⟩
  have B1 : (w.alloc (.cells #[.int .i64 L.st, .int .i64 L.wa, s, t, .int .i64 L.sq, .int .i64 L.ag, .bool L.fr] 40)).heap[p]? = some (.cells #[.int .i64 L.st, .int .i64 L.wa, s, t, .int .i64 L.sq, .int .i64 L.ag, .bool L.fr] 40) := hp_new hp.symm _
  have hgW : w.grownBy (w.alloc (.cells #[.int .i64 L.st, .int .i64 L.wa, s, t, .int .i64 L.sq, .int .i64 L.ag, .bool L.fr] 40)) none := gr_alloc (World.grownBy.refl _ _) _
  go_enter Try.func7, Try.ntmps7
  go_upto_region 1 with fail
  clear hp
  generalize w.alloc (.cells #[.int .i64 L.st, .int .i64 L.wa, s, t, .int .i64 L.sq, .int .i64 L.ag, .bool L.fr] 40) = W at *
  obtain ⟨i0, i1, i2, i3, i4, i5, i6⟩ := at7 (B1)
  go_wp2_with fail
  refine (cR W hgW).mono ?_
  rintro e w1 ⟨V, rfl, a1, c1, a2, c2, rfl, o1, o2, e6, g1⟩
  dsimp only [lkV, lkA] at *
  clear i0 i1 i2 i3 i4 i5 i6
  obtain ⟨q, hq⟩ : ∃ q, w1.heap.size = q := ⟨_, rfl⟩
  have hgA : w1.grownBy (w1.alloc (.cells #[.int .i64 R.st, .int .i64 R.wa, (.slice a1 R.sa.length c1), (.slice a2 R.wo.length c2), .int .i64 R.sq, .int .i64 R.ag, .bool R.fr] 40)) none := gr_alloc (World.grownBy.refl _ _) _
  have B2 : (w1.alloc (.cells #[.int .i64 R.st, .int .i64 R.wa, (.slice a1 R.sa.length c1), (.slice a2 R.wo.length c2), .int .i64 R.sq, .int .i64 R.ag, .bool R.fr] 40)).heap[q]? = some (.cells #[.int .i64 R.st, .int .i64 R.wa, (.slice a1 R.sa.length c1), (.slice a2 R.wo.length c2), .int .i64 R.sq, .int .i64 R.ag, .bool R.fr] 40) := hp_new hq.symm _
  have gWA := grown_join g1 hgA (.inl rfl)
  have gwA := grown_join hgW gWA (.inl rfl)
  have B1 := kept gWA B1
  have cL := cL _ (.slice a1 R.sa.length c1) (.slice a2 R.wo.length c2) (h.grown gwA) ⟨(OwnL.kept o1 hgA).rd, (OwnL.kept o2 hgA).rd⟩
  obtain ⟨i0, i1, i2, i3, i4, i5, i6⟩ := at7 (B1)
  obtain ⟨j0, j1, j2, j3, j4, j5, j6⟩ := at7 (B2)
  have HG := hidI gwA
  clear B1 B2 hgA gWA gwA cC hgW h o1 o2 g1 cR e6
  go_wp2_with fail
  refine cL.mono ?_
  rintro e w2 ⟨rfl, g2⟩
  go_wp2
  go_ret
  exact ⟨rfl, grown_join HG.out g2 (.inl rfl)⟩
end Go.Proofs.Ytaiicehifailhaa
