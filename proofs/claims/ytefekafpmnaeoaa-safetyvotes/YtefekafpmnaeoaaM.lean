/- A guard that is copied. -/
import Derived.Test.YtefekafpmnaeoaaL
namespace Go.Proofs.Ytefekafpmnaeoaa
open Go.RowKit
attribute [local go_sem ↓] Go.wp_at_zero Go.wp_at_succ
set_option linter.unusedVariables false
set_option linter.unusedSimpArgs false

def GoP (w w' : World) (e : Ending) (se de : Int) (l : List (Int × List Int)) : Prop := ∃ a c, e = .returned (.agg #[.int .i64 se, .int .i64 de, .slice a l.length c]) ∧ rdVs w' (.slice a l.length c) l ∧ w.grownBy w' none
theorem info24 : (Try.prog.info? 24).map (·.size) = some 3 := by kernel_rfl
theorem load24 (W : World) (p : Nat) (x y z : Value) (hg : W.heap[p]? = some (.cells #[x, y, z] 24)) : (loadVar 24 ⟨p, 0, none⟩).run Try.prog W = .ok (.agg #[x, y, z]) W :=
  run_loadVar_row (P := Try.prog) W p 24 24 #[x, y, z] (0, 0) _ hg Try.underlying24 rfl info24
theorem results24 {f : Func} {k : Tmp} (hr : f.results = #[.cell k 24]) (tmps : Array Value) (W : World) (q : Nat) (x y z : Value) (h6 : tmps.getD k undef = .pointer (some ⟨q, 0, none⟩)) (hg : W.heap[q]? = some (.cells #[x, y, z] 24)) :
    (results f tmps).run Try.prog W = .ok (.agg #[x, y, z]) W := by
  have hl := load24 W q x y z hg
  have h6' : tmps[k]?.getD undef = .pointer (some ⟨q, 0, none⟩) := by simpa using h6
  simp [results, hr]
  rw [h6']
  simp [asAddr, hl, Result.andThen]
theorem rdVs_but {w w' : World} {B : Nat} {a : Option Addr} {cap : Nat} {l : List (Int × List Int)} {ns : List (Int × Value)} (h : Row B w a cap l ns) {p : Nat} (hg : w.grownBy w' (some p)) (hp : p < B) : rdVs w' (.slice a l.length cap) l :=
  Row.rd (ns := ns) (B := B) ⟨h.len, own_but h.own hg hp, fun i hi => by
    obtain ⟨h1, ua, uc, h2, h3, h4⟩ := h.each i hi
    exact ⟨h1, ua, uc, h2, own_but h3 hg hp, h4⟩⟩
set_option maxRecDepth 10000 in
set_option maxHeartbeats 2000000 in
theorem guardOf_any (se de : Int) (l : List (Int × List Int)) (v : Value) (w : World) (hv : rdVs w v l) (hl : OkL l) (hn4 : l.length ≤ 4398046510976) :
    Calls Try.prog 7 #[.agg #[.int .i64 se, .int .i64 de, v]] w fun e w' => GoP w w' e se de l := by
  obtain ⟨va, vc, rfl, _⟩ := id hv
  obtain ⟨p, hp⟩ : ∃ p, w.heap.size = p := ⟨_, rfl⟩
  have hW1 : ((w.alloc (.cells #[.int .i64 se, .int .i64 de, .slice va l.length vc] 24)).alloc (.cells #[.int .i64 0, .int .i64 0, .slice none 0 0] 24)).heap[p]? = some (.cells #[.int .i64 se, .int .i64 de, .slice va l.length vc] 24) := by
    rw [hp_old (by simp; omega)]; exact hp_new hp.symm _
  have hW2 : ((w.alloc (.cells #[.int .i64 se, .int .i64 de, .slice va l.length vc] 24)).alloc (.cells #[.int .i64 0, .int .i64 0, .slice none 0 0] 24)).heap[p + 1]? = some (.cells #[.int .i64 0, .int .i64 0, .slice none 0 0] 24) := hp_new (by simp; omega) _
  have hgW : w.grownBy ((w.alloc (.cells #[.int .i64 se, .int .i64 de, .slice va l.length vc] 24)).alloc (.cells #[.int .i64 0, .int .i64 0, .slice none 0 0] 24)) none := gr_alloc (gr_alloc (World.grownBy.refl _ _) _) _
  have hsW : ((w.alloc (.cells #[.int .i64 se, .int .i64 de, .slice va l.length vc] 24)).alloc (.cells #[.int .i64 0, .int .i64 0, .slice none 0 0] 24)).heap.size = p + 2 := by simp; omega
  go_enter Try.func7, Try.ntmps7
  go_upto_region 1 with fail
  have HP := hidI hp
  clear hp
  generalize (w.alloc (.cells #[.int .i64 se, .int .i64 de, .slice va l.length vc] 24)).alloc (.cells #[.int .i64 0, .int .i64 0, .slice none 0 0] 24) = W at *
  have HVW := hidI (And.intro (rdVs_grown hv hgW) (And.intro hgW (And.intro hl.2 (And.intro hW1 (And.intro hW2 hsW)))))
  obtain ⟨n, hn⟩ : ∃ n, l.length = n := ⟨_, rfl⟩
  have HN := hidI hn
  rw [hn] at hn4 ⊢
  clear hv hgW hl hW1 hW2 hsW hn
  go_wp2_with fail
  go_loopg [3, 4] n (fun gk s3 s4 wx => ∃ (k : Nat) (a : Option Addr) (cap : Nat), s4 = .int .i64 k ∧ s3 = .slice a k cap ∧ k ≤ n ∧ gk = n - k ∧ Hid (W.grownBy wx none ∧ ∃ ns, Row (p + 2) wx a cap (l.take k) ns))
  case atStart => exact ⟨0, none, 0, rfl, rfl, Nat.zero_le _, by omega, hidI ⟨World.grownBy.refl _ _, [], Row.nil _ _⟩⟩
  case round =>
    obtain ⟨k, a, cap, rfl, rfl, hk, hgk, HK⟩ := hrel
    have HG : Hid (gk = n - k) := hgk
    clear hgk
    obtain ⟨x1, x2, x3, x4, x5, x6⟩ := HVW.out
    obtain ⟨i0, i1, i2⟩ := at3 x4
    have y2 := HK.out.1.cell i2 (by simp)
    rw [HN.out] at i2 y2
    by_cases hlt : k < n
    · have hkl : k < l.length := by rw [HN.out]; exact hlt
      obtain ⟨va1, vc1, ev, h | ⟨b, off, rfl, hc⟩⟩ := id x1
      · subst h; simp at hkl
      simp at ev
      obtain ⟨rfl, rfl⟩ := ev
      obtain ⟨u, q0, q1, hu⟩ := hc k hkl
      have HT : Hid (l.take (k + 1) = l.take k ++ [l.getD k (0, [])]) := hidI (by
        rw [List.take_add_one]
        simp [List.getD, hkl])
      have hof : (l.getD k (0, [])).2.length ≤ 17592186043904 := by
        have h2 : l.getD k (0, []) = l[k] := by simp [List.getD, hkl]
        rw [h2]
        exact x3 _ (List.getElem_mem hkl)
      obtain ⟨hgx, ns, hrow⟩ := HK.out
      have htl : (l.take k).length = k := by simp; omega
      have hW6 := x6
      have HROW := hidI (And.intro hrow (And.intro htl hgx))
      clear x1 x2 x3 x4 x5 x6 hc hkl
      generalize l.getD k (0, []) = V at *
      obtain ⟨need, of⟩ := V
      dsimp only at *
      obtain ⟨ua, uc, rfl, _⟩ := id hu
      have z0 := hgx.cell q0 (by simp)
      have z1 := hgx.cell q1 (by simp)
      have hrd := fun (X : World) (hX : W.grownBy X none) => rd_grown hu hX
      have i3 : (0 : Int) ≤ (k : Int) := by omega
      have i4 : (k : Int) < (n : Int) := by omega
      have HS := hidI hW6
      clear hu hrow hgx htl hW6 i0 i1 HK
      go_wp2_with fail
      go_region_held3 (fun w' => w'.cell? ⟨p, 2, none⟩ = some (.slice (some ⟨b, off, none⟩) n vc) ∧ w'.cell? ⟨b, off + k * 2, none⟩ = some (.int .i64 need) ∧ w'.cell? ⟨b, off + k * 2 + 1, none⟩ = some (.slice ua of.length uc))
        (first | (go_keep; done) | exact ⟨g8.cell i2 (by simp), g8.cell q0 (by simp), g8.cell q1 (by simp)⟩ | exact ⟨g5.cell i2 (by simp), g5.cell q0 (by simp), g5.cell q1 (by simp)⟩ | exact ⟨(gr_alloc g5 _).cell i2 (by simp), (gr_alloc g5 _).cell q0 (by simp), (gr_alloc g5 _).cell q1 (by simp)⟩)
        (first | (refine step_copy (by rfl) _ _ (by rfl) (by rfl) of ua uc (by rfl) (by rfl) (hrd _ (by first | exact HROW.out.2.2 | exact gr_drew HROW.out.2.2)) hof ?_; intro oa oc w5 ho5 g5'; have g5 : W.grownBy w5 none := grown_join (by first | exact HROW.out.2.2 | exact gr_drew HROW.out.2.2) g5' (.inl rfl); have g5w : wr.grownBy w5 none := (by first | exact g5' | exact grown_join (gr_drew (World.grownBy.refl _ _)) g5' (.inl rfl)); have ho5 : OwnL wr.heap.size w5 oa oc of := ho5; have HR5 := hidI (And.intro (Row.grown HROW.out.1 g5w) (And.intro ho5 g5w)); clear g5' ho5 g5w) | (refine step_more (by rfl) _ _ (by rfl) (by rfl) (B := p + 2) a k cap _ (l.take k) ns need of oa oc (by rfl) (by rfl) HROW.out.2.1 (Row.grown HR5.out.1 (gr_alloc (World.grownBy.refl _ _) _)) (by rw [HROW.out.2.1]; omega) (own_low (OwnL.kept HR5.out.2.1 (gr_alloc (World.grownBy.refl _ _) _)) (by have := HROW.out.2.2.size; have := HS.out; omega)) (fun x h1 h2 => by have e1 := (World.ownsRow.lt HR5.out.2.1 x h1).1; have e2 := (World.ownsRow.lt HROW.out.1.own x h2).2; omega) (heap_alloc_new _ _) (by have := g5.size; have := HS.out; simp; omega) ?_; intro a' cap' w8 hr8 g8' hb8; have g8 : W.grownBy w8 none := grown_join (gr_alloc g5 _) g8' (.inr (fun x hx => by have := hb8 x hx; have := HS.out; omega)); have HR8 := hidI hr8; clear hr8 g8' hb8))
      go_wp2
      have hgl := HG.out
      go_roundg (n - (k + 1))
      all_goals first | omega | exact ⟨k + 1, a', cap', by go_num, rfl, by omega, by omega, hidI ⟨g8, _, by rw [HT.out]; exact HR8.out⟩⟩
    · have hk' : ¬ ((k : Int) < (n : Int)) := by omega
      have hkn : l.take k = l := List.take_of_length_le (by rw [HN.out]; omega)
      have hke : k = n := by omega
      subst hke
      rw [hkn] at HK
      obtain ⟨hgx, ns, hrow⟩ := HK.out
      have k1 := kept hgx x4
      have k2 := kept hgx x5
      obtain ⟨b0, b1, b2⟩ := at3 k2
      obtain ⟨f0, f1, f2⟩ := fz3 k2
      obtain ⟨c0, c1, c2⟩ := at3 k1
      rw [HN.out] at c2
      obtain ⟨e0, e1, e2⟩ := fz3 k1
      have hb := at_set k1 2 (.slice a k cap)
      have hb2 : (wr.setCell ⟨p, 2, none⟩ (.slice a k cap)).heap[p + 1]? = _ := (Below.heap_setCell _ _ _ _ (by simp)).trans k2
      have hb' : (wr.setCell ⟨p, 2, none⟩ (.slice a k cap)).heap[p]? = some (.cells #[.int .i64 se, .int .i64 de, .slice a k cap] 24) := by simpa using hb
      have gS : wr.grownBy (wr.setCell ⟨p, 2, none⟩ (.slice a k cap)) (some p) := gr_set (World.grownBy.refl _ _) _ _
      have hGS : w.grownBy (wr.setCell ⟨p, 2, none⟩ (.slice a k cap)) none := gr_own (grown_join x2 hgx (.inl rfl)) (by rw [HP.out]; exact Nat.le_refl _) _ _
      have hR : Row (p + 2) (wr.setCell ⟨p, 2, none⟩ (.slice a k cap)) a cap l ns := ⟨hrow.len, own_but hrow.own gS (by omega), fun i hi => by
        obtain ⟨h1, ua, uc, h2, h3, h4⟩ := hrow.each i hi
        exact ⟨h1, ua, uc, h2, own_but h3 gS (by omega), h4⟩⟩
      have HB := hidI (And.intro hb' (And.intro hb2 (And.intro hGS hR)))
      clear x1 x2 x3 x4 x5 x6 k1 k2 b0 b1 b2 f0 f1 c0 c1 e0 e1 i0 i1 i2 hb hb' hb2 gS hGS hR hrow hgx y2 hkn f2
      go_upto_region 7 with fail
      obtain ⟨hb', hb2, hGS, hR⟩ := HB.out
      clear c2 e2
      generalize wr.setCell ⟨p, 2, none⟩ (.slice a k cap) = X at *
      obtain ⟨c0, c1, c2⟩ := at3 hb'
      obtain ⟨b0, b1, b2⟩ := at3 hb2
      obtain ⟨f0, f1, f2⟩ := fz3 hb2
      clear hb' hb2 hGS hR
      go_wp2
      obtain ⟨hb', hb2, hGS, hR⟩ := HB.out
      refine bodyPost_ret (results24 rfl _ _ (p + 1) _ _ _ rfl (box3 hb2)) rfl ?_
      have hnn := HN.out
      refine ⟨a, cap, by rw [hnn], ?_, gr3n hGS (by rw [HP.out]; omega)⟩
      exact rdVs_but (p := p + 1) hR (gr_set (gr_set (gr_set (World.grownBy.refl _ _) _ _) _ _) _ _) (by omega)
end Go.Proofs.Ytefekafpmnaeoaa
