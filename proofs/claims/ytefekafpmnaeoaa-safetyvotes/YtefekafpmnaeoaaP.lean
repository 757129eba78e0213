/- For how many steps each vote has held. -/
import Derived.Test.YtefekafpmnaeoaaN
import Derived.Test.YtefekafpmnaeoaaT
namespace Go.Proofs.Ytefekafpmnaeoaa
open Go.RowKit
attribute [local go_sem ↓] Go.wp_at_zero Go.wp_at_succ
set_option linter.unusedVariables false
set_option linter.unusedSimpArgs false

/-- For how many steps a vote has held behind one more. -/
def heldAt (de : Int) (told : List Int) (l : List (Int × List Int)) (hs : List Int) (i : Nat) : Int :=
  if holdB told (l.getD i (0, [])).1 (l.getD i (0, [])).2 then (if hs.getD i 0 + 1 ≤ de + 1 then hs.getD i 0 + 1 else de + 1) else 0
def heldK (de : Int) (told : List Int) (l : List (Int × List Int)) (hs : List Int) (n k : Nat) : List Int := (List.range n).map fun i => if i < k then heldAt de told l hs i else 0
def heldL (de : Int) (told : List Int) (l : List (Int × List Int)) (hs : List Int) : List Int := (List.range l.length).map (heldAt de told l hs)
theorem heldK_len (de : Int) (told : List Int) (l : List (Int × List Int)) (hs : List Int) (n k : Nat) : (heldK de told l hs n k).length = n := by simp [heldK]
theorem heldK_zero (de : Int) (told : List Int) (l : List (Int × List Int)) (hs : List Int) (n : Nat) : heldK de told l hs n 0 = List.replicate n 0 := by
  apply List.ext_getElem <;> simp [heldK]
theorem heldK_set (de : Int) (told : List Int) (l : List (Int × List Int)) (hs : List Int) (n k : Nat) : (heldK de told l hs n k).set k (heldAt de told l hs k) = heldK de told l hs n (k + 1) := by
  apply List.ext_getElem
  · simp [heldK]
  · intro i h1 h2
    rw [List.getElem_set]
    simp only [heldK, List.getElem_map, List.getElem_range]
    by_cases h : k = i
    · subst h; simp
    · rw [if_neg h]
      by_cases h' : i < k
      · rw [if_pos h', if_pos (by omega)]
      · rw [if_neg h', if_neg (by omega)]
theorem heldK_skip {de : Int} {told : List Int} {l : List (Int × List Int)} {hs : List Int} (n : Nat) {k : Nat} (h : heldAt de told l hs k = 0) : heldK de told l hs n k = heldK de told l hs n (k + 1) := by
  apply List.ext_getElem
  · simp [heldK]
  · intro i h1 h2
    simp only [heldK, List.getElem_map, List.getElem_range]
    by_cases h' : i < k
    · rw [if_pos h', if_pos (by omega)]
    · by_cases he : i = k
      · subst he; rw [if_neg h', if_pos (by omega), h]
      · rw [if_neg h', if_neg (by omega)]
theorem heldK_all (de : Int) (told : List Int) (l : List (Int × List Int)) (hs : List Int) : heldK de told l hs l.length l.length = heldL de told l hs := by
  apply List.ext_getElem
  · simp [heldK, heldL]
  · intro i h1 h2
    have : i < l.length := by simpa [heldK] using h1
    simp [heldK, heldL, this]
/-- A guard's votes are of sensors that there are. -/
def NamedL (n : Nat) (l : List (Int × List Int)) : Prop := ∀ v ∈ l, Named n v.2
theorem ok_named {se : Int} {v : Int × List Int} (h : voteE se v.1 v.2 = 0) (hs : 0 ≤ se) : ∀ x ∈ v.2, 0 ≤ x ∧ x < se := by
  unfold voteE at h
  split at h
  · omega
  split at h
  · omega
  · next _ h1 =>
    intro x hx
    have := List.any_eq_false.1 (by simpa using h1) x hx
    simp [ou] at this
    omega
def NwP (w w' : World) (e : Ending) (l : List Int) : Prop := ∃ a c, e = .returned (.slice a l.length c) ∧ OwnL w.heap.size w' a c l ∧ w.grownBy w' none
theorem cell_lt {w : World} {b o : Nat} {v : Value} (h : w.cell? ⟨b, o, none⟩ = some v) : b < w.heap.size := by
  cases hb : w.heap[b]? with
  | none => simp [World.cell?, hb] at h
  | some x => exact at_lt hb
set_option maxRecDepth 10000 in
set_option maxHeartbeats 2000000 in
theorem heldNow_any (se de : Int) (told hs : List Int) (l : List (Int × List Int)) (v u t : Value) (w : World) (hv : rdVs w v l) (hu : rd w u hs) (ht : rd w t told) (hl : OkL l) (h16 : l.length ≤ 16) (hlen : hs.length = l.length) (hnm : NamedL told.length l) (hd0 : 0 ≤ de) (hd1 : de ≤ 1000) (hh : ∀ x ∈ hs, 0 ≤ x ∧ x ≤ 1001) :
    Calls Try.prog 25 #[.agg #[.int .i64 se, .int .i64 de, v], u, t] w fun e w' => NwP w w' e (heldL de told l hs) := by
  obtain ⟨va, vc, rfl, _⟩ := id hv
  obtain ⟨ua, uc, rfl, _⟩ := id hu
  obtain ⟨ta, tc, rfl, _⟩ := id ht
  have hW0 : (w.alloc (.cells #[.int .i64 se, .int .i64 de, .slice va l.length vc] 24)).heap[w.heap.size]? = some (.cells #[.int .i64 se, .int .i64 de, .slice va l.length vc] 24) := heap_alloc_new _ _
  have hg0 : w.grownBy (w.alloc (.cells #[.int .i64 se, .int .i64 de, .slice va l.length vc] 24)) none := gr_alloc (World.grownBy.refl _ _) _
  obtain ⟨p, hp⟩ : ∃ p, w.heap.size = p := ⟨_, rfl⟩
  have hs0 : (w.alloc (.cells #[.int .i64 se, .int .i64 de, .slice va l.length vc] 24)).heap.size = p + 1 := by simp; omega
  rw [hp] at hW0
  go_enter Try.func25, Try.ntmps25
  go_upto_region 1 with fail
  have HP := hidI hp
  clear hp
  generalize w.alloc (.cells #[.int .i64 se, .int .i64 de, .slice va l.length vc] 24) = W0 at *
  obtain ⟨n, hn⟩ : ∃ n, l.length = n := ⟨_, rfl⟩
  have HN := hidI hn
  rw [hlen, hn]
  rw [hn] at hW0 h16
  have hmk := make_ints n (by omega) W0
  have hOw : OwnV (p + 1) (W0.alloc (.cells (intsA (List.replicate n 0)) 3)) (.slice (some ⟨p + 1, 0, none⟩) n n) (List.replicate n 0) := by
    have := own_made (w := W0) (B := p + 1) (n := n) (by omega) (by omega)
    unfold OwnL at this
    rw [hs0, List.length_replicate] at this
    unfold OwnV
    rw [List.length_replicate]
    exact this
  rw [hs0] at hmk
  have gM : W0.grownBy (W0.alloc (.cells (intsA (List.replicate n 0)) 3)) none := gr_alloc (World.grownBy.refl _ _) _
  have HX := hidI (And.intro (rdVs_grown hv hg0) (And.intro (rd_grown hu hg0) (And.intro (rd_grown ht hg0) (And.intro hg0 (And.intro hW0 (And.intro hs0 (And.intro hl.2 (And.intro hnm hh))))))))
  obtain ⟨i0, i1, i2⟩ := at3 (kept gM hW0)
  have HM := hidI (And.intro hOw gM)
  have HLN := hidI hlen
  clear hv hu ht hg0 hW0 hs0 hl hnm hh hOw gM hn hlen
  go_upto_region 2 with fail
  clear hmk
  generalize W0.alloc (.cells (intsA (List.replicate n 0)) 3) = W1 at *
  go_wp2_with fail
  go_loopg [16] n (fun gk s16 wx => ∃ k : Nat, s16 = .int .i64 k ∧ k ≤ n ∧ gk = n - k ∧ Hid (W0.grownBy wx none ∧ OwnV (p + 1) wx (.slice (some ⟨p + 1, 0, none⟩) (heldK de told l hs n k).length n) (heldK de told l hs n k)))
  case atStart => exact ⟨0, rfl, Nat.zero_le _, by omega, hidI ⟨HM.out.2, by rw [heldK_len, heldK_zero]; exact HM.out.1⟩⟩
  case round =>
    clear i0 i1 i2
    obtain ⟨k, rfl, hk, hgk, HK⟩ := hrel
    have HG : Hid (gk = n - k) := hgk
    clear hgk
    obtain ⟨x1, x2, x3, x4, x5, x6, x7, x8, x9⟩ := HX.out
    obtain ⟨hg, hO⟩ := HK.out
    obtain ⟨i0, i1, i2⟩ := at3 (kept hg x5)
    by_cases hlt : k < n
    · have hkl : k < l.length := by rw [HN.out]; exact hlt
      have hkh : k < hs.length := by rw [HLN.out, HN.out]; exact hlt
      obtain ⟨va1, vc1, ev, h | ⟨b, off, rfl, hc⟩⟩ := rdVs_grown x1 hg
      · subst h; simp at hkl
      simp at ev
      obtain ⟨rfl, rfl⟩ := ev
      obtain ⟨u, q0, q1, hu⟩ := hc k hkl
      obtain ⟨ua1, uc1, ev, h | ⟨b', off', rfl, hc'⟩⟩ := rd_grown x2 hg
      · subst h; simp at hkh
      simp at ev
      obtain ⟨rfl, rfl⟩ := ev
      have q2 := hc' k hkh
      have hne : b' ≠ p + 1 := by
        obtain ⟨_, _, ev, h | ⟨b2, off2, e2, hc2⟩⟩ := x2
        · subst h; simp at hkh
        · simp at ev
          rw [← ev.1] at e2
          simp at e2
          have := cell_lt (hc2 k hkh)
          omega
      have hxr : 0 ≤ hs.getD k 0 ∧ hs.getD k 0 ≤ 1001 := by
        have : hs.getD k 0 = hs[k] := by simp [List.getD, hkh]
        rw [this]; exact x9 _ (List.getElem_mem _)
      have hVl : l.getD k (0, []) = l[k] := by simp [List.getD, hkl]
      have hof : (l.getD k (0, [])).2.length ≤ 17592186044416 := by
        rw [hVl]
        have := x7 _ (List.getElem_mem hkl)
        omega
      have hnm : Named told.length (l.getD k (0, [])).2 := by rw [hVl]; exact x8 _ (List.getElem_mem hkl)
      have HAT : Hid (heldAt de told l hs k = if holdB told (l.getD k (0, [])).1 (l.getD k (0, [])).2 then (if hs.getD k 0 + 1 ≤ de + 1 then hs.getD k 0 + 1 else de + 1) else 0) := hidI rfl
      have htr := rd_grown x3 hg
      have HB := hidI (And.intro hO (And.intro hg (And.intro x4 x6)))
      have k5 := kept hg x5
      have hgm : ∀ (X : World), W0.grownBy X none → Calls Try.prog 27 #[.agg #[.int .i64 se, .int .i64 de, .slice (some ⟨b, off, none⟩) n vc]] X fun e w' => e = .returned (.int .i64 (de + 1)) ∧ X.grownBy w' none := fun X _ => most_any se de _ X hd0 hd1
      clear x1 x2 x3 x4 x5 x6 x7 x8 x9 hc hc' hkl hkh hVl hO hg HK
      generalize l.getD k (0, []) = V at *
      generalize hs.getD k 0 = z at *
      obtain ⟨need, of⟩ := V
      dsimp only at *
      obtain ⟨ua2, uc2, rfl, _⟩ := id hu
      have i3 : (0 : Int) ≤ (k : Int) := by omega
      have i4 : (k : Int) < (n : Int) := by omega
      have gA : wr.grownBy (wr.alloc (.cells #[.int .i64 need, .slice ua2 of.length uc2] 50)) none := gr_alloc (World.grownBy.refl _ _) _
      have cH := holds_any told need of _ _ _ (rd_grown hu gA) (rd_grown htr gA) hof hnm
      have HGA := hidI gA
      clear hu htr gA
      go_wp2_with fail
      refine cH.mono ?_
      rintro e w3 ⟨rfl, g3⟩
      have gW3 := grown_join HGA.out g3 (.inl rfl)
      have HG3 := hidI gW3
      cases hB : holdB told need of with
      | false =>
        have HZ : Hid (heldAt de told l hs k = 0) := hidI (by rw [HAT.out, hB]; simp)
        clear cH q0 q1 q2
        go_wp2
        have hgl := HG.out
        go_roundg (n - (k + 1))
        all_goals first | omega | exact ⟨k + 1, by go_num, by omega, by omega, hidI ⟨grown_join HB.out.2.1 HG3.out (.inl rfl), by rw [← heldK_skip n HZ.out]; exact own_keep HB.out.1 HG3.out⟩⟩
      | true =>
        have HZ : Hid (heldAt de told l hs k = if z + 1 ≤ de + 1 then z + 1 else de + 1) := hidI (by rw [HAT.out, hB]; simp)
        have q2' := gW3.cell q2 (by simp)
        obtain ⟨j0, j1, j2⟩ := at3 (kept gW3 k5)
        have hO3 : OwnV (p + 1) w3 (.slice (some ⟨p + 1, 0, none⟩) (heldK de told l hs n k).length n) (heldK de told l hs n k) := own_keep HB.out.1 gW3
        have HO3 := hidI hO3
        clear cH q0 q1 q2 hB i0 i1 i2 hO3
        have hpn : p ≠ p + 1 := by omega
        have HLK := hidI (heldK_len de told l hs n k)
        have mZ : IntKind.i64.wrap (z + 1) = z + 1 := i64_id (by omega) (by omega)
        go_wp2_with fail
        by_cases hmn : z + 1 ≤ de + 1
        · have HZ2 : Hid (heldAt de told l hs k = z + 1) := hidI (by rw [HZ.out, if_pos hmn])
          go_region_held3 (fun w' => w'.cell? ⟨b', off' + k, none⟩ = some (.int .i64 z) ∧ w'.cell? ⟨p, 0, none⟩ = some (.int .i64 se) ∧ w'.cell? ⟨p, 1, none⟩ = some (.int .i64 de) ∧ w'.cell? ⟨p, 2, none⟩ = some (.slice (some ⟨b, off, none⟩) n vc))
            (first | (go_keep; done) | exact ⟨ck_set hne (g4.cell q2' (by simp)), ck_set hpn (g4.cell j0 (by simp)), ck_set hpn (g4.cell j1 (by simp)), ck_set hpn (g4.cell j2 (by simp))⟩ | exact ⟨g4.cell q2' (by simp), g4.cell j0 (by simp), g4.cell j1 (by simp), g4.cell j2 (by simp)⟩)
            ((go_at_call 27; refine (most_any se de _ _ hd0 hd1).mono ?_; rintro e w4 ⟨rfl, g4'⟩; have g4 : w3.grownBy w4 none := grown_join (by first | exact World.grownBy.refl _ _ | exact gr_drew (World.grownBy.refl _ _)) g4' (.inl rfl); have hO4 : OwnV (p + 1) w4 (.slice (some ⟨p + 1, 0, none⟩) (heldK de told l hs n k).length n) (heldK de told l hs n k) := own_keep HO3.out g4; have c4 := hO4.get k (by rw [HLK.out]; exact hlt); have f4 := hO4.frozen k; have HO4 := hidI hO4; clear hO4 g4'))
          go_wp2
          have hgl := HG.out
          go_roundg (n - (k + 1))
          all_goals first | omega | exact ⟨k + 1, by go_num, by omega, by omega, hidI ⟨gr_own (grown_join (grown_join HB.out.2.1 HG3.out (.inl rfl)) g4 (.inl rfl)) (by rw [HB.out.2.2.2]; omega) _ _, by rw [← heldK_set, HZ2.out, List.length_set]; exact HO4.out.store k _⟩⟩
        · have HZ2 : Hid (heldAt de told l hs k = de + 1) := hidI (by rw [HZ.out, if_neg hmn])
          go_region_held3 (fun w' => w'.cell? ⟨b', off' + k, none⟩ = some (.int .i64 z) ∧ w'.cell? ⟨p, 0, none⟩ = some (.int .i64 se) ∧ w'.cell? ⟨p, 1, none⟩ = some (.int .i64 de) ∧ w'.cell? ⟨p, 2, none⟩ = some (.slice (some ⟨b, off, none⟩) n vc))
            (first | (go_keep; done) | exact ⟨ck_set hne (g4.cell q2' (by simp)), ck_set hpn (g4.cell j0 (by simp)), ck_set hpn (g4.cell j1 (by simp)), ck_set hpn (g4.cell j2 (by simp))⟩ | exact ⟨g4.cell q2' (by simp), g4.cell j0 (by simp), g4.cell j1 (by simp), g4.cell j2 (by simp)⟩)
            ((go_at_call 27; refine (most_any se de _ _ hd0 hd1).mono ?_; rintro e w4 ⟨rfl, g4'⟩; have g4 : w3.grownBy w4 none := grown_join (by first | exact World.grownBy.refl _ _ | exact gr_drew (World.grownBy.refl _ _)) g4' (.inl rfl); have hO4 : OwnV (p + 1) w4 (.slice (some ⟨p + 1, 0, none⟩) (heldK de told l hs n k).length n) (heldK de told l hs n k) := own_keep HO3.out g4; have c4 := hO4.get k (by rw [HLK.out]; exact hlt); have f4 := hO4.frozen k; have HO4 := hidI hO4; clear hO4 g4'))
          go_wp2
          have hgl := HG.out
          go_roundg (n - (k + 1))
          all_goals first | omega | exact ⟨k + 1, by go_num, by omega, by omega, hidI ⟨gr_own (grown_join (grown_join HB.out.2.1 HG3.out (.inl rfl)) g4 (.inl rfl)) (by rw [HB.out.2.2.2]; omega) _ _, by rw [← heldK_set, HZ2.out, List.length_set]; exact HO4.out.store k _⟩⟩
    · have hk' : ¬ ((k : Int) < (n : Int)) := by omega
      have hke : k = n := by omega
      subst hke
      have HE : Hid (heldK de told l hs k k = heldL de told l hs) := hidI (by
        have := heldK_all de told l hs
        rw [HN.out] at this
        exact this)
      have hgx := grown_join x4 hg (.inl rfl)
      have HB := hidI (And.intro hO hgx)
      clear hO hg hgx x1 x2 x3 x4 x5 x6 x7 x8 x9 HK
      go_wp2
      go_ret
      obtain ⟨hO, hgx⟩ := HB.out
      rw [HE.out] at hO
      have hL : (heldL de told l hs).length = k := by unfold heldL; simp; exact HN.out
      refine ⟨some ⟨p + 1, 0, none⟩, k, by rw [hL]; rfl, ?_, hgx⟩
      exact own_low (B := p + 1) hO (by rw [HP.out]; omega)
end Go.Proofs.Ytefekafpmnaeoaa
