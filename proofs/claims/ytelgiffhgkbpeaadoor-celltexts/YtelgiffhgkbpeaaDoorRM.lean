/- The program's Read and the document's are the same; no program in sight. -/
import Derived.Test.YtelgiffhgkbpeaaDoorRL
namespace Go.Proofs.YtelgiffhgkbpeaaDoor
open Go.RowKit

theorem clip_same {T sum v n Lu : Int} (hT : SameV T sum) (hs0 : 0 ≤ sum) (hs1 : sum ≤ 4398046511104) (hv : v = min n 4294967296) (hn0 : 0 ≤ n) (hn1 : n ≤ 4398046511104) (hL : Lu = 1 ∨ Lu = 1000 ∨ Lu = 60000 ∨ Lu = 3600000 ∨ Lu = 86400000) :
    SameV (T + v * Lu) (min (sum + clipR n Lu * Lu) 4398046511104) := by
  unfold SameV at *
  unfold clipR
  rcases hL with rfl | rfl | rfl | rfl | rfl <;> (split <;> omega)
theorem rankL_is {l least : Int} (h : RankL l least) (Lu r : Int) (hr : RankL Lu r) (h5 : r ≤ 4) : (r < least ↔ Lu < l) := by
  unfold RankL at *
  omega
theorem rightP_iff (l L : Int) : rightP l true L = true ↔ (0 < L ∧ L < l) := by
  unfold rightP; simp

theorem span_rel : ∀ (f : Nat) (L : List UInt8) (S : TSt) (T l sum least : Int), L.length ≤ f → partT S = some ⟨T, l, 0, false, []⟩ → RankL l least → SameV T sum → 0 ≤ sum → sum ≤ 4398046511104 → (L = [] → S.unit ≠ []) →
    (∀ c L', L = c :: L' → isLet c → ∀ e, rightP S.last S.wh (unitL (S.unit ++ c :: e)) = false) → Rel (endT (feedT S L)) (spanR f sum least L)
  | f, [], S, T, l, sum, least, hlen, hS, hR, hV, hs0, hs1, hne, hnx => by
    rw [spanR_nil, feedT]
    have hu := hne rfl
    rw [partT, if_neg hu] at hS
    split at hS
    · rename_i hr
      cases hS
      exact ⟨hr, fun _ => hV⟩
    · cases hS
  | 0, c :: L, S, T, l, sum, least, hlen, hS, hR, hV, hs0, hs1, hne, hnx => by simp at hlen
  | f + 1, x :: L0, S, T, l, sum, least, hlen, hS, hR, hV, hs0, hs1, hne, hnx => by
    obtain ⟨L, hL⟩ : ∃ L, x :: L0 = L := ⟨_, rfl⟩
    have hLne : L ≠ [] := by rw [← hL]; simp
    obtain ⟨i1, i2, i3⟩ := split_R L r0
    have hrun := run_rel 10 (.inl rfl) (L.take (feedR 10 r0 L).2) r0 0 false rfl (by decide) (by decide) (by decide) (by decide)
    have hn := feedR_n 10 (.inl rfl) L r0 (by decide) (by decide)
    obtain ⟨N, hN⟩ : ∃ N, feedR 10 r0 L = N := ⟨_, rfl⟩
    rw [hN] at i1 i2 i3 hrun hn
    have hsplit : L = L.take N.2 ++ L.drop N.2 := (List.take_append_drop _ _).symm
    obtain ⟨D, hD⟩ : ∃ D, L.take N.2 = D := ⟨_, rfl⟩
    obtain ⟨R, hRd⟩ : ∃ R, L.drop N.2 = R := ⟨_, rfl⟩
    rw [hD] at i1 i2 hrun hsplit
    rw [hRd] at i3 hsplit
    rw [i2] at hrun
    rw [hL] at hlen hnx ⊢
    by_cases hDe : D = []
    · -- no digit: neither reads it
      have hN1 : N.1 = r0 := by rw [hDe, feedR] at i2; exact (congrArg Prod.fst i2).symm
      have hb : spanR (f + 1) sum least L = (0, false) := spanR_fail1 hN hLne (.inl (by rw [hN1]; decide))
      rw [hb]
      rw [hDe, List.nil_append] at hsplit
      rw [← hsplit, ← hL] at i3
      have hx := i3 x L0 rfl
      apply rel_no _ rfl
      rw [← hL, feedT]
      by_cases hxl : isLet x
      · rw [stepT_let S x hxl, Option.bind_some]
        refine dead L0 _ (by simp) (fun e => ?_)
        show rightP S.last S.wh (unitL (S.unit ++ [x] ++ e)) = false
        rw [List.append_assoc]
        exact hnx x L0 hL.symm hxl e
      · rw [stepT_not S x hxl, hS, Option.bind_some, stepD_no _ x hx hxl]; rfl
    · have hfeed : feedT S L = ((feed 10 (0, false) D).map fun d => (⟨T, l, d.1, d.2, []⟩ : TSt)).bind fun st => feedT st R := by
        conv => lhs; rw [hsplit]
        rw [feedT_app, feedT_start S T l hS D hDe i1, feedT_num T l D 0 false i1]
      rw [hfeed]
      cases hq : feed 10 (0, false) D with
      | none =>
        rw [hq] at hrun
        have hend : endR N.1 = false := by
          have : (endR N.1 && D.length == D.length) = false := hrun
          simpa using this
        rw [spanR_fail1 hN hLne (.inl hend)]
        exact rel_no rfl rfl
      | some d =>
        rw [hq] at hrun
        obtain ⟨-, hend, hmin, -⟩ : D.length = D.length ∧ endR N.1 = d.2 ∧ d.1 = min N.1.n 4294967296 ∧ 0 ≤ N.1.n := hrun
        show Rel (endT (feedT ⟨T, l, d.1, d.2, []⟩ R)) _
        match hRR : R, hRd, i3, hsplit with
        | [], hRd, i3, hsplit =>
          rw [spanR_fail1 hN hLne (.inr hRd)]
          exact rel_no (rightP_zero _ _) rfl
        | y :: R', hRd, i3, hsplit =>
          have hy := i3 y R' rfl
          have hdr : L.drop N.2 ≠ [] := by rw [hRd]; simp
          cases hw : d.2 with
          | false =>
            rw [hw] at hend
            rw [spanR_fail1 hN hLne (.inl hend)]
            apply rel_no _ rfl
            rw [feedT]
            by_cases hyl : isLet y
            · rw [stepT_let _ y hyl, Option.bind_some]
              exact dead R' _ (by simp) (fun e => rfl)
            · rw [stepT_not _ y hyl]
              show (endT (((stepD 10 (d.1, false) (y.toNat : Int)).map _).bind _)).2 = false
              rw [stepD_no _ y hy hyl]; rfl
          | true =>
            rw [hw] at hend
            by_cases hyl : isLet y
            · rcases unit_cases y R' with ⟨u, R2, r, Lu, U⟩ | ⟨hr, hz⟩
              · have hfu : feedT ⟨T, l, d.1, true, []⟩ (y :: R') = feedT ⟨T, l, d.1, true, u⟩ R2 := by
                  rw [U.app, feedT_app, feedT_letters u _ (fun b hb => U.let_ b hb), Option.bind_some]
                  rfl
                rw [hfu]
                have hrk : rankR (L.drop N.2) = (r, u.length) := by rw [hRd]; exact U.rank
                have hr4 : r ≤ 4 := by have := U.link; have := U.worth; unfold RankL at *; unfold worthR at *; omega
                have hlu : Lu = 1 ∨ Lu = 1000 ∨ Lu = 60000 ∨ Lu = 3600000 ∨ Lu = 86400000 := by
                  have := U.link
                  unfold RankL at this
                  omega
                have hiff := rankL_is hR Lu r U.link hr4
                by_cases hlt : r < least
                · have hLl := hiff.1 hlt
                  have hright : rightP l true Lu = true := (rightP_iff l Lu).2 ⟨by omega, hLl⟩
                  have hst := spanR_step (f := f) (sum := sum) (least := least) hN hLne hend hdr hrk (by
                    show ¬ (r < 0 ∨ least ≤ r)
                    have := U.r0; omega)
                  rw [hst]
                  show Rel _ (spanR f (min (sum + clipR N.1.n (worthR r) * worthR r) 4398046511104) r ((L.drop N.2).drop u.length))
                  have hR2 : (L.drop N.2).drop u.length = R2 := by rw [hRd, U.app]; simp
                  rw [hR2, U.worth]
                  have hlen2 : R2.length ≤ f := by
                    have h1 := congrArg List.length U.app
                    have h2 := congrArg List.length hsplit
                    rw [List.length_append] at h1 h2
                    have h3 : 0 < u.length := List.length_pos_iff.2 U.ne
                    simp only [List.length_cons] at h1 h2
                    omega
                  have hsame := clip_same hV hs0 hs1 hmin hn.1 hn.2 hlu
                  refine span_rel f R2 ⟨T, l, d.1, true, u⟩ (T + d.1 * Lu) Lu _ r hlen2 ?_ U.link hsame ?_ (by omega) (fun _ => U.ne) ?_
                  · show partT ⟨T, l, d.1, true, u⟩ = _
                    have hur : rightP l true (unitL u) = true := by rw [U.len]; exact hright
                    rw [partT, if_neg U.ne, if_pos hur, U.len]
                  · have h0 : 0 ≤ clipR N.1.n Lu * Lu := by
                      unfold clipR
                      have := hn.1
                      rcases hlu with rfl | rfl | rfl | rfl | rfl <;> (split <;> omega)
                    omega
                  · intro c R3 hc hcl e
                    show rightP l true (unitL (u ++ c :: e)) = false
                    rw [U.next c R3 hc hcl e]; exact rightP_zero _ _
                · have hnr : rightP l true Lu = false := by
                    cases hh : rightP l true Lu with
                    | false => rfl
                    | true => exact absurd (hiff.2 ((rightP_iff l Lu).1 hh).2) hlt
                  rw [spanR_fail2 hN hLne hend hdr hrk (.inr (by show least ≤ r; omega))]
                  apply rel_no _ rfl
                  have hur : rightP l true (unitL u) = false := by rw [U.len]; exact hnr
                  match R2, U.next with
                  | [], _ => exact hur
                  | c :: R3, hnext =>
                    rw [feedT]
                    by_cases hcl : isLet c
                    · rw [stepT_let _ c hcl, Option.bind_some]
                      refine dead R3 _ (by simp) (fun e => ?_)
                      show rightP l true (unitL (u ++ [c] ++ e)) = false
                      rw [List.append_assoc, List.singleton_append, hnext c R3 rfl hcl e]; exact rightP_zero _ _
                    · rw [stepT_not _ c hcl]
                      have hp : partT ⟨T, l, d.1, true, u⟩ = none := by rw [partT, if_neg U.ne, if_neg (by rw [hur]; decide)]
                      rw [hp]; rfl
              · have hrk : rankR (L.drop N.2) = (-1, 1) := by rw [hRd]; exact hr
                rw [spanR_fail2 hN hLne hend hdr hrk (.inl (by decide))]
                apply rel_no _ rfl
                rw [feedT, stepT_let _ y hyl, Option.bind_some]
                refine dead R' _ (by simp) (fun e => ?_)
                show rightP l true (unitL ([] ++ [y] ++ e)) = false
                rw [List.nil_append, hz e]; exact rightP_zero _ _
            · have hrk : rankR (L.drop N.2) = (-1, 1) := by
                unfold isLet at hyl
                rw [hRd, rankR, if_neg (by omega), if_neg (by omega), if_neg (by omega), if_neg (by omega)]
              rw [spanR_fail2 hN hLne hend hdr hrk (.inl (by decide))]
              apply rel_no _ rfl
              rw [feedT, stepT_not _ y hyl]
              show (endT (((stepD 10 (d.1, true) (y.toNat : Int)).map _).bind _)).2 = false
              rw [stepD_no _ y hy hyl]; rfl
end Go.Proofs.YtelgiffhgkbpeaaDoor
