/- The program's reading of a time and the document's are the same; no program in sight. -/
import Derived.Test.YtelgiffhgkbpeaaDoorRK
namespace Go.Proofs.YtelgiffhgkbpeaaDoor
open Go.RowKit

def isLet (c : UInt8) : Prop := 97 ≤ c.toNat ∧ c.toNat ≤ 122
theorem stepT_let (st : TSt) (c : UInt8) (h : isLet c) : stepT st (c.toNat : Int) = some { st with unit := st.unit ++ [c] } := by
  unfold isLet at h
  rw [stepT, if_pos (by omega)]
  have : UInt8.ofNat ((c.toNat : Int).toNat) = c := by simp
  rw [this]
theorem stepT_not (st : TSt) (c : UInt8) (h : ¬ isLet c) : stepT st (c.toNat : Int) = (partT st).bind fun s => (stepD 10 (s.v, s.wh) (c.toNat : Int)).map fun d => { s with v := d.1, wh := d.2 } := by
  unfold isLet at h
  rw [stepT, if_neg (by omega)]
/-- A unit that is none, and never becomes one, is not read. -/
theorem dead : ∀ (M : List UInt8) (st : TSt), st.unit ≠ [] → (∀ e, rightP st.last st.wh (unitL (st.unit ++ e)) = false) → (endT (feedT st M)).2 = false
  | [], st, _, h2 => by
    have := h2 []
    rw [List.append_nil] at this
    exact this
  | c :: M, st, h1, h2 => by
    rw [feedT]
    by_cases hc : isLet c
    · rw [stepT_let st c hc, Option.bind_some]
      refine dead M _ (by simp) (fun e => ?_)
      show rightP st.last st.wh (unitL (st.unit ++ [c] ++ e)) = false
      rw [List.append_assoc]; exact h2 _
    · rw [stepT_not st c hc]
      have hp : partT st = none := by
        have := h2 []
        rw [List.append_nil] at this
        rw [partT, if_neg h1, if_neg (by rw [this]; decide)]
      rw [hp]; rfl
theorem rightP_wh (l L : Int) : rightP l false L = false := rfl
theorem rightP_zero (l : Int) (wh : Bool) : rightP l wh 0 = false := by cases wh <;> rfl

/-- Digits and lines below. -/
def isNum (c : UInt8) : Prop := (48 ≤ c.toNat ∧ c.toNat ≤ 57) ∨ c.toNat = 95
theorem split_R : ∀ (L : List UInt8) (st : RSt), (∀ c ∈ L.take (feedR 10 st L).2, isNum c) ∧ feedR 10 st (L.take (feedR 10 st L).2) = ((feedR 10 st L).1, (L.take (feedR 10 st L).2).length) ∧
    (∀ c R, L.drop (feedR 10 st L).2 = c :: R → ¬ isNum c)
  | [], st => ⟨fun c hc => by simp at hc, rfl, fun c R h => by simp at h⟩
  | c :: L, st => by
    cases hq : stepR 10 st c.toNat with
    | none =>
      have e : feedR 10 st (c :: L) = (st, 0) := by rw [feedR, hq]
      rw [e]
      refine ⟨fun x hx => by simp at hx, rfl, fun x R h => ?_⟩
      have hxc : c = x := by simpa using (List.cons.inj h).1
      subst hxc
      unfold stepR at hq
      split at hq
      · cases hq
      · rename_i h95
        split at hq
        · rename_i hd
          unfold digR at hd
          intro hn
          unfold isNum at hn
          by_cases a : 48 ≤ (c.toNat : Int) ∧ (c.toNat : Int) ≤ 57
          · rw [if_pos a] at hd; omega
          · omega
        · cases hq
    | some st' =>
      have e : feedR 10 st (c :: L) = ((feedR 10 st' L).1, (feedR 10 st' L).2 + 1) := by rw [feedR, hq]
      obtain ⟨i1, i2, i3⟩ := split_R L st'
      rw [e]
      refine ⟨fun x hx => ?_, ?_, fun x R h => ?_⟩
      · rw [List.take_succ_cons] at hx
        rcases List.mem_cons.1 hx with rfl | hx
        · unfold stepR at hq
          split at hq
          · rename_i h95; exact .inr (by omega)
          · split at hq
            · cases hq
            · rename_i hd
              unfold digR at hd
              by_cases a : 48 ≤ (x.toNat : Int) ∧ (x.toNat : Int) ≤ 57
              · exact .inl (by omega)
              · rw [if_neg a, if_neg (by omega)] at hd; omega
        · exact i1 x hx
      · rw [List.take_succ_cons, feedR, hq, List.length_cons]
        show ((feedR 10 st' (L.take (feedR 10 st' L).2)).1, (feedR 10 st' (L.take (feedR 10 st' L).2)).2 + 1) = _
        rw [i2]
      · rw [List.drop_succ_cons] at h
        exact i3 x R h
theorem num_let {c : UInt8} (h : isNum c) : ¬ isLet c := by unfold isNum at h; unfold isLet; omega
theorem feedT_num (T l : Int) : ∀ (D : List UInt8) (v : Int) (wh : Bool), (∀ c ∈ D, isNum c) → feedT ⟨T, l, v, wh, []⟩ D = (feed 10 (v, wh) D).map fun d => ⟨T, l, d.1, d.2, []⟩
  | [], _, _, _ => rfl
  | c :: D, v, wh, h => by
    rw [feedT, feed_cons, stepT_not _ c (num_let (h c List.mem_cons_self))]
    show ((stepD 10 (v, wh) (c.toNat : Int)).map fun d => (⟨T, l, d.1, d.2, []⟩ : TSt)).bind _ = _
    cases stepD 10 (v, wh) (c.toNat : Int) with
    | none => rfl
    | some d => exact feedT_num T l D d.1 d.2 (fun x hx => h x (List.mem_cons_of_mem _ hx))
theorem feedT_start (S : TSt) (T l : Int) (hS : partT S = some ⟨T, l, 0, false, []⟩) (D : List UInt8) (hne : D ≠ []) (h : ∀ c ∈ D, isNum c) : feedT S D = feedT ⟨T, l, 0, false, []⟩ D := by
  match D, hne, h with
  | c :: D, _, h =>
    have hc := num_let (h c List.mem_cons_self)
    rw [feedT, feedT, stepT_not S c hc, stepT_not _ c hc, hS]
    rfl
theorem stepD_no (st : Int × Bool) (c : UInt8) (h1 : ¬ isNum c) (h2 : ¬ isLet c) : stepD 10 st (c.toNat : Int) = none := by
  unfold isNum at h1
  unfold isLet at h2
  have hw : worthI (c.toNat : Int) = -1 := by unfold worthI; rw [if_neg (by omega), if_neg (by omega)]
  rw [stepD, if_neg (by omega), hw, if_pos (by omega)]

def RankL (l least : Int) : Prop := (l = 86400001 ∧ least = 5) ∨ (l = 86400000 ∧ least = 4) ∨ (l = 3600000 ∧ least = 3) ∨ (l = 60000 ∧ least = 2) ∨ (l = 1000 ∧ least = 1) ∨ (l = 1 ∧ least = 0)

/-- A unit, as both read it: what it is, its rank, and that no letter goes on with it. -/
structure UnitAt (R u R2 : List UInt8) (r Lu : Int) : Prop where
  app : R = u ++ R2
  ne : u ≠ []
  rank : rankR R = (r, u.length)
  r0 : 0 ≤ r
  len : unitL u = Lu
  worth : worthR r = Lu
  let_ : ∀ b ∈ u, isLet b
  link : RankL Lu r
  next : ∀ c R3, R2 = c :: R3 → isLet c → ∀ e, unitL (u ++ c :: e) = 0
theorem unitL_long (u : List UInt8) (h : 3 ≤ u.length) : unitL u = 0 := by
  have ne : ∀ m : List UInt8, m.length ≤ 2 → u ≠ m := fun m hm h2 => by rw [h2] at h; omega
  unfold unitL
  rw [if_neg (ne _ (by decide)), if_neg (ne _ (by decide)), if_neg (ne _ (by decide)), if_neg (ne _ (by decide)), if_neg (ne _ (by decide))]
theorem unitL_two (a c : UInt8) (h : a ≠ 109 ∨ c ≠ 115) : ∀ e, unitL ([a] ++ c :: e) = 0
  | [] => by
    unfold unitL
    rw [if_neg (by simp), if_neg (by simp), if_neg (by simp), if_neg (by simp), if_neg (by simp; intro h1 h2; rcases h with h | h; exact h h1; exact h h2)]
  | x :: e => unitL_long _ (by simp)
theorem toNat_ne {a : UInt8} {n : Nat} (hn : n < 256) (h : a.toNat ≠ n) : a ≠ UInt8.ofNat n := by
  intro h2; rw [h2] at h; simp at h; omega
theorem toNat_is {a : UInt8} {n : Nat} (h : a.toNat = n) : a = UInt8.ofNat n := by rw [← h]; simp

theorem unit_cases (x : UInt8) (R : List UInt8) : (∃ u R2 r Lu, UnitAt (x :: R) u R2 r Lu) ∨ (rankR (x :: R) = (-1, 1) ∧ ∀ e, unitL ([x] ++ e) = 0) := by
  by_cases a : x.toNat = 100
  · refine .inl ⟨[x], R, 4, 86400000, rfl, by simp, ?_, by omega, ?_, by decide, ?_, .inr (.inl ⟨rfl, rfl⟩), ?_⟩
    · rw [rankR, if_pos a]; rfl
    · rw [toNat_is a]; decide
    · intro b hb; simp at hb; subst hb; unfold isLet; omega
    · intro c R3 _ _ e; exact unitL_two x c (.inl (toNat_ne (n := 109) (by decide) (by omega))) e
  · by_cases b : x.toNat = 104
    · refine .inl ⟨[x], R, 3, 3600000, rfl, by simp, ?_, by omega, ?_, by decide, ?_, .inr (.inr (.inl ⟨rfl, rfl⟩)), ?_⟩
      · rw [rankR, if_neg a, if_pos b]; rfl
      · rw [toNat_is b]; decide
      · intro b' hb; simp at hb; subst hb; unfold isLet; omega
      · intro c R3 _ _ e; exact unitL_two x c (.inl (toNat_ne (n := 109) (by decide) (by omega))) e
    · by_cases c : x.toNat = 109
      · by_cases d : (R.headD 0).toNat = 115
        · match R, d with
          | y :: R2, d =>
            rw [List.headD_cons] at d
            refine .inl ⟨[x, y], R2, 0, 1, rfl, by simp, ?_, by omega, ?_, by decide, ?_, .inr (.inr (.inr (.inr (.inr ⟨rfl, rfl⟩)))), ?_⟩
            · rw [rankR, if_neg a, if_neg b, if_pos c, List.headD_cons, if_pos d]; rfl
            · rw [toNat_is c, toNat_is d]; decide
            · intro b' hb
              simp at hb
              rcases hb with rfl | rfl <;> (unfold isLet; omega)
            · intro c' R3 _ _ e; exact unitL_long _ (by simp)
          | [], d => exact absurd d (by decide)
        · refine .inl ⟨[x], R, 2, 60000, rfl, by simp, ?_, by omega, ?_, by decide, ?_, .inr (.inr (.inr (.inl ⟨rfl, rfl⟩))), ?_⟩
          · rw [rankR, if_neg a, if_neg b, if_pos c, if_neg d]; rfl
          · rw [toNat_is c]; decide
          · intro b' hb; simp at hb; subst hb; unfold isLet; omega
          · intro c' R3 hR _ e
            rw [hR, List.headD_cons] at d
            exact unitL_two x c' (.inr (toNat_ne (by decide) d)) e
      · by_cases d : x.toNat = 115
        · refine .inl ⟨[x], R, 1, 1000, rfl, by simp, ?_, by omega, ?_, by decide, ?_, .inr (.inr (.inr (.inr (.inl ⟨rfl, rfl⟩)))), ?_⟩
          · rw [rankR, if_neg a, if_neg b, if_neg c, if_pos d]; rfl
          · rw [toNat_is d]; decide
          · intro b' hb; simp at hb; subst hb; unfold isLet; omega
          · intro c' R3 _ _ e; exact unitL_two x c' (.inl (toNat_ne (n := 109) (by decide) (by omega))) e
        · refine .inr ⟨by rw [rankR, if_neg a, if_neg b, if_neg c, if_neg d], fun e => ?_⟩
          match e with
          | [] =>
            unfold unitL
            have n1 := toNat_ne (a := x) (n := 100) (by decide) a
            have n2 := toNat_ne (a := x) (n := 104) (by decide) b
            have n3 := toNat_ne (a := x) (n := 109) (by decide) c
            have n4 := toNat_ne (a := x) (n := 115) (by decide) d
            rw [if_neg (by simpa using n1), if_neg (by simpa using n2), if_neg (by simpa using n3), if_neg (by simpa using n4), if_neg (by simp)]
          | y :: e => exact unitL_two x y (.inl (toNat_ne (by decide) c)) e
end Go.Proofs.YtelgiffhgkbpeaaDoor
