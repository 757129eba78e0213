/- Three trips side by side. -/
import Derived.Test.YtefekafpmnaeoaaAh
namespace Go.Proofs.Ytefekafpmnaeoaa
open Go.RowKit
attribute [local go_sem ↓] Go.wp_at_zero Go.wp_at_succ
set_option linter.unusedVariables false
set_option linter.unusedSimpArgs false

theorem TBx.lt {w : World} {q n : Nat} {Q : List Nat} {T : Tr} (h : TBx w q Q n T) : q < w.heap.size := by
  obtain ⟨a, c, h1, _⟩ := h
  exact at_lt h1
theorem TBx.sub {w : World} {q n : Nat} {Q Q' : List Nat} {T : Tr} (h : TBx w q Q n T) (hQ : ∀ x ∈ Q', x ∈ Q) : TBx w q Q' n T := by
  obtain ⟨a, c, h1, h2, h3, h4⟩ := h
  exact ⟨a, c, h1, h2, h3, fun x hx hm => h4 x hx (hQ x hm)⟩
/-- Three trips in their boxes, and what is told beside. -/
structure Six (w5 W : World) (q15 q17 q19 n B : Nat) (T U V : Tr) (ta : Option Addr) (tc : Nat) (told : List Int) (lg lc : Nat) (loud : List Int) : Prop where
  g : w5.grownBy W none
  t : TBx W q15 [q15, q17, q19] n T
  u : TBx W q17 [q15, q17, q19] n U
  v : TBx W q19 [q15, q17, q19] n V
  ot : OwnL B W ta tc told
  ol : OwnL B W (some ⟨lg, 0, none⟩) lc loud
  a15 : w5.heap.size ≤ q15
  a17 : q15 < q17
  a19 : q17 < q19
  aB : q19 < B

theorem Six.putT {w5 W W' : World} {q15 q17 q19 n B : Nat} {T U V : Tr} {ta : Option Addr} {tc : Nat} {told : List Int} {lg lc : Nat} {loud : List Int} (h : Six w5 W q15 q17 q19 n B T U V ta tc told lg lc loud) (Z : Tr) {a : Option Addr} {c : Nat} (g9 : W.grownBy W' none) (o : OwnL W.heap.size W' a c Z.h) (hn : Z.h.length = n) :
    Six w5 ((((W'.setCell ⟨q15, 0, none⟩ (.bool Z.d)).setCell ⟨q15, 1, none⟩ (.int .i64 Z.f)).setCell ⟨q15, 2, none⟩ (.slice a n c)).setCell ⟨q15, 3, none⟩ (.bool Z.k)) q15 q17 q19 n B Z U V ta tc told lg lc loud := by
  have e15 := h.t.lt
  have e17 := h.u.lt
  have e19 := h.v.lt
  have hB : ∀ x ∈ [q15, q17, q19], x < W.heap.size := fun x hx => by simp at hx; omega
  have gg : W'.grownBy ((((W'.setCell ⟨q15, 0, none⟩ (.bool Z.d)).setCell ⟨q15, 1, none⟩ (.int .i64 Z.f)).setCell ⟨q15, 2, none⟩ (.slice a n c)).setCell ⟨q15, 3, none⟩ (.bool Z.k)) (some q15) := gr4 (World.grownBy.refl _ _)
  have a1 := h.a15
  have a2 := h.a17
  have a3 := h.a19
  have a4 := h.aB
  refine ⟨grown_join (grown_join h.g g9 (.inl rfl)) gg (.inr (fun x hx => by injection hx with hx; omega)), ?_, ?_, ?_, own_ne (h.ot.kept g9) gg (fun x hx e => ?_), own_ne (h.ol.kept g9) gg (fun x hx e => ?_), a1, a2, a3, a4⟩
  · exact (h.t.grow g9).put o hB hn (by simp)
  · exact (h.u.grow g9).but gg (by simp) (by omega)
  · exact (h.v.grow g9).but gg (by simp) (by omega)
  · injection e with e
    have := own_lt (h.ot.kept g9) x hx
    omega
  · injection e with e
    have := own_lt (h.ol.kept g9) x hx
    omega

theorem Six.putU {w5 W W' : World} {q15 q17 q19 n B : Nat} {T U V : Tr} {ta : Option Addr} {tc : Nat} {told : List Int} {lg lc : Nat} {loud : List Int} (h : Six w5 W q15 q17 q19 n B T U V ta tc told lg lc loud) (Z : Tr) {a : Option Addr} {c : Nat} (g9 : W.grownBy W' none) (o : OwnL W.heap.size W' a c Z.h) (hn : Z.h.length = n) :
    Six w5 ((((W'.setCell ⟨q17, 0, none⟩ (.bool Z.d)).setCell ⟨q17, 1, none⟩ (.int .i64 Z.f)).setCell ⟨q17, 2, none⟩ (.slice a n c)).setCell ⟨q17, 3, none⟩ (.bool Z.k)) q15 q17 q19 n B T Z V ta tc told lg lc loud := by
  have e15 := h.t.lt
  have e17 := h.u.lt
  have e19 := h.v.lt
  have hB : ∀ x ∈ [q15, q17, q19], x < W.heap.size := fun x hx => by simp at hx; omega
  have gg : W'.grownBy ((((W'.setCell ⟨q17, 0, none⟩ (.bool Z.d)).setCell ⟨q17, 1, none⟩ (.int .i64 Z.f)).setCell ⟨q17, 2, none⟩ (.slice a n c)).setCell ⟨q17, 3, none⟩ (.bool Z.k)) (some q17) := gr4 (World.grownBy.refl _ _)
  have a1 := h.a15
  have a2 := h.a17
  have a3 := h.a19
  have a4 := h.aB
  refine ⟨grown_join (grown_join h.g g9 (.inl rfl)) gg (.inr (fun x hx => by injection hx with hx; omega)), ?_, ?_, ?_, own_ne (h.ot.kept g9) gg (fun x hx e => ?_), own_ne (h.ol.kept g9) gg (fun x hx e => ?_), a1, a2, a3, a4⟩
  · exact (h.t.grow g9).but gg (by simp) (by omega)
  · exact (h.u.grow g9).put o hB hn (by simp)
  · exact (h.v.grow g9).but gg (by simp) (by omega)
  · injection e with e
    have := own_lt (h.ot.kept g9) x hx
    omega
  · injection e with e
    have := own_lt (h.ol.kept g9) x hx
    omega

theorem Six.putV {w5 W W' : World} {q15 q17 q19 n B : Nat} {T U V : Tr} {ta : Option Addr} {tc : Nat} {told : List Int} {lg lc : Nat} {loud : List Int} (h : Six w5 W q15 q17 q19 n B T U V ta tc told lg lc loud) (Z : Tr) {a : Option Addr} {c : Nat} (g9 : W.grownBy W' none) (o : OwnL W.heap.size W' a c Z.h) (hn : Z.h.length = n) :
    Six w5 ((((W'.setCell ⟨q19, 0, none⟩ (.bool Z.d)).setCell ⟨q19, 1, none⟩ (.int .i64 Z.f)).setCell ⟨q19, 2, none⟩ (.slice a n c)).setCell ⟨q19, 3, none⟩ (.bool Z.k)) q15 q17 q19 n B T U Z ta tc told lg lc loud := by
  have e15 := h.t.lt
  have e17 := h.u.lt
  have e19 := h.v.lt
  have hB : ∀ x ∈ [q15, q17, q19], x < W.heap.size := fun x hx => by simp at hx; omega
  have gg : W'.grownBy ((((W'.setCell ⟨q19, 0, none⟩ (.bool Z.d)).setCell ⟨q19, 1, none⟩ (.int .i64 Z.f)).setCell ⟨q19, 2, none⟩ (.slice a n c)).setCell ⟨q19, 3, none⟩ (.bool Z.k)) (some q19) := gr4 (World.grownBy.refl _ _)
  have a1 := h.a15
  have a2 := h.a17
  have a3 := h.a19
  have a4 := h.aB
  refine ⟨grown_join (grown_join h.g g9 (.inl rfl)) gg (.inr (fun x hx => by injection hx with hx; omega)), ?_, ?_, ?_, own_ne (h.ot.kept g9) gg (fun x hx e => ?_), own_ne (h.ol.kept g9) gg (fun x hx e => ?_), a1, a2, a3, a4⟩
  · exact (h.t.grow g9).but gg (by simp) (by omega)
  · exact (h.u.grow g9).but gg (by simp) (by omega)
  · exact (h.v.grow g9).put o hB hn (by simp)
  · injection e with e
    have := own_lt (h.ot.kept g9) x hx
    omega
  · injection e with e
    have := own_lt (h.ol.kept g9) x hx
    omega

/-- A step, its trip in a box. -/
theorem step_q (D : Nat) (L : List (Int × List Int)) (T : Tr) (told : List Int) (n : Nat) (v t : Value) (a : Option Addr) (c : Nat) (X : World) (hv : rdVs X v L) (ho : OwnL 0 X a c T.h) (ht : rd X t told) (hck : (checkF 6 (D : Int) L).1 = 0) (hOk : OkL L) (hn : L.length = n) (hn16 : n ≤ 16) (hmay : mayB (D : Int) n T = true) (hl6 : told.length = 6) (hok : told.any tl = false) (U : Tr) (hU : nextT (D : Int) L T told false = U) :
    Calls Try.prog 16 #[.agg #[.int .i64 6, .int .i64 (D : Int), v], .agg #[.bool T.d, .int .i64 T.f, .slice a n c, .bool T.k], t, .bool false] X fun e w' => ∃ a' c', e = .returned (.tuple #[.agg #[.bool U.d, .int .i64 U.f, .slice a' n c', .bool U.k], .int .i64 0]) ∧ OwnL X.heap.size w' a' c' U.h ∧ X.grownBy w' none := by
  have hhn : T.h.length = n := (mayB_iff.1 hmay).1
  have hm' : mayB (D : Int) L.length T = true := by rw [hn]; exact hmay
  have hmU : mayB (D : Int) n U = true := by rw [← hU, ← hn]; exact next_may (by omega) hm'
  have hUn : U.h.length = n := (mayB_iff.1 hmU).1
  have hE0 : stepE 6 (D : Int) L T told = 0 := step_zero hck hm' (by rw [hl6]; rfl) hok
  have hUU : stepT 6 (D : Int) L T told false = U := by unfold stepT; rw [hE0, if_pos rfl, hU]
  have cS := step_any 6 (D : Int) L T told false v _ t X hv ho.rd ht hOk (by omega) (by omega)
  rw [hE0, hUU, hhn] at cS
  refine cS.mono ?_
  rintro e w' ⟨V, rfl, a', c', rfl, o, g⟩
  refine ⟨a', c', ?_, o, g⟩
  rw [hUn]
  rfl
theorem rd_last (W : World) : rd (W.alloc (.cells #[.int .i64 1, .int .i64 1, .int .i64 2, .int .i64 0, .int .i64 0, .int .i64 0] 3)) (.slice (some ⟨W.heap.size, 0, none⟩) 6 6) [1, 1, 2, 0, 0, 0] := by
  refine ⟨_, 6, rfl, .inr ⟨_, 0, rfl, fun i hi => ?_⟩⟩
  have hh := heap_alloc_new W (.cells #[.int .i64 1, .int .i64 1, .int .i64 2, .int .i64 0, .int .i64 0, .int .i64 0] 3)
  have : i = 0 ∨ i = 1 ∨ i = 2 ∨ i = 3 ∨ i = 4 ∨ i = 5 := by simp at hi; omega
  rcases this with h | h | h | h | h | h <;> subst h <;> rw [at_cell hh] <;> rfl
end Go.Proofs.Ytefekafpmnaeoaa
