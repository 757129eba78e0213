/- Where the law of TasksMeet stands in memory. -/
import Derived.Test.YtholmeebkgpjjaaBd
import Derived.Test.YtholmeebkgpjjaaPe
namespace Go.Proofs.Ytholmeebkgpjjaa
open Go.RowKit
attribute [local go_sem ↓] Go.wp_at_zero Go.wp_at_succ
set_option linter.unusedVariables false
set_option linter.unusedSimpArgs false

/-- What each task's job at hand has had, how many jobs are done. -/
structure MeM (w3 : World) (uw uj n : Nat) (f g : Nat → Int) (wx : World) : Prop where
  w : wx.heap[uw]? = some (.cells (dcells n f).toArray 3)
  j : wx.heap[uj]? = some (.cells (dcells n g).toArray 3)
  grown : w3.grownBy wx none
section
variable {w3 wx w' : World} {uw uj n : Nat} {f g : Nat → Int}
theorem MeM.grow (h : MeM w3 uw uj n f g wx) (hg : wx.grownBy w' none) : MeM w3 uw uj n f g w' := ⟨kept hg h.w, kept hg h.j, grown_join h.grown hg (.inl rfl)⟩
theorem MeM.putW (h : MeM w3 uw uj n f g wx) (hne : uw ≠ uj) (hb : w3.heap.size ≤ uw) (i : Nat) (x : Int) : MeM w3 uw uj n (upd f i x) g (wx.setCell ⟨uw, i, none⟩ (.int .i64 x)) := by
  have hg : wx.grownBy (wx.setCell ⟨uw, i, none⟩ (.int .i64 x)) (some uw) := gr_set (World.grownBy.refl _ _) _ _
  refine ⟨?_, keptBut hg h.j (fun e => hne e.symm), gr_own h.grown hb _ _⟩
  have := at_set h.w i (.int .i64 x)
  rwa [dcells_set] at this
theorem MeM.putJ (h : MeM w3 uw uj n f g wx) (hne : uw ≠ uj) (hb : w3.heap.size ≤ uj) (i : Nat) (x : Int) : MeM w3 uw uj n f (upd g i x) (wx.setCell ⟨uj, i, none⟩ (.int .i64 x)) := by
  have hg : wx.grownBy (wx.setCell ⟨uj, i, none⟩ (.int .i64 x)) (some uj) := gr_set (World.grownBy.refl _ _) _ _
  refine ⟨keptBut hg h.w hne, ?_, gr_own h.grown hb _ _⟩
  have := at_set h.j i (.int .i64 x)
  rwa [dcells_set] at this
theorem MeM.wc (h : MeM w3 uw uj n f g wx) {i : Nat} (hi : i < n) : wx.cell? ⟨uw, i, none⟩ = some (.int .i64 (f i)) := by rw [at_cell h.w, dcells_get hi]
theorem MeM.jc (h : MeM w3 uw uj n f g wx) {i : Nat} (hi : i < n) : wx.cell? ⟨uj, i, none⟩ = some (.int .i64 (g i)) := by rw [at_cell h.j, dcells_get hi]
theorem MeM.wf (h : MeM w3 uw uj n f g wx) (i : Nat) : wx.frozen? ⟨uw, i, none⟩ = false := at_frozen h.w i
theorem MeM.jf (h : MeM w3 uw uj n f g wx) (i : Nat) : wx.frozen? ⟨uj, i, none⟩ = false := at_frozen h.j i
theorem MeM.lt (h : MeM w3 uw uj n f g wx) : uw < wx.heap.size ∧ uj < wx.heap.size := ⟨at_lt h.w, at_lt h.j⟩
end
def wkF (m : List Tk) (p : List Sl) (j : Nat) : Int := Wk p j % (tk m j).cost
def jbF (m : List Tk) (p : List Sl) (j : Nat) : Int := Wk p j / (tk m j).cost
theorem wk_part {m : List Tk} {idle : Bool} {u : Nat} {p : List Sl} {x : Sl} {i : Nat} (ho : Oks m) (h : MeetAt m idle u p x i) (hn : wkF m p i + (x.to - x.fr) ≠ (tk m i).cost) : upd (wkF m p) i (wkF m p i + (x.to - x.fr)) = wkF m (p ++ [x]) ∧ jbF m p = jbF m (p ++ [x]) := by
  have ht := tk_ok ho h.hi
  have h1 := h.work
  have h2 := h.lt
  unfold wkF at hn
  obtain ⟨s1, s2⟩ := step_part (a := Wk p i) (c := (tk m i).cost) (d := x.to - x.fr) (by omega) (by omega) (by omega)
  constructor
  · funext j
    unfold wkF upd
    by_cases e : j = i
    · subst e; rw [if_pos rfl, Wk_snoc_same h.task, s2]
    · rw [if_neg e, Wk_snoc_other h.task e]
  · funext j
    unfold jbF
    by_cases e : j = i
    · subst e; rw [Wk_snoc_same h.task, s1]
    · rw [Wk_snoc_other h.task e]
theorem wk_full {m : List Tk} {idle : Bool} {u : Nat} {p : List Sl} {x : Sl} {i : Nat} (ho : Oks m) (h : MeetAt m idle u p x i) (hn : wkF m p i + (x.to - x.fr) = (tk m i).cost) : upd (upd (wkF m p) i (wkF m p i + (x.to - x.fr))) i 0 = wkF m (p ++ [x]) ∧ upd (jbF m p) i (jbF m p i + 1) = jbF m (p ++ [x]) := by
  have ht := tk_ok ho h.hi
  unfold wkF at hn
  obtain ⟨s1, s2⟩ := step_full (a := Wk p i) (c := (tk m i).cost) (d := x.to - x.fr) (by omega) hn
  constructor
  · funext j
    rw [upd_upd]
    unfold wkF upd
    by_cases e : j = i
    · subst e; rw [if_pos rfl, Wk_snoc_same h.task, s2]
    · rw [if_neg e, Wk_snoc_other h.task e]
  · funext j
    unfold jbF upd
    by_cases e : j = i
    · subst e; rw [if_pos rfl, Wk_snoc_same h.task, s1]
    · rw [if_neg e, Wk_snoc_other h.task e]
theorem wk_nil (m : List Tk) : wkF m [] = (fun _ => 0) ∧ jbF m [] = (fun _ => 0) := by
  constructor <;> funext j <;> simp [wkF, jbF, Wk]
theorem duty_off (l : List Dy) (most : Nat) : ∀ i, i < (dutyL l most true).length → (tk (dutyL l most true) i).off = 0 := fun i hi => by
  have hm : tk (dutyL l most true) i ∈ dutyL l most true := by
    unfold tk
    rw [List.getD_eq_getElem?_getD, List.getElem?_eq_getElem hi]
    exact List.getElem_mem hi
  unfold dutyL at hm ⊢
  rcases List.mem_cons.1 hm with e | e
  · rw [e]; rfl
  · obtain ⟨d, _, e2⟩ := List.mem_map.1 e
    rw [← e2]; simp [dT, dO]
theorem resp_rep {l : List Tk} (h1 : 1 ≤ l.length) (h16 : l.length ≤ 16) (ho : Oks l) (h : (respS l).2.1 = 0) : ∀ i, i < l.length → (rep l i).isSome = true := by
  have hz := look_zero h16 h1 ho
  intro i hi
  cases hc : firstB (fun j => (rep l j).isSome) l.length with
  | none => exact firstB_none.1 hc i hi
  | some j =>
    obtain ⟨a1, a2, a3⟩ := firstB_some.1 hc
    have := resp_slow (l := l) (by rw [hz]) a1 (by simpa using a2) a3
    rw [this] at h
    simp at h
theorem resp_slow_all {l : List Tk} (h1 : 1 ≤ l.length) (h16 : l.length ≤ 16) (ho : Oks l) (h : (respS l).2.1 ≠ 0) : ∃ z, respS l = ([], 13, z) := by
  have hz := look_zero h16 h1 ho
  cases hc : firstB (fun j => (rep l j).isSome) l.length with
  | none =>
    rw [resp_all (by rw [hz]) (firstB_none.1 hc)] at h
    simp at h
  | some j =>
    obtain ⟨a1, a2, a3⟩ := firstB_some.1 hc
    exact ⟨_, resp_slow (l := l) (by rw [hz]) a1 (by simpa using a2) a3⟩
theorem play_is {l : List Tk} (h1 : 1 ≤ l.length) (h16 : l.length ≤ 16) (ho : Oks l) : playS l 1200 = ((doc l 1200).2, 0, 0) := by
  unfold playS
  rw [if_neg (by rw [look_zero h16 h1 ho]; simp), if_neg (by omega)]
  rfl
theorem rep_bd {l : List Tk} (ho : Oks l) {i : Nat} (hi : i < l.length) (hf : (rep l i).isSome = true) : 1 ≤ repV l i ∧ repV l i ≤ 1000000 := by
  obtain ⟨s0, hs0⟩ := Option.isSome_iff_exists.1 hf
  have hrv : repV l i = (s0 : Int) + 1 := by simp [repV, hs0]
  obtain ⟨h1, _, _⟩ := lfp_some.1 hs0
  have ht := tk_ok ho hi
  unfold tk at ht
  omega
end Go.Proofs.Ytholmeebkgpjjaa
