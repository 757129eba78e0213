/- Texts put together: R1. -/
import Derived.Test.YtdcoidmbainkmaaGreatDoorQ02
import Derived.Test.YtdcoidmbainkmaaGreatDoorQ01
import Derived.RegionDies
namespace Go.Proofs.YtdcoidmbainkmaaGreatDoor
open Go.RowKit
attribute [local go_sem ↓] Go.wp_at_zero Go.wp_at_succ
set_option linter.unusedVariables false
set_option linter.unusedSimpArgs false
abbrev tokV (t : Tok) : Value := .agg #[.int .i64 t.c,.string t.x,.int .i64 t.n,.int .i64 t.a,.int .i64 t.e,.int .i64 t.f]
def RdAt (w : World) (R : Nat) (s : ByteArray) (t : Tok) (u : Int) : Prop :=
 w.heap[R]? = some (.cells #[.string s,.int .i64 t.c,.string t.x,.int .i64 t.n,.int .i64 t.a,.int .i64 t.e,.int .i64 t.f,.int .i64 u] 75)
theorem RdAt.cells {w : World} {R : Nat} {s : ByteArray} {t : Tok} {u : Int} (h : RdAt w R s t u) :
 w.cell? ⟨R,0,none⟩ = some (.string s) ∧ w.cell? ⟨R,1,none⟩ = some (.int .i64 t.c) ∧ w.cell? ⟨R,2,none⟩ = some (.string t.x) ∧ w.cell? ⟨R,3,none⟩ = some (.int .i64 t.n) ∧ w.cell? ⟨R,4,none⟩ = some (.int .i64 t.a) ∧ w.cell? ⟨R,5,none⟩ = some (.int .i64 t.e) ∧ w.cell? ⟨R,6,none⟩ = some (.int .i64 t.f) ∧ w.cell? ⟨R,7,none⟩ = some (.int .i64 u) := by
 have := fun i => at_cell (W := w) (p := R) h i
 exact ⟨by simpa using this 0,by simpa using this 1,by simpa using this 2,by simpa using this 3,by simpa using this 4,by simpa using this 5,by simpa using this 6,by simpa using this 7⟩
theorem RdAt.kept {w w' : World} {R : Nat} {s : ByteArray} {t : Tok} {u : Int} (h : RdAt w R s t u) (hg : w.grownBy w' none) : RdAt w' R s t u := Go.Proofs.YtdcoidmbainkmaaGreatDoor.kept hg h
theorem RdAt.drew {w : World} {R : Nat} {s : ByteArray} {t : Tok} {u : Int} (h : RdAt w R s t u) : RdAt w.drew R s t u := h
theorem RdAt.drewN {w : World} {R : Nat} {s : ByteArray} {t : Tok} {u : Int} (h : RdAt w R s t u) (k : Nat) : RdAt (w.drewN k) R s t u := h
theorem gtn {a b c : World} {r : Option Nat} (h : a.grownBy b r) (k : b.grownBy c none) : a.grownBy c r := grown_join h k (Or.inr (by simp))
theorem gtr {a b c : World} {R : Nat} (h : a.grownBy b (some R)) (k : b.grownBy c (some R)) : a.grownBy c (some R) := grown_join h k (Or.inl rfl)
theorem gnr {a b c : World} {R : Nat} (h : a.grownBy b none) (k : b.grownBy c (some R)) : a.grownBy c (some R) := grown_join (gr_none h) k (Or.inl rfl)
theorem gr1 (w : World) (o : Obj) : w.grownBy (w.alloc o) none := gr_alloc (World.grownBy.refl _ _) o
theorem RdAt.alloc {w : World} {R : Nat} {s : ByteArray} {t : Tok} {u : Int} (h : RdAt w R s t u) (o : Obj) : RdAt (w.alloc o) R s t u := (hp_old (at_lt h) o).trans h
theorem RdAt.put {w : World} {R : Nat} {s : ByteArray} {t : Tok} {u : Int} (h : RdAt w R s t u) (v : Tok) :
 RdAt ((((((w.setCell ⟨R,1,none⟩ (.int .i64 v.c)).setCell ⟨R,2,none⟩ (.string v.x)).setCell ⟨R,3,none⟩ (.int .i64 v.n)).setCell ⟨R,4,none⟩ (.int .i64 v.a)).setCell ⟨R,5,none⟩ (.int .i64 v.e)).setCell ⟨R,6,none⟩ (.int .i64 v.f)) R s v u := by
 have := (at_set (at_set (at_set (at_set (at_set (at_set h 1 (.int .i64 v.c)) 2 (.string v.x)) 3 (.int .i64 v.n)) 4 (.int .i64 v.a)) 5 (.int .i64 v.e)) 6 (.int .i64 v.f))
 simpa [RdAt] using this
theorem grPut {w W : World} {R : Nat} {a b c d e f : Value} (h : w.grownBy W (some R)) : w.grownBy ((((((W.setCell ⟨R,1,none⟩ a).setCell ⟨R,2,none⟩ b).setCell ⟨R,3,none⟩ c).setCell ⟨R,4,none⟩ d).setCell ⟨R,5,none⟩ e).setCell ⟨R,6,none⟩ f) (some R) :=
 gr_set (gr_set (gr_set (gr_set (gr_set (gr_set h _ _) _ _) _ _) _ _) _ _) _ _
theorem RdAt.ne {w : World} {R q : Nat} {s : ByteArray} {t : Tok} {u : Int} {cs : Array Value} {T : TypeId} (h : RdAt w R s t u) (k : w.heap[q]? = some (.cells cs T)) (hT : T ≠ 75) : q ≠ R := by
 rintro rfl; rw [h] at k; injection k with k; injection k with _ k; exact hT k.symm
theorem RdAt.keptBut {w w' : World} {R p : Nat} {s : ByteArray} {t : Tok} {u : Int} (h : RdAt w R s t u) (hg : w.grownBy w' (some p)) (hne : R ≠ p) : RdAt w' R s t u := Go.Proofs.YtdcoidmbainkmaaGreatDoor.keptBut hg h hne
abbrev tok0 : Obj := .cells #[.int .i64 0,.string ⟨#[]⟩,.int .i64 0,.int .i64 0,.int .i64 0,.int .i64 0] 73
abbrev tokO (t : Tok) : Obj := .cells #[.int .i64 t.c,.string t.x,.int .i64 t.n,.int .i64 t.a,.int .i64 t.e,.int .i64 t.f] 73
abbrev flt (c u a : Int) : Ending := .panicked [{ v := .iface 25 (.agg #[.int .i64 c,.int .i64 u,.int .i64 a]),recovered := false }]
theorem eqS2 (a b : ByteArray) : (a.toList == b.toList) = decide (a = b) := by
 rw [Bool.eq_iff_iff]
 simp only [beq_iff_eq,decide_eq_true_eq,ByteArray.toList_eq]
 constructor
 · intro h; cases a; cases b; simp at h; rw [h]
 · rintro rfl; rfl
theorem eqS (a : ByteArray) (l : List UInt8) : (a.toList == l) = decide (a = ⟨l.toArray⟩) := by
 rw [← eqS2]; congr 1; simp [ByteArray.toList_eq]
def Vs (V w : World) : Prop := ∀ b,b < 15 → w.heap[b]? = V.heap[b]?
theorem Vs.kept {V w w' : World} {r : Option Nat} (h : Vs V w) (hg : w.grownBy w' r) (hs : 15 ≤ w.heap.size) (hr : ∀ k,r = some k → 15 ≤ k) : Vs V w' := fun b hb => by
 rw [hg.block b (by omega) (fun e => by have := hr b e.symm; omega)]; exact h b hb
structure Tabs (V : World) : Prop where
 ow : V.heap[9]? = some (.cells #[.string ⟨#[]⟩,.string ⟨#[43]⟩,.string ⟨#[45]⟩,.string ⟨#[42]⟩,.string ⟨#[47]⟩,.string ⟨#[109,111,100]⟩,.string ⟨#[97,110,100]⟩,.string ⟨#[111,114]⟩,.string ⟨#[120,111,114]⟩,.string ⟨#[61]⟩,.string ⟨#[60,62]⟩,.string ⟨#[60]⟩,.string ⟨#[60,61]⟩,.string ⟨#[62]⟩,.string ⟨#[62,61]⟩] 201)
 ol : V.heap[3]? = some (.cells #[.int .i64 0,.int .i64 6,.int .i64 6,.int .i64 7,.int .i64 7,.int .i64 7,.int .i64 3,.int .i64 1,.int .i64 2,.int .i64 4,.int .i64 4,.int .i64 5,.int .i64 5,.int .i64 5,.int .i64 5] 158)
 kw : V.heap[1]? = some (.cells #[.string ⟨#[]⟩,.string ⟨#[98,111,111,108]⟩,.string ⟨#[105,110,116]⟩,.string ⟨#[100,105,110,116]⟩,.string ⟨#[119,111,114,100]⟩,.string ⟨#[116,105,109,101]⟩] 124)
 rw : V.heap[2]? = some (.cells #[.string ⟨#[]⟩,.string ⟨#[118,97,114]⟩,.string ⟨#[118,97,114,95,105,110,112,117,116]⟩,.string ⟨#[118,97,114,95,111,117,116,112,117,116]⟩,.string ⟨#[118,97,114,95,101,120,116,101,114,110,97,108]⟩,.string ⟨#[118,97,114,32,114,101,116,97,105,110]⟩] 124)
 uw : V.heap[0]? = some (.cells #[.string ⟨#[]⟩,.string ⟨#[112,114,111,103,114,97,109]⟩,.string ⟨#[102,117,110,99,116,105,111,110]⟩,.string ⟨#[102,117,110,99,116,105,111,110,95,98,108,111,99,107]⟩] 82)
def Scn (V : World) (s : ByteArray) (F : Int → Tok) : Prop := ∀ (i : Int) (w : World),0 ≤ i → i ≤ s.size → Vs V w → 15 ≤ w.heap.size →
 Calls Tryz.prog 63 #[.string s,.int .i64 i] w fun e w' => e = .returned (tokV (F i)) ∧ w.grownBy w' none
theorem giveUp_any (R : Nat) (s : ByteArray) (t : Tok) (u c a : Int) (w : World) (h : RdAt w R s t u) :
 Calls Tryz.prog 42 #[.pointer (some ⟨R,0,none⟩),.int .i64 c,.int .i64 a] w fun e w' => e = flt c u a ∧ w = w' := by
 obtain ⟨h0,h1,h2,h3,h4,h5,h6,h7⟩ := h.cells
 go_enter Tryz.func42,Tryz.ntmps42
 go_wp2
 exact ⟨rfl,rfl,rfl⟩
theorem look_bad (R : Nat) (s : ByteArray) (t : Tok) (u : Int) (w : World) (h : RdAt w R s t u) (hc : t.c = 0) :
 Calls Tryz.prog 40 #[.pointer (some ⟨R,0,none⟩)] w fun e w' => e = flt t.f u t.a ∧ w.grownBy w' none := by
 have hA : ∀ o,RdAt (w.alloc o) R s t u := fun o => (hp_old (at_lt h) o).trans h
 obtain ⟨h0,h1,h2,h3,h4,h5,h6,h7⟩ := h.cells
 obtain ⟨k0,k1,k2,k3,k4,k5,k6,k7⟩ := (hA (.cells #[.int .i64 0,.string ⟨#[]⟩,.int .i64 0,.int .i64 0,.int .i64 0,.int .i64 0] 73)).cells
 rw [hc] at h1 k1
 go_enter Tryz.func40,Tryz.ntmps40
 go_wp2_with fail
 go_region_dies
 all_goals (refine (giveUp_any R s t u _ _ _ (hA _).drew).mono ?_; rintro e w' ⟨rfl,rfl⟩; exact ⟨rfl,rfl,gr_drew (gr_alloc (World.grownBy.refl _ _) _)⟩)
theorem look_ok (R : Nat) (s : ByteArray) (t : Tok) (u : Int) (w : World) (h : RdAt w R s t u) (hc : t.c ≠ 0) :
 Calls Tryz.prog 40 #[.pointer (some ⟨R,0,none⟩)] w fun e w' => e = .returned (tokV t) ∧ w.grownBy w' none := by
 have hA : ∀ o,RdAt (w.alloc o) R s t u := fun o => (hp_old (at_lt h) o).trans h
 obtain ⟨h0,h1,h2,h3,h4,h5,h6,h7⟩ := h.cells
 obtain ⟨k0,k1,k2,k3,k4,k5,k6,k7⟩ := (hA (.cells #[.int .i64 0,.string ⟨#[]⟩,.int .i64 0,.int .i64 0,.int .i64 0,.int .i64 0] 73)).cells
 go_enter Tryz.func40,Tryz.ntmps40
 go_wp2
 exact bodyPost_ret (v := tokV t) (by simp [results,Tryz.results40,go_sem,tokV]) rfl ⟨rfl,gr_alloc (World.grownBy.refl _ _) _⟩
end Go.Proofs.YtdcoidmbainkmaaGreatDoor
