/- Texts put together: Tr, Wl, R7. -/
import Derived.Test.YtdcoidmbainkmaaGreatDoorQ04
import Derived.Test.YtdcoidmbainkmaaGreatDoorQ02
import Derived.Deep.RegionHeld3
namespace Go.Proofs.YtdcoidmbainkmaaGreatDoor
open Go.RowKit
set_option linter.unusedVariables false
set_option linter.unusedSimpArgs false
def PE.kids : PE → List PE | .mk _ _ _ _ _ _ _ k => k
def xC : PE → Value → List Value | .mk f o kd n nm pt a _,k => [.int .i64 f,.int .i64 o,.int .i64 kd,.int .i64 n,.string nm,.string pt,.int .i64 a,k]
theorem xC_len (e : PE) (k : Value) : (xC e k).length = 8 := by cases e; rfl
def Row (w : World) (ok : Nat → Prop) (T : Nat) (v : Value) (n : Nat) (cs : List Value) : Prop :=
 ∃ a cap,v = .slice a n cap ∧ n ≤ 1000000 ∧ (n = 0 ∧ cs = [] ∨ ∃ b off arr,a = some ⟨b,off,none⟩ ∧ ok b ∧ b < w.heap.size ∧ w.heap[b]? = some (.cells arr T) ∧ ∀ k,k < cs.length → arr[off + k]? = cs[k]?)
theorem Row.kept {w w' : World} {ok : Nat → Prop} {T : Nat} {v : Value} {n : Nat} {cs : List Value} (h : Row w ok T v n cs) (hk : ∀ b,ok b → b < w.heap.size → w'.heap[b]? = w.heap[b]?) (hs : w.heap.size ≤ w'.heap.size) : Row w' ok T v n cs := by
 obtain ⟨a,cap,hv,hn,h⟩ := h
 refine ⟨a,cap,hv,hn,?_⟩
 rcases h with h | ⟨b,off,arr,h1,h2,h3,h4,h5⟩
 · exact Or.inl h
 · exact Or.inr ⟨b,off,arr,h1,h2,by omega,by rw [hk b h2 h3]; exact h4,h5⟩
theorem Row.imp {w : World} {ok ok' : Nat → Prop} {T : Nat} {v : Value} {n : Nat} {cs : List Value} (h : Row w ok T v n cs) (hk : ∀ b,b < w.heap.size → ok b → ok' b) : Row w ok' T v n cs := by
 obtain ⟨a,cap,hv,hn,h⟩ := h
 refine ⟨a,cap,hv,hn,?_⟩
 rcases h with h | ⟨b,off,arr,h1,h2,h3,h4,h5⟩
 · exact Or.inl h
 · exact Or.inr ⟨b,off,arr,h1,hk b h3 h2,h3,h4,h5⟩
theorem Row.nil (w : World) (ok : Nat → Prop) (T : Nat) : Row w ok T (.slice none 0 0) 0 [] := ⟨none,0,rfl,by omega,Or.inl ⟨rfl,rfl⟩⟩
inductive Xs (w : World) (ok : Nat → Prop) : Value → List PE → Prop
 | mk (v : Value) (l : List PE) (ks : List Value) (hl : ks.length = l.length) (hr : Row w ok 61 v l.length ((l.zip ks).flatMap fun p => xC p.1 p.2)) (hk : ∀ p,p ∈ l.zip ks → Xs w ok p.2 p.1.kids) : Xs w ok v l
def Xe (w : World) (ok : Nat → Prop) (v : Value) (e : PE) : Prop := ∃ k,v = .agg (xC e k).toArray ∧ Xs w ok k e.kids
theorem Xs.kept {w w' : World} {ok : Nat → Prop} (hk : ∀ b,ok b → b < w.heap.size → w'.heap[b]? = w.heap[b]?) (hs : w.heap.size ≤ w'.heap.size) {v : Value} {l : List PE} (h : Xs w ok v l) : Xs w' ok v l := by
 induction h with
 | mk v l ks hl hr _ ih => exact .mk v l ks hl (hr.kept hk hs) ih
theorem Xs.imp {w : World} {ok ok' : Nat → Prop} (hk : ∀ b,b < w.heap.size → ok b → ok' b) {v : Value} {l : List PE} (h : Xs w ok v l) : Xs w ok' v l := by
 induction h with
 | mk v l ks hl hr _ ih => exact .mk v l ks hl (hr.imp hk) ih
theorem Xs.nil (w : World) (ok : Nat → Prop) : Xs w ok (.slice none 0 0) [] := .mk _ _ [] rfl (Row.nil _ _ _) (by simp)
abbrev nw (w : World) : Nat → Prop := fun b => w.heap.size ≤ b
theorem Xs.grow {w0 w w' : World} {R : Nat} {v : Value} {l : List PE} (h : Xs w (nw w0) v l) (hg : w.grownBy w' (some R)) (hR : R < w0.heap.size) : Xs w' (nw w0) v l :=
 h.kept (fun b hb hl => hg.block b hl (by have : w0.heap.size ≤ b := hb; simp; omega)) hg.size
theorem Xs.from {w0 w1 w : World} {v : Value} {l : List PE} (h : Xs w (nw w1) v l) (hs : w0.heap.size ≤ w1.heap.size) : Xs w (nw w0) v l := h.imp (fun b _ (hb : w1.heap.size ≤ b) => (by omega : w0.heap.size ≤ b))
theorem Xe.kept {w w' : World} {ok : Nat → Prop} {v : Value} {e : PE} (h : Xe w ok v e) (hk : ∀ b,ok b → b < w.heap.size → w'.heap[b]? = w.heap[b]?) (hs : w.heap.size ≤ w'.heap.size) : Xe w' ok v e := by
 obtain ⟨k,hv,hx⟩ := h; exact ⟨k,hv,hx.kept hk hs⟩
theorem Xe.grow {w0 w w' : World} {R : Nat} {v : Value} {e : PE} (h : Xe w (nw w0) v e) (hg : w.grownBy w' (some R)) (hR : R < w0.heap.size) : Xe w' (nw w0) v e := by
 obtain ⟨k,hv,hx⟩ := h; exact ⟨k,hv,hx.grow hg hR⟩
theorem Xe.gn {w0 w w' : World} {v : Value} {e : PE} {ok : Nat → Prop} (h : Xe w ok v e) (hg : w.grownBy w' none) : Xe w' ok v e := h.kept (fun b _ hl => hg.block b hl (by simp)) hg.size
theorem Xs.gn {w0 w w' : World} {v : Value} {e : List PE} {ok : Nat → Prop} (h : Xs w ok v e) (hg : w.grownBy w' none) : Xs w' ok v e := h.kept (fun b _ hl => hg.block b hl (by simp)) hg.size
theorem Xe.from {w0 w1 w : World} {v : Value} {e : PE} (h : Xe w (nw w1) v e) (hs : w0.heap.size ≤ w1.heap.size) : Xe w (nw w0) v e := by
 obtain ⟨k,hv,hx⟩ := h; exact ⟨k,hv,hx.from hs⟩
theorem xs_one {W : World} {ok : Nat → Prop} {e : PE} {k : Value} (hx : Xs W ok k e.kids) (hb : ok W.heap.size) : Xs (W.alloc (.cells (xC e k).toArray 61)) ok (.slice (some ⟨W.heap.size,0,none⟩) 1 1) [e] := by
 refine .mk _ _ [k] rfl ⟨_,_,rfl,by simp,Or.inr ⟨_,_,_,rfl,hb,by simp,new W _,fun j hj => by simp⟩⟩ ?_
 intro p hp
 simp at hp
 subst hp
 exact hx.gn (w0 := W) (gr1 _ _)
theorem xs_two {W : World} {ok : Nat → Prop} {e1 e2 : PE} {k1 k2 : Value} (h1 : Xs W ok k1 e1.kids) (h2 : Xs W ok k2 e2.kids) (hb : ok W.heap.size) : Xs (W.alloc (.cells (xC e1 k1 ++ xC e2 k2).toArray 61)) ok (.slice (some ⟨W.heap.size,0,none⟩) 2 2) [e1,e2] := by
 refine .mk _ _ [k1,k2] rfl ⟨_,_,rfl,by simp,Or.inr ⟨_,_,_,rfl,hb,by simp,new W _,fun j hj => by simp⟩⟩ ?_
 intro p hp
 simp at hp
 rcases hp with rfl | rfl
 · exact h1.gn (w0 := W) (gr1 _ _)
 · exact h2.gn (w0 := W) (gr1 _ _)
def bt (lo hi : Nat) : Nat → Prop := fun b => lo ≤ b ∧ b < hi
theorem Xs.tag {w0 w : World} {v : Value} {l : List PE} (h : Xs w (nw w0) v l) (lo : Nat) (hlo : lo ≤ w0.heap.size) : Xs w (bt lo w.heap.size) v l := h.imp (fun b hb (h : w0.heap.size ≤ b) => ⟨by omega,hb⟩)
theorem Xs.fin {w0 w w' : World} {lo hi q : Nat} {v : Value} {l : List PE} (h : Xs w (bt lo hi) v l) (hg : w.grownBy w' (some q)) (hq : q < lo ∨ hi ≤ q) (hl : w0.heap.size ≤ lo) : Xs w' (nw w0) v l :=
 (h.kept (fun b hb hl => hg.block b hl (by obtain ⟨h1,h2⟩ := hb; simp; omega)) hg.size).imp (fun b _ hb => (by obtain ⟨h1,h2⟩ := hb; omega : w0.heap.size ≤ b))
theorem Xs.al {w : World} {ok : Nat → Prop} {v : Value} {l : List PE} (h : Xs w ok v l) (o : Obj) : Xs (w.alloc o) ok v l := h.gn (w0 := w) (gr1 _ _)
theorem Xs.st {w : World} {lo hi q i : Nat} {x v : Value} {l : List PE} (h : Xs w (bt lo hi) v l) (hq : q < lo ∨ hi ≤ q) : Xs (w.setCell ⟨q,i,none⟩ x) (bt lo hi) v l :=
 h.kept (fun b hb hl => Below.heap_setCell _ _ _ _ (by obtain ⟨h1,h2⟩ := hb; simp; omega)) (by simp)
theorem Xs.cg {w w' : World} {lo hi R : Nat} {v : Value} {l : List PE} (h : Xs w (bt lo hi) v l) (hg : w.grownBy w' (some R)) (hR : R < lo) : Xs w' (bt lo hi) v l :=
 h.kept (fun b hb hl => hg.block b hl (by obtain ⟨h1,h2⟩ := hb; simp; omega)) hg.size
theorem Xs.sl {w : World} {ok : Nat → Prop} {v : Value} {l : List PE} (h : Xs w ok v l) : ∃ a c,v = .slice a l.length c := by
 cases h with
 | mk _ _ ks hl hr hk => obtain ⟨a,c,hv,_⟩ := hr; exact ⟨a,c,hv⟩
theorem Xe_sl {w : World} {ok : Nat → Prop} {v : Value} {f o kd n : Int} {nm pt : ByteArray} {a : Int} {ks : List PE} (h : Xe w ok v (.mk f o kd n nm pt a ks)) : ∃ x c,v = .agg #[.int .i64 f,.int .i64 o,.int .i64 kd,.int .i64 n,.string nm,.string pt,.int .i64 a,.slice x ks.length c] ∧ Xs w ok (.slice x ks.length c) ks := by
 obtain ⟨k,hv,hx⟩ := h
 obtain ⟨x,c,rfl⟩ := hx.sl
 exact ⟨x,c,hv,hx⟩
theorem Xe_mk {w : World} {ok : Nat → Prop} {v : Value} {f o kd n : Int} {nm pt : ByteArray} {a : Int} {ks : List PE} : Xe w ok v (.mk f o kd n nm pt a ks) ↔ ∃ k,v = .agg #[.int .i64 f,.int .i64 o,.int .i64 kd,.int .i64 n,.string nm,.string pt,.int .i64 a,k] ∧ Xs w ok k ks := Iff.rfl
theorem Cx.gq {V : World} {F : Int → Tok} {R : Nat} {s : ByteArray} {u : Int} {w w' : World} {t : Tok} {q : Nat} (C : Cx V F R s u w t) (hg : w.grownBy w' (some q)) (hq : q ≠ R) (h15 : 15 ≤ q) : Cx V F R s u w' t :=
 ⟨C.S,C.G,C.rd.keptBut hg (Ne.symm hq),C.ok,C.vs.kept hg C.sz (fun k e => by injection e with e; omega),by have := hg.size; have := C.sz; omega,C.r15,C.tb⟩
theorem Xs.g {w w' : World} {ok : Nat → Prop} {q : Nat} {v : Value} {l : List PE} (h : Xs w ok v l) (hg : w.grownBy w' (some q)) (hq : ∀ b,ok b → b ≠ q) : Xs w' ok v l :=
 h.kept (fun b hb hl => hg.block b hl (by have := hq b hb; simp; omega)) hg.size
def av (lo q1 q2 : Nat) : Nat → Prop := fun b => lo ≤ b ∧ b ≠ q1 ∧ b ≠ q2
end Go.Proofs.YtdcoidmbainkmaaGreatDoor

namespace Go.Proofs.YtdcoidmbainkmaaGreatDoor
open Go.RowKit
set_option linter.unusedVariables false
set_option linter.unusedSimpArgs false
section
variable {P : Program} {ops : Array Oper} {Q : Exit → Act → World → Prop} {md : Region.Mode} {S : World → Prop} {L : Nat}
def wpAnyL (P : Program) (md : Region.Mode) (ops : Array Oper) (Q : Exit → Act → World → Prop) (S : World → Prop) (L : Nat) : Nat → Array Bool → Act → World → Prop
 | 0,listed,a,w => Region.ready md ops listed = [] ∧ Q .normal a w
 | fuel + 1,listed,a,w =>
  (Region.ready md ops listed = [] → Q .normal a w) ∧
  ∀ i ∈ Region.ready md ops listed,wpOp P ops Q i (fun a' w' => (i ≠ L → listed.getD L true = false → S w') ∧ wpAnyL P md ops Q S L fuel (listed.setIfInBounds i true) a' w') a w
theorem wpAny_of_L : ∀ (fuel : Nat) (listed : Array Bool) (a : Act) (w : World),wpAnyL P md ops Q S L fuel listed a w → wpAny P md ops Q fuel listed a w
 | 0,_,_,_,h => h
 | fuel + 1,_,_,_,h => ⟨h.1,fun i hi => wpOp_mono (fun a' w' h' => wpAny_of_L fuel _ a' w' h'.2) (h.2 i hi)⟩
theorem wpAnyL_first {i : Nat} {oi : Oper} {v : Value} (hi : ops[i]? = some oi) (hsel : ∀ (j : Nat) (o : Oper) cs b,ops[j]? = some o → o.op ≠ .select cs b)
 (hQ : ∀ c a w,Q (.panic c) (a.put oi.dst v) w → Q (.panic c) a w) (hL : ∀ oL,ops[L]? = some oL → ∃ e ∈ oL.after,Region.binds md e = true ∧ e.on = i) :
 ∀ (fuel : Nat) (listed : Array Bool) (a : Act) (w : World),
  (∀ j oj,ops[j]? = some oj → j ≠ i → listed.getD j true = false → (∀ e ∈ oj.after,Region.binds md e = true → e.on ≠ i) → oi.apart ops oj = true) →
  i ∈ Region.ready md ops listed → listed.getD L true = false → YieldsIf P ops S oi v a → S w →
  wpAnyL P md ops Q S L fuel (listed.setIfInBounds i true) (a.put oi.dst v) w → wpAnyL P md ops Q S L (fuel + 1) listed a w := by
 intro fuel
 induction fuel with
 | zero =>
  intro listed a w _ hr hLu hy hS H
  refine ⟨fun h => (by rw [h] at hr; cases hr),fun j hj => ?_⟩
  by_cases hji : j = i
  · subst hji; exact hy.wpOp hi hS ⟨fun _ _ => hS,H⟩
  · have := ready_mono hj hji
    rw [H.1] at this
    cases this
 | succ fuel ih =>
  intro listed a w hfree hr hLu hy hS H
  refine ⟨fun h => (by rw [h] at hr; cases hr),fun j hj => ?_⟩
  by_cases hji : j = i
  · subst hji; exact hy.wpOp hi hS ⟨fun _ _ => hS,H⟩
  · have h1 := H.2 j (ready_mono hj hji)
    obtain ⟨hjun,oj,hoj,hall⟩ := mem_ready.1 hj
    have hnot : ∀ e ∈ oj.after,Region.binds md e = true → e.on ≠ i := fun e he hb heq => by
     have h1 := hall e he hb
     have h0 := (mem_ready.1 hr).1
     rw [heq] at h1
     rcases Nat.lt_or_ge i listed.size with h' | h'
     · simp [h'] at h0 h1; rw [h0] at h1; cases h1
     · simp [Array.getElem?_eq_none h'] at h1
    have hjL : j ≠ L := fun e => by
     subst e
     obtain ⟨e,he,hb,ho⟩ := hL oj hoj
     exact hnot e he hb ho
    have hLu' : (listed.setIfInBounds i true).getD L true = false := by
     by_cases hiL : i = L
     · subst hiL
       obtain ⟨e,he,hb,ho⟩ := hL oi hi
       have h1 := (mem_ready.1 hr)
       obtain ⟨hu,o2,ho2,ha2⟩ := h1
       rw [hi] at ho2
       injection ho2 with ho2
       subst ho2
       have h4 := ha2 e he hb
       rw [ho] at h4
       rcases Nat.lt_or_ge i listed.size with h' | h'
       · simp [h'] at hu h4; rw [hu] at h4; cases h4
       · simp [Array.getElem?_eq_none h'] at h4
     · rw [getD_set_ne true hiL]; exact hLu
    have h2 := wpOp_putIf hoj (hfree j oj hoj hji hjun hnot) (fun cs b => hsel i oi cs b hi) (fun cs b => hsel j oj cs b hoj) hQ hy h1
    have hfree' : ∀ k ok,ops[k]? = some ok → k ≠ i → (listed.setIfInBounds j true).getD k true = false →
     (∀ e ∈ ok.after,Region.binds md e = true → e.on ≠ i) → oi.apart ops ok = true := fun k ok hk hki hun hno => by
     refine hfree k ok hk hki ?_ hno
     by_cases hjk : j = k
     · subst hjk; exact hjun
     · rw [getD_set_ne true hjk] at hun; exact hun
    refine wpOp_mono (fun a' w' h3 => ⟨fun h4 _ => h3.2.1 h4 hLu',ih (listed.setIfInBounds j true) a' w' hfree' (ready_mono hr (Ne.symm hji)) (by rw [getD_set_ne true hjL]; exact hLu) h3.1 (h3.2.1 hjL hLu') ?_⟩) h2
    rw [Array.setIfInBounds_comm _ _ hji]
    exact h3.2.2
theorem wpAnyL_pure {i : Nat} {oi : Oper} {v : Value} (hi : ops[i]? = some oi) (hsel : ∀ (j : Nat) (o : Oper) cs b,ops[j]? = some o → o.op ≠ .select cs b)
 (hQ : ∀ c a w,Q (.panic c) (a.put oi.dst v) w → Q (.panic c) a w) (hiL : i ≠ L) :
 ∀ (fuel : Nat) (listed : Array Bool) (a : Act) (w : World),
  (∀ j oj,ops[j]? = some oj → j ≠ i → listed.getD j true = false → (∀ e ∈ oj.after,Region.binds md e = true → e.on ≠ i) → oi.apart ops oj = true) →
  i ∈ Region.ready md ops listed → YieldsIf P ops (fun _ => True) oi v a → (listed.getD L true = false → S w) →
  wpAnyL P md ops Q S L fuel (listed.setIfInBounds i true) (a.put oi.dst v) w → wpAnyL P md ops Q S L (fuel + 1) listed a w := by
 intro fuel
 induction fuel with
 | zero =>
  intro listed a w _ hr hy hS H
  refine ⟨fun h => (by rw [h] at hr; cases hr),fun j hj => ?_⟩
  by_cases hji : j = i
  · subst hji; exact hy.wpOp hi trivial ⟨fun _ => hS,H⟩
  · have := ready_mono hj hji
    rw [H.1] at this
    cases this
 | succ fuel ih =>
  intro listed a w hfree hr hy hS H
  refine ⟨fun h => (by rw [h] at hr; cases hr),fun j hj => ?_⟩
  by_cases hji : j = i
  · subst hji; exact hy.wpOp hi trivial ⟨fun _ => hS,H⟩
  · have h1 := H.2 j (ready_mono hj hji)
    obtain ⟨hjun,oj,hoj,hall⟩ := mem_ready.1 hj
    have hnot : ∀ e ∈ oj.after,Region.binds md e = true → e.on ≠ i := fun e he hb heq => by
     have h1 := hall e he hb
     have h0 := (mem_ready.1 hr).1
     rw [heq] at h1
     rcases Nat.lt_or_ge i listed.size with h' | h'
     · simp [h'] at h0 h1; rw [h0] at h1; cases h1
     · simp [Array.getElem?_eq_none h'] at h1
    have h2 := wpOp_putIf hoj (hfree j oj hoj hji hjun hnot) (fun cs b => hsel i oi cs b hi) (fun cs b => hsel j oj cs b hoj) hQ hy h1
    have hfree' : ∀ k ok,ops[k]? = some ok → k ≠ i → (listed.setIfInBounds j true).getD k true = false →
     (∀ e ∈ ok.after,Region.binds md e = true → e.on ≠ i) → oi.apart ops ok = true := fun k ok hk hki hun hno => by
     refine hfree k ok hk hki ?_ hno
     by_cases hjk : j = k
     · subst hjk; exact hjun
     · rw [getD_set_ne true hjk] at hun; exact hun
    refine wpOp_mono (fun a' w' h3 => ⟨fun h4 h5 => h3.2.1 h4 (by rw [getD_set_ne true hiL]; exact h5),ih (listed.setIfInBounds j true) a' w' hfree' (ready_mono hr (Ne.symm hji)) h3.1 (fun h5 => ?_) ?_⟩) h2
    · by_cases hjL : j = L
      · subst hjL
        rcases Nat.lt_or_ge j listed.size with h' | h'
        · simp [h'] at h5
        · simp [Array.getElem?_eq_none h'] at hjun
      · refine h3.2.1 hjL ?_
        rw [getD_set_ne true hiL]
        rw [getD_set_ne true hjL] at h5
        exact h5
    · rw [Array.setIfInBounds_comm _ _ hji]
      exact h3.2.2
theorem wpAnyL_take {i : Nat} {oi : Oper} {v : Value} {fuel : Nat} {listed : Array Bool} {a : Act} {w : World} (hi : ops[i]? = some oi)
 (hs : Region.noSelect ops = true) (hf : Region.free md ops listed i = true) (hr : (Region.ready md ops listed).contains i = true)
 (hQ : ∀ c a w,Q (.panic c) (a.put oi.dst v) w → Q (.panic c) a w) (hL : (match ops[L]? with | some o => o.after.any (fun e => Region.binds md e && e.on == i) | none => false) = true) (hLu : listed.getD L true = false) (hy : YieldsIf P ops S oi v a) (hS : S w)
 (h : wpAnyL P md ops Q S L fuel (listed.setIfInBounds i true) (a.put oi.dst v) w) : wpAnyL P md ops Q S L (fuel + 1) listed a w :=
 wpAnyL_first hi (Region.noSelect_spec hs) hQ (fun oL hoL => by
  rw [hoL] at hL
  simp only [Array.any_eq_true] at hL
  obtain ⟨k,hk,hb⟩ := hL
  simp only [Bool.and_eq_true,beq_iff_eq] at hb
  exact ⟨_,Array.getElem_mem hk,hb.1,hb.2⟩) fuel listed a w (Region.free_spec hi hf) (by simpa using hr) hLu hy hS h
theorem wpAnyL_free {i : Nat} {oi : Oper} {v : Value} {fuel : Nat} {listed : Array Bool} {a : Act} {w : World} (hi : ops[i]? = some oi)
 (hs : Region.noSelect ops = true) (hf : Region.free md ops listed i = true) (hr : (Region.ready md ops listed).contains i = true)
 (hQ : ∀ c a w,Q (.panic c) (a.put oi.dst v) w → Q (.panic c) a w) (hiL : i ≠ L) (hy : YieldsIf P ops (fun _ => True) oi v a) (hS : listed.getD L true = false → S w)
 (h : wpAnyL P md ops Q S L fuel (listed.setIfInBounds i true) (a.put oi.dst v) w) : wpAnyL P md ops Q S L (fuel + 1) listed a w :=
 wpAnyL_pure hi (Region.noSelect_spec hs) hQ hiL fuel listed a w (Region.free_spec hi hf) (by simpa using hr) hy hS h
theorem wpAnyL_one {j : Nat} {o : Oper} {fuel : Nat} {listed : Array Bool} {a : Act} {w : World} (hr : Region.ready md ops listed = [j]) (ho : ops[j]? = some o)
 (h : ∀ K' : Act → World → Prop,Shut (∀ a w,(j ≠ L → listed.getD L true = false → S w) → wpAnyL P md ops Q S L fuel (listed.setIfInBounds j true) a w → K' a w) → if Region.wanted o (yielded ops a.tmps) = true then Oper.wp P o a w K' Q else K' (a.put o.dst undef) w) : wpAnyL P md ops Q S L (fuel + 1) listed a w :=
 ⟨fun h0 => (by rw [hr] at h0; cases h0),fun i hi => by
  rw [hr,List.mem_singleton] at hi
  subst hi
  exact wpOp_step ho (fun K' hK => h K' (fun a w h1 h2 => hK a w ⟨h1,h2⟩))⟩
theorem wpAnyL_two {i j : Nat} {oi oj : Oper} {fuel : Nat} {listed : Array Bool} {a : Act} {w : World} (hr : Region.ready md ops listed = [i,j]) (hoi : ops[i]? = some oi) (hoj : ops[j]? = some oj)
 (hi : ∀ K' : Act → World → Prop,Shut (∀ a w,(i ≠ L → listed.getD L true = false → S w) → wpAnyL P md ops Q S L fuel (listed.setIfInBounds i true) a w → K' a w) → if Region.wanted oi (yielded ops a.tmps) = true then Oper.wp P oi a w K' Q else K' (a.put oi.dst undef) w)
 (hj : ∀ K' : Act → World → Prop,Shut (∀ a w,(j ≠ L → listed.getD L true = false → S w) → wpAnyL P md ops Q S L fuel (listed.setIfInBounds j true) a w → K' a w) → if Region.wanted oj (yielded ops a.tmps) = true then Oper.wp P oj a w K' Q else K' (a.put oj.dst undef) w) : wpAnyL P md ops Q S L (fuel + 1) listed a w :=
 ⟨fun h0 => (by rw [hr] at h0; cases h0),fun k hk => by
  rw [hr] at hk
  simp only [List.mem_cons,List.not_mem_nil,or_false] at hk
  rcases hk with rfl | rfl
  · exact wpOp_step hoi (fun K' hK => hi K' (fun a w h1 h2 => hK a w ⟨h1,h2⟩))
  · exact wpOp_step hoj (fun K' hK => hj K' (fun a w h1 h2 => hK a w ⟨h1,h2⟩))⟩
theorem wpAnyL_done {listed : Array Bool} {a : Act} {w : World} (hr : Region.ready md ops listed = []) (h : Q .normal a w) : ∀ fuel,wpAnyL P md ops Q S L fuel listed a w
 | 0 => ⟨hr,h⟩
 | _ + 1 => ⟨fun _ => h,by rw [hr]; simp⟩
theorem wp_region_L {id : Nat} {a : Act} {w : World} (hm : P.follows .mixedOrders = true)
 (h : wpAnyL P .any ops Q S L ops.size (Array.replicate ops.size false) a w.drew) : (Code.region id ops true).wp P Q a w :=
 wp_region_any hm (wpAny_of_L _ _ _ _ h)
end
end Go.Proofs.YtdcoidmbainkmaaGreatDoor

namespace Go.Proofs.YtdcoidmbainkmaaGreatDoor
open Go.RowKit
attribute [local go_sem ↓] Go.wp_at_zero Go.wp_at_succ
set_option linter.unusedVariables false
set_option linter.unusedSimpArgs false
abbrev eO (f o k n : Int) (nm pt : ByteArray) (a : Int) (kids : Value) : Obj := .cells #[.int .i64 f,.int .i64 o,.int .i64 k,.int .i64 n,.string nm,.string pt,.int .i64 a,kids] 61
abbrev eV (f o k n : Int) (nm pt : ByteArray) (a : Int) (kids : Value) : Value := .agg #[.int .i64 f,.int .i64 o,.int .i64 k,.int .i64 n,.string nm,.string pt,.int .i64 a,kids]
theorem fldN (t : Tok) (w : World) : Sem.run Tryz.prog (Instr.field 73 (tokV t) 2) w = .ok (.int .i64 t.n) w := by kernel_rfl
theorem keepS {w : World} {q p i : Nat} {v : Value} {o : Obj} (h : w.heap[q]? = some o) (hne : q ≠ p) : (w.setCell ⟨p,i,none⟩ v).heap[q]? = some o := keptBut (gr_set (World.grownBy.refl _ _) _ _) h hne
section
variable {V : World} {F : Int → Tok} {R : Nat} {s : ByteArray} {u : Int} {w : World} {t : Tok}
theorem takeK (C : Cx V F R s u w t) (h0 : t.c ≠ 0) : Calls Tryz.prog 65 #[pR R] w (Out V F R s u w (.ok t (F t.e)) (isV tokV)) := by
 have := takeO C
 rwa [takeP,if_neg h0] at this
set_option maxHeartbeats 2000000 in
theorem lit_any (C : Cx V F R s u w t) : Calls Tryz.prog 111 #[rV R] w (Out V F R s u w (litP F t) (fun w' v e => Xe w' (nw w) v e)) := by
 have HC : Hid (Cx V F R s u w t) := C
 have C0 := HC
 have G0 : Hid (w.grownBy w (some R)) := World.grownBy.refl _ _
 have HR : Hid (R < w.heap.size ∧ 15 ≤ w.heap.size ∧ 15 ≤ R) := ⟨C.lt,C.sz,C.r15⟩
 clear C
 have hA := fldA t
 have hX := fldX t
 have hN := fldN t
 by_cases h0 : t.c = 0
 · go_enter Tryz.func111,Tryz.ntmps111
   go_wp2_with fail
   refine (look_bad R s t u _ ((C0.out.al _).al _).rd h0).mono ?_
   rintro e w1 ⟨rfl,g1⟩
   exact ⟨rfl,Out.bad (by rw [litP,if_pos h0]) (gtn (gr_alloc (gr_alloc G0.out _) _) g1)⟩
 go_enter Tryz.func111,Tryz.ntmps111
 go_wp2_with fail
 refine (look_ok R s t u _ ((C0.out.al _).al _).rd h0).mono ?_
 rintro e w1 ⟨rfl,g0⟩
 have CC := ((C0.out.al _).al _).gn g0
 have g := gr_none (p := R) g0
 have A1 : Hid (w1.heap[w.heap.size]? = some (.cells #[pR R] 46)) := keptBut g (old (hp_new (by simp) _) _) (by have := HR.out; omega)
 have B1 : Hid (w1.heap[w.heap.size + 1]? = some (.cells #[.int .i64 0,.int .i64 0,.int .i64 0,.int .i64 0,.string ⟨#[]⟩,.string ⟨#[]⟩,.int .i64 0,.slice none 0 0] 61)) := keptBut g (hp_new (by simp) _) (by have := HR.out; omega)
 have G1 := hidI (gtr (gr_alloc (gr_alloc G0.out _) _) g)
 have C1 := hidI CC
 have S1 : Hid (w.heap.size + 2 ≤ w1.heap.size) := hidI (by have := g.size; (try simp at this); omega)
 clear g CC g0
 obtain ⟨ap,aq,ar,af,ag,ah⟩ := facts A1.out
 go_wp2_with fail
 refine (is_look (C1.out.al _) h0 _ [⟨#[116,114,117,101]⟩,⟨#[102,97,108,115,101]⟩] _ _ _ (by simp) rfl rfl (by decide)).mono ?_
 rintro e w2 ⟨rfl,g0⟩
 have CC := ((C1.out.al _).al _).gn g0
 have g := gr_none (p := R) g0
 have A2 : Hid (w2.heap[w.heap.size]? = some (.cells #[pR R] 46)) := keptBut g (old (old A1.out _) _) (by have := HR.out; have := S1.out; omega)
 have B2 : Hid (w2.heap[w.heap.size + 1]? = some (.cells #[.int .i64 0,.int .i64 0,.int .i64 0,.int .i64 0,.string ⟨#[]⟩,.string ⟨#[]⟩,.int .i64 0,.slice none 0 0] 61)) := keptBut g (old (old B1.out _) _) (by have := HR.out; have := S1.out; omega)
 have D2 : Hid (w2.heap[w1.heap.size]? = some (.cells #[.int .i64 1,.int .i64 0,.int .i64 0,.int .i64 0,.string ⟨#[]⟩,.string ⟨#[]⟩,.int .i64 t.a,.slice none 0 0] 61)) := keptBut g (old (hp_new (by simp) _) _) (by have := HR.out; have := S1.out; omega)
 have G2 := hidI (gtr (gr_alloc (gr_alloc G1.out _) _) g)
 have C2 := hidI CC
 have S2 : Hid (w1.heap.size + 2 ≤ w2.heap.size) := hidI (by have := g.size; (try simp at this); omega)
 have Z1 := hidI (And.intro HR.out (And.intro S1.out S2.out))
 clear g CC g0 ap aq ar af ag ah
 obtain ⟨ap,aq,ar,af,ag,ah⟩ := facts A2.out
 obtain ⟨bp,bq,br,bf,bg,bh⟩ := facts B2.out
 obtain ⟨dp,dq,dr,df,dg,dh⟩ := facts D2.out
 have nAD : w.heap.size ≠ w1.heap.size := by have := Z1.out; omega
 have nDA : w1.heap.size ≠ w.heap.size := by have := Z1.out; omega
 have nBD : w.heap.size + 1 ≠ w1.heap.size := by have := Z1.out; omega
 have nDB : w1.heap.size ≠ w.heap.size + 1 := by have := Z1.out; omega
 have nAB : w.heap.size ≠ w.heap.size + 1 := by have := Z1.out; omega
 have nBA : w.heap.size + 1 ≠ w.heap.size := by have := Z1.out; omega
 cases hm : mem [⟨#[116,114,117,101]⟩,⟨#[102,97,108,115,101]⟩] t
 rotate_left
 · go_wp2_with fail
   refine (takeK (C2.out.set (by have := Z1.out; omega) (by have := Z1.out; omega) _ _) h0).mono ?_
   rintro e w3 ⟨⟨v,rfl,rfl⟩,CC,g⟩
   have A3 : Hid (w3.heap[w.heap.size]? = some (.cells #[pR R] 46)) := keptBut g (keepS A2.out (by have := Z1.out; omega)) (by have := Z1.out; omega)
   have B3 : Hid (w3.heap[w.heap.size + 1]? = some (.cells #[.int .i64 0,.int .i64 0,.int .i64 0,.int .i64 0,.string ⟨#[]⟩,.string ⟨#[]⟩,.int .i64 0,.slice none 0 0] 61)) := keptBut g (keepS B2.out (by have := Z1.out; omega)) (by have := Z1.out; omega)
   have D3 : Hid (w3.heap[w1.heap.size]? = some (.cells #[.int .i64 1,.int .i64 0,.int .i64 1,.int .i64 0,.string ⟨#[]⟩,.string ⟨#[]⟩,.int .i64 t.a,.slice none 0 0] 61)) := keptBut g (by simpa using (at_set D2.out 2 (.int .i64 1))) (by have := Z1.out; omega)
   have G3 := hidI (gtr (gr_ow2 G2.out (by have := Z1.out; omega) _ _) g)
   have C3 := hidI CC
   have S3 : Hid (w2.heap.size + 0 ≤ w3.heap.size) := hidI (by have := g.size; (try simp at this); omega)
   have Z2 := hidI (And.intro HR.out (And.intro S1.out (And.intro S2.out S3.out)))
   clear g CC ap aq ar af ag ah bp bq br bf bg bh dp dq dr df dg dh
   obtain ⟨ap,aq,ar,af,ag,ah⟩ := facts A3.out
   obtain ⟨bp,bq,br,bf,bg,bh⟩ := facts B3.out
   obtain ⟨dp,dq,dr,df,dg,dh⟩ := facts D3.out
   by_cases hx : t.x = ⟨#[116,114,117,101]⟩
   · have hx' : (t.x.toList == [116,114,117,101]) = true := by rw [eqS]; simpa using hx
     go_wp2_with fail
     have hP : litP F t = .ok (.mk 1 0 1 1 nob nob t.a []) (F t.e) := by rw [litP,if_neg h0,if_pos hm,if_pos hx]
     refine bodyPost_ret (resBox rfl _ _ (w.heap.size + 1) _ rfl (ld61 (box8 (keepS B3.out (by have := Z2.out; omega))))) rfl (Out.ok hP ?_ ?_ ?_)
     · exact ⟨_,rfl,Xs.nil _ _⟩
     · exact (C3.out.set (by have := Z2.out; omega) (by have := Z2.out; omega) _ _).gq (gr8 (World.grownBy.refl _ _)) (by have := Z2.out; omega) (by have := Z2.out; omega)
     · exact gr8o (gr_ow2 G3.out (by have := Z2.out; omega) _ _) (by have := Z2.out; omega)
   · have hx' : (t.x.toList == [116,114,117,101]) = false := by rw [eqS]; simpa using hx
     go_wp2_with fail
     have hP : litP F t = .ok (.mk 1 0 1 0 nob nob t.a []) (F t.e) := by rw [litP,if_neg h0,if_pos hm,if_neg hx]
     refine bodyPost_ret (resBox rfl _ _ (w.heap.size + 1) _ rfl (ld61 (box8 B3.out))) rfl (Out.ok hP ?_ ?_ ?_)
     · exact ⟨_,rfl,Xs.nil _ _⟩
     · exact C3.out.gq (gr8 (World.grownBy.refl _ _)) (by have := Z2.out; omega) (by have := Z2.out; omega)
     · exact gr8o G3.out (by have := Z2.out; omega)
 go_wp2_with fail
 refine (cls_look C2.out h0 5).mono ?_
 rintro e w3 ⟨rfl,g0⟩
 have CC := C2.out.gn g0
 have g := gr_none (p := R) g0
 have A3 : Hid (w3.heap[w.heap.size]? = some (.cells #[pR R] 46)) := keptBut g A2.out (by have := Z1.out; omega)
 have B3 : Hid (w3.heap[w.heap.size + 1]? = some (.cells #[.int .i64 0,.int .i64 0,.int .i64 0,.int .i64 0,.string ⟨#[]⟩,.string ⟨#[]⟩,.int .i64 0,.slice none 0 0] 61)) := keptBut g B2.out (by have := Z1.out; omega)
 have D3 : Hid (w3.heap[w1.heap.size]? = some (.cells #[.int .i64 1,.int .i64 0,.int .i64 0,.int .i64 0,.string ⟨#[]⟩,.string ⟨#[]⟩,.int .i64 t.a,.slice none 0 0] 61)) := keptBut g D2.out (by have := Z1.out; omega)
 have G3 := hidI (gtr G2.out g)
 have C3 := hidI CC
 have S3 : Hid (w2.heap.size + 0 ≤ w3.heap.size) := hidI (by have := g.size; (try simp at this); omega)
 have Z3 := hidI (And.intro HR.out (And.intro S1.out (And.intro S2.out S3.out)))
 clear g CC g0 ap aq ar af ag ah bp bq br bf bg bh dp dq dr df dg dh
 obtain ⟨ap,aq,ar,af,ag,ah⟩ := facts A3.out
 obtain ⟨bp,bq,br,bf,bg,bh⟩ := facts B3.out
 obtain ⟨dp,dq,dr,df,dg,dh⟩ := facts D3.out
 cases h5 : decide (t.c = 5)
 rotate_left
 · go_wp2_with fail
   refine (takeK (C3.out.set (by have := Z3.out; omega) (by have := Z3.out; omega) _ _) h0).mono ?_
   rintro e w4 ⟨⟨v,rfl,rfl⟩,CC,g⟩
   have A4 : Hid (w4.heap[w.heap.size]? = some (.cells #[pR R] 46)) := keptBut g (keepS A3.out (by have := Z3.out; omega)) (by have := Z3.out; omega)
   have B4 : Hid (w4.heap[w.heap.size + 1]? = some (.cells #[.int .i64 0,.int .i64 0,.int .i64 0,.int .i64 0,.string ⟨#[]⟩,.string ⟨#[]⟩,.int .i64 0,.slice none 0 0] 61)) := keptBut g (keepS B3.out (by have := Z3.out; omega)) (by have := Z3.out; omega)
   have D4 : Hid (w4.heap[w1.heap.size]? = some (.cells #[.int .i64 1,.int .i64 0,.int .i64 5,.int .i64 0,.string ⟨#[]⟩,.string ⟨#[]⟩,.int .i64 t.a,.slice none 0 0] 61)) := keptBut g (by simpa using (at_set D3.out 2 (.int .i64 5))) (by have := Z3.out; omega)
   have G4 := hidI (gtr (gr_ow2 G3.out (by have := Z3.out; omega) _ _) g)
   have C4 := hidI CC
   have S4 : Hid (w3.heap.size + 0 ≤ w4.heap.size) := hidI (by have := g.size; (try simp at this); omega)
   have Z4 := hidI (And.intro HR.out (And.intro S1.out (And.intro S2.out (And.intro S3.out S4.out))))
   clear g CC ap aq ar af ag ah bp bq br bf bg bh dp dq dr df dg dh
   obtain ⟨ap,aq,ar,af,ag,ah⟩ := facts A4.out
   obtain ⟨bp,bq,br,bf,bg,bh⟩ := facts B4.out
   obtain ⟨dp,dq,dr,df,dg,dh⟩ := facts D4.out
   go_wp2_with fail
   have hP : litP F t = .ok (.mk 1 0 5 t.n nob nob t.a []) (F t.e) := by rw [litP,if_neg h0,if_neg (by rw [hm]; simp),if_pos (by simpa using h5)]
   refine bodyPost_ret (resBox rfl _ _ (w.heap.size + 1) _ rfl (ld61 (box8 (keepS B4.out (by have := Z4.out; omega))))) rfl (Out.ok hP ?_ ?_ ?_)
   · exact ⟨_,rfl,Xs.nil _ _⟩
   · exact (C4.out.set (by have := Z4.out; omega) (by have := Z4.out; omega) _ _).gq (gr8 (World.grownBy.refl _ _)) (by have := Z4.out; omega) (by have := Z4.out; omega)
   · exact gr8o (gr_ow2 G4.out (by have := Z4.out; omega) _ _) (by have := Z4.out; omega)
 go_wp2_with fail
 refine (constant_any C3.out).mono ?_
 intro e w4 h
 rcases h.get with ⟨k,t4,v4,r4,rfl,rfl,CC,g⟩ | ⟨cc,aa,r4,rfl,g⟩
 rotate_left
 · exact ⟨rfl,Out.bad (by rw [litP,if_neg h0,if_neg (by rw [hm]; simp),if_neg (by simpa using h5)]; rw [r4]; try rfl) (gtr G3.out g)⟩
 have A4 : Hid (w4.heap[w.heap.size]? = some (.cells #[pR R] 46)) := keptBut g A3.out (by have := Z3.out; omega)
 have B4 : Hid (w4.heap[w.heap.size + 1]? = some (.cells #[.int .i64 0,.int .i64 0,.int .i64 0,.int .i64 0,.string ⟨#[]⟩,.string ⟨#[]⟩,.int .i64 0,.slice none 0 0] 61)) := keptBut g B3.out (by have := Z3.out; omega)
 have D4 : Hid (w4.heap[w1.heap.size]? = some (.cells #[.int .i64 1,.int .i64 0,.int .i64 0,.int .i64 0,.string ⟨#[]⟩,.string ⟨#[]⟩,.int .i64 t.a,.slice none 0 0] 61)) := keptBut g D3.out (by have := Z3.out; omega)
 have G4 := hidI (gtr G3.out g)
 have C4 := hidI CC
 have S4 : Hid (w3.heap.size + 0 ≤ w4.heap.size) := hidI (by have := g.size; (try simp at this); omega)
 have Z5 := hidI (And.intro HR.out (And.intro S1.out (And.intro S2.out (And.intro S3.out S4.out))))
 clear g CC h ap aq ar af ag ah bp bq br bf bg bh dp dq dr df dg dh
 obtain ⟨ap,aq,ar,af,ag,ah⟩ := facts A4.out
 obtain ⟨bp,bq,br,bf,bg,bh⟩ := facts B4.out
 obtain ⟨dp,dq,dr,df,dg,dh⟩ := facts D4.out
 go_wp2_with fail
 have hP : litP F t = .ok (.mk 1 0 0 k nob nob t.a []) (t4) := by rw [litP,if_neg h0,if_neg (by rw [hm]; simp),if_neg (by simpa using h5)]; rw [r4]; try dsimp only [Res.bind]
 refine bodyPost_ret (resBox rfl _ _ (w.heap.size + 1) _ rfl (ld61 (box8 (keepS B4.out (by have := Z5.out; omega))))) rfl (Out.ok hP ?_ ?_ ?_)
 · exact ⟨_,rfl,Xs.nil _ _⟩
 · exact (C4.out.set (by have := Z5.out; omega) (by have := Z5.out; omega) _ _).gq (gr8 (World.grownBy.refl _ _)) (by have := Z5.out; omega) (by have := Z5.out; omega)
 · exact gr8o (gr_ow2 G4.out (by have := Z5.out; omega) _ _) (by have := Z5.out; omega)
end
end Go.Proofs.YtdcoidmbainkmaaGreatDoor
