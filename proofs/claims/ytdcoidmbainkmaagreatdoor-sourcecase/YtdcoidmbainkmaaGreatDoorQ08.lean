/- Texts put together: Ac, Ts, R9. -/
import Derived.Test.YtdcoidmbainkmaaGreatDoorQ06
import Derived.Test.YtdcoidmbainkmaaGreatDoorQ07
namespace Go.Proofs.YtdcoidmbainkmaaGreatDoor
open Go.RowKit
set_option linter.unusedVariables false
set_option linter.unusedSimpArgs false
theorem bindOk {α β : Type} (v : α) (t : Tok) (f : α → Tok → Res β) : (Res.ok v t).bind f = f v t := rfl
def El (t T sz : Nat) : Prop := Tryz.prog.underlying t = some (.slice T) ∧ ∃ i z,Tryz.prog.info? T = some i ∧ i.zero = some z ∧ i.size = sz ∧ i.bytes ≤ 200 ∧ z.cells.size = sz ∧ 0 < sz
theorem acc_add {t T sz : Nat} (hE : El t T sz) {w : World} {B n : Nat} {v : Value} {xs : List Value} (h : w.ownsRow B T sz v n xs) (cur : List Value) (hcur : cur.length = sz) (h1 : ∀ u ∈ cur,u.oneCell' = true) (hn : n ≤ 1000000) (hB : B ≤ w.heap.size) :
 ∃ a' c' w',(Builtin.append_ #[t,t] t #[v,.slice (some ⟨w.heap.size,0,none⟩) 1 1]).run Tryz.prog (w.alloc (.cells cur.toArray T)) = .ok (.slice a' (n + 1) c') w' ∧
  w'.ownsRow B T sz (.slice a' (n + 1) c') (n + 1) (xs ++ cur) ∧ (w.alloc (.cells cur.toArray T)).grownBy w' v.ownBlock ∧ ((Value.slice a' (n + 1) c').ownBlock = v.ownBlock ∨ (Value.slice a' (n + 1) c').ownBlock = some (w.heap.size + 1)) := by
 obtain ⟨ht,i,z,hi,hz,hs,hb,hzs,hpos⟩ := hE
 obtain ⟨v',w',r1,r2,r3,r4,r5⟩ := run_append_own_at (P := Tryz.prog) (w.alloc (.cells cur.toArray T)) B t t T i z sz i.bytes ht hi hz hs rfl hzs hpos _ _ _ (World.ownsRow.alloc h _) ⟨w.heap.size,0,none⟩ 1 1 cur (by omega)
  (fun j u hj => by
    rw [addn,at_cell (heap_alloc_new w _) (0 + j)]
    simpa using hj)
  h1 (by unfold maxLen; omega) (by
   have : (n + 1) * i.bytes ≤ 1000001 * 200 := Nat.mul_le_mul (by omega) hb
   omega) (by simp; omega)
 have r2' := r2
 obtain ⟨_,⟨hx,hn⟩ | ⟨g',cap',cur',rfl,_⟩⟩ := r2'
 · omega
 · exact ⟨_,cap',w',r1,r2,r3,by simpa using r5⟩
theorem own_lt {w : World} {B T sz n : Nat} {v : Value} {xs : List Value} (h : w.ownsRow B T sz v n xs) : ∀ g,v.ownBlock = some g → B ≤ g ∧ g < w.heap.size := by
 intro g hg
 obtain ⟨_,⟨rfl,_⟩ | ⟨g',c,cur,rfl,hb,hh,_⟩⟩ := h
 · cases hg
 · injection hg with hg; subst hg; exact ⟨hb,at_lt hh⟩
theorem own_g {w w' : World} {B T sz n q : Nat} {v : Value} {xs : List Value} (h : w.ownsRow B T sz v n xs) (hg : w.grownBy w' (some q)) (hq : v.ownBlock ≠ some q) : w'.ownsRow B T sz v n xs := own_ne h hg (fun x hx e => hq (by rw [hx,← e]))
theorem own_row {w : World} {B T sz n : Nat} {v : Value} {xs : List Value} (h : w.ownsRow B T sz v n xs) (hn : n ≤ 1000000) : Row w (fun b => B ≤ b) T v n xs := by
 obtain ⟨hl,⟨rfl,rfl⟩ | ⟨g,c,cur,rfl,hb,hh,h1,h2,h3,h4⟩⟩ := h
 · exact ⟨_,_,rfl,hn,Or.inl ⟨rfl,List.eq_nil_of_length_eq_zero (by simpa using hl)⟩⟩
 · refine ⟨_,_,rfl,hn,Or.inr ⟨g,0,cur,rfl,hb,at_lt hh,hh,fun k hk => ?_⟩⟩
   rw [← h4,List.getElem?_take_of_lt (by omega)]
   simp
def off (B : Nat) (v : Value) : Nat → Prop := fun b => B ≤ b ∧ v.ownBlock ≠ some b
def Xl (w : World) (B : Nat) (v : Value) (l : List PE) : Prop := ∃ ks,ks.length = l.length ∧ w.ownsRow B 61 8 v l.length ((l.zip ks).flatMap fun p => xC p.1 p.2) ∧ ∀ p,p ∈ l.zip ks → Xs w (off B v) p.2 p.1.kids
theorem Xl.nil (w : World) (B : Nat) : Xl w B (.slice none 0 0) [] := ⟨[],rfl,World.ownsRow_nil _ _ _ _,by simp⟩
theorem Xl.g {w w' : World} {B q : Nat} {v : Value} {l : List PE} (h : Xl w B v l) (hg : w.grownBy w' (some q)) (hq : q < B) : Xl w' B v l := by
 obtain ⟨ks,h1,h2,h3⟩ := h
 exact ⟨ks,h1,own_g h2 hg (fun e => by have := own_lt h2 q e; omega),fun p hp => (h3 p hp).g hg (fun b hb => by have := hb.1; omega)⟩
theorem Xl.gn {w w' : World} {B : Nat} {v : Value} {l : List PE} (h : Xl w B v l) (hg : w.grownBy w' none) : Xl w' B v l := by
 obtain ⟨ks,h1,h2,h3⟩ := h
 exact ⟨ks,h1,own_keep h2 hg,fun p hp => (h3 p hp).gn (w0 := w) hg⟩
theorem Xl.xs {w : World} {B : Nat} {v : Value} {l : List PE} (h : Xl w B v l) (hn : l.length ≤ 1000000) : Xs w (fun b => B ≤ b) v l := by
 obtain ⟨ks,h1,h2,h3⟩ := h
 exact .mk v l ks h1 (own_row h2 hn) (fun p hp => (h3 p hp).imp (fun b _ hb => hb.1))
theorem Xl.sl {w : World} {B : Nat} {v : Value} {l : List PE} (h : Xl w B v l) : ∃ a c,v = .slice a l.length c := by
 obtain ⟨ks,h1,⟨_,⟨rfl,hn⟩ | ⟨g,c,cur,rfl,_⟩⟩,_⟩ := h
 · exact ⟨none,0,by rw [hn]⟩
 · exact ⟨_,_,rfl⟩
theorem Xl.lt {w : World} {B : Nat} {v : Value} {l : List PE} (h : Xl w B v l) : ∀ g,v.ownBlock = some g → B ≤ g ∧ g < w.heap.size := by
 obtain ⟨ks,h1,h2,h3⟩ := h; exact own_lt h2
theorem el59 : El 59 61 8 := ⟨Tryz.underlying59,by
 obtain ⟨i,h1,h2,h3,h4⟩ := info_parts (P := Tryz.prog) (e := 61) (z := some (.agg #[.int .i64 0,.int .i64 0,.int .i64 0,.int .i64 0,.string ⟨#[]⟩,.string ⟨#[]⟩,.int .i64 0,.slice none 0 0])) (n := 8) (m := 96) (by kernel_rfl)
 exact ⟨i,_,h1,h2,h3,by omega,rfl,by omega⟩⟩
theorem Xl.add {w : World} {B lo hi : Nat} {v : Value} {l : List PE} (h : Xl w B v l) {e : PE} {k : Value} (hx : Xs w (bt lo hi) k e.kids) (hlo : B ≤ lo) (ho : ∀ g,v.ownBlock = some g → g < lo) (hk : k.oneCell' = true) (hn : l.length ≤ 1000000) (hB : B ≤ w.heap.size) :
 ∃ a' c' w',(Builtin.append_ #[59,59] 59 #[v,.slice (some ⟨w.heap.size,0,none⟩) 1 1]).run Tryz.prog (w.alloc (.cells (xC e k).toArray 61)) = .ok (.slice a' (l.length + 1) c') w' ∧
  Xl w' B (.slice a' (l ++ [e]).length c') (l ++ [e]) ∧ (w.alloc (.cells (xC e k).toArray 61)).grownBy w' v.ownBlock := by
 obtain ⟨ks,h1,h2,h3⟩ := h
 obtain ⟨a',c',w',r1,r2,r3,r4⟩ := acc_add el59 h2 (xC e k) (xC_len e k) (by
  intro y hy
  cases e
  simp [xC] at hy
  rcases hy with rfl | rfl | rfl | rfl | rfl | rfl | rfl | rfl <;> first | rfl | exact hk) hn hB
 refine ⟨a',c',w',r1,⟨ks ++ [k],by simp [h1],?_,?_⟩,r3⟩
 · rw [List.zip_append h1.symm,List.flatMap_append]
   simpa using r2
 · have key : ∀ (ok : Nat → Prop) (k' : Value) (l' : List PE),Xs w ok k' l' → (∀ b,ok b → B ≤ b ∧ v.ownBlock ≠ some b) → Xs w' (off B (.slice a' (l ++ [e]).length c')) k' l' := by
    intro ok k' l' hx' hok
    have hx2 := (hx'.al (.cells (xC e k).toArray 61)).kept (w' := w') (fun b hb hl => r3.block b hl (fun he => (hok b hb).2 he.symm)) r3.size
    have hx3 : Xs w (fun b => ok b ∧ b < w.heap.size) k' l' := hx'.imp (fun b hb h => ⟨h,hb⟩)
    have hx4 := (hx3.al (.cells (xC e k).toArray 61)).kept (w' := w') (fun b hb hl => r3.block b hl (fun he => (hok b hb.1).2 he.symm)) r3.size
    refine hx4.imp (fun b hb h => ⟨(hok b h.1).1,?_⟩)
    have e1 : (Value.slice a' (l ++ [e]).length c').ownBlock = (Value.slice a' (l.length + 1) c').ownBlock := by cases a' <;> rfl
    rw [e1]
    rcases r4 with r4 | r4
    · rw [r4]; exact (hok b h.1).2
    · rw [r4]; intro he; injection he with he; omega
   intro p hp
   rw [List.zip_append h1.symm] at hp
   rcases List.mem_append.1 hp with hp | hp
   · exact key _ _ _ (h3 p hp) (fun b hb => hb)
   · simp at hp; subst hp
     exact key _ _ _ hx (fun b hb => ⟨by have := hb.1; omega,fun he => by have := ho b he; have := hb.1; omega⟩)
theorem Cx.ga {V : World} {F : Int → Tok} {R : Nat} {s : ByteArray} {u : Int} {w w' : World} {t : Tok} {row : Option Nat} (C : Cx V F R s u w t) (hg : w.grownBy w' row) (hq : ∀ q,row = some q → q ≠ R ∧ 15 ≤ q) : Cx V F R s u w' t :=
 ⟨C.S,C.G,(hg.block R C.lt (fun e => (hq R e.symm).1 rfl)).trans C.rd,C.ok,C.vs.kept hg C.sz (fun k e => (hq k e).2),by have := hg.size; have := C.sz; omega,C.r15,C.tb⟩
theorem keptRow {w w' : World} {k : Nat} {o : Obj} {row : Option Nat} (hg : w.grownBy w' row) (h : w.heap[k]? = some o) (hne : row ≠ some k) : w'.heap[k]? = some o := (hg.block k (at_lt h) (fun e => hne e.symm)).trans h
end Go.Proofs.YtdcoidmbainkmaaGreatDoor

namespace Go.Proofs.YtdcoidmbainkmaaGreatDoor
open Go.RowKit
set_option linter.unusedVariables false
set_option linter.unusedSimpArgs false
structure Kd (α Q : Type) where
 c : α → Q → List Value
 S : World → (Nat → Prop) → α → Q → Prop
 keep : ∀ {w w' : World} {ok : Nat → Prop} {a : α} {q : Q},S w ok a q → (∀ b,ok b → b < w.heap.size → w'.heap[b]? = w.heap[b]?) → w.heap.size ≤ w'.heap.size → S w' ok a q
 imp : ∀ {w : World} {ok ok' : Nat → Prop} {a : α} {q : Q},S w ok a q → (∀ b,b < w.heap.size → ok b → ok' b) → S w ok' a q
section
variable {α Q : Type} {K : Kd α Q} {T sz : Nat}
def Gl (K : Kd α Q) (T sz : Nat) (w : World) (B : Nat) (v : Value) (l : List α) : Prop := ∃ qs,qs.length = l.length ∧ w.ownsRow B T sz v l.length ((l.zip qs).flatMap fun p => K.c p.1 p.2) ∧ ∀ p,p ∈ l.zip qs → K.S w (off B v) p.1 p.2
def Li (K : Kd α Q) (T : Nat) (w : World) (ok : Nat → Prop) (v : Value) (l : List α) : Prop := ∃ qs,qs.length = l.length ∧ Row w ok T v l.length ((l.zip qs).flatMap fun p => K.c p.1 p.2) ∧ ∀ p,p ∈ l.zip qs → K.S w ok p.1 p.2
theorem Gl.nil (w : World) (B : Nat) : Gl K T sz w B (.slice none 0 0) [] := ⟨[],rfl,World.ownsRow_nil _ _ _ _,by simp⟩
theorem Gl.g {w w' : World} {B q : Nat} {v : Value} {l : List α} (h : Gl K T sz w B v l) (hg : w.grownBy w' (some q)) (hq : q < B) : Gl K T sz w' B v l := by
 obtain ⟨ks,h1,h2,h3⟩ := h
 exact ⟨ks,h1,own_g h2 hg (fun e => by have := own_lt h2 q e; omega),fun p hp => K.keep (h3 p hp) (fun b hb hl => hg.block b hl (by have := hb.1; simp; omega)) hg.size⟩
theorem Gl.gn {w w' : World} {B : Nat} {v : Value} {l : List α} (h : Gl K T sz w B v l) (hg : w.grownBy w' none) : Gl K T sz w' B v l := by
 obtain ⟨ks,h1,h2,h3⟩ := h
 exact ⟨ks,h1,own_keep h2 hg,fun p hp => K.keep (h3 p hp) (fun b _ hl => hg.block b hl (by simp)) hg.size⟩
theorem Gl.li {w : World} {B : Nat} {v : Value} {l : List α} (h : Gl K T sz w B v l) (hn : l.length ≤ 1000000) : Li K T w (fun b => B ≤ b) v l := by
 obtain ⟨ks,h1,h2,h3⟩ := h
 exact ⟨ks,h1,own_row h2 hn,fun p hp => K.imp (h3 p hp) (fun b _ hb => hb.1)⟩
theorem Gl.sl {w : World} {B : Nat} {v : Value} {l : List α} (h : Gl K T sz w B v l) : ∃ a c,v = .slice a l.length c := by
 obtain ⟨ks,h1,⟨_,⟨rfl,hn⟩ | ⟨g,c,cur,rfl,_⟩⟩,_⟩ := h
 · exact ⟨none,0,by rw [hn]⟩
 · exact ⟨_,_,rfl⟩
theorem Gl.lt {w : World} {B : Nat} {v : Value} {l : List α} (h : Gl K T sz w B v l) : ∀ g,v.ownBlock = some g → B ≤ g ∧ g < w.heap.size := by
 obtain ⟨ks,h1,h2,h3⟩ := h; exact own_lt h2
theorem Gl.add {t : Nat} (hE : El t T sz) {w : World} {B lo hi : Nat} {v : Value} {l : List α} (h : Gl K T sz w B v l) {e : α} {k : Q} (hx : K.S w (bt lo hi) e k) (hc : (K.c e k).length = sz) (h1c : ∀ u ∈ K.c e k,u.oneCell' = true) (hlo : B ≤ lo) (ho : ∀ g,v.ownBlock = some g → g < lo) (hn : l.length ≤ 1000000) (hB : B ≤ w.heap.size) :
 ∃ a' c' w',(Builtin.append_ #[t,t] t #[v,.slice (some ⟨w.heap.size,0,none⟩) 1 1]).run Tryz.prog (w.alloc (.cells (K.c e k).toArray T)) = .ok (.slice a' (l.length + 1) c') w' ∧
  Gl K T sz w' B (.slice a' (l ++ [e]).length c') (l ++ [e]) ∧ (w.alloc (.cells (K.c e k).toArray T)).grownBy w' v.ownBlock := by
 obtain ⟨ks,h1,h2,h3⟩ := h
 obtain ⟨a',c',w',r1,r2,r3,r4⟩ := acc_add hE h2 (K.c e k) hc h1c hn hB
 refine ⟨a',c',w',r1,⟨ks ++ [k],by simp [h1],?_,?_⟩,r3⟩
 · rw [List.zip_append h1.symm,List.flatMap_append]
   simpa using r2
 · have key : ∀ (ok : Nat → Prop) (e' : α) (k' : Q),K.S w ok e' k' → (∀ b,ok b → B ≤ b ∧ v.ownBlock ≠ some b) → K.S w' (off B (.slice a' (l ++ [e]).length c')) e' k' := by
    intro ok e' k' hx' hok
    have hx3 : K.S w (fun b => ok b ∧ b < w.heap.size) e' k' := K.imp hx' (fun b hb h => ⟨h,hb⟩)
    have hx5 := K.keep hx3 (w' := w.alloc (.cells (K.c e k).toArray T)) (fun b _ hl => hp_old hl _) (by simp)
    have hx4 := K.keep hx5 (w' := w') (fun b hb hl => r3.block b hl (fun he => (hok b hb.1).2 he.symm)) r3.size
    refine K.imp hx4 (fun b hb h => ⟨(hok b h.1).1,?_⟩)
    have e1 : (Value.slice a' (l ++ [e]).length c').ownBlock = (Value.slice a' (l.length + 1) c').ownBlock := by cases a' <;> rfl
    rw [e1]
    rcases r4 with r4 | r4
    · rw [r4]; exact (hok b h.1).2
    · rw [r4]; intro he; injection he with he; omega
   intro p hp
   rw [List.zip_append h1.symm] at hp
   rcases List.mem_append.1 hp with hp | hp
   · exact key _ _ _ (h3 p hp) (fun b hb => hb)
   · simp at hp; subst hp
     exact key _ _ _ hx (fun b hb => ⟨by have := hb.1; omega,fun he => by have := ho b he; have := hb.1; omega⟩)
theorem Li.kept {w w' : World} {ok : Nat → Prop} {v : Value} {l : List α} (h : Li K T w ok v l) (hk : ∀ b,ok b → b < w.heap.size → w'.heap[b]? = w.heap[b]?) (hs : w.heap.size ≤ w'.heap.size) : Li K T w' ok v l := by
 obtain ⟨ks,h1,h2,h3⟩ := h
 exact ⟨ks,h1,h2.kept hk hs,fun p hp => K.keep (h3 p hp) hk hs⟩
theorem Li.imp {w : World} {ok ok' : Nat → Prop} {v : Value} {l : List α} (h : Li K T w ok v l) (hk : ∀ b,b < w.heap.size → ok b → ok' b) : Li K T w ok' v l := by
 obtain ⟨ks,h1,h2,h3⟩ := h
 exact ⟨ks,h1,h2.imp hk,fun p hp => K.imp (h3 p hp) hk⟩
theorem Li.nil (w : World) (ok : Nat → Prop) : Li K T w ok (.slice none 0 0) [] := ⟨[],rfl,Row.nil _ _ _,by simp⟩
theorem Li.sl {w : World} {ok : Nat → Prop} {v : Value} {l : List α} (h : Li K T w ok v l) : ∃ a c,v = .slice a l.length c := by
 obtain ⟨ks,h1,⟨a,c,hv,_⟩,_⟩ := h; exact ⟨a,c,hv⟩
end
def aC (a : PArg) (k : Value) : List Value := [.string a.name,.bool a.out,.string a.to] ++ xC a.e k ++ [.int .i64 a.at']
def kdA : Kd PArg Value := ⟨aC,fun w ok a k => Xs w ok k a.e.kids,fun h hk hs => h.kept hk hs,fun h hk => h.imp hk⟩
def kdL : Kd (Int × Int) Unit := ⟨fun p _ => [.int .i64 p.1,.int .i64 p.2],fun _ _ _ _ => True,fun _ _ _ => trivial,fun _ _ => trivial⟩
def PArm.e : PArm → PE | .mk e _ _ => e
def PArm.labels : PArm → List (Int × Int) | .mk _ l _ => l
def PArm.body : PArm → List PS | .mk _ _ b => b
def mC (a : PArm) (q : Value × Value × Value) : List Value := xC a.e q.1 ++ [q.2.1,q.2.2]
def PS.es : PS → List PE | .mk _ _ _ _ e _ _ _ _ _ _ _ _ => e
def PS.args : PS → List PArg | .mk _ _ _ _ _ a _ _ _ _ _ _ _ => a
def PS.arms : PS → List PArm | .mk _ _ _ _ _ _ a _ _ _ _ _ _ => a
def PS.els : PS → List PS | .mk _ _ _ _ _ _ _ e _ _ _ _ _ => e
def PS.body : PS → List PS | .mk _ _ _ _ _ _ _ _ b _ _ _ _ => b
structure Sq where
 es : Value
 args : Value
 arms : Value
 els : Value
 body : Value
def sC : PS → Sq → List Value | .mk v a n i _ _ _ _ _ lo hi by' ti,q => [.int .i64 v,.int .i64 a,.string n,.bool i,q.es,q.args,q.arms,q.els,q.body,.int .i64 lo,.int .i64 hi,.int .i64 by',.int .i64 ti]
inductive Sm (w : World) (ok : Nat → Prop) : Value → List PS ⊕ List PArm → Prop
 | stmts (v : Value) (l : List PS) (qs : List Sq) (hl : qs.length = l.length) (hr : Row w ok 94 v l.length ((l.zip qs).flatMap fun p => sC p.1 p.2)) (h1 : ∀ p,p ∈ l.zip qs → Xs w ok p.2.es p.1.es ∧ Li kdA 97 w ok p.2.args p.1.args)
  (h2 : ∀ p,p ∈ l.zip qs → Sm w ok p.2.arms (.inr p.1.arms)) (h3 : ∀ p,p ∈ l.zip qs → Sm w ok p.2.els (.inl p.1.els)) (h4 : ∀ p,p ∈ l.zip qs → Sm w ok p.2.body (.inl p.1.body)) : Sm w ok v (.inl l)
 | ways (v : Value) (l : List PArm) (qs : List (Value × Value × Value)) (hl : qs.length = l.length) (hr : Row w ok 100 v l.length ((l.zip qs).flatMap fun p => mC p.1 p.2)) (h1 : ∀ p,p ∈ l.zip qs → Xs w ok p.2.1 p.1.e.kids ∧ Li kdL 103 w ok p.2.2.1 p.1.labels)
  (h2 : ∀ p,p ∈ l.zip qs → Sm w ok p.2.2.2 (.inl p.1.body)) : Sm w ok v (.inr l)
theorem Sm.kept {w w' : World} {ok : Nat → Prop} (hk : ∀ b,ok b → b < w.heap.size → w'.heap[b]? = w.heap[b]?) (hs : w.heap.size ≤ w'.heap.size) {v : Value} {l : List PS ⊕ List PArm} (h : Sm w ok v l) : Sm w' ok v l := by
 induction h with
 | stmts v l qs hl hr h1 _ _ _ i2 i3 i4 => exact .stmts v l qs hl (hr.kept hk hs) (fun p hp => ⟨(h1 p hp).1.kept hk hs,(h1 p hp).2.kept hk hs⟩) i2 i3 i4
 | ways v l qs hl hr h1 _ i2 => exact .ways v l qs hl (hr.kept hk hs) (fun p hp => ⟨(h1 p hp).1.kept hk hs,(h1 p hp).2.kept hk hs⟩) i2
theorem Sm.imp {w : World} {ok ok' : Nat → Prop} (hk : ∀ b,b < w.heap.size → ok b → ok' b) {v : Value} {l : List PS ⊕ List PArm} (h : Sm w ok v l) : Sm w ok' v l := by
 induction h with
 | stmts v l qs hl hr h1 _ _ _ i2 i3 i4 => exact .stmts v l qs hl (hr.imp hk) (fun p hp => ⟨(h1 p hp).1.imp hk,(h1 p hp).2.imp hk⟩) i2 i3 i4
 | ways v l qs hl hr h1 _ i2 => exact .ways v l qs hl (hr.imp hk) (fun p hp => ⟨(h1 p hp).1.imp hk,(h1 p hp).2.imp hk⟩) i2
def sS (w : World) (ok : Nat → Prop) (p : PS) (q : Sq) : Prop := (Xs w ok q.es p.es ∧ Li kdA 97 w ok q.args p.args) ∧ Sm w ok q.arms (.inr p.arms) ∧ Sm w ok q.els (.inl p.els) ∧ Sm w ok q.body (.inl p.body)
def mS (w : World) (ok : Nat → Prop) (p : PArm) (q : Value × Value × Value) : Prop := (Xs w ok q.1 p.e.kids ∧ Li kdL 103 w ok q.2.1 p.labels) ∧ Sm w ok q.2.2 (.inl p.body)
def kdS : Kd PS Sq := ⟨sC,sS,fun h hk hs => ⟨⟨h.1.1.kept hk hs,h.1.2.kept hk hs⟩,h.2.1.kept hk hs,h.2.2.1.kept hk hs,h.2.2.2.kept hk hs⟩,fun h hk => ⟨⟨h.1.1.imp hk,h.1.2.imp hk⟩,h.2.1.imp hk,h.2.2.1.imp hk,h.2.2.2.imp hk⟩⟩
def kdM : Kd PArm (Value × Value × Value) := ⟨mC,mS,fun h hk hs => ⟨⟨h.1.1.kept hk hs,h.1.2.kept hk hs⟩,h.2.kept hk hs⟩,fun h hk => ⟨⟨h.1.1.imp hk,h.1.2.imp hk⟩,h.2.imp hk⟩⟩
theorem Li.ss {w : World} {ok : Nat → Prop} {v : Value} {l : List PS} (h : Li kdS 94 w ok v l) : Sm w ok v (.inl l) := by
 obtain ⟨qs,h1,h2,h3⟩ := h
 exact .stmts v l qs h1 h2 (fun p hp => (h3 p hp).1) (fun p hp => (h3 p hp).2.1) (fun p hp => (h3 p hp).2.2.1) (fun p hp => (h3 p hp).2.2.2)
theorem Li.ms {w : World} {ok : Nat → Prop} {v : Value} {l : List PArm} (h : Li kdM 100 w ok v l) : Sm w ok v (.inr l) := by
 obtain ⟨qs,h1,h2,h3⟩ := h
 exact .ways v l qs h1 h2 (fun p hp => (h3 p hp).1) (fun p hp => (h3 p hp).2)
theorem Sm.ss {w : World} {ok : Nat → Prop} {v : Value} {l : List PS} (h : Sm w ok v (.inl l)) : Li kdS 94 w ok v l := by
 cases h with
 | stmts _ _ qs hl hr h1 h2 h3 h4 => exact ⟨qs,hl,hr,fun p hp => ⟨h1 p hp,h2 p hp,h3 p hp,h4 p hp⟩⟩
theorem Sm.ms {w : World} {ok : Nat → Prop} {v : Value} {l : List PArm} (h : Sm w ok v (.inr l)) : Li kdM 100 w ok v l := by
 cases h with
 | ways _ _ qs hl hr h1 h2 => exact ⟨qs,hl,hr,fun p hp => ⟨h1 p hp,h2 p hp⟩⟩
theorem el31 : El 31 94 13 := ⟨Tryz.underlying31,by
 obtain ⟨i,h1,h2,h3,h4⟩ := info_parts (P := Tryz.prog) (e := 94) (z := some (.agg #[.int .i64 0,.int .i64 0,.string ⟨#[]⟩,.bool false,.slice none 0 0,.slice none 0 0,.slice none 0 0,.slice none 0 0,.slice none 0 0,.int .i64 0,.int .i64 0,.int .i64 0,.int .i64 0])) (n := 13) (m := 192) (by kernel_rfl)
 exact ⟨i,_,h1,h2,h3,by omega,rfl,by omega⟩⟩
theorem el91 : El 91 97 12 := ⟨Tryz.underlying91,by
 obtain ⟨i,h1,h2,h3,h4⟩ := info_parts (P := Tryz.prog) (e := 97) (z := some (.agg #[.string ⟨#[]⟩,.bool false,.string ⟨#[]⟩,.int .i64 0,.int .i64 0,.int .i64 0,.int .i64 0,.string ⟨#[]⟩,.string ⟨#[]⟩,.int .i64 0,.slice none 0 0,.int .i64 0])) (n := 12) (m := 144) (by kernel_rfl)
 exact ⟨i,_,h1,h2,h3,by omega,rfl,by omega⟩⟩
theorem el92 : El 92 100 10 := ⟨Tryz.underlying92,by
 obtain ⟨i,h1,h2,h3,h4⟩ := info_parts (P := Tryz.prog) (e := 100) (z := some (.agg #[.int .i64 0,.int .i64 0,.int .i64 0,.int .i64 0,.string ⟨#[]⟩,.string ⟨#[]⟩,.int .i64 0,.slice none 0 0,.slice none 0 0,.slice none 0 0])) (n := 10) (m := 144) (by kernel_rfl)
 exact ⟨i,_,h1,h2,h3,by omega,rfl,by omega⟩⟩
theorem el98 : El 98 103 2 := ⟨Tryz.underlying98,by
 obtain ⟨i,h1,h2,h3,h4⟩ := info_parts (P := Tryz.prog) (e := 103) (z := some (.agg #[.int .i64 0,.int .i64 0])) (n := 2) (m := 16) (by kernel_rfl)
 exact ⟨i,_,h1,h2,h3,by omega,rfl,by omega⟩⟩
end Go.Proofs.YtdcoidmbainkmaaGreatDoor

namespace Go.Proofs.YtdcoidmbainkmaaGreatDoor
open Go.RowKit
attribute [local go_sem ↓] Go.wp_at_zero Go.wp_at_succ
set_option linter.unusedVariables false
set_option linter.unusedSimpArgs false
section
variable {V : World} {F : Int → Tok} {R : Nat} {s : ByteArray} {u : Int}
def ExC (V : World) (F : Int → Tok) (R : Nat) (s : ByteArray) (u : Int) (d : Nat) : Prop := ∀ (w : World) (t : Tok) (dp : Int),dp = 41 - d → Cx V F R s u w t → Calls Tryz.prog 153 #[rV R,.int .i64 dp] w (Out V F R s u w (exP F (s.size + 2) d t) (XeP w))
def GiL (V : World) (F : Int → Tok) (R : Nat) (s : ByteArray) (u : Int) (w : World) (ex : Tok → Res PE) (r0 : Res (List PE)) (gk : Nat) (s5 s6 : Value) (wx : World) : Prop :=
 ∃ (l : List PE) (a : Option Addr) (c : Nat) (tk : Tok) (m : Bool),s5 = .slice a l.length c ∧ s6 = .bool m ∧ Cx V F R s u wx tk ∧ w.grownBy wx (some R) ∧ wx.heap[w.heap.size]? = some (.cells #[pR R] 46) ∧
  Xl wx (w.heap.size + 1) (.slice a l.length c) l ∧ w.heap.size + 1 ≤ wx.heap.size ∧ l.length ≤ 8 ∧ (m = true → gk = s.size + 3 - l.length ∧ (l.length : Int) ≤ tk.a ∧ givL F ex (s.size + 2 - l.length) l tk = r0) ∧ (m = false → gk = 0 ∧ r0 = .ok l tk)
set_option maxRecDepth 10000 in
set_option maxHeartbeats 4000000 in
theorem given_any (d : Nat) (hd : d ≤ 40) (hE : ExC V F R s u d) (w : World) (t : Tok) (dp : Int) (hdp : dp = 41 - d) (C : Cx V F R s u w t) : Calls Tryz.prog 244 #[rV R,.int .i64 dp] w (Out V F R s u w (givL F (exP F (s.size + 2) d) (s.size + 2) [] t) (fun w' v l => Xs w' (nw w) v l)) := by
 have HE : Hid (ExC V F R s u d) := hE
 have HD : Hid (dp = 41 - (d : Int)) := hdp
 have hadv : Adv s.size 1 (exP F (s.size + 2) d) := ex_adv C.G _ _
 have HAdv := hidI hadv
 clear hE hdp hadv
 have HC : Hid (Cx V F R s u w t) := C
 have C0 := HC
 have G0 : Hid (w.grownBy w (some R)) := World.grownBy.refl _ _
 have HR : Hid (R < w.heap.size ∧ 15 ≤ w.heap.size ∧ 15 ≤ R) := ⟨C.lt,C.sz,C.r15⟩
 clear C
 go_enter Tryz.func244,Tryz.ntmps244
 obtain ⟨ex,hex⟩ : ∃ p,exP F (s.size + 2) d = p := ⟨_,rfl⟩
 have HX : Hid (exP F (s.size + 2) d = ex) := hex
 rw [hex]
 clear hex
 have LS : Hid (GiL V F R s u w ex (givL F ex (s.size + 2) [] t) (s.size + 3) (.slice none 0 0) (.bool true) (w.alloc (.cells #[pR R] 46))) :=
  ⟨[],none,0,t,true,rfl,rfl,HC.out.al _,gr_alloc (World.grownBy.refl _ _) _,new _ _,Xl.nil _ _,by simp,by simp,fun _ => ⟨rfl,by have := HC.out.ok.1; simpa using this,rfl⟩,fun h => by cases h⟩
 go_wp2_with fail
 go_loopg [5,6] (s.size + 3) (fun gk s5 s6 wx => GiL V F R s u w ex (givL F ex (s.size + 2) [] t) gk s5 s6 wx)
 case atStart => exact LS.out
 case round =>
  obtain ⟨l,a,c,tk,m,rfl,rfl,CC,gg,hA,hX,hq,hl8,hm1,hm2⟩ := hrel
  cases m with
  | false =>
   obtain ⟨_,hr⟩ := hm2 rfl
   have HH := hidI (And.intro CC (And.intro gg (And.intro hX (And.intro hr hl8))))
   clear CC gg hA hX hq hm1 hm2 hr hl8
   go_wp2_with fail
   go_ret
   obtain ⟨CC,gg,hX,hr,hl8⟩ := HH.out
   exact Out.ok hr ((hX.xs (by omega)).imp (fun b _ (hb : w.heap.size + 1 ≤ b) => (by omega : w.heap.size ≤ b))) CC gg
  | true =>
   obtain ⟨hgk,hk,hr⟩ := hm1 rfl
   have C1 := hidI CC
   have G1 := hidI gg
   have A1 := hidI hA
   have L1 := hidI hX
   have S1 := hidI hq
   have HRr := hidI hr
   have HG := hidI hgk
   have HK := hidI hk
   have H8 := hidI hl8
   have hf : s.size + 2 - l.length = (s.size + 1 - l.length) + 1 := by have := CC.ok.2.1; omega
   have HF := hidI hf
   clear CC gg hA hX hq hr hgk hk hf hm1 hm2 hl8
   obtain ⟨ap,aq,ar,af,ag,ah⟩ := facts A1.out
   go_wp2_with fail
   refine (beg_any C1.out).mono ?_
   intro e w2 h
   rcases h.get with ⟨_,t2,v2,r2,rfl,rfl,CC,g⟩ | ⟨cc,aa,r2,rfl,g⟩
   rotate_left
   · exact ⟨rfl,Out.bad (by rw [← HRr.out,HF.out,givL]; rw [r2]; try rfl) (gtr G1.out g)⟩
   have L2 := hidI (L1.out.g g (by have := HR.out; have := S1.out; omega))
   have A2 : Hid (w2.heap[w.heap.size]? = some (.cells #[pR R] 46)) := keptBut g A1.out (by have := HR.out; have := S1.out; omega)
   have G2 := hidI (gtr G1.out g)
   have C2 := hidI CC
   have S2 : Hid (wr.heap.size + 0 ≤ w2.heap.size) := hidI (by have := g.size; (try simp at this); omega)
   clear g CC h ap aq ar af ag ah
   have T2 : Hid (tk.a + 0 ≤ t2.a) := (beg_adv C1.out.G _ _ _ C1.out.ok r2).2
   by_cases h8 : l.length = 8
   · have h8' : ((l.length : Int) == 8) = true := by rw [h8]; rfl
     obtain ⟨ap,aq,ar,af,ag,ah⟩ := facts A2.out
     have adq : ∀ i,w2.drew.cell? ⟨w.heap.size,i,none⟩ = #[pR R][i]? := ap
     obtain ⟨z0,z1,z2,z3,z4,z5,z6,z7⟩ := C2.out.drew.rd.cells
     go_wp2_with fail
     go_region_dies
     all_goals (refine (giveUp_any R s t2 u _ _ _ C2.out.drew.rd).mono ?_; rintro e w3 ⟨rfl,rfl⟩; exact ⟨rfl,Out.bad (by rw [← HRr.out,HF.out,givL]; rw [r2]; try rw [bindOk]; rw [if_pos h8]) (gr_drew G2.out)⟩)
   have h8' : ((l.length : Int) == 8) = false := by rw [Bool.eq_false_iff]; intro h; simp at h; omega
   obtain ⟨ap,aq,ar,af,ag,ah⟩ := facts A2.out
   have hne : ∀ (q : Int),q = 8 → True := fun _ _ => trivial
   clear hne
   go_wp2_with fail
   refine (HE.out _ _ dp HD.out C2.out).mono ?_
   intro e w3 h
   rcases h.get with ⟨e1,t3,v3,r3,rfl,hv,CC,g⟩ | ⟨cc,aa,r3,rfl,g⟩
   rotate_left
   · exact ⟨rfl,Out.bad (by rw [← HRr.out,HF.out,givL]; rw [r2]; try rw [bindOk]; rw [if_neg h8,← HX.out]; rw [r3]; try rfl) (gtr G2.out g)⟩
   have L3 := hidI (L2.out.g g (by have := HR.out; have := S1.out; have := S2.out; omega))
   rcases e1 with ⟨f1,o1,kd1,n1,nm1,pt1,a1,ks1⟩
   obtain ⟨kx1,kc1,rfl,hx⟩ := Xe_sl hv
   have X3 := hidI (hx.tag w2.heap.size (Nat.le_refl _))
   clear hx hv
   have A3 : Hid (w3.heap[w.heap.size]? = some (.cells #[pR R] 46)) := keptBut g A2.out (by have := HR.out; have := S1.out; have := S2.out; omega)
   have G3 := hidI (gtr G2.out g)
   have C3 := hidI CC
   have S3 : Hid (w2.heap.size + 0 ≤ w3.heap.size) := hidI (by have := g.size; (try simp at this); omega)
   clear g CC h ap aq ar af ag ah
   have T3 : Hid (t2.a + 1 ≤ t3.a) := (HAdv.out _ _ _ C2.out.ok r3).2
   obtain ⟨a2,c2,w4,hrun,L4,g4⟩ := L3.out.add (e := .mk f1 o1 kd1 n1 nm1 pt1 a1 ks1) X3.out (by have := HR.out; have := S1.out; have := S2.out; have := S3.out; omega) (fun g hg => (L2.out.lt g hg).2) rfl (by have := H8.out; omega) (by have := HR.out; have := S1.out; have := S2.out; have := S3.out; omega)
   have ho := L3.out.lt
   have HRUN : Hid ((Builtin.append_ #[59,59] 59 #[.slice a l.length c,.slice (some ⟨w3.heap.size,0,none⟩) 1 1]).run Tryz.prog (w3.alloc (.cells #[.int .i64 f1,.int .i64 o1,.int .i64 kd1,.int .i64 n1,.string nm1,.string pt1,.int .i64 a1,.slice kx1 ks1.length kc1] 61)) = .ok (.slice a2 (l.length + 1) c2) w4) := hrun
   have C4 := hidI ((C3.out.al _).ga g4 (fun q hq => by have := ho q hq; have := HR.out; constructor <;> omega))
   have G4 := hidI (grown_join (gr_alloc G3.out _) g4 (Or.inr (fun q hq => by have := ho q hq; omega)))
   have A4 := hidI (keptRow g4 (old A3.out _) (fun e => by have := ho _ e; omega))
   have S4 : Hid (w3.heap.size + 1 ≤ w4.heap.size) := by have := g4.size; simp at this; exact this
   have Z1 := hidI (And.intro HR.out (And.intro S1.out (And.intro S2.out (And.intro S3.out S4.out))))
   have LL := hidI L4
   clear hrun L4 g4 ho
   obtain ⟨ap,aq,ar,af,ag,ah⟩ := facts A4.out
   go_wp2_with (first | (at_builtin; refine wpList_append_run rfl _ _ 59 rfl _ _ _ _ rfl rfl HRUN.out ?_))
   refine (needW C4.out _ [⟨#[44]⟩,⟨#[41]⟩] _ _ _ (by simp) rfl rfl (by decide)).mono ?_
   intro e w5 h
   rcases h.get with ⟨k,t5,v5,r5,rfl,rfl,CC,g⟩ | ⟨cc,aa,r5,rfl,g⟩
   rotate_left
   · exact ⟨rfl,Out.bad (by rw [← HRr.out,HF.out,givL]; rw [r2]; try rw [bindOk]; rw [if_neg h8,← HX.out]; rw [r3]; try rw [bindOk]; rw [r5]; rfl) (gtr (gr_alloc G4.out _) g)⟩
   have L5 := hidI ((LL.out.gn (gr1 _ _)).g g (by have := Z1.out; omega))
   have A5 : Hid (w5.heap[w.heap.size]? = some (.cells #[pR R] 46)) := keptBut g (old A4.out _) (by have := Z1.out; omega)
   have G5 := hidI (gtr (gr_alloc G4.out _) g)
   have C5 := hidI CC
   have S5 : Hid (w4.heap.size + 1 ≤ w5.heap.size) := hidI (by have := g.size; (try simp at this); omega)
   have Z2 := hidI (And.intro HR.out (And.intro S1.out (And.intro S2.out (And.intro S3.out (And.intro S4.out S5.out)))))
   clear g CC h ap aq ar af ag ah
   have T5 : Hid (t3.a + 1 ≤ t5.a) := (need_adv C3.out.G _ _ _ _ C3.out.ok r5).2
   have hX := fldX k
   by_cases hk : k.x = ⟨#[44]⟩
   · have hk' : (k.x.toList == [44]) = true := by rw [eqS]; simpa using hk
     go_wp2_with fail
     have hgl := HG.out
     have h8l := H8.out
     have hkk := HK.out
     have q2 := T2.out
     have q3 := T3.out
     have q5 := T5.out
     have qs := HF.out
     go_roundg (s.size + 3 - (l.length + 1))
     case measure => omega
     case rel =>
      refine ⟨l ++ [.mk f1 o1 kd1 n1 nm1 pt1 a1 ks1],a2,c2,t5,true,by simp,rfl,C5.out,G5.out,A5.out,L5.out,by have := Z2.out; omega,by simp; omega,fun _ => ⟨by simp,by simp; omega,?_⟩,(fun h => by cases h)⟩
      rw [show s.size + 2 - (l ++ [PE.mk f1 o1 kd1 n1 nm1 pt1 a1 ks1]).length = s.size + 1 - l.length by simp]
      symm; rw [← HRr.out,HF.out,givL]; rw [r2]; try rw [bindOk]; rw [if_neg h8,← HX.out]; rw [r3]; try rw [bindOk]; rw [r5]; try rw [bindOk]; rw [if_pos hk,HX.out]
   · have hk' : (k.x.toList == [44]) = false := by rw [eqS]; simpa using hk
     go_wp2_with fail
     have hgl := HG.out
     have h8l := H8.out
     have hkk := HK.out
     have q2 := T2.out
     have q3 := T3.out
     have q5 := T5.out
     have qs := HF.out
     go_roundg 0
     case measure => omega
     case rel =>
      refine ⟨l ++ [.mk f1 o1 kd1 n1 nm1 pt1 a1 ks1],a2,c2,t5,false,by simp,rfl,C5.out,G5.out,A5.out,L5.out,by have := Z2.out; omega,by simp; omega,(fun h => by cases h),fun _ => ⟨rfl,?_⟩⟩
      rw [← HRr.out,HF.out,givL]; rw [r2]; try rw [bindOk]; rw [if_neg h8,← HX.out]; rw [r3]; try rw [bindOk]; rw [r5]; try rw [bindOk]; rw [if_neg hk]
end
end Go.Proofs.YtdcoidmbainkmaaGreatDoor
