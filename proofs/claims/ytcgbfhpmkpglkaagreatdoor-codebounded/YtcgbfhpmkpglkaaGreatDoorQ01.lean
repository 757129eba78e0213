/- Texts put together: B0, V0, V1, V2, V4, V5, L2a, N0. -/
import Derived.Test.YtcgbfhpmkpglkaaGreatDoorRows
import Derived.WalkKit
import Derived.WalkSpells
import Derived.WalkLawsBesides
import Derived.Outline
import Derived.Deep.LoopGhost
import Derived.Deep.QuietTactic
import Derived.BigQuiet
import Derived.Deep.RegionHeld3
import Derived.Deep.DrawnRows
import Derived.Maps.AppendAt
import Derived.Laws.AppendOwnNone
import Derived.Laws.CopyOwn
import Derived.Laws.MakeOwn
import Derived.OpenShut
import Derived.WalkSmall
/- What becomes of a block of one's own, and of the rest; lists of numbers that can be read. -/
namespace Go.Proofs.YtcgbfhpmkpglkaaGreatDoor
open Go.RowKit
attribute [local go_sem ↓] Go.wp_at_zero Go.wp_at_succ
set_option linter.unusedVariables false
set_option linter.unusedSimpArgs false

theorem gr_set {w W : World} {p : Nat} (h : w.grownBy W (some p)) (i : Nat) (v : Value) : w.grownBy (W.setCell ⟨p, i, none⟩ v) (some p) :=
  ⟨h.os, h.tape, h.output, by simpa using h.size, fun k hk hne => by rw [Below.heap_setCell _ _ _ _ (fun e => hne (by rw [e]))]; exact h.block k hk hne⟩

theorem gr_alloc {w W : World} {r : Option Nat} (h : w.grownBy W r) (o : Obj) : w.grownBy (W.alloc o) r :=
  ⟨h.os, h.tape, h.output, by simp; have := h.size; omega, fun k hk hne => by rw [Below.heap_alloc _ _ _ (Nat.lt_of_lt_of_le hk h.size)]; exact h.block k hk hne⟩

theorem gr_drew {w W : World} {r : Option Nat} (h : w.grownBy W r) : w.grownBy W.drew r := ⟨h.os, h.tape, h.output, h.size, h.block⟩

theorem at_set {W : World} {p : Nat} {cs : Array Value} {T : TypeId} (h : W.heap[p]? = some (.cells cs T)) (i : Nat) (v : Value) : (W.setCell ⟨p, i, none⟩ v).heap[p]? = some (.cells (cs.setIfInBounds i v) T) :=
  heap_setCell_same W p i cs T v h

theorem at_cell {W : World} {p : Nat} {cs : Array Value} {T : TypeId} (h : W.heap[p]? = some (.cells cs T)) (i : Nat) : W.cell? ⟨p, i, none⟩ = cs[i]? := by
  simp [World.cell?, h]

theorem at_frozen {W : World} {p : Nat} {cs : Array Value} {T : TypeId} (h : W.heap[p]? = some (.cells cs T)) (i : Nat) : W.frozen? ⟨p, i, none⟩ = false := by
  simp [World.frozen?, h]

theorem at_lt {W : World} {p : Nat} {o : Obj} (h : W.heap[p]? = some o) : p < W.heap.size := (Array.getElem?_eq_some_iff.1 h).1

theorem gr_none {w W : World} {p : Nat} (h : w.grownBy W none) : w.grownBy W (some p) := ⟨h.os, h.tape, h.output, h.size, fun k hk _ => h.block k hk (by simp)⟩

theorem gr_own {w W : World} {p : Nat} (h : w.grownBy W none) (hp : w.heap.size ≤ p) (i : Nat) (v : Value) : w.grownBy (W.setCell ⟨p, i, none⟩ v) none :=
  ⟨h.os, h.tape, h.output, by simpa using h.size, fun k hk hne => by rw [Below.heap_setCell _ _ _ _ (by simp; omega)]; exact h.block k hk hne⟩

theorem hp_new {w : World} {k : Nat} (h : k = w.heap.size) (o : Obj) : (w.alloc o).heap[k]? = some o := by
  subst h
  exact heap_alloc_new w o

theorem hp_old {w : World} {k : Nat} (h : k < w.heap.size) (o : Obj) : (w.alloc o).heap[k]? = w.heap[k]? := Below.heap_alloc _ _ _ h

theorem hp_drew (w : World) (k : Nat) : w.drew.heap[k]? = w.heap[k]? := rfl

def rd (w : World) (v : Value) (l : List Int) : Prop :=
  ∃ a cap, v = .slice a l.length cap ∧ (l = [] ∨ ∃ b off, a = some ⟨b, off, none⟩ ∧ ∀ i, i < l.length → w.cell? ⟨b, off + i, none⟩ = some (.int .i64 (l.getD i 0)))

def intsA (l : List Int) : Array Value := (l.map (Value.int .i64)).toArray

theorem rd_at {w : World} {v : Value} {l : List Int} (h : rd w v l) (hl : 0 < l.length) : ∃ b off cap, v = .slice (some ⟨b, off, none⟩) l.length cap ∧ ∀ i, i < l.length → w.cell? ⟨b, off + i, none⟩ = some (.int .i64 (l.getD i 0)) := by
  obtain ⟨a, cap, rfl, h | ⟨b, off, rfl, hc⟩⟩ := h
  · subst h; simp at hl
  · exact ⟨b, off, cap, rfl, hc⟩

theorem kept {w w' : World} {k : Nat} {o : Obj} (hg : w.grownBy w' none) (h : w.heap[k]? = some o) : w'.heap[k]? = some o := (hg.block k (at_lt h) (by simp)).trans h

theorem keptBut {w w' : World} {k p : Nat} {o : Obj} (hg : w.grownBy w' (some p)) (h : w.heap[k]? = some o) (hne : k ≠ p) : w'.heap[k]? = some o := (hg.block k (at_lt h) (by simpa using hne)).trans h

theorem rd_grown {w w' : World} {v : Value} {l : List Int} (h : rd w v l) (hg : w.grownBy w' none) : rd w' v l := by
  obtain ⟨a, cap, rfl, h | ⟨b, off, rfl, hc⟩⟩ := h
  · exact ⟨a, cap, rfl, .inl h⟩
  · exact ⟨_, cap, rfl, .inr ⟨b, off, rfl, fun i hi => hg.cell (hc i hi) (by simp)⟩⟩

theorem intsA_set (l : List Int) (k : Nat) (x : Int) : (intsA l).setIfInBounds k (.int .i64 x) = intsA (l.set k x) := by
  unfold intsA
  simp [List.map_set]

theorem ck_set {W : World} {b i j p : Nat} {v x : Value} (hne : b ≠ p) (h : W.cell? ⟨b, j, none⟩ = some v) : (W.setCell ⟨p, i, none⟩ x).cell? ⟨b, j, none⟩ = some v := by
  rw [← h]
  exact World.cell?_of_block (Below.heap_setCell _ _ _ _ (by simpa using hne))

theorem wpList_append_run {P : Program} {w : World} {ops : Array Oper} {rest : List Oper} {o : Oper} {a : Act} {Q : Exit → Act → World → Prop} (hgd : o.guard = none) (s x : Operand) (t : TypeId)
    (ho : o.op = .call { callee := .builtin .append, args := #[s, x], argTypes := #[t, t] })
    (v u v' : Value) (w' : World) (hs : a.eval s = v) (hx : a.eval x = u) (hrun : (Builtin.append_ #[t, t] o.type #[v, u]).run P w = .ok v' w')
    (h : wpList P ops Q rest (a.put o.dst v') w') : wpList P ops Q (o :: rest) a w := by
  refine wpList_plain hgd fun K hK => ?_
  unfold Oper.wp
  simp [execOp, ho, resolve, invoke, builtin, hs, hx, hrun, Result.andThen]
  exact hK _ _ h

theorem grown_join {a b c : World} {row row' : Option Nat} (h : a.grownBy b row) (k : b.grownBy c row') (hr : row' = row ∨ ∀ x, row' = some x → a.heap.size ≤ x) : a.grownBy c row :=
  ⟨k.os.trans h.os, k.tape.trans h.tape, k.output.trans h.output, Nat.le_trans h.size k.size, fun x hx hne => by
    have h2 : some x ≠ row' := by
      rcases hr with rfl | hr
      · exact hne
      · intro e
        have := hr x e.symm
        omega
    exact (k.block x (Nat.lt_of_lt_of_le hx h.size) h2).trans (h.block x hx hne)⟩

theorem info_parts {P : Program} {e : TypeId} {z : Option Value} {n m : Nat} (h : (P.info? e).map (fun i => (i.zero, i.size, i.bytes)) = some (z, n, m)) : ∃ i, P.info? e = some i ∧ i.zero = z ∧ i.size = n ∧ i.bytes = m := by
  cases hi : P.info? e with
  | none => simp [hi] at h
  | some i =>
    simp [hi] at h
    exact ⟨i, rfl, h.1, h.2.1, h.2.2⟩

theorem info3 : (Tryz.prog.info? 3).map (fun i => (i.zero, i.size, i.bytes)) = some (some (.int .i64 0), 1, 8) := by kernel_rfl

def Mine (e size c : Nat) (w wx : World) (v : Value) (n : Nat) : Prop := ∃ xs, wx.ownsRow 0 e size v n xs ∧ (v.ownBlock = some c ∨ ∀ x, v.ownBlock = some x → w.heap.size ≤ x) ∧ w.grownBy wx (some c)

theorem mine_more {e size bytes t c : Nat} {z : Value} {w wx : World} {v : Value} {n : Nat} {i : TypeInfo} (ht : Tryz.prog.underlying t = some (.slice e)) (hi : Tryz.prog.info? e = some i) (hz : i.zero = some z) (hs : i.size = size) (hb : i.bytes = bytes) (hzs : z.cells.size = size) (hpos : 0 < size)
    (h : Mine e size c w wx v n) (cur : List Value) (hcur : cur.length = size) (h1 : ∀ u ∈ cur, u.oneCell' = true) (hn : n ≤ 1000) (hb64 : bytes ≤ 64) :
    ∃ v' w', (Builtin.append_ #[t, t] t #[v, .slice (some ⟨wx.heap.size, 0, none⟩) 1 1]).run Tryz.prog (wx.alloc (.cells cur.toArray e)) = .ok v' w' ∧ Mine e size c w w' v' (n + 1) := by
  obtain ⟨xs, hown, hor, hgr⟩ := h
  obtain ⟨v', w', r1, r2, r3, _, r5⟩ := run_append_own_at (P := Tryz.prog) (wx.alloc (.cells cur.toArray e)) 0 t t e i z size bytes ht hi hz hs hb hzs hpos v n xs (hown.alloc _) ⟨wx.heap.size, 0, none⟩ 1 1 cur (by omega)
    (fun j u hj => by
      have e1 : (⟨wx.heap.size, 0, none⟩ : Addr).add j = ⟨wx.heap.size, j, none⟩ := by unfold Addr.add; split <;> simp_all
      rw [e1, at_cell (heap_alloc_new wx _) j]
      simpa using hj)
    h1 (by unfold maxLen; omega) (by
      have : (n + 1) * bytes ≤ 1001 * 64 := Nat.mul_le_mul (by omega) hb64
      omega) (Nat.zero_le _)
  refine ⟨v', w', r1, _, r2, ?_, ?_⟩
  · rcases r5 with h5 | h5
    · rw [h5]; exact hor
    · right
      intro x hx
      rw [h5] at hx
      simp at hx
      have := hgr.size
      omega
  · refine grown_join (gr_alloc hgr _) r3 ?_
    rcases hor with h | h
    · exact .inl h
    · exact .inr h

theorem mine_start {e size c : Nat} {w wx : World} {arr : Array Value} {n : Nat} (h : wx.heap[c]? = some (.cells arr e)) (hs : arr.size = n * size) (hn : n ≤ 1000) (hg : w.grownBy wx (some c)) : Mine e size c w wx (.slice (some ⟨c, 0, none⟩) n n) n :=
  ⟨arr.toList.take (n * size), ⟨by simp [hs], .inr ⟨c, n, arr, rfl, Nat.zero_le _, h, Nat.le_refl _, by unfold maxLen; omega, hs, rfl⟩⟩, .inl rfl, hg⟩

theorem gr_below {w w' : World} (h : Below w.heap.size w w') : w.grownBy w' none := ⟨h.os, h.tape, h.output, h.size, fun k hk _ => h.block k hk⟩

theorem below_gr {w w' : World} (h : w.grownBy w' none) : Below w.heap.size w w' := ⟨h.os, h.tape, h.output, h.size, fun k hk => h.block k hk (by simp)⟩

theorem gr_drewN {w W : World} {r : Option Nat} (h : w.grownBy W r) (n : Nat) : w.grownBy (W.drewN n) r := ⟨h.os, h.tape, h.output, h.size, h.block⟩

theorem addn (b off k : Nat) : (⟨b, off, none⟩ : Addr).add k = ⟨b, off + k, none⟩ := by unfold Addr.add; split <;> simp_all

end Go.Proofs.YtcgbfhpmkpglkaaGreatDoor

/- Plain facts on texts of instructions: loops that are looked at pair by pair, and loops that are gone through with a stack, are the same; no program in sight. -/
namespace Go.Proofs.YtcgbfhpmkpglkaaGreatDoor

/-- An instruction. -/
structure Ins where
  d : Int
  a : Int
  b : Int
  c : Int

def nth (t : List Ins) (i : Nat) : Ins := (t[i]?).getD ⟨0, 0, 0, 0⟩
def isE (t : List Ins) (i : Nat) : Bool := (nth t i).d == 13
def isR (t : List Ins) (i : Nat) : Bool := (nth t i).d == 14
/-- A Round that goes back to a place. -/
def goes (f : Int) (x : Ins) : Bool := x.d == 14 && x.b == f
/-- The first Round that goes back to a place (the length: there is none). -/
def rnd (t : List Ins) (f : Nat) : Nat := t.findIdx (goes f)
/-- How many of the first k are Rounds that go to a place. -/
def cnt (t : List Ins) (k : Nat) (f : Nat) : Nat := (t.take k).countP (goes f)

theorem nth_of_lt {t : List Ins} {i : Nat} (h : i < t.length) : nth t i = t[i] := by simp [nth, h]
theorem nth_of_ge {t : List Ins} {i : Nat} (h : t.length ≤ i) : nth t i = ⟨0, 0, 0, 0⟩ := by simp [nth, h]
theorem isR_lt {t : List Ins} {i : Nat} (h : isR t i = true) : i < t.length := by
  apply Classical.byContradiction
  intro hn
  rw [isR, nth_of_ge (by omega)] at h
  simp at h
theorem isE_lt {t : List Ins} {i : Nat} (h : isE t i = true) : i < t.length := by
  apply Classical.byContradiction
  intro hn
  rw [isE, nth_of_ge (by omega)] at h
  simp at h
theorem isE_notR {t : List Ins} {i : Nat} (h : isE t i = true) : isR t i = false := by
  simp [isE, isR] at h ⊢; omega
theorem goes_at {t : List Ins} {i : Nat} {f : Int} : goes f (nth t i) = true ↔ isR t i = true ∧ (nth t i).b = f := by
  simp [goes, isR]

/-- What the program asks of Rounds and Enters. -/
structure RdOk (t : List Ins) : Prop where
  rounds : ∀ i, isR t i = true → 1 ≤ (nth t i).b ∧ (nth t i).b ≤ i ∧ isE t ((nth t i).b - 1).toNat = true ∧ (nth t ((nth t i).b - 1).toNat).a = (nth t i).a
  enters : ∀ i, isE t i = true → cnt t t.length (i + 1) = 1

/-- What the document's answer asks of them, where each Round goes back. -/
structure LpOk (t : List Ins) : Prop where
  enters : ∀ i, isE t i = true → rnd t (i + 1) < t.length ∧ i + 1 ≤ rnd t (i + 1) ∧ (nth t (rnd t (i + 1))).a = (nth t i).a
  same : t.countP (fun x => x.d == 14) = t.countP (fun x => x.d == 13)

theorem rd_le (t : List Ins) (f : Nat) : rnd t f ≤ t.length := List.findIdx_le_length
theorem rd_goes {t : List Ins} {f : Nat} (h : rnd t f < t.length) : isR t (rnd t f) = true ∧ (nth t (rnd t f)).b = f := by
  rw [← goes_at, nth_of_lt h]
  exact List.findIdx_getElem (w := h)
theorem rd_first {t : List Ins} {f i : Nat} (h : i < rnd t f) : ¬ (isR t i = true ∧ (nth t i).b = f) := by
  rw [← goes_at, nth_of_lt (Nat.lt_of_lt_of_le h (rd_le t f))]
  have := List.not_of_lt_findIdx h
  simpa using this
theorem rd_min {t : List Ins} {f i : Nat} (h : isR t i = true) (hb : (nth t i).b = f) : rnd t f ≤ i := by
  apply Classical.byContradiction
  intro hn
  exact rd_first (by omega) ⟨h, hb⟩

theorem cnt_succ (t : List Ins) (k f : Nat) (hk : k < t.length) : cnt t (k + 1) f = cnt t k f + (if goes f (nth t k) then 1 else 0) := by
  unfold cnt
  rw [List.take_add_one, List.countP_append, nth_of_lt hk]
  simp [hk, List.countP_cons]

theorem cnt_mono (t : List Ins) (f k m : Nat) (h : k ≤ m) : cnt t k f ≤ cnt t m f := by
  unfold cnt
  exact List.Sublist.countP_le (List.take_sublist_take_left h)

theorem cnt_full (t : List Ins) (f : Nat) : cnt t t.length f = t.countP (goes f) := by simp [cnt]

/-- Where it is counted once, only one Round goes there. -/
theorem cnt_one {t : List Ins} {f i j : Nat} (h : cnt t t.length f = 1) (hi : isR t i = true ∧ (nth t i).b = f) (hj : isR t j = true ∧ (nth t j).b = f) : i = j := by
  have key : ∀ i j, i < j → isR t i = true ∧ (nth t i).b = f → isR t j = true ∧ (nth t j).b = f → False := by
    intro i j hij hi hj
    have a1 := cnt_succ t i f (isR_lt hi.1)
    have a2 := cnt_succ t j f (isR_lt hj.1)
    rw [if_pos (goes_at.2 hi)] at a1
    rw [if_pos (goes_at.2 hj)] at a2
    have b1 := cnt_mono t f (i + 1) j (by omega)
    have b2 := cnt_mono t f (j + 1) t.length (isR_lt hj.1)
    omega
  rcases Nat.lt_trichotomy i j with h1 | h1 | h1
  · exact (key i j h1 hi hj).elim
  · exact h1
  · exact (key j i h1 hj hi).elim

theorem cnt_pos {t : List Ins} {f : Nat} : 0 < cnt t t.length f ↔ rnd t f < t.length := by
  rw [cnt_full, List.countP_pos_iff, rnd, List.findIdx_lt_length]

/-- Sums of lists of numbers. -/
def sumTo (g : Nat → Nat) : Nat → Nat
  | 0 => 0
  | n + 1 => sumTo g n + g n
theorem sumTo_add (g h : Nat → Nat) (n : Nat) : sumTo (fun i => g i + h i) n = sumTo g n + sumTo h n := by
  induction n with
  | zero => rfl
  | succ n ih => simp only [sumTo, ih]; omega
theorem sumTo_one (n j : Nat) (h : j < n) : sumTo (fun i => if j = i then 1 else 0) n = 1 := by
  have z : ∀ m, m ≤ j → sumTo (fun i => if j = i then 1 else 0) m = 0 := by
    intro m
    induction m with
    | zero => intro _; rfl
    | succ m ih => intro hm; simp only [sumTo]; rw [ih (by omega), if_neg (by omega)]
  induction n with
  | zero => omega
  | succ n ih =>
    simp only [sumTo]
    by_cases hj : j = n
    · rw [z n (by omega), if_pos hj]
    · rw [ih (by omega), if_neg hj]
theorem sumTo_le {g h : Nat → Nat} (n : Nat) (hl : ∀ i, i < n → g i ≤ h i) : sumTo g n ≤ sumTo h n := by
  induction n with
  | zero => exact Nat.le_refl _
  | succ n ih => simp only [sumTo]; have := ih (fun i hi => hl i (by omega)); have := hl n (by omega); omega
theorem sumTo_eq {g h : Nat → Nat} (n : Nat) (hl : ∀ i, i < n → g i ≤ h i) (he : sumTo g n = sumTo h n) : ∀ i, i < n → g i = h i := by
  induction n with
  | zero => intro i hi; omega
  | succ n ih =>
    simp only [sumTo] at he
    have h1 := sumTo_le (g := g) (h := h) n (fun i hi => hl i (by omega))
    have h2 := hl n (by omega)
    intro i hi
    by_cases hn : i = n
    · subst hn; omega
    · exact ih (fun i hi => hl i (by omega)) (by omega) i (by omega)
theorem sumTo_congr {g h : Nat → Nat} (n : Nat) (hl : ∀ i, i < n → g i = h i) : sumTo g n = sumTo h n := by
  induction n with
  | zero => rfl
  | succ n ih => simp only [sumTo]; rw [ih (fun i hi => hl i (by omega)), hl n (by omega)]

theorem count_take (t : List Ins) (p : Ins → Bool) (k : Nat) (hk : k < t.length) : (t.take (k + 1)).countP p = (t.take k).countP p + (if p (nth t k) then 1 else 0) := by
  rw [List.take_add_one, List.countP_append, nth_of_lt hk]
  simp [hk, List.countP_cons]

theorem count_enters (t : List Ins) : t.countP (fun x => x.d == 13) = sumTo (fun i => if isE t i then 1 else 0) t.length := by
  have key : ∀ k, k ≤ t.length → (t.take k).countP (fun x => x.d == 13) = sumTo (fun i => if isE t i then 1 else 0) k := by
    intro k
    induction k with
    | zero => intro _; simp [sumTo]
    | succ k ih =>
      intro hk
      rw [count_take t _ k (by omega), ih (by omega)]
      rfl
  have := key t.length (Nat.le_refl _)
  simpa using this

theorem count_rounds (t : List Ins) (H : ∀ i, isR t i = true → 1 ≤ (nth t i).b ∧ (nth t i).b ≤ i) :
    t.countP (fun x => x.d == 14) = sumTo (fun i => cnt t t.length (i + 1)) t.length := by
  have key : ∀ k, k ≤ t.length → (t.take k).countP (fun x => x.d == 14) = sumTo (fun i => cnt t k (i + 1)) t.length := by
    intro k
    induction k with
    | zero =>
      intro _
      have : ∀ n, sumTo (fun _ => 0) n = 0 := by intro n; induction n with | zero => rfl | succ n ih => simp [sumTo, ih]
      simp [cnt, this]
    | succ k ih =>
      intro hk
      rw [count_take t _ k (by omega), ih (by omega)]
      rw [sumTo_congr (g := fun i => cnt t (k + 1) (i + 1)) t.length (fun i _ => cnt_succ t k (i + 1) (by omega)), sumTo_add]
      congr 1
      by_cases hr : isR t k = true
      · have hb := H k hr
        rw [sumTo_congr (h := fun i => if (((nth t k).b - 1).toNat) = i then 1 else 0)]
        · rw [sumTo_one _ _ (by omega), if_pos (by simpa [isR] using hr)]
        · intro i hi
          by_cases he : ((nth t k).b - 1).toNat = i
          · rw [if_pos he, if_pos (goes_at.2 ⟨hr, by omega⟩)]
          · rw [if_neg he, if_neg]
            intro hg
            have := (goes_at.1 hg).2
            omega
      · rw [if_neg (by simpa [isR] using hr)]
        have : ∀ n, sumTo (fun i => if goes ((i + 1 : Nat) : Int) (nth t k) = true then 1 else 0) n = 0 := by
          intro n
          induction n with
          | zero => rfl
          | succ n ih =>
            simp only [sumTo, ih]
            rw [if_neg]
            intro hg
            exact hr (goes_at.1 hg).1
        exact (this _).symm
  have := key t.length (Nat.le_refl _)
  simpa using this

/-- The two ask for the same, where each Round goes back. -/
theorem lp_rd (t : List Ins) : ((∀ i, isR t i = true → 1 ≤ (nth t i).b ∧ (nth t i).b ≤ i) ∧ LpOk t) ↔ RdOk t := by
  constructor
  · rintro ⟨H, h⟩
    have hs := h.same
    rw [count_rounds t H, count_enters t] at hs
    have hle : ∀ i, i < t.length → (if isE t i then 1 else 0) ≤ cnt t t.length (i + 1) := by
      intro i hi
      by_cases he : isE t i = true
      · rw [if_pos he]
        exact cnt_pos.2 (h.enters i he).1
      · rw [if_neg he]; omega
    have heq := sumTo_eq t.length hle hs.symm
    have hen : ∀ i, isE t i = true → cnt t t.length (i + 1) = 1 := by
      intro i he
      have := heq i (isE_lt he)
      rw [if_pos he] at this
      exact this.symm
    refine ⟨fun i hi => ?_, hen⟩
    obtain ⟨b1, b2⟩ := H i hi
    obtain ⟨f, hf⟩ : ∃ f : Nat, (nth t i).b = ((f + 1 : Nat) : Int) := ⟨((nth t i).b - 1).toNat, by omega⟩
    have hfi : ((nth t i).b - 1).toNat = f := by omega
    rw [hfi]
    have hlt := isR_lt hi
    have hpos : 0 < cnt t t.length (f + 1) := by
      have a1 := cnt_succ t i (f + 1) hlt
      rw [if_pos (goes_at.2 ⟨hi, hf⟩)] at a1
      have := cnt_mono t (f + 1) (i + 1) t.length hlt
      omega
    have he : isE t f = true := by
      apply Classical.byContradiction
      intro hn
      have := heq f (by omega)
      rw [if_neg hn] at this
      omega
    refine ⟨b1, b2, he, ?_⟩
    have hr := rd_goes (h.enters f he).1
    have := cnt_one (hen f he) hr ⟨hi, hf⟩
    rw [← this]
    exact (h.enters f he).2.2.symm
  · intro h
    have H : ∀ i, isR t i = true → 1 ≤ (nth t i).b ∧ (nth t i).b ≤ i := fun i hi => ⟨(h.rounds i hi).1, (h.rounds i hi).2.1⟩
    refine ⟨H, ?_, ?_⟩
    · intro i he
      have h1 : rnd t (i + 1) < t.length := cnt_pos.1 (by rw [h.enters i he]; omega)
      obtain ⟨r1, r2⟩ := rd_goes h1
      obtain ⟨c1, c2, c3, c4⟩ := h.rounds _ r1
      rw [r2] at c2 c4
      refine ⟨h1, by omega, ?_⟩
      have : ((((i + 1 : Nat) : Int)) - 1).toNat = i := by omega
      rw [this] at c4
      exact c4.symm
    · rw [count_rounds t H, count_enters t]
      apply sumTo_congr
      intro i hi
      by_cases he : isE t i = true
      · rw [if_pos he, h.enters i he]
      · rw [if_neg he]
        apply Classical.byContradiction
        intro hn
        have h1 : rnd t (i + 1) < t.length := cnt_pos.1 (by omega)
        obtain ⟨r1, r2⟩ := rd_goes h1
        obtain ⟨c1, c2, c3, c4⟩ := h.rounds _ r1
        rw [r2] at c3
        have : ((((i + 1 : Nat) : Int)) - 1).toNat = i := by omega
        rw [this] at c3
        exact he c3
end Go.Proofs.YtcgbfhpmkpglkaaGreatDoor

/- Plain facts: what lies in which loops; going through with a stack. -/
namespace Go.Proofs.YtcgbfhpmkpglkaaGreatDoor

/-- A loop (by where it begins) that a place lies in. -/
def inL (t : List Ins) (f i : Nat) : Bool := decide (1 ≤ f) && decide (f ≤ i) && isE t (f - 1) && decide (i ≤ rnd t f)
/-- The loops that a place lies in, the innermost first, of those that begin below m. -/
def inn (t : List Ins) (m i : Nat) : List Nat := (List.range m).reverse.filter (fun f => inL t f i)

theorem inL_iff {t : List Ins} {f i : Nat} : inL t f i = true ↔ 1 ≤ f ∧ f ≤ i ∧ isE t (f - 1) = true ∧ i ≤ rnd t f := by
  simp [inL, and_assoc]
theorem mem_inn {t : List Ins} {m i f : Nat} : f ∈ inn t m i ↔ f < m ∧ inL t f i = true := by
  simp [inn]
theorem inn_succ (t : List Ins) (m i : Nat) : inn t (m + 1) i = if inL t m i then m :: inn t m i else inn t m i := by
  unfold inn
  rw [List.range_succ, List.reverse_append]
  simp only [List.reverse_cons, List.reverse_nil, List.nil_append, List.cons_append, List.filter_cons]
theorem inn_sorted (t : List Ins) (m i : Nat) : (inn t m i).Pairwise (· > ·) := by
  unfold inn
  apply List.Pairwise.filter
  rw [List.pairwise_reverse]
  exact List.pairwise_lt_range

/-- Two loops lie apart, or one within the other, with another counter. -/
def Pairs (t : List Ins) : Prop := ∀ i j, i < j → isE t i = true → isE t j = true → rnd t (i + 1) < j + 1 ∨ (rnd t (j + 1) < rnd t (i + 1) ∧ (nth t i).a ≠ (nth t j).a)

/-- The greatest number that is told apart. -/
def top1 : Int := 1000000001
/-- The stack of loops: where each begins, how often what lies in it is done. -/
def stk (t : List Ins) : List Nat → List (Nat × Int)
  | [] => [(0, 1)]
  | f :: l => (f, min (((stk t l).headD (0, 1)).2 * (nth t (f - 1)).b) top1) :: stk t l

theorem stk_fst (t : List Ins) (l : List Nat) : (stk t l).map Prod.fst = l ++ [0] := by
  induction l with
  | nil => rfl
  | cons f l ih => simp [stk, ih]
theorem stk_head (t : List Ins) (l : List Nat) : ((stk t l).headD (0, 1)).1 = l.headD 0 := by
  cases l <;> rfl

/-- A counter that is in use. -/
def used (t : List Ins) (st : List (Nat × Int)) (a : Int) : Bool := st.any (fun p => decide (0 < p.1) && (nth t (p.1 - 1)).a == a)
/-- Behind an Enter a loop begins. -/
def begun (t : List Ins) (i : Nat) : Bool := decide (0 < i) && isE t (i - 1)
def pushed (t : List Ins) (i : Nat) (st : List (Nat × Int)) : List (Nat × Int) :=
  if begun t i then (i, min ((st.headD (0, 1)).2 * (nth t (i - 1)).b) top1) :: st else st
/-- One place further. -/
def nestStep (t : List Ins) (i : Nat) (st : List (Nat × Int)) : Option (List (Nat × Int)) :=
  if begun t i && used t st (nth t (i - 1)).a then none
  else if isR t i then (if (((pushed t i st).headD (0, 1)).1 : Int) = (nth t i).b then some (pushed t i st).tail else none)
  else some (pushed t i st)
def nst (t : List Ins) : Nat → Option (List (Nat × Int))
  | 0 => some [(0, 1)]
  | i + 1 => (nst t i).bind (nestStep t i)

theorem rd_of {t : List Ins} (h : RdOk t) {i f : Nat} (hr : isR t i = true) (hb : (nth t i).b = f) : rnd t f = i := by
  obtain ⟨c1, c2, c3, c4⟩ := h.rounds i hr
  have h1 : rnd t f ≤ i := rd_min hr hb
  have h2 : rnd t f < t.length := Nat.lt_of_le_of_lt h1 (isR_lt hr)
  obtain ⟨g, hg⟩ : ∃ g : Nat, f = g + 1 := ⟨f - 1, by omega⟩
  subst hg
  have : ((nth t i).b - 1).toNat = g := by omega
  rw [this] at c3
  exact cnt_one (h.enters g c3) (rd_goes h2) ⟨hr, hb⟩

theorem rd_ge {t : List Ins} (h : RdOk t) {i : Nat} (he : isE t i = true) : i + 1 ≤ rnd t (i + 1) ∧ rnd t (i + 1) < t.length := by
  have := ((lp_rd t).2 h).2.enters i he
  exact ⟨this.2.1, this.1⟩

theorem begun_iff {t : List Ins} {i : Nat} : begun t i = true ↔ 0 < i ∧ isE t (i - 1) = true := by simp [begun]

theorem begun_in {t : List Ins} (h : RdOk t) {i : Nat} (hb : begun t i = true) : inL t i i = true := by
  obtain ⟨h0, he⟩ := begun_iff.1 hb
  have := (rd_ge h he).1
  rw [inL_iff]
  refine ⟨h0, Nat.le_refl _, he, ?_⟩
  have e : i - 1 + 1 = i := by omega
  rw [e] at this
  omega
theorem in_begun {t : List Ins} {i : Nat} (hb : inL t i i = true) : begun t i = true := by
  rw [inL_iff] at hb
  exact begun_iff.2 ⟨hb.1, hb.2.2.1⟩

theorem pushed_stk {t : List Ins} (h : RdOk t) (i : Nat) : pushed t i (stk t (inn t i i)) = stk t (inn t (i + 1) i) := by
  rw [inn_succ]
  unfold pushed
  by_cases hb : begun t i = true
  · rw [if_pos hb, if_pos (begun_in h hb)]
    rfl
  · rw [if_neg hb, if_neg (fun hi => hb (in_begun hi))]

theorem inn_next_same {t : List Ins} (h : RdOk t) (i : Nat) (hr : isR t i = false) : inn t (i + 1) (i + 1) = inn t (i + 1) i := by
  unfold inn
  apply List.filter_congr
  intro f hf
  have hf' : f < i + 1 := by simpa using hf
  by_cases h1 : inL t f i = true
  · rw [h1]
    rw [inL_iff] at h1 ⊢
    refine ⟨h1.1, by omega, h1.2.2.1, ?_⟩
    rcases Nat.lt_or_ge i (rnd t f) with h2 | h2
    · exact h2
    · have e : rnd t f = i := by omega
      have e2 : f - 1 + 1 = f := by omega
      have hl := (rd_ge h h1.2.2.1).2
      rw [e2] at hl
      have := (rd_goes hl).1
      rw [e, hr] at this
      simp at this
  · rw [Bool.eq_false_iff.2 h1, Bool.eq_false_iff]
    intro h2
    apply h1
    rw [inL_iff] at h2 ⊢
    exact ⟨h2.1, by omega, h2.2.2.1, by omega⟩

theorem filter_tail (l : List Nat) (f : Nat) (p : Nat → Bool) (hs : (f :: l).Pairwise (· > ·)) (hp : ∀ g, g ∈ f :: l → (p g = true ↔ g ≠ f)) : (f :: l).filter p = l := by
  rw [List.filter_cons, if_neg]
  · rw [List.filter_eq_self]
    intro g hg
    rw [hp g (by simp [hg])]
    have := (List.pairwise_cons.1 hs).1 g hg
    omega
  · rw [hp f (by simp)]; simp

/-- Behind a Round its loop is left. -/
theorem inn_next_round {t : List Ins} (h : RdOk t) (i f : Nat) (l : List Nat) (hr : isR t i = true) (hb : (nth t i).b = f) (hl : inn t (i + 1) i = f :: l) : inn t (i + 1) (i + 1) = l := by
  have e1 : inn t (i + 1) (i + 1) = (inn t (i + 1) i).filter (fun g => inL t g (i + 1)) := by
    unfold inn
    rw [List.filter_filter]
    apply List.filter_congr
    intro g hg
    have hg' : g < i + 1 := by simpa using hg
    by_cases h1 : inL t g (i + 1) = true
    · have : inL t g i = true := by
        rw [inL_iff] at h1 ⊢
        exact ⟨h1.1, by omega, h1.2.2.1, by omega⟩
      rw [h1, this]; rfl
    · rw [Bool.eq_false_iff.2 h1]; simp
  rw [e1, hl]
  have hs := inn_sorted t (i + 1) i
  rw [hl] at hs
  apply filter_tail l f _ hs
  intro g hg
  have hm : g ∈ inn t (i + 1) i := by rw [hl]; exact hg
  obtain ⟨m1, m2⟩ := mem_inn.1 hm
  rw [inL_iff] at m2
  rw [inL_iff]
  have hf : rnd t f = i := rd_of h hr hb
  constructor
  · rintro ⟨_, _, _, h4⟩ rfl
    omega
  · intro hne
    refine ⟨m2.1, by omega, m2.2.2.1, ?_⟩
    rcases Nat.lt_or_ge i (rnd t g) with h2 | h2
    · exact h2
    · have e : rnd t g = i := by omega
      have hlt : rnd t g < t.length := by rw [e]; exact isR_lt hr
      have := (rd_goes hlt).2
      rw [e, hb] at this
      exact absurd (by omega) hne

/-- As far as it gets, the stack is the loops that the place lies in. -/
theorem nst_is {t : List Ins} (h : RdOk t) (i : Nat) (st : List (Nat × Int)) (hn : nst t i = some st) : st = stk t (inn t i i) := by
  induction i generalizing st with
  | zero => simp only [nst, Option.some.injEq] at hn; rw [← hn]; rfl
  | succ i ih =>
    simp only [nst] at hn
    cases h1 : nst t i with
    | none => rw [h1] at hn; simp at hn
    | some s =>
      rw [h1] at hn
      simp only [Option.bind_some] at hn
      have hs := ih s h1
      unfold nestStep at hn
      split at hn
      · simp at hn
      · rw [hs, pushed_stk h] at hn
        split at hn
        · rename_i hr
          split at hn
          · rename_i hh
            simp only [Option.some.injEq] at hn
            rw [stk_head] at hh
            cases hl : inn t (i + 1) i with
            | nil =>
              rw [hl] at hh
              have := (h.rounds i hr).1
              simp at hh
              omega
            | cons f l =>
              rw [hl] at hh hn
              rw [inn_next_round h i f l hr (by simpa using hh.symm) hl, ← hn]
              rfl
          · simp at hn
        · rename_i hr
          simp only [Option.some.injEq] at hn
          rw [inn_next_same h i (by simpa using hr), ← hn]

theorem used_iff {t : List Ins} {l : List Nat} {a : Int} (hl : ∀ f, f ∈ l → 0 < f) : used t (stk t l) a = true ↔ ∃ f, f ∈ l ∧ (nth t (f - 1)).a = a := by
  unfold used
  induction l with
  | nil => simp [stk]
  | cons f l ih =>
    simp only [stk, List.any_cons, Bool.or_eq_true, ih (fun g hg => hl g (by simp [hg]))]
    have := hl f (by simp)
    simp [this]

theorem inn_pos {t : List Ins} {m i f : Nat} (h : f ∈ inn t m i) : 0 < f := by
  have := (inL_iff.1 (mem_inn.1 h).2).1
  omega

/-- If all pairs are right, one gets to the end. -/
theorem nst_some {t : List Ins} (h : RdOk t) (hp : Pairs t) (i : Nat) : nst t i = some (stk t (inn t i i)) := by
  have key : ∀ i, nst t i ≠ none := by
    intro i
    induction i with
    | zero => simp [nst]
    | succ i ih =>
      cases h1 : nst t i with
      | none => exact absurd h1 ih
      | some s =>
        have hs := nst_is h i s h1
        simp only [nst, h1, Option.bind_some]
        unfold nestStep
        rw [hs, pushed_stk h]
        have hu : (begun t i && used t (stk t (inn t i i)) (nth t (i - 1)).a) = false := by
          rw [Bool.eq_false_iff]
          intro hb
          simp only [Bool.and_eq_true] at hb
          obtain ⟨hb1, hb2⟩ := hb
          obtain ⟨f, hf, ha⟩ := (used_iff (fun f hf => inn_pos hf)).1 hb2
          obtain ⟨m1, m2⟩ := mem_inn.1 hf
          rw [inL_iff] at m2
          obtain ⟨b1, b2⟩ := begun_iff.1 hb1
          have := hp (f - 1) (i - 1) (by omega) m2.2.2.1 b2
          have e1 : f - 1 + 1 = f := by omega
          have e2 : i - 1 + 1 = i := by omega
          rw [e1, e2] at this
          rcases this with h2 | ⟨h2, h3⟩
          · omega
          · exact h3 ha
        rw [hu]
        simp only [Bool.false_eq_true, if_false]
        split
        · rename_i hr
          obtain ⟨c1, c2, c3, c4⟩ := h.rounds i hr
          obtain ⟨f, hf⟩ : ∃ f : Nat, (nth t i).b = f := ⟨(nth t i).b.toNat, by omega⟩
          have hfr := rd_of h hr hf
          have hfm : f ∈ inn t (i + 1) i := by
            rw [mem_inn, inL_iff]
            have e : ((nth t i).b - 1).toNat = f - 1 := by omega
            rw [e] at c3
            exact ⟨by omega, by omega, by omega, c3, by omega⟩
          cases hl : inn t (i + 1) i with
          | nil => rw [hl] at hfm; simp at hfm
          | cons g l =>
            have hgf : g = f := by
              rw [hl] at hfm
              rcases List.mem_cons.1 hfm with h2 | h2
              · exact h2.symm
              · have hs2 := inn_sorted t (i + 1) i
                rw [hl] at hs2
                have hgt := (List.pairwise_cons.1 hs2).1 f h2
                have hgm : g ∈ inn t (i + 1) i := by rw [hl]; simp
                obtain ⟨m1, m2⟩ := mem_inn.1 hgm
                rw [inL_iff] at m2
                have hff := (mem_inn.1 (show f ∈ inn t (i + 1) i by rw [hl]; exact hfm)).2
                rw [inL_iff] at hff
                have := hp (f - 1) (g - 1) (by omega) hff.2.2.1 m2.2.2.1
                have e1 : f - 1 + 1 = f := by omega
                have e2 : g - 1 + 1 = g := by omega
                rw [e1, e2] at this
                omega
            rw [stk_head]
            simp only [List.headD_cons, hgf, hf, if_true]
            simp
        · simp
  cases h1 : nst t i with
  | none => exact absurd h1 (key i)
  | some s => rw [nst_is h i s h1]

theorem nst_mono {t : List Ins} (i k : Nat) (h : nst t (i + k) ≠ none) : nst t i ≠ none := by
  induction k with
  | zero => exact h
  | succ k ih =>
    apply ih
    intro hn
    apply h
    show nst t (i + k + 1) = none
    simp [nst, hn]

/-- If one gets to the end, all pairs are right. -/
theorem pairs_of {t : List Ins} (h : RdOk t) (hn : nst t t.length ≠ none) : Pairs t := by
  have hk : ∀ i, i ≤ t.length → nst t i = some (stk t (inn t i i)) := by
    intro i hi
    cases h1 : nst t i with
    | none =>
      exfalso
      apply nst_mono (t := t) i (t.length - i) _ h1
      have : i + (t.length - i) = t.length := by omega
      rw [this]; exact hn
    | some s => rw [nst_is h i s h1]
  have hstep : ∀ i, i < t.length → nestStep t i (stk t (inn t i i)) ≠ none := by
    intro i hi hx
    have := hk (i + 1) hi
    simp only [nst, hk i (by omega), Option.bind_some, hx] at this
    simp at this
  intro i j hij hei hej
  rcases Nat.lt_or_ge (rnd t (i + 1)) (j + 1) with h1 | h1
  · exact Or.inl h1
  · right
    have hri := rd_ge h hei
    have hrj := rd_ge h hej
    constructor
    · -- else the one that began first ends first
      apply Classical.byContradiction
      intro hc
      have hne : rnd t (j + 1) ≠ rnd t (i + 1) := by
        intro he
        have a1 := (rd_goes hri.2).2
        have a2 := (rd_goes hrj.2).2
        rw [he, a1] at a2
        omega
      have hlt : rnd t (i + 1) < rnd t (j + 1) := by omega
      have := hstep (rnd t (i + 1)) hri.2
      unfold nestStep at this
      rw [pushed_stk h] at this
      obtain ⟨r1, r2⟩ := rd_goes hri.2
      split at this
      · exact this rfl
      · rw [stk_head] at this
        have hjm : j + 1 ∈ inn t (rnd t (i + 1) + 1) (rnd t (i + 1)) := by
          rw [mem_inn, inL_iff]
          exact ⟨by omega, by omega, by omega, by simpa using hej, by omega⟩
        cases hl : inn t (rnd t (i + 1) + 1) (rnd t (i + 1)) with
        | nil => rw [hl] at hjm; simp at hjm
        | cons g l =>
          rw [hl] at this hjm
          have hs2 := inn_sorted t (rnd t (i + 1) + 1) (rnd t (i + 1))
          rw [hl] at hs2
          have hgj : j + 1 ≤ g := by
            rcases List.mem_cons.1 hjm with h2 | h2
            · omega
            · have := (List.pairwise_cons.1 hs2).1 _ h2; omega
          rw [if_neg (by rw [r2]; simp; omega)] at this
          exact this rfl
    · -- the counters
      intro ha
      have hjl : j + 1 < t.length := by omega
      have := hstep (j + 1) hjl
      unfold nestStep at this
      rw [if_pos] at this
      · exact this rfl
      · simp only [Bool.and_eq_true]
        refine ⟨begun_iff.2 ⟨by omega, by simpa using hej⟩, (used_iff (fun f hf => inn_pos hf)).2 ⟨i + 1, ?_, by simpa using ha⟩⟩
        rw [mem_inn, inL_iff]
        exact ⟨by omega, by omega, by omega, by simpa using hei, by omega⟩
end Go.Proofs.YtcgbfhpmkpglkaaGreatDoor

/- Plain facts: bounds, jumps into loops, heights of the stack. -/
namespace Go.Proofs.YtcgbfhpmkpglkaaGreatDoor
set_option linter.unusedVariables false

/-- How often what lies in these loops is done, no further than top1. -/
def prd (t : List Ins) (l : List Nat) : Int := ((stk t l).headD (0, 1)).2
/-- All of them multiplied. -/
def pr (t : List Ins) : List Nat → Int
  | [] => 1
  | f :: l => pr t l * (nth t (f - 1)).b

theorem mul_ge {a b : Int} (ha : 1 ≤ a) (hb : 1 ≤ b) : 1 ≤ a * b ∧ a ≤ a * b := by
  obtain ⟨n, rfl⟩ := Int.eq_ofNat_of_zero_le (show 0 ≤ a by omega)
  obtain ⟨m, rfl⟩ := Int.eq_ofNat_of_zero_le (show 0 ≤ b by omega)
  have h1 : n * 1 ≤ n * m := Nat.mul_le_mul_left n (by omega)
  have h2 : ((n : Int) * (m : Int)) = ((n * m : Nat) : Int) := by simp
  rw [h2]
  omega

theorem min_mul {x b T : Int} (hx : 1 ≤ x) (hb : 1 ≤ b) (hT : 1 ≤ T) : min (min x T * b) T = min (x * b) T := by
  by_cases h : x ≤ T
  · rw [Int.min_eq_left h]
  · have h1 : min x T = T := Int.min_eq_right (by omega)
    rw [h1]
    have h2 := (mul_ge hT hb).2
    have h3 := (mul_ge hx hb).2
    rw [Int.min_eq_right h2, Int.min_eq_right (by omega)]

/-- Every loop goes round once at least. -/
def Bs (t : List Ins) : Prop := ∀ i, isE t i = true → 1 ≤ (nth t i).b ∧ (nth t i).b ≤ 10000

theorem pr_pos {t : List Ins} (hB : Bs t) (l : List Nat) (hl : ∀ f, f ∈ l → isE t (f - 1) = true) : 1 ≤ pr t l := by
  induction l with
  | nil => simp [pr]
  | cons f l ih => exact (mul_ge (ih (fun g hg => hl g (by simp [hg]))) (hB _ (hl f (by simp))).1).1
theorem prd_is {t : List Ins} (hB : Bs t) (l : List Nat) (hl : ∀ f, f ∈ l → isE t (f - 1) = true) : prd t l = min (pr t l) top1 := by
  induction l with
  | nil => simp only [prd, pr, stk, top1, List.headD_cons]; omega
  | cons f l ih =>
    have h1 := ih (fun g hg => hl g (by simp [hg]))
    unfold prd at h1 ⊢
    simp only [stk, List.headD_cons, h1, pr]
    exact min_mul (pr_pos hB l (fun g hg => hl g (by simp [hg]))) (hB _ (hl f (by simp))).1 (by simp [top1])
theorem inn_enter {t : List Ins} {m i : Nat} : ∀ f, f ∈ inn t m i → isE t (f - 1) = true := fun f hf => (inL_iff.1 (mem_inn.1 hf).2).2.2.1
theorem prd_bd {t : List Ins} (hB : Bs t) (m i : Nat) : 1 ≤ prd t (inn t m i) ∧ prd t (inn t m i) ≤ top1 := by
  rw [prd_is hB _ inn_enter]
  have := pr_pos hB (inn t m i) inn_enter
  have h2 : (1 : Int) ≤ top1 := by simp [top1]
  omega

/-- The program's sum of the first k instructions' steps. -/
def sumP (t : List Ins) (s : Nat → Int) : Nat → Int
  | 0 => 0
  | k + 1 => min (sumP t s k + min (s k * prd t (inn t (k + 1) k)) top1) top1

/-- The document's: so many steps, times a loop's, as long as that is not too much. -/
def mulR (t : List Ins) (k : Nat) (n : Int) (e : Nat) : Int := if inL t (e + 1) k && decide (n ≤ 1000000000) then n * (nth t e).b else n
def refN (t : List Ins) (k : Nat) (n : Int) (m : Nat) : Int := ((List.range m).filter (isE t)).foldl (mulR t k) n

theorem refN_succ (t : List Ins) (k : Nat) (n : Int) (m : Nat) : refN t k n (m + 1) = if isE t m then mulR t k (refN t k n m) m else refN t k n m := by
  unfold refN
  rw [List.range_succ, List.filter_append, List.foldl_append]
  by_cases h : isE t m = true
  · simp [h]
  · simp [h]

theorem refN_bd {t : List Ins} (hB : Bs t) (k : Nat) (n : Int) (hn : 1 ≤ n) (hn2 : n ≤ 1000000001) (m : Nat) : 1 ≤ refN t k n m ∧ refN t k n m ≤ 10000000000000 := by
  induction m with
  | zero => simp [refN]; omega
  | succ m ih =>
    rw [refN_succ]
    split
    · rename_i he
      unfold mulR
      split
      · rename_i hc
        simp only [Bool.and_eq_true, decide_eq_true_eq] at hc
        have hb := hB m he
        refine ⟨(mul_ge ih.1 hb.1).1, ?_⟩
        have h1 : refN t k n m * (nth t m).b ≤ 1000000000 * (nth t m).b := Int.mul_le_mul_of_nonneg_right hc.2 (by omega)
        have h2 : (1000000000 : Int) * (nth t m).b ≤ 1000000000 * 10000 := Int.mul_le_mul_of_nonneg_left hb.2 (by omega)
        omega
      · exact ih
    · exact ih

theorem refN_is {t : List Ins} (hB : Bs t) (k : Nat) (n : Int) (hn : 1 ≤ n) (hn2 : n ≤ 1000000001) (m : Nat) : min (refN t k n m) top1 = min (n * pr t (inn t (m + 1) k)) top1 := by
  induction m with
  | zero =>
    have : inn t 1 k = [] := by
      rw [inn_succ, if_neg]
      · rfl
      · simp [inL]
    rw [Nat.zero_add, this]
    simp [refN, pr]
  | succ m ih =>
    rw [refN_succ, inn_succ]
    have hpos := (refN_bd hB k n hn hn2 m).1
    have hpp := pr_pos hB (inn t (m + 1) k) inn_enter
    by_cases he : isE t m = true
    · rw [if_pos he]
      unfold mulR
      by_cases hi : inL t (m + 1) k = true
      · rw [if_pos hi]
        have hb := hB m he
        simp only [pr, Nat.add_sub_cancel]
        rw [← Int.mul_assoc, ← min_mul (mul_ge hn hpp).1 hb.1 (by simp [top1]), ← ih]
        by_cases hc : refN t k n m ≤ 1000000000
        · rw [if_pos (by simp [hi, hc]), min_mul hpos hb.1 (by simp [top1])]
        · rw [if_neg (by simp [hc]), min_mul hpos hb.1 (by simp [top1])]
          have := (mul_ge hpos hb.1).2
          rw [Int.min_eq_right (by simp [top1]; omega), Int.min_eq_right (by simp [top1]; omega)]
      · rw [if_neg hi, if_neg (by simp [hi])]
        exact ih
    · rw [if_neg he, if_neg]
      · exact ih
      · intro hi
        exact he (inL_iff.1 hi).2.2.1

theorem inn_more (t : List Ins) (k m : Nat) : inn t (k + 1 + m) k = inn t (k + 1) k := by
  induction m with
  | zero => rfl
  | succ m ih =>
    rw [show k + 1 + (m + 1) = (k + 1 + m) + 1 by omega, inn_succ, if_neg]
    · exact ih
    · intro hi
      have := (inL_iff.1 hi).2.1
      omega

/-- What is done at instruction k, by the document and by the program. -/
theorem refN_prd {t : List Ins} (hB : Bs t) (k : Nat) (hk : k < t.length) (n : Int) (hn : 1 ≤ n) (hn2 : n ≤ 1000000001) : min (refN t k n t.length) top1 = min (n * prd t (inn t (k + 1) k)) top1 := by
  rw [refN_is hB k n hn hn2]
  obtain ⟨m, hm⟩ : ∃ m, t.length + 1 = k + 1 + m := ⟨t.length - k, by omega⟩
  rw [hm, inn_more, prd_is hB _ inn_enter, Int.mul_comm n (min _ _), min_mul (pr_pos hB _ inn_enter) hn (by simp [top1]), Int.mul_comm]

theorem sumP_step {t : List Ins} (hB : Bs t) (s : Nat → Int) (k : Nat) (hk : k < t.length) (hs : 1 ≤ s k) (hs2 : s k ≤ 1000000001) (h0 : 0 ≤ sumP t s k) (h1 : sumP t s k ≤ 1000000000) :
    sumP t s (k + 1) = if sumP t s k + refN t k (s k) t.length ≤ 1000000000 then sumP t s k + refN t k (s k) t.length else top1 := by
  simp only [sumP]
  rw [← refN_prd hB k hk (s k) hs hs2]
  have := (refN_bd hB k (s k) hs hs2 t.length).1
  generalize refN t k (s k) t.length = r at *
  simp only [top1]
  split <;> omega

theorem sumP_bd {t : List Ins} (hB : Bs t) (s : Nat → Int) (hs : ∀ k, 1 ≤ s k) (k : Nat) : 0 ≤ sumP t s k ∧ sumP t s k ≤ top1 := by
  induction k with
  | zero => simp [sumP, top1]
  | succ k ih =>
    simp only [sumP]
    have := (mul_ge (hs k) (prd_bd hB (k + 1) k).1).1
    simp only [top1] at *
    omega
theorem sumP_top {t : List Ins} (hB : Bs t) (s : Nat → Int) (hs : ∀ k, 1 ≤ s k) (k m : Nat) (h : sumP t s k = top1) : sumP t s (k + m) = top1 := by
  induction m with
  | zero => exact h
  | succ m ih =>
    show sumP t s (k + m + 1) = top1
    simp only [sumP]
    rw [ih]
    have := (mul_ge (hs (k + m)) (prd_bd hB (k + m + 1) (k + m)).1).1
    simp only [top1] at *
    omega

/-- A jump forward goes into a loop just where the innermost loop at its end begins behind it. -/
theorem jump_in {t : List Ins} (i a : Nat) (hia : i < a) : (∃ e, inL t (e + 1) a = true ∧ inL t (e + 1) i = false) ↔ i < (inn t (a + 1) a).headD 0 := by
  constructor
  · rintro ⟨e, h1, h2⟩
    have hm : e + 1 ∈ inn t (a + 1) a := mem_inn.2 ⟨by have := (inL_iff.1 h1).2.1; omega, h1⟩
    have hgt : i < e + 1 := by
      apply Classical.byContradiction
      intro hn
      rw [Bool.eq_false_iff] at h2
      apply h2
      rw [inL_iff] at h1 ⊢
      exact ⟨h1.1, by omega, h1.2.2.1, by omega⟩
    cases hl : inn t (a + 1) a with
    | nil => rw [hl] at hm; simp at hm
    | cons g l =>
      rw [hl] at hm
      have hs := inn_sorted t (a + 1) a
      rw [hl] at hs
      simp only [List.headD_cons]
      rcases List.mem_cons.1 hm with h3 | h3
      · omega
      · have := (List.pairwise_cons.1 hs).1 _ h3; omega
  · intro h
    cases hl : inn t (a + 1) a with
    | nil => rw [hl] at h; simp at h
    | cons g l =>
      rw [hl] at h
      simp only [List.headD_cons] at h
      have hg := (mem_inn.1 (show g ∈ inn t (a + 1) a by rw [hl]; simp)).2
      have h1 := (inL_iff.1 hg).1
      refine ⟨g - 1, ?_, ?_⟩
      · rw [show g - 1 + 1 = g by omega]; exact hg
      · rw [show g - 1 + 1 = g by omega, Bool.eq_false_iff]
        intro h2
        have := (inL_iff.1 h2).2.1
        omega
theorem inn_end {t : List Ins} (h : RdOk t) : inn t (t.length + 1) t.length = [] := by
  cases hl : inn t (t.length + 1) t.length with
  | nil => rfl
  | cons g l =>
    have hg := inL_iff.1 (mem_inn.1 (show g ∈ inn t (t.length + 1) t.length by rw [hl]; simp)).2
    have := (rd_ge h hg.2.2.1).2
    rw [show g - 1 + 1 = g by omega] at this
    omega

/-- Where it goes on behind an instruction. -/
def ways (t : List Ins) (i : Nat) : List Nat :=
  if (nth t i).d = 11 then [(nth t i).a.toNat] else if (nth t i).d = 12 then [i + 1, (nth t i).a.toNat] else if (nth t i).d = 14 then [i + 1, (nth t i).b.toNat] else [i + 1]
def meet (h : Int) : List Nat → List Int → Option (List Int)
  | [], hs => some hs
  | p :: ps, hs => if (hs[p]?).getD 0 = -1 then meet h ps (hs.set p h) else if (hs[p]?).getD 0 = h then meet h ps hs else none
/-- What an instruction takes off and puts down is given. -/
def hgt (t : List Ins) (tk gv : Nat → Int) : Nat → Option (List Int)
  | 0 => some (0 :: List.replicate t.length (-1))
  | i + 1 => (hgt t tk gv i).bind fun hs =>
    if (hs[i]?).getD 0 = -1 then some hs
    else if (hs[i]?).getD 0 < tk i ∨ 1000 < (hs[i]?).getD 0 - tk i + gv i then none
    else meet ((hs[i]?).getD 0 - tk i + gv i) (ways t i) hs

theorem meet_len {h : Int} {ps : List Nat} {hs hs' : List Int} (he : meet h ps hs = some hs') : hs'.length = hs.length := by
  induction ps generalizing hs with
  | nil => simp only [meet, Option.some.injEq] at he; rw [he]
  | cons p ps ih =>
    simp only [meet] at he
    split at he
    · rw [ih he]; simp
    · split at he
      · exact ih he
      · simp at he
theorem hgt_len {t : List Ins} {tk gv : Nat → Int} {i : Nat} {hs : List Int} (he : hgt t tk gv i = some hs) : hs.length = t.length + 1 := by
  induction i generalizing hs with
  | zero => simp only [hgt, Option.some.injEq] at he; rw [← he]; simp
  | succ i ih =>
    simp only [hgt] at he
    cases h1 : hgt t tk gv i with
    | none => rw [h1] at he; simp at he
    | some hs1 =>
      rw [h1] at he
      simp only [Option.bind_some] at he
      split at he
      · rw [← Option.some.inj he]; exact ih h1
      · split at he
        · simp at he
        · rw [meet_len he]; exact ih h1

/-- Heights that were reached stay; those to be met are reached. -/
theorem meet_keep {h : Int} (h0 : 0 ≤ h) {ps : List Nat} {hs hs' : List Int} (hge : ∀ p : Nat, -1 ≤ (hs[p]?).getD 0) (he : meet h ps hs = some hs') :
    (∀ p : Nat, -1 ≤ (hs'[p]?).getD 0) ∧ (∀ p : Nat, (hs[p]?).getD 0 ≠ -1 → (hs'[p]?).getD 0 = (hs[p]?).getD 0) ∧ (∀ p : Nat, p ∈ ps → (hs'[p]?).getD 0 = h ∨ hs.length ≤ p) := by
  induction ps generalizing hs with
  | nil =>
    simp only [meet, Option.some.injEq] at he
    subst he
    exact ⟨hge, fun p _ => rfl, fun p hp => by simp at hp⟩
  | cons q ps ih =>
    simp only [meet] at he
    split at he
    · rename_i hq
      have hlt : q < hs.length := by
        apply Classical.byContradiction
        intro hn
        rw [List.getElem?_eq_none (by omega)] at hq
        simp at hq
      have hset : ∀ p, ((hs.set q h)[p]?).getD 0 = if p = q then h else (hs[p]?).getD 0 := by
        intro p
        by_cases hpq : p = q
        · subst hpq; simp [hlt]
        · rw [if_neg hpq, List.getElem?_set_ne (fun e => hpq e.symm)]
      obtain ⟨a1, a2, a3⟩ := ih (hs := hs.set q h) (fun p => by rw [hset]; split; omega; exact hge p) he
      refine ⟨a1, fun p hp => ?_, fun p hp => ?_⟩
      · have hpq : p ≠ q := fun e => hp (by rw [e]; exact hq)
        rw [a2 p (by rw [hset, if_neg hpq]; exact hp), hset, if_neg hpq]
      · rcases List.mem_cons.1 hp with rfl | hp
        · left
          rw [a2 p (by rw [hset, if_pos rfl]; omega), hset, if_pos rfl]
        · rcases a3 p hp with h1 | h1
          · exact Or.inl h1
          · right; simpa using h1
    · split at he
      · rename_i hn hq
        obtain ⟨a1, a2, a3⟩ := ih hge he
        refine ⟨a1, a2, fun p hp => ?_⟩
        rcases List.mem_cons.1 hp with rfl | hp
        · left; rw [a2 p (by omega)]; exact hq
        · exact a3 p hp
      · simp at he

theorem hgt_ge {t : List Ins} {tk gv : Nat → Int} (hg : ∀ i, 0 ≤ gv i) {i : Nat} {hs : List Int} (he : hgt t tk gv i = some hs) : ∀ p : Nat, -1 ≤ (hs[p]?).getD 0 := by
  induction i generalizing hs with
  | zero =>
    simp only [hgt, Option.some.injEq] at he
    subst he
    intro p
    cases p with
    | zero => simp
    | succ p =>
      simp only [List.getElem?_cons_succ, List.getElem?_replicate]
      split <;> simp
  | succ i ih =>
    simp only [hgt] at he
    cases h1 : hgt t tk gv i with
    | none => rw [h1] at he; simp at he
    | some hs1 =>
      rw [h1] at he
      simp only [Option.bind_some] at he
      split at he
      · rw [← Option.some.inj he]; exact ih h1
      · split at he
        · simp at he
        · rename_i hc
          have := hg i
          exact (meet_keep (by omega) (ih h1) he).1

/-- The end is reached. -/
theorem hgt_end {t : List Ins} {tk gv : Nat → Int} (hg : ∀ i, 0 ≤ gv i) (hj : ∀ i, i < t.length → (nth t i).d = 11 → (i : Int) < (nth t i).a ∧ (nth t i).a ≤ t.length) {hs : List Int} (he : hgt t tk gv t.length = some hs) : 0 ≤ (hs[t.length]?).getD 0 := by
  have key : ∀ i hs, i ≤ t.length → hgt t tk gv i = some hs → ∃ p : Nat, i ≤ p ∧ p ≤ t.length ∧ 0 ≤ (hs[p]?).getD 0 := by
    intro i
    induction i with
    | zero =>
      intro hs _ he
      simp only [hgt, Option.some.injEq] at he
      subst he
      exact ⟨0, Nat.le_refl _, Nat.zero_le _, by simp⟩
    | succ i ih =>
      intro hs hi he
      simp only [hgt] at he
      cases h1 : hgt t tk gv i with
      | none => rw [h1] at he; simp at he
      | some hs1 =>
        rw [h1] at he
        simp only [Option.bind_some] at he
        obtain ⟨p, p1, p2, p3⟩ := ih hs1 (by omega) h1
        split at he
        · rename_i hu
          rw [← Option.some.inj he]
          refine ⟨p, ?_, p2, p3⟩
          rcases Nat.lt_or_ge i p with h2 | h2
          · exact h2
          · have : p = i := by omega
            subst this
            omega
        · split at he
          · simp at he
          · rename_i hc
            have hgi := hg i
            obtain ⟨a1, a2, a3⟩ := meet_keep (by omega) (hgt_ge hg h1) he
            have hl := hgt_len h1
            have hw : ∃ q, q ∈ ways t i ∧ i < q ∧ q ≤ t.length := by
              unfold ways
              by_cases h11 : (nth t i).d = 11
              · rw [if_pos h11]
                have := hj i (by omega) h11
                exact ⟨(nth t i).a.toNat, by simp, by omega, by omega⟩
              · rw [if_neg h11]
                refine ⟨i + 1, ?_, by omega, by omega⟩
                split
                · simp
                · split <;> simp
            obtain ⟨q, q1, q2, q3⟩ := hw
            rcases a3 q q1 with h2 | h2
            · exact ⟨q, q2, q3, by rw [h2]; omega⟩
            · omega
  obtain ⟨p, p1, p2, p3⟩ := key t.length hs (Nat.le_refl _) he
  have : p = t.length := by omega
  subst this
  exact p3
end Go.Proofs.YtcgbfhpmkpglkaaGreatDoor

/- Plain facts: lists of loops, of where they begin, of how often they go round; both looks at a unit joined. -/
namespace Go.Proofs.YtcgbfhpmkpglkaaGreatDoor
set_option linter.unusedVariables false

/-- The Enters among the first m. -/
def ents (t : List Ins) (m : Nat) : List Nat := (List.range m).filter (isE t)
theorem ents_succ (t : List Ins) (m : Nat) : ents t (m + 1) = if isE t m then ents t m ++ [m] else ents t m := by
  unfold ents
  rw [List.range_succ, List.filter_append]
  by_cases h : isE t m = true
  · simp [h]
  · simp [h]
theorem mem_ents {t : List Ins} {m e : Nat} : e ∈ ents t m ↔ e < m ∧ isE t e = true := by simp [ents]
theorem ents_sorted (t : List Ins) (m : Nat) : (ents t m).Pairwise (· < ·) := by
  unfold ents
  exact List.Pairwise.filter _ List.pairwise_lt_range
theorem ents_len (t : List Ins) (m : Nat) : (ents t m).length ≤ m := by
  unfold ents
  have := List.length_filter_le (isE t) (List.range m)
  simpa using this
theorem ents_count (t : List Ins) : (ents t t.length).length = t.countP (fun x => x.d == 13) := by
  have key : ∀ k, k ≤ t.length → (ents t k).length = (t.take k).countP (fun x => x.d == 13) := by
    intro k
    induction k with
    | zero => intro _; simp [ents]
    | succ k ih =>
      intro hk
      rw [count_take t _ k (by omega), ents_succ, ← ih (by omega)]
      by_cases h : isE t k = true
      · rw [if_pos h, if_pos (by simpa [isE] using h)]; simp
      · rw [if_neg h, if_neg (by simpa [isE] using h)]; simp
  have := key t.length (Nat.le_refl _)
  simpa using this

/-- What is asked of two loops, one behind the other. -/
def pairOk (t : List Ins) (i j : Nat) : Prop := rnd t (i + 1) < j + 1 ∨ (rnd t (j + 1) < rnd t (i + 1) ∧ (nth t i).a ≠ (nth t j).a)
theorem pairs_iff (t : List Ins) : Pairs t ↔ ∀ p q, p < q → ∀ hq : q < (ents t t.length).length, ∀ hp : p < (ents t t.length).length, pairOk t (ents t t.length)[p] (ents t t.length)[q] := by
  constructor
  · intro h p q hpq hq hp
    have h1 := (List.pairwise_iff_getElem.1 (ents_sorted t t.length)) p q hp hq hpq
    exact h _ _ h1 (mem_ents.1 (List.getElem_mem hp)).2 (mem_ents.1 (List.getElem_mem hq)).2
  · intro h i j hij hi hj
    obtain ⟨p, hp, rfl⟩ := List.getElem_of_mem (mem_ents.2 ⟨isE_lt hi, hi⟩)
    obtain ⟨q, hq, rfl⟩ := List.getElem_of_mem (mem_ents.2 ⟨isE_lt hj, hj⟩)
    have hpq : p < q := by
      apply Classical.byContradiction
      intro hn
      rcases Nat.lt_or_ge q p with h1 | h1
      · have := (List.pairwise_iff_getElem.1 (ents_sorted t t.length)) q p hq hp h1
        omega
      · have : p = q := by omega
        subst this
        omega
    exact h p q hpq hq hp

/-- Where the innermost loops begin; how often instructions are done. -/
def begA (t : List Ins) (k : Nat) : Int := (((inn t (k + 1) k).headD 0 : Nat) : Int)
def begK (t : List Ins) (k : Nat) : List Int := (List.range (t.length + 1)).map (fun i => if i < k then begA t i else 0)
def timK (t : List Ins) (k : Nat) : List Int := (List.range t.length).map (fun i => if i < k then prd t (inn t (i + 1) i) else 0)
theorem begK_len (t : List Ins) (k : Nat) : (begK t k).length = t.length + 1 := by simp [begK]
theorem timK_len (t : List Ins) (k : Nat) : (timK t k).length = t.length := by simp [timK]
theorem begK_zero (t : List Ins) : begK t 0 = List.replicate (t.length + 1) 0 := by
  apply List.ext_getElem
  · simp [begK]
  · intro i h1 h2; simp [begK]
theorem timK_zero (t : List Ins) : timK t 0 = List.replicate t.length 0 := by
  apply List.ext_getElem
  · simp [timK]
  · intro i h1 h2; simp [timK]
theorem begK_set (t : List Ins) (k : Nat) : (begK t k).set k (begA t k) = begK t (k + 1) := by
  apply List.ext_getElem
  · simp [begK]
  · intro i h1 h2
    rw [List.getElem_set]
    simp only [begK, List.getElem_map, List.getElem_range]
    by_cases e : k = i
    · subst e; simp
    · rw [if_neg e]
      by_cases h : i < k
      · rw [if_pos h, if_pos (by omega)]
      · rw [if_neg h, if_neg (by omega)]
theorem timK_set (t : List Ins) (k : Nat) : (timK t k).set k (prd t (inn t (k + 1) k)) = timK t (k + 1) := by
  apply List.ext_getElem
  · simp [timK]
  · intro i h1 h2
    rw [List.getElem_set]
    simp only [timK, List.getElem_map, List.getElem_range]
    by_cases e : k = i
    · subst e; simp
    · rw [if_neg e]
      by_cases h : i < k
      · rw [if_pos h, if_pos (by omega)]
      · rw [if_neg h, if_neg (by omega)]
theorem begK_get (t : List Ins) (h : RdOk t) (i : Nat) (hi : i ≤ t.length) : (begK t t.length).getD i 0 = begA t i := by
  have hl : i < (begK t t.length).length := by rw [begK_len]; omega
  rw [List.getD, List.getElem?_eq_getElem hl, Option.getD_some]
  simp only [begK, List.getElem_map, List.getElem_range]
  by_cases e : i < t.length
  · rw [if_pos e]
  · have : i = t.length := by omega
    subst this
    rw [if_neg (by omega)]
    simp [begA, inn_end h]
theorem timK_get (t : List Ins) (i : Nat) (hi : i < t.length) : (timK t t.length).getD i 0 = prd t (inn t (i + 1) i) := by
  have hl : i < (timK t t.length).length := by rw [timK_len]; omega
  rw [List.getD, List.getElem?_eq_getElem hl, Option.getD_some]
  simp only [timK, List.getElem_map, List.getElem_range]
  rw [if_pos hi]

def isJ (t : List Ins) (i : Nat) : Prop := (nth t i).d = 11 ∨ (nth t i).d = 12
/-- Jumps go forward. -/
def Fwd (t : List Ins) : Prop := ∀ i, i < t.length → ((nth t i).d = 11 ∨ (nth t i).d = 12) → (i : Int) < (nth t i).a ∧ (nth t i).a ≤ t.length
/-- What the document asks of jumps: none goes into a loop. -/
def JDoc (t : List Ins) : Prop := ∀ i, i < t.length → ((nth t i).d = 11 ∨ (nth t i).d = 12) → ∀ e, isE t e = true → inL t (e + 1) (nth t i).a.toNat = true → inL t (e + 1) i = true
theorem jumps_join {t : List Ins} (h : RdOk t) (hf : Fwd t) : JDoc t ↔ ∀ i, i < t.length → ((nth t i).d = 11 ∨ (nth t i).d = 12) → (begK t t.length).getD (nth t i).a.toNat 0 ≤ (i : Int) := by
  constructor
  · intro hj i hi hd
    obtain ⟨f1, f2⟩ := hf i hi hd
    rw [begK_get t h _ (by omega)]
    unfold begA
    apply Classical.byContradiction
    intro hn
    obtain ⟨e, e1, e2⟩ := (jump_in (t := t) i (nth t i).a.toNat (by omega)).2 (by omega)
    have := hj i hi hd e (by have := (inL_iff.1 e1).2.2.1; simpa using this) e1
    rw [this] at e2
    simp at e2
  · intro hj i hi hd e he h1
    obtain ⟨f1, f2⟩ := hf i hi hd
    have := hj i hi hd
    rw [begK_get t h _ (by omega)] at this
    unfold begA at this
    apply Classical.byContradiction
    intro hn
    have := (jump_in (t := t) i (nth t i).a.toNat (by omega)).1 ⟨e, h1, by simpa using hn⟩
    omega

theorem stack_join {t : List Ins} {tk gv : Nat → Int} (hg : ∀ i, 0 ≤ gv i) (hf : Fwd t) : (∃ hs, hgt t tk gv t.length = some hs ∧ hs.getD t.length 0 ≤ 0) ↔ ∃ hs, hgt t tk gv t.length = some hs ∧ hs.getD t.length 0 = 0 := by
  constructor
  · rintro ⟨hs, h1, h2⟩
    have := hgt_end hg (fun i hi hd => hf i hi (.inl hd)) h1
    refine ⟨hs, h1, ?_⟩
    change 0 ≤ hs.getD t.length 0 at this
    omega
  · rintro ⟨hs, h1, h2⟩
    exact ⟨hs, h1, by omega⟩

/-- Loops, as the document and as the program looks at them. -/
theorem loops_join {t : List Ins} (hB : ∀ i, isR t i = true → 1 ≤ (nth t i).b ∧ (nth t i).b ≤ i) : (LpOk t ∧ Pairs t) ↔ (RdOk t ∧ nst t t.length ≠ none) := by
  constructor
  · rintro ⟨h1, h2⟩
    have hr := (lp_rd t).1 ⟨hB, h1⟩
    refine ⟨hr, ?_⟩
    rw [nst_some hr h2]
    simp
  · rintro ⟨h1, h2⟩
    exact ⟨((lp_rd t).2 h1).2, pairs_of h1 h2⟩
end Go.Proofs.YtcgbfhpmkpglkaaGreatDoor

/- Plain facts: the stack of loops as two lists that grow at their ends, and the counters in use. -/
namespace Go.Proofs.YtcgbfhpmkpglkaaGreatDoor
set_option linter.unusedVariables false

def opL (st : List (Nat × Int)) : List Int := (st.map (fun p => ((p.1 : Nat) : Int))).reverse
def tmL (st : List (Nat × Int)) : List Int := (st.map Prod.snd).reverse
theorem opL_len (st : List (Nat × Int)) : (opL st).length = st.length := by simp [opL]
theorem tmL_len (st : List (Nat × Int)) : (tmL st).length = st.length := by simp [tmL]
theorem opL_cons (p : Nat × Int) (st : List (Nat × Int)) : opL (p :: st) = opL st ++ [((p.1 : Nat) : Int)] := by simp [opL]
theorem tmL_cons (p : Nat × Int) (st : List (Nat × Int)) : tmL (p :: st) = tmL st ++ [p.2] := by simp [tmL]
theorem opL_last (p : Nat × Int) (st : List (Nat × Int)) : (opL (p :: st)).getD st.length 0 = ((p.1 : Nat) : Int) := by
  rw [opL_cons, List.getD, List.getElem?_append_right (by rw [opL_len]; omega)]
  simp [opL_len]
theorem tmL_last (p : Nat × Int) (st : List (Nat × Int)) : (tmL (p :: st)).getD st.length 0 = p.2 := by
  rw [tmL_cons, List.getD, List.getElem?_append_right (by rw [tmL_len]; omega)]
  simp [tmL_len]
theorem opL_take (p : Nat × Int) (st : List (Nat × Int)) : (opL (p :: st)).take st.length = opL st := by
  rw [opL_cons, List.take_append_of_le_length (by rw [opL_len]; omega), List.take_of_length_le (by rw [opL_len]; omega)]
theorem tmL_take (p : Nat × Int) (st : List (Nat × Int)) : (tmL (p :: st)).take st.length = tmL st := by
  rw [tmL_cons, List.take_append_of_le_length (by rw [tmL_len]; omega), List.take_of_length_le (by rw [tmL_len]; omega)]

/-- No two loops of a stack have one counter. -/
def Dis (t : List Ins) (st : List (Nat × Int)) : Prop := st.Pairwise (fun p q => 0 < p.1 → 0 < q.1 → (nth t (p.1 - 1)).a ≠ (nth t (q.1 - 1)).a)
theorem used_cons (t : List Ins) (p : Nat × Int) (st : List (Nat × Int)) (a : Int) : used t (p :: st) a = ((decide (0 < p.1) && (nth t (p.1 - 1)).a == a) || used t st a) := by simp [used]
theorem used_false {t : List Ins} {st : List (Nat × Int)} {a : Int} : used t st a = false ↔ ∀ q, q ∈ st → 0 < q.1 → (nth t (q.1 - 1)).a ≠ a := by
  simp only [used, List.any_eq_false, Bool.and_eq_true, decide_eq_true_eq, beq_iff_eq, not_and]
theorem dis_push {t : List Ins} {st : List (Nat × Int)} {p : Nat × Int} (h : Dis t st) (hu : 0 < p.1 → used t st (nth t (p.1 - 1)).a = false) : Dis t (p :: st) := by
  refine List.pairwise_cons.2 ⟨fun q hq h1 h2 => ?_, h⟩
  have := used_false.1 (hu h1) q hq h2
  exact fun e => this e.symm
theorem dis_pop {t : List Ins} {st : List (Nat × Int)} {p : Nat × Int} (h : Dis t (p :: st)) (hp : 0 < p.1) : used t st (nth t (p.1 - 1)).a = false ∧ Dis t st := by
  obtain ⟨h1, h2⟩ := List.pairwise_cons.1 h
  exact ⟨used_false.2 fun q hq h0 e => h1 q hq hp h0 e.symm, h2⟩

/-- The counters in use, as so many truths. -/
def cuL (t : List Ins) (st : List (Nat × Int)) : List Bool := (List.range 40).map (fun (a : Nat) => used t st (a : Int))
theorem cuL_len (t : List Ins) (st : List (Nat × Int)) : (cuL t st).length = 40 := by simp [cuL]
theorem cuL_get (t : List Ins) (st : List (Nat × Int)) (a : Nat) (h : a < 40) : (cuL t st).getD a false = used t st (a : Int) := by
  have hl : a < (cuL t st).length := by rw [cuL_len]; exact h
  rw [List.getD, List.getElem?_eq_getElem hl, Option.getD_some]
  simp [cuL]
theorem cuL_zero (t : List Ins) : cuL t [(0, 1)] = List.replicate 40 false := by
  apply List.ext_getElem
  · simp [cuL]
  · intro i h1 h2
    rw [List.getElem_replicate]
    simp only [cuL, List.getElem_map]
    rfl
theorem cuL_push {t : List Ins} {st : List (Nat × Int)} {p : Nat × Int} (hp : 0 < p.1) (a : Nat) (ha : (nth t (p.1 - 1)).a = (a : Int)) : (cuL t st).set a true = cuL t (p :: st) := by
  apply List.ext_getElem
  · simp [cuL]
  · intro i h1 h2
    rw [List.getElem_set]
    simp only [cuL, List.getElem_map, List.getElem_range, used_cons, ha]
    by_cases e : a = i
    · subst e; simp [hp]
    · rw [if_neg e]
      have : ((a : Int) == (i : Int)) = false := by simp; omega
      simp [this]
theorem cuL_pop {t : List Ins} {st : List (Nat × Int)} {p : Nat × Int} (h : Dis t (p :: st)) (hp : 0 < p.1) (a : Nat) (ha : (nth t (p.1 - 1)).a = (a : Int)) : (cuL t (p :: st)).set a false = cuL t st := by
  have hu := (dis_pop h hp).1
  rw [ha] at hu
  apply List.ext_getElem
  · simp [cuL]
  · intro i h1 h2
    rw [List.getElem_set]
    simp only [cuL, List.getElem_map, List.getElem_range, used_cons, ha]
    by_cases e : a = i
    · subst e; simp [hu]
    · rw [if_neg e]
      have : ((a : Int) == (i : Int)) = false := by simp; omega
      simp [this]

theorem stk_snd {t : List Ins} (hB : Bs t) (l : List Nat) (hl : ∀ f, f ∈ l → isE t (f - 1) = true) : ∀ p, p ∈ stk t l → 1 ≤ p.2 ∧ p.2 ≤ top1 := by
  induction l with
  | nil => intro p hp; simp [stk] at hp; subst hp; simp [top1]
  | cons f l ih =>
    intro p hp
    have hl' : ∀ g, g ∈ l → isE t (g - 1) = true := fun g hg => hl g (by simp [hg])
    simp only [stk, List.mem_cons] at hp
    rcases hp with rfl | hp
    · have h1 := prd_is hB (f :: l) hl
      have h2 := pr_pos hB (f :: l) hl
      have h3 : (1 : Int) ≤ top1 := by simp [top1]
      have h4 : prd t (f :: l) = min (((stk t l).headD (0, 1)).2 * (nth t (f - 1)).b) top1 := rfl
      rw [← h4, h1]
      omega
    · exact ih hl' p hp
theorem stk_len (t : List Ins) (l : List Nat) : (stk t l).length = l.length + 1 := by
  induction l with
  | nil => rfl
  | cons f l ih => simp [stk, ih]
theorem inn_len (t : List Ins) (m i : Nat) : (inn t m i).length ≤ m := by
  unfold inn
  have := List.length_filter_le (fun f => inL t f i) (List.range m).reverse
  simpa using this

/-- What is known of the stack ahead of place k. -/
structure StOk (t : List Ins) (k : Nat) (st : List (Nat × Int)) : Prop where
  is : nst t k = some st
  ne : ∃ p r, st = p :: r
  len : st.length ≤ k + 1
  times : ∀ p, p ∈ st → 1 ≤ p.2 ∧ p.2 ≤ top1
  dis : Dis t st
  eq : st = stk t (inn t k k)
theorem stOk_zero (t : List Ins) : StOk t 0 [(0, 1)] := ⟨rfl, ⟨_, _, rfl⟩, by simp, by simp [top1], by simp [Dis], rfl⟩

theorem dis_of_nst {t : List Ins} (k : Nat) (st : List (Nat × Int)) (h : nst t k = some st) : Dis t st := by
  induction k generalizing st with
  | zero => simp only [nst, Option.some.injEq] at h; subst h; simp [Dis]
  | succ k ih =>
    simp only [nst] at h
    cases h1 : nst t k with
    | none => rw [h1] at h; simp at h
    | some s =>
      rw [h1] at h
      simp only [Option.bind_some] at h
      have hd := ih s h1
      unfold nestStep at h
      split at h
      · simp at h
      · rename_i hu
        have hpd : Dis t (pushed t k s) := by
          unfold pushed
          split
          · rename_i hb
            apply dis_push hd
            intro _
            simp only [hb, Bool.true_and] at hu
            simpa using hu
          · exact hd
        split at h
        · split at h
          · rw [← Option.some.inj h]
            exact List.Pairwise.sublist (List.tail_sublist _) hpd
          · simp at h
        · rw [← Option.some.inj h]; exact hpd
theorem stOk_of {t : List Ins} (hR : RdOk t) (hB : Bs t) (k : Nat) (st : List (Nat × Int)) (h : nst t k = some st) : StOk t k st := by
  have e := nst_is hR k st h
  refine ⟨h, ?_, ?_, ?_, dis_of_nst k st h, e⟩
  · rw [e]; cases inn t k k <;> exact ⟨_, _, rfl⟩
  · rw [e, stk_len]; have := inn_len t k k; omega
  · rw [e]; exact stk_snd hB _ inn_enter
/-- The same of the stack at place k itself, a loop begun there. -/
theorem pushed_ok {t : List Ins} (hR : RdOk t) (hB : Bs t) (k : Nat) (st : List (Nat × Int)) (h : nst t k = some st) :
    pushed t k st = stk t (inn t (k + 1) k) ∧ (∀ p, p ∈ pushed t k st → 1 ≤ p.2 ∧ p.2 ≤ top1) ∧ (pushed t k st).length ≤ k + 2 ∧ ((((pushed t k st).headD (0, 1)).1 : Nat) : Int) = begA t k ∧ ((pushed t k st).headD (0, 1)).2 = prd t (inn t (k + 1) k) := by
  have e := nst_is hR k st h
  have e2 : pushed t k st = stk t (inn t (k + 1) k) := by rw [e, pushed_stk hR]
  refine ⟨e2, ?_, ?_, ?_, ?_⟩
  · rw [e2]; exact stk_snd hB _ inn_enter
  · rw [e2, stk_len]; have := inn_len t (k + 1) k; omega
  · rw [e2, stk_head]; rfl
  · rw [e2]; rfl
end Go.Proofs.YtcgbfhpmkpglkaaGreatDoor

/- nest: the stack of loops, walked. -/
namespace Go.Proofs.YtcgbfhpmkpglkaaGreatDoor
open Go.RowKit
attribute [local go_sem ↓] Go.wp_at_zero Go.wp_at_succ
set_option linter.unusedVariables false
set_option linter.unusedSimpArgs false

def boolsA (l : List Bool) : Array Value := (l.map Value.bool).toArray
theorem boolsA_set (l : List Bool) (k : Nat) (x : Bool) : (boolsA l).setIfInBounds k (.bool x) = boolsA (l.set k x) := by
  unfold boolsA
  simp [List.map_set]
theorem bools_get {w : World} {c T : Nat} {l : List Bool} (h : w.heap[c]? = some (.cells (boolsA l) T)) (i : Nat) (hi : i < l.length) : w.cell? ⟨c, i, none⟩ = some (.bool (l.getD i false)) := by
  rw [at_cell h]
  simp [boolsA, hi]
/-- A list of numbers that the call itself owns, from block B on. -/
def OwnI (B : Nat) (w : World) (g cap : Nat) (l : List Int) : Prop := w.ownsRow B 3 1 (.slice (some ⟨g, 0, none⟩) l.length cap) l.length (l.map (Value.int .i64))
theorem OwnI.get {B : Nat} {w : World} {g cap : Nat} {l : List Int} (h : OwnI B w g cap l) (i : Nat) (hi : i < l.length) : w.cell? ⟨g, i, none⟩ = some (.int .i64 (l.getD i 0)) := by
  rw [World.ownsRow.cellAt h i (by omega)]
  simp [hi]
theorem OwnI.lt {B : Nat} {w : World} {g cap : Nat} {l : List Int} (h : OwnI B w g cap l) : B ≤ g ∧ g < w.heap.size := World.ownsRow.lt h g rfl
theorem OwnI.kept {B : Nat} {w w' : World} {g cap : Nat} {l : List Int} (h : OwnI B w g cap l) {row : Option Nat} (hg : w.grownBy w' row) (hne : row ≠ some g) : OwnI B w' g cap l := World.ownsRow.kept h hg (.inr fun e => hne e.symm)
theorem OwnI.first {B : Nat} (w : World) (l : List Int) (hb : B ≤ w.heap.size) (hl : l.length ≤ 1000000) : OwnI B (w.alloc (.cells (intsA l) 3)) w.heap.size l.length l := by
  have := World.ownsRow_lit (base := B) (e := 3) (size := 1) w (intsA l) l.length hb (by unfold maxLen; omega) (by simp [intsA])
  simpa [OwnI, intsA] using this
theorem OwnI.pop {B : Nat} {w : World} {g cap : Nat} {l : List Int} {x : Int} (h : OwnI B w g cap (l ++ [x])) : OwnI B w g cap l := by
  unfold OwnI at h ⊢
  rw [List.length_append] at h
  simp only [List.length_cons, List.length_nil, List.map_append, List.map_cons, List.map_nil] at h
  exact ownsRow_pop (by simp) h
/-- One more. -/
theorem OwnI.more {B : Nat} {w : World} {g cap : Nat} {l : List Int} (h : OwnI B w g cap l) (x : Int) (hl : l.length ≤ 1000000) (hB : B ≤ w.heap.size) :
    ∃ g' cap' w', (Builtin.append_ #[25, 25] 25 #[.slice (some ⟨g, 0, none⟩) l.length cap, .slice (some ⟨w.heap.size, 0, none⟩) 1 1]).run Tryz.prog (w.alloc (.cells #[.int .i64 x] 3)) = .ok (.slice (some ⟨g', 0, none⟩) (l.length + 1) cap') w' ∧
      OwnI B w' g' cap' (l ++ [x]) ∧ w.grownBy w' (some g) ∧ (g' = g ∨ w.heap.size ≤ g') := by
  obtain ⟨i0, hi, hz0, hz1, hz2⟩ := info_parts info3
  obtain ⟨v', w', r1, r2, r3, r4, r5⟩ := run_append_own_at (P := Tryz.prog) (w.alloc (.cells #[.int .i64 x] 3)) B 25 25 3 i0 (.int .i64 0) 1 8 Tryz.underlying25 hi hz0 hz1 hz2 rfl (by omega) _ _ _ (World.ownsRow.alloc h _) ⟨w.heap.size, 0, none⟩ 1 1 [.int .i64 x] rfl
    (fun j u hj => by
      rw [addn, at_cell (heap_alloc_new w _) (0 + j)]
      simpa using hj)
    (by simp [Value.oneCell']) (by unfold maxLen; omega) (by omega) (by simp; omega)
  have r2' := r2
  obtain ⟨_, hx | ⟨g', cap', cur, rfl, _⟩⟩ := r2'
  · exfalso
    have := (r4.1 hx.1).1
    simp at this
  · refine ⟨g', cap', w', r1, ?_, ?_, ?_⟩
    · unfold OwnI
      simpa using r2
    · exact grown_join (gr_alloc (World.grownBy.refl _ _) _) r3 (.inl rfl)
    · rcases r5 with h5 | h5
      · left; simpa [Value.ownBlock] using h5
      · right
        simp [Value.ownBlock] at h5
        omega
/-- One more, at whatever world. -/
theorem OwnI.moreAt {B : Nat} {W : World} {g cap : Nat} {l : List Int} (h : OwnI B W g cap l) (x : Int) (xb : Nat) (hx : W.heap[xb]? = some (.cells #[.int .i64 x] 3)) (hl : l.length ≤ 1000000) (hB : B ≤ W.heap.size) :
    ∃ g' cap' w', (Builtin.append_ #[25, 25] 25 #[.slice (some ⟨g, 0, none⟩) l.length cap, .slice (some ⟨xb, 0, none⟩) 1 1]).run Tryz.prog W = .ok (.slice (some ⟨g', 0, none⟩) (l.length + 1) cap') w' ∧
      OwnI B w' g' cap' (l ++ [x]) ∧ W.grownBy w' (some g) ∧ (g' = g ∨ (W.heap.size ≤ g' ∧ W.grownBy w' none)) := by
  obtain ⟨i0, hi, hz0, hz1, hz2⟩ := info_parts info3
  have hnews : ∀ (j : Nat) (u : Value), [Value.int .i64 x][j]? = some u → W.cell? ((⟨xb, 0, none⟩ : Addr).add j) = some u := fun j u hj => by
    rw [addn, at_cell hx (0 + j)]
    simpa using hj
  by_cases hroom : l.length + 1 ≤ cap
  · obtain ⟨w', r1, r2, r3⟩ := run_append_fits (P := Tryz.prog) W B 25 25 3 i0 1 Tryz.underlying25 hi hz1 g l.length cap _ h ⟨xb, 0, none⟩ 1 1 [.int .i64 x] rfl hnews (by simp [Value.oneCell']) hroom
    refine ⟨g, cap, w', r1, ?_, r3, .inl rfl⟩
    unfold OwnI
    simpa using r2
  · obtain ⟨v', w', r1, r2, r3, r4, r5⟩ := run_append_own_at (P := Tryz.prog) W B 25 25 3 i0 (.int .i64 0) 1 8 Tryz.underlying25 hi hz0 hz1 hz2 rfl (by omega) _ _ _ h ⟨xb, 0, none⟩ 1 1 [.int .i64 x] rfl
      hnews (by simp [Value.oneCell']) (by unfold maxLen; omega) (by omega) hB
    have hcap := nextslicecap_le (need := l.length + 1) (old := cap) (by omega)
    have hgrow := run_append_grow (P := Tryz.prog) W 25 25 3 i0 (.int .i64 0) Tryz.underlying25 hi hz0 ⟨g, 0, none⟩ l.length cap (l.map (Value.int .i64)) (by simp [hz1]) (fun j v hj => World.ownsRow.cells h rfl j v hj) ⟨xb, 0, none⟩ 1 1 [.int .i64 x] (by simp [hz1]) hnews (by omega) (by omega) (by rw [hz2]; omega)
    rw [hgrow] at r1
    injection r1 with e1 e2
    subst e1 e2
    refine ⟨W.heap.size, _, _, hgrow, ?_, r3, .inr ⟨Nat.le_refl _, gr_alloc (gr_drew (World.grownBy.refl _ _)) _⟩⟩
    unfold OwnI
    simpa using r2

/-- An append at a step of a region that draws, its run known. -/
theorem step_append_run {P : Program} {w : World} {ops : Array Oper} {o : Oper} {a : Act} {K : Act → World → Prop} {Q : Exit → Act → World → Prop} {E : Prop} (hgd : o.guard = none) (s x : Operand) (t : TypeId)
    (ho : o.op = .call { callee := .builtin .append, args := #[s, x], argTypes := #[t, t] })
    (v u v' : Value) (w' : World) (hs : a.eval s = v) (hx : a.eval x = u) (hrun : (Builtin.append_ #[t, t] o.type #[v, u]).run P w = .ok v' w')
    (h : K (a.put o.dst v') w') : if Region.wanted o (yielded ops a.tmps) = true then Oper.wp P o a w K Q else E := by
  have hw : Region.wanted o (yielded ops a.tmps) = true := by simp [Region.wanted, hgd]
  rw [if_pos hw]
  unfold Oper.wp
  simp [execOp, ho, resolve, invoke, builtin, hs, hx, hrun, Result.andThen]
  exact h
end Go.Proofs.YtcgbfhpmkpglkaaGreatDoor

/- The machine: what it holds, what a step may change; push and pop. -/
namespace Go.Proofs.YtcgbfhpmkpglkaaGreatDoor
open Go.RowKit
attribute [local go_sem ↓] Go.wp_at_zero Go.wp_at_succ
set_option linter.unusedVariables false
set_option linter.unusedSimpArgs false

/-- A list of numbers that the call owns, nil or not (the stack). -/
def StkV (B : Nat) (w : World) (v : Value) (l : List Int) : Prop := w.ownsRow B 3 1 v l.length (l.map (Value.int .i64))
/-- The block that a slice lies in. -/
def sb (sa : Option Addr) : Option Nat := sa.map (fun a => a.block)
theorem own_sb (sa : Option Addr) (n c : Nat) : (Value.slice sa n c).ownBlock = sb sa := by cases sa <;> rfl
/-- What may be changed: the machine, the frame's block, the stack's. -/
structure Chg (M : Nat) (F r : Option Nat) (w w' : World) : Prop where
  os : w'.os = w.os
  tape : w'.tape = w.tape
  output : w'.output = w.output
  size : w.heap.size ≤ w'.heap.size
  block : ∀ k, k < w.heap.size → k ≠ M → some k ≠ F → some k ≠ r → w'.heap[k]? = w.heap[k]?
theorem Chg.refl (M : Nat) (F r : Option Nat) (w : World) : Chg M F r w w := ⟨rfl, rfl, rfl, Nat.le_refl _, fun _ _ _ _ _ => rfl⟩
theorem Chg.of_grown {M : Nat} {F r : Option Nat} {w w' : World} (h : w.grownBy w' r) : Chg M F r w w' := ⟨h.os, h.tape, h.output, h.size, fun k hk _ _ hr => h.block k hk hr⟩
theorem Chg.of_none {M : Nat} {F r : Option Nat} {w w' : World} (h : w.grownBy w' none) : Chg M F r w w' := ⟨h.os, h.tape, h.output, h.size, fun k hk _ _ hr => h.block k hk (by simp)⟩
/-- Where the stack lies now: where it lay, or in new memory. -/
def Nx (w : World) (r r' : Option Nat) : Prop := r' = r ∨ ∀ y, r' = some y → w.heap.size ≤ y
theorem Chg.trans {M : Nat} {F r r' : Option Nat} {a b c : World} (h : Chg M F r a b) (n : Nx a r r') (k : Chg M F r' b c) : Chg M F r a c :=
  ⟨k.os.trans h.os, k.tape.trans h.tape, k.output.trans h.output, Nat.le_trans h.size k.size, fun x hx h1 h2 h3 => by
    refine (k.block x (Nat.lt_of_lt_of_le hx h.size) h1 h2 ?_).trans (h.block x hx h1 h2 h3)
    rcases n with n | n
    · rw [n]; exact h3
    · intro e
      have := n x e.symm
      omega⟩
theorem Nx.trans {a b : World} {r r' r'' : Option Nat} (hs : a.heap.size ≤ b.heap.size) (h : Nx a r r') (k : Nx b r' r'') : Nx a r r'' := by
  rcases k with k | k
  · rw [k]; exact h
  · exact .inr fun y hy => by have := k y hy; omega
theorem Nx.refl (w : World) (r : Option Nat) : Nx w r r := .inl rfl
theorem Chg.wide {M : Nat} {F r : Option Nat} {a b : World} (h : Chg M none r a b) : Chg M F r a b := ⟨h.os, h.tape, h.output, h.size, fun k h1 h2 h3 h4 => h.block k h1 h2 (by simp) h4⟩
/-- What lay there before the machine was made lies there still. -/
theorem grown_chg {c w w' : World} {M : Nat} {F r : Option Nat} (h : c.grownBy w none) (k : Chg M F r w w') (hM : c.heap.size ≤ M) (hF : ∀ y, F = some y → c.heap.size ≤ y) (hr : ∀ y, r = some y → c.heap.size ≤ y) : c.grownBy w' none :=
  ⟨k.os.trans h.os, k.tape.trans h.tape, k.output.trans h.output, Nat.le_trans h.size k.size, fun x hx _ => by
    refine (k.block x (Nat.lt_of_lt_of_le hx h.size) (by omega) (fun e => ?_) (fun e => ?_)).trans (h.block x hx (by simp))
    · have := hF x e.symm; omega
    · have := hr x e.symm; omega⟩

/-- The machine in memory: units, time, stack, steps, faults. -/
structure MaC (w : World) (B M : Nat) (pv : Value) (now : Int) (sa : Option Addr) (sc : Nat) (st : List Int) (sp fl : Int) : Prop where
  blk : w.heap[M]? = some (.cells #[pv, .int .i64 now, .slice sa st.length sc, .int .i64 sp, .int .i64 fl] 56)
  own : StkV B w (.slice sa st.length sc) st
  lo : M < B
theorem MaC.row {w : World} {B M : Nat} {pv : Value} {now : Int} {sa : Option Addr} {sc : Nat} {st : List Int} {sp fl : Int} (h : MaC w B M pv now sa sc st sp fl) : ∀ y, (sb sa) = some y → B ≤ y ∧ y < w.heap.size := fun y hy => World.ownsRow.lt h.own y (by rw [own_sb]; exact hy)
/-- It stays what it is while others grow. -/
theorem MaC.kept {w w' : World} {B M : Nat} {pv : Value} {now : Int} {sa : Option Addr} {sc : Nat} {st : List Int} {sp fl : Int} (h : MaC w B M pv now sa sc st sp fl) (hg : w.grownBy w' none) : MaC w' B M pv now sa sc st sp fl := by
  refine ⟨YtcgbfhpmkpglkaaGreatDoor.kept hg h.blk, World.ownsRow.kept h.own hg ?_, h.lo⟩
  rw [own_sb]
  cases hv : (sb sa) with
  | none => exact .inl rfl
  | some x => exact .inr (by simp)

set_option maxHeartbeats 2000000 in
theorem push_any (B M : Nat) (pv : Value) (now : Int) (sa : Option Addr) (sc : Nat) (st : List Int) (sp fl x : Int) (w : World) (h : MaC w B M pv now sa sc st sp fl) (hl : st.length ≤ 900000) (hB : B ≤ w.heap.size) :
    Calls Tryz.prog 48 #[.pointer (some ⟨M, 0, none⟩), .int .i64 x] w fun e w' => e = .returned (.tuple #[]) ∧ ∃ sa' sc', MaC w' B M pv now sa' sc' (st ++ [x]) sp fl ∧ Chg M none (sb sa) w w' ∧ Nx w (sb sa) (sb sa') := by
  obtain ⟨i0, hi, hz0, hz1, hz2⟩ := info_parts info3
  have hMlt := at_lt h.blk
  obtain ⟨v', w1, r1, r2, r3, _, r5⟩ := run_append_own_at (P := Tryz.prog) (w.alloc (.cells #[.int .i64 x] 3)) B 25 25 3 i0 (.int .i64 0) 1 8 Tryz.underlying25 hi hz0 hz1 hz2 rfl (by omega) _ _ _ (World.ownsRow.alloc h.own _) ⟨w.heap.size, 0, none⟩ 1 1 [.int .i64 x] rfl
    (fun j u hj => by
      rw [addn, at_cell (heap_alloc_new w _) (0 + j)]
      simpa using hj)
    (by simp [Value.oneCell']) (by unfold maxLen; omega) (by omega) (by simp; omega)
  rw [own_sb] at r3 r5
  obtain ⟨ga, gc, rfl⟩ : ∃ ga gc, v' = .slice ga (st.length + 1) gc := by
    obtain ⟨_, ⟨e, e2⟩ | ⟨g, c, cur, e, _⟩⟩ := r2
    · omega
    · exact ⟨_, _, e⟩
  have hMne : some M ≠ (sb sa) := fun e => by have := (h.row M e.symm).1; have := h.lo; omega
  have hb1 : w1.heap[M]? = some (.cells #[pv, .int .i64 now, .slice sa st.length sc, .int .i64 sp, .int .i64 fl] 56) := by
    rw [r3.block M (by simp; omega) hMne, hp_old hMlt]; exact h.blk
  have HRUN : Hid (_ = _) := r1
  have HB1 : Hid (w1.heap[M]? = some (.cells #[pv, .int .i64 now, .slice sa st.length sc, .int .i64 sp, .int .i64 fl] 56)) := hb1
  have HO : Hid (w1.ownsRow B 3 1 (.slice ga (st.length + 1) gc) (st.length + 1) (st.map (Value.int .i64) ++ [.int .i64 x])) := r2
  have HG : Hid (w.grownBy w1 (sb sa)) := grown_join (World.grownBy_alloc w _ _) r3 (.inl rfl)
  have HN : Hid (Nx w (sb sa) (sb ga)) := by
    rw [own_sb] at r5
    rcases r5 with e | e
    · exact .inl e
    · exact .inr fun y hy => by rw [e] at hy; simp at hy; omega
  have d2 := at_cell h.blk 2
  simp at d2
  have k2 := at_cell hb1 2
  simp at k2
  have f2 := at_frozen hb1 2
  have HLO : Hid (M < B) := h.lo
  clear h r1 r2 r3 r5 hi hz0 hz1 hz2 hb1
  go_enter Tryz.func48, Tryz.ntmps48
  go_wp2_with (first | (at_builtin; refine wpList_append_run rfl _ _ 25 rfl _ _ _ w1 rfl rfl HRUN.out ?_))
  go_end0
  refine ⟨rfl, ga, gc, ⟨?_, ?_, HLO.out⟩, ?_, by simpa using HN.out⟩
  · have := at_set HB1.out 2 (.slice ga (st.length + 1) gc)
    simpa using this
  · have hg : w1.grownBy (w1.setCell ⟨M, 2, none⟩ (.slice ga (st.length + 1) gc)) (some M) := gr_set (World.grownBy.refl _ _) _ _
    have := World.ownsRow.kept HO.out hg (.inr fun e => by have := (World.ownsRow.lt HO.out M e).1; have := HLO.out; omega)
    unfold StkV
    simpa using this
  · have h1 := HG.out
    exact ⟨h1.os, h1.tape, h1.output, by simpa using h1.size, fun k hk hkM _ hr => by rw [Below.heap_setCell _ _ _ _ (by simpa using hkM)]; exact h1.block k hk hr⟩
set_option maxHeartbeats 2000000 in
theorem pop_any (B M : Nat) (pv : Value) (now : Int) (sa : Option Addr) (sc : Nat) (st : List Int) (sp fl x : Int) (w : World) (h : MaC w B M pv now sa sc (st ++ [x]) sp fl) (hl : st.length ≤ 900000) :
    Calls Tryz.prog 31 #[.pointer (some ⟨M, 0, none⟩)] w fun e w' => e = .returned (.int .i64 x) ∧ MaC w' B M pv now sa sc st sp fl ∧ Chg M none (sb sa) w w' ∧ Nx w (sb sa) (sb sa) := by
  obtain ⟨hb, hown, hlo⟩ := h
  have hown' := hown
  obtain ⟨g, rfl, hsc⟩ : ∃ g, sa = some ⟨g, 0, none⟩ ∧ st.length + 1 ≤ sc := by
    obtain ⟨_, ⟨e, e2⟩ | ⟨g, c, cur, e, _, _, hc, _⟩⟩ := hown'
    · simp at e2
    · simp at e
      obtain ⟨rfl, rfl⟩ := e
      exact ⟨g, rfl, by simpa using hc⟩
  have q : w.cell? ⟨g, st.length, none⟩ = some (.int .i64 x) := by
    have := World.ownsRow.cells hown rfl st.length (.int .i64 x) (by simp)
    rw [addn, Nat.zero_add] at this
    exact this
  have hpop : StkV B w (.slice (some ⟨g, 0, none⟩) st.length sc) st := by
    unfold StkV at hown ⊢
    rw [List.length_append] at hown
    simp only [List.length_cons, List.length_nil, List.map_append, List.map_cons, List.map_nil] at hown
    exact ownsRow_pop (by simp) hown
  have hlen : (st ++ [x]).length = st.length + 1 := by simp
  rw [hlen] at hb
  have HB : Hid (w.heap[M]? = some (.cells #[pv, .int .i64 now, .slice (some ⟨g, 0, none⟩) (st.length + 1) sc, .int .i64 sp, .int .i64 fl] 56)) := hb
  have HP : Hid (StkV B w (.slice (some ⟨g, 0, none⟩) st.length sc) st) := hpop
  have HGM : Hid (g ≠ M) := fun e => by have := (World.ownsRow.lt hpop g rfl).1; omega
  have d2 := at_cell hb 2
  simp at d2
  have f2 := at_frozen hb 2
  obtain ⟨n, hn⟩ : ∃ n, st.length = n := ⟨_, rfl⟩
  have HN : Hid (st.length = n) := hn
  rw [hn] at hl d2 q hsc
  have i1 : (0 : Int) ≤ (n : Int) := by omega
  have i2 : (n : Int) < (n : Int) + 1 := by omega
  have i3 : (n : Int) ≤ (sc : Int) := by omega
  have i4 : n ≤ sc := by omega
  have i5 : n < n + 1 := by omega
  clear hb hown hown' hpop hn hlen
  go_enter Tryz.func31, Tryz.ntmps31
  go_wp2
  go_ret
  refine ⟨rfl, ⟨?_, ?_, hlo⟩, ?_, .inl rfl⟩
  · have := at_set HB.out 2 (.slice (some ⟨g, 0, none⟩) n sc)
    rw [HN.out] at this
    rw [HN.out]
    simpa using this
  · have hg : w.grownBy (w.setCell ⟨M, 2, none⟩ (.slice (some ⟨g, 0, none⟩) n sc)) (some M) := gr_set (World.grownBy.refl _ _) _ _
    exact World.ownsRow.kept HP.out hg (.inr (by simp [Value.ownBlock]; exact HGM.out))
  · exact ⟨rfl, rfl, rfl, by simp, fun k hk hkM _ hr => by rw [Below.heap_setCell _ _ _ _ (by simpa using hkM)]⟩
end Go.Proofs.YtcgbfhpmkpglkaaGreatDoor
