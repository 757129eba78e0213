/- The twelve blocks as plain functions. -/
import Derived.Test.YtphnadhkoigegaaK
import Derived.Test.YtphnadhkoigegaaG
namespace Go.Proofs.Ytphnadhkoigegaa
open Go.RowKit

def A4 : List Int → Array Value
  | [a, b, c, d] => #[.bool (a != 0), .int .i64 b, .bool (c != 0), .int .i64 d]
  | _ => #[]
def A2 : List Int → Array Value
  | [a, b] => #[.bool (a != 0), .int .i64 b]
  | _ => #[]
def A3 : List Int → Array Value
  | [a, b, c] => #[.bool (a != 0), .bool (b != 0), .int .i64 c]
  | _ => #[]
def A1 : List Int → Array Value
  | [a] => #[.bool (a != 0)]
  | _ => #[]
def A1i : List Int → Array Value
  | [a] => #[.int .i64 a]
  | _ => #[]

def tonF : List Int → List Int → Int → List Int × List Int
  | [r, s, m, a], [i, pt], now =>
    if i = 0 then ([0, 0, 0, 0], [0, 0])
    else if r = 0 then ([1, now, yesN (decide (pt ≤ goneN now now)), min (goneN now now) pt], [yesN (decide (pt ≤ goneN now now)), min (goneN now now) pt])
    else if m = 0 then ([1, s, yesN (decide (pt ≤ goneN now s)), min (goneN now s) pt], [yesN (decide (pt ≤ goneN now s)), min (goneN now s) pt])
    else ([1, s, 1, a], [1, a])
  | _, _, _ => ([], [])
/-- A timer that runs out. -/
def outF (on now s pt : Int) : List Int × List Int :=
  if pt ≤ goneN now s then ([0, 0, on, min (goneN now s) pt], [0, min (goneN now s) pt]) else ([1, s, on, min (goneN now s) pt], [1, min (goneN now s) pt])
def tofF : List Int → List Int → Int → List Int × List Int
  | [r, s, m, a], [i, pt], now =>
    if i = 0 then
      if m = 0 then ([r, s, 0, a], [0, a])
      else if pt ≤ goneN now (if r = 0 then now else s) then ([0, 0, 0, min (goneN now (if r = 0 then now else s)) pt], [0, min (goneN now (if r = 0 then now else s)) pt])
      else ([1, if r = 0 then now else s, 1, min (goneN now (if r = 0 then now else s)) pt], [1, min (goneN now (if r = 0 then now else s)) pt])
    else ([0, 0, 1, 0], [1, 0])
  | _, _, _ => ([], [])
def tpF : List Int → List Int → Int → List Int × List Int
  | [r, s, m, a], [i, pt], now =>
    if r = 0 then
      if i = 0 then ([0, s, 0, 0], [0, 0])
      else if m = 0 then outF 1 now now pt
      else ([0, s, 1, a], [0, a])
    else outF i now s pt
  | _, _, _ => ([], [])
def ctuF : List Int → List Int → Int → List Int × List Int
  | [p, n], [c, r, pv], _ =>
    if r = 0 then
      if c = 0 then ([c, n], [yesN (decide (pv ≤ n)), n])
      else if p = 0 then ([c, moreN n], [yesN (decide (pv ≤ moreN n)), moreN n])
      else ([c, n], [yesN (decide (pv ≤ n)), n])
    else ([c, 0], [yesN (decide (pv ≤ 0)), 0])
  | _, _, _ => ([], [])
def ctdF : List Int → List Int → Int → List Int × List Int
  | [p, n], [c, r, pv], _ =>
    if r = 0 then
      if c = 0 then ([c, n], [yesN (decide (n ≤ 0)), n])
      else if p = 0 then ([c, lessN n], [yesN (decide (lessN n ≤ 0)), lessN n])
      else ([c, n], [yesN (decide (n ≤ 0)), n])
    else ([c, pv], [yesN (decide (pv ≤ 0)), pv])
  | _, _, _ => ([], [])
def udN (u d n cu cd : Int) : Int :=
  if cu = 0 then (if cd = 0 then n else if d = 0 then lessN n else n)
  else if u = 0 then (if cd = 0 then moreN n else if d = 0 then n else moreN n)
  else (if cd = 0 then n else if d = 0 then lessN n else n)
def ctudF : List Int → List Int → Int → List Int × List Int
  | [u, d, n], [cu, cd, r, ld, pv], _ =>
    if r = 0 then
      if ld = 0 then ([cu, cd, udN u d n cu cd], [yesN (decide (pv ≤ udN u d n cu cd)), yesN (decide (udN u d n cu cd ≤ 0)), udN u d n cu cd])
      else ([cu, cd, pv], [1, yesN (decide (pv ≤ 0)), pv])
    else ([cu, cd, 0], [yesN (decide (pv ≤ 0)), 1, 0])
  | _, _, _ => ([], [])
def rtrigF : List Int → List Int → Int → List Int × List Int
  | [p], [c], _ => ([c], [if c = 0 then 0 else if p = 0 then 1 else 0])
  | _, _, _ => ([], [])
def ftrigF : List Int → List Int → Int → List Int × List Int
  | [p], [c], _ => ([c], [if c = 0 then (if p = 0 then 0 else 1) else 0])
  | _, _, _ => ([], [])
def srN (o s r : Int) : Int := if s = 0 then (if o = 0 then 0 else if r = 0 then 1 else 0) else 1
def srF : List Int → List Int → Int → List Int × List Int
  | [o], [s, r], _ => ([srN o s r], [srN o s r])
  | _, _, _ => ([], [])
def rsN (o s r : Int) : Int := if r = 0 then (if s = 0 then (if o = 0 then 0 else 1) else 1) else 0
def rsF : List Int → List Int → Int → List Int × List Int
  | [o], [s, r], _ => ([rsN o s r], [rsN o s r])
  | _, _, _ => ([], [])
def rampN (a x k : Int) : Int := if k < 0 then a else if x - a < -k then a - k else if x - a ≤ k then x else a + k
def rampF : List Int → List Int → Int → List Int × List Int
  | [a], [x, k], _ => ([rampN a x k], [rampN a x k])
  | _, _, _ => ([], [])
def hystN (o x hi lo : Int) : Int := if hi ≤ x then 1 else if x ≤ lo then 0 else o
def hystF : List Int → List Int → Int → List Int × List Int
  | [o], [x, hi, lo], _ => ([hystN o x hi lo], [hystN o x hi lo])
  | _, _, _ => ([], [])

theorem wrapK_zero (k : Int) : wrapK k 0 = 0 := by unfold wrapK; repeat' split
                                                   all_goals omega
theorem form1 (k0 : Int) (l : List Int) : ∃ a, wrapL [k0] l = [wrapK k0 a] := by
  unfold wrapL
  by_cases h : l.length = [k0].length
  · rw [if_pos h]
    match l, h with
    | [a], _ => exact ⟨a, rfl⟩
  · rw [if_neg h]
    exact ⟨0, by simp [wrapK_zero]⟩
theorem form2 (k0 k1 : Int) (l : List Int) : ∃ a b, wrapL [k0, k1] l = [wrapK k0 a, wrapK k1 b] := by
  unfold wrapL
  by_cases h : l.length = [k0, k1].length
  · rw [if_pos h]
    match l, h with
    | [a, b], _ => exact ⟨a, b, rfl⟩
  · rw [if_neg h]
    exact ⟨0, 0, by simp [wrapK_zero, List.replicate]⟩
theorem form3 (k0 k1 k2 : Int) (l : List Int) : ∃ a b c, wrapL [k0, k1, k2] l = [wrapK k0 a, wrapK k1 b, wrapK k2 c] := by
  unfold wrapL
  by_cases h : l.length = [k0, k1, k2].length
  · rw [if_pos h]
    match l, h with
    | [a, b, c], _ => exact ⟨a, b, c, rfl⟩
  · rw [if_neg h]
    exact ⟨0, 0, 0, by simp [wrapK_zero, List.replicate]⟩
theorem form4 (k0 k1 k2 k3 : Int) (l : List Int) : ∃ a b c d, wrapL [k0, k1, k2, k3] l = [wrapK k0 a, wrapK k1 b, wrapK k2 c, wrapK k3 d] := by
  unfold wrapL
  by_cases h : l.length = [k0, k1, k2, k3].length
  · rw [if_pos h]
    match l, h with
    | [a, b, c, d], _ => exact ⟨a, b, c, d, rfl⟩
  · rw [if_neg h]
    exact ⟨0, 0, 0, 0, by simp [wrapK_zero, List.replicate]⟩
theorem form5 (k0 k1 k2 k3 k4 : Int) (l : List Int) : ∃ a b c d e, wrapL [k0, k1, k2, k3, k4] l = [wrapK k0 a, wrapK k1 b, wrapK k2 c, wrapK k3 d, wrapK k4 e] := by
  unfold wrapL
  by_cases h : l.length = [k0, k1, k2, k3, k4].length
  · rw [if_pos h]
    match l, h with
    | [a, b, c, d, e], _ => exact ⟨a, b, c, d, e, rfl⟩
  · rw [if_neg h]
    exact ⟨0, 0, 0, 0, 0, by simp [wrapK_zero, List.replicate]⟩
/-- What a wrapped number is, under a new name. -/
theorem bit_form (a : Int) : ∃ x, wrapK 1 a = x ∧ (x = 0 ∨ x = 1) := ⟨_, rfl, by rw [wrapK1]; omega⟩
theorem int_form (a : Int) : ∃ x, wrapK 2 a = x ∧ -32768 ≤ x ∧ x ≤ 32767 := ⟨_, rfl, by rw [wrapK2]; omega⟩
theorem tim_form (a : Int) : ∃ x, wrapK 5 a = x ∧ 0 ≤ x ∧ x ≤ 4294967295 := ⟨_, rfl, by rw [wrapK5]; omega⟩

theorem bitK (a : Int) : wrapK 1 a = 0 ∨ wrapK 1 a = 1 := by rw [wrapK1]; omega
theorem intK (a : Int) : -32768 ≤ wrapK 2 a ∧ wrapK 2 a ≤ 32767 := by rw [wrapK2]; omega
theorem timK (a : Int) : 0 ≤ wrapK 5 a ∧ wrapK 5 a ≤ 4294967295 := by rw [wrapK5]; omega

def StepPost (n m : Nat) (R : List Int × List Int) (w : World) (e : Ending) (w' : World) : Prop :=
  ∃ c1 c2, e = .returned (.tuple #[.slice (some ⟨c1, 0, none⟩) n n, .slice (some ⟨c2, 0, none⟩) m m]) ∧ w.heap.size ≤ c1 ∧ w.heap.size ≤ c2 ∧ c1 ≠ c2 ∧ w'.heap[c1]? = some (.cells (intsA R.1) 3) ∧ w'.heap[c2]? = some (.cells (intsA R.2) 3) ∧ w.grownBy w' none
/-- What is asked of Step at one name. -/
def StepC (nm : ByteArray) (n m : Nat) (kS kI : List Int) (F : List Int → List Int → Int → List Int × List Int) : Prop :=
  ∀ (vs vi : Value) (l li : List Int) (now : Int) (w : World), rd w vs l → rd w vi li → Calls Try.prog 15 #[.string nm, vs, vi, .int .i64 now] w (StepPost n m (F (wrapL kS l) (wrapL kI li) (wrapK 5 now)) w)

theorem yesN_ne (b : Bool) : (yesN b != 0) = b := by cases b <;> rfl
theorem yes_bit {x : Int} (h : x = 0 ∨ x = 1) : yesN (x != 0) = x := by rcases h with rfl | rfl <;> rfl
theorem bit_yes (b : Bool) : yesN b = 0 ∨ yesN b = 1 := by cases b <;> simp [yesN]
end Go.Proofs.Ytphnadhkoigegaa
