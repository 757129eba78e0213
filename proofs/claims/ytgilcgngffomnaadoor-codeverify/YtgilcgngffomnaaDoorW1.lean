/- Copies of lists of structs. -/
import Derived.Test.YtgilcgngffomnaaDoorW0
import Derived.Test.YtgilcgngffomnaaDoorL2a
import Derived.Deep.AppendLies
namespace Go.Proofs.YtgilcgngffomnaaDoor
open Go.RowKit
attribute [local go_sem ↓] Go.wp_at_zero Go.wp_at_succ
set_option linter.unusedVariables false
set_option linter.unusedSimpArgs false

theorem flat_get {α β : Type} (f : α → List β) (n : Nat) (hn : 0 < n) (hf : ∀ x, (f x).length = n) : ∀ (l : List α) (j : Nat), (l.flatMap f)[j]? = (l[j / n]?).bind fun x => (f x)[j % n]?
  | [], j => by simp
  | x :: l, j => by
    rw [List.flatMap_cons]
    by_cases h : j < n
    · rw [List.getElem?_append_left (by rw [hf]; exact h), Nat.div_eq_of_lt h, Nat.mod_eq_of_lt h]
      simp
    · rw [List.getElem?_append_right (by rw [hf]; omega), hf, flat_get f n hn hf l (j - n)]
      obtain ⟨k, rfl⟩ : ∃ k, j = k + n := ⟨j - n, by omega⟩
      rw [Nat.add_sub_cancel, Nat.add_div_right k hn, Nat.add_mod_right]
      simp
theorem flat_at {α β : Type} (f : α → List β) (n : Nat) (hn : 0 < n) (hf : ∀ x, (f x).length = n) (l : List α) (i r : Nat) (hi : i < l.length) (hr : r < n) : (l.flatMap f)[i * n + r]? = (f l[i])[r]? := by
  rw [flat_get f n hn hf, Nat.mul_comm, Nat.mul_add_div hn, Nat.div_eq_of_lt hr, Nat.mul_add_mod, Nat.mod_eq_of_lt hr, Nat.add_zero, List.getElem?_eq_getElem hi]
  rfl
theorem flat_len {α β : Type} (f : α → List β) (n : Nat) (hf : ∀ x, (f x).length = n) (l : List α) : (l.flatMap f).length = l.length * n := by
  induction l with
  | nil => simp
  | cons x l ih => rw [List.flatMap_cons, List.length_append, hf, ih, List.length_cons, Nat.add_mul]; omega
def rowS (s : Slt) : List Value := [.string s.path, .int .i64 s.kind, .int .i64 s.at', .int .i64 s.len, .bool s.keep, .int .i64 s.role]
def rowI (s : Ins) : List Value := [.int .i64 s.d, .int .i64 s.a, .int .i64 s.b, .int .i64 s.c]
theorem rowS_len (s : Slt) : (rowS s).length = 6 := rfl
theorem rowI_len (s : Ins) : (rowI s).length = 4 := rfl
theorem rowS_one (l : List Slt) : ∀ u ∈ l.flatMap rowS, u.oneCell' = true := fun u hu => by
  obtain ⟨s, _, h⟩ := List.mem_flatMap.1 hu
  simp [rowS] at h
  rcases h with rfl | rfl | rfl | rfl | rfl | rfl <;> rfl
theorem rowI_one (l : List Ins) : ∀ u ∈ l.flatMap rowI, u.oneCell' = true := fun u hu => by
  obtain ⟨s, _, h⟩ := List.mem_flatMap.1 hu
  simp [rowI] at h
  rcases h with rfl | rfl | rfl | rfl <;> rfl
theorem SlAt.cells {w : World} {v : Value} {l : List Slt} (h : SlAt w v l) : ∃ a cap, v = .slice a l.length cap ∧ (l.length = 0 ∨ ∃ b off, a = some ⟨b, off, none⟩ ∧ ∀ j u, (l.flatMap rowS)[j]? = some u → w.cell? ((⟨b, off, none⟩ : Addr).add j) = some u) := by
  obtain ⟨a, cap, rfl, rfl | ⟨b, off, rfl, hc⟩⟩ := h
  · exact ⟨a, cap, rfl, .inl rfl⟩
  · refine ⟨_, cap, rfl, .inr ⟨b, off, rfl, fun j u hj => ?_⟩⟩
    rw [flat_get rowS 6 (by omega) rowS_len] at hj
    rw [addn]
    have hjl : j / 6 < l.length := by
      rcases Nat.lt_or_ge (j / 6) l.length with h | h
      · exact h
      · rw [List.getElem?_eq_none h] at hj; simp at hj
    obtain ⟨c0, c1, c2, c3, c4, c5⟩ := hc (j / 6) hjl
    have hg : l.getD (j / 6) slt0 = l[j / 6] := by simp [List.getD, hjl]
    rw [hg] at c0 c1 c2 c3 c4 c5
    rw [List.getElem?_eq_getElem hjl, Option.bind_some] at hj
    have hm : j % 6 = 0 ∨ j % 6 = 1 ∨ j % 6 = 2 ∨ j % 6 = 3 ∨ j % 6 = 4 ∨ j % 6 = 5 := by omega
    generalize l[j / 6] = s at *
    have ed := Nat.div_add_mod j 6
    rcases hm with e | e | e | e | e | e <;> rw [e] at hj <;> simp [rowS] at hj <;> subst hj
    · rw [show off + j = off + j / 6 * 6 by omega]; exact c0
    · rw [show off + j = off + j / 6 * 6 + 1 by omega]; exact c1
    · rw [show off + j = off + j / 6 * 6 + 2 by omega]; exact c2
    · rw [show off + j = off + j / 6 * 6 + 3 by omega]; exact c3
    · rw [show off + j = off + j / 6 * 6 + 4 by omega]; exact c4
    · rw [show off + j = off + j / 6 * 6 + 5 by omega]; exact c5
theorem TxtAt.cells {w : World} {v : Value} {l : List Ins} (h : TxtAt w v l) : ∃ a cap, v = .slice a l.length cap ∧ (l.length = 0 ∨ ∃ b off, a = some ⟨b, off, none⟩ ∧ ∀ j u, (l.flatMap rowI)[j]? = some u → w.cell? ((⟨b, off, none⟩ : Addr).add j) = some u) := by
  obtain ⟨a, cap, rfl, rfl | ⟨b, off, rfl, hc⟩⟩ := h
  · exact ⟨a, cap, rfl, .inl rfl⟩
  · refine ⟨_, cap, rfl, .inr ⟨b, off, rfl, fun j u hj => ?_⟩⟩
    rw [flat_get rowI 4 (by omega) rowI_len] at hj
    rw [addn]
    have hjl : j / 4 < l.length := by
      rcases Nat.lt_or_ge (j / 4) l.length with h | h
      · exact h
      · rw [List.getElem?_eq_none h] at hj; simp at hj
    obtain ⟨c0, c1, c2, c3⟩ := hc (j / 4) hjl
    have hg : nth l (j / 4) = l[j / 4] := by simp [nth, hjl]
    rw [hg] at c0 c1 c2 c3
    rw [List.getElem?_eq_getElem hjl, Option.bind_some] at hj
    have hm : j % 4 = 0 ∨ j % 4 = 1 ∨ j % 4 = 2 ∨ j % 4 = 3 := by omega
    generalize l[j / 4] = s at *
    have ed := Nat.div_add_mod j 4
    rcases hm with e | e | e | e <;> rw [e] at hj <;> simp [rowI] at hj <;> subst hj
    · rw [show off + j = off + j / 4 * 4 by omega]; exact c0
    · rw [show off + j = off + j / 4 * 4 + 1 by omega]; exact c1
    · rw [show off + j = off + j / 4 * 4 + 2 by omega]; exact c2
    · rw [show off + j = off + j / 4 * 4 + 3 by omega]; exact c3
theorem SlAt.of_own {B T : Nat} {w : World} {v : Value} {l : List Slt} (h : w.ownsRow B T 6 v l.length (l.flatMap rowS)) : SlAt w v l := by
  have h' := h
  obtain ⟨_, ⟨rfl, hn⟩ | ⟨g, cap, cur, rfl, hb, hc, hn, hm, hs, ht⟩⟩ := h
  · exact ⟨none, 0, by rw [hn], .inl (List.length_eq_zero_iff.1 hn)⟩
  · refine ⟨_, cap, rfl, .inr ⟨g, 0, rfl, fun i hi => ?_⟩⟩
    have key : ∀ r u, r < 6 → (rowS l[i])[r]? = some u → w.cell? ⟨g, 0 + i * 6 + r, none⟩ = some u := fun r u hr hu => by
      have := World.ownsRow.cells h' rfl (i * 6 + r) u (by rw [flat_at rowS 6 (by omega) rowS_len l i r hi hr]; exact hu)
      rw [addn] at this
      rw [Nat.add_assoc]
      exact this
    have hg : l.getD i slt0 = l[i] := by simp [List.getD, hi]
    rw [hg]
    exact ⟨key 0 _ (by omega) rfl, key 1 _ (by omega) rfl, key 2 _ (by omega) rfl, key 3 _ (by omega) rfl, key 4 _ (by omega) rfl, key 5 _ (by omega) rfl⟩
/-- The text and its mark, out of a row of its own with one instruction more. -/
theorem TxtAt.of_own {B T g cap : Nat} {w : World} {l : List Ins} {y : Ins} (h : w.ownsRow B T 4 (.slice (some ⟨g, 0, none⟩) (l.length + 1) cap) (l.length + 1) (l.flatMap rowI ++ rowI y)) : TxtAt w (.slice (some ⟨g, 0, none⟩) l.length cap) l ∧ w.cell? ⟨g, l.length * 4 + 1, none⟩ = some (.int .i64 y.a) := by
  have key0 : ∀ j u, (l.flatMap rowI ++ rowI y)[j]? = some u → w.cell? ⟨g, j, none⟩ = some u := fun j u hj => by
    have := World.ownsRow.cells h rfl j u hj
    rw [addn, Nat.zero_add] at this
    exact this
  have hl := flat_len rowI 4 rowI_len l
  refine ⟨⟨_, cap, rfl, .inr ⟨g, 0, rfl, fun i hi => ?_⟩⟩, ?_⟩
  · have key : ∀ r u, r < 4 → (rowI l[i])[r]? = some u → w.cell? ⟨g, 0 + i * 4 + r, none⟩ = some u := fun r u hr hu => by
      rw [Nat.zero_add]
      refine key0 _ _ ?_
      rw [List.getElem?_append_left (by omega), flat_at rowI 4 (by omega) rowI_len l i r hi hr]
      exact hu
    have hg : nth l i = l[i] := by simp [nth, hi]
    rw [hg]
    exact ⟨key 0 _ (by omega) rfl, key 1 _ (by omega) rfl, key 2 _ (by omega) rfl, key 3 _ (by omega) rfl⟩
  · refine key0 _ _ ?_
    rw [List.getElem?_append_right (by omega), hl, show l.length * 4 + 1 - l.length * 4 = 1 by omega]
    rfl
/-- All of a list, behind none. -/
theorem run_append_all {P : Program} (w : World) (t ty e : TypeId) (i : TypeInfo) (z : Value) (size bytes : Nat) (ht : P.underlying t = some (.slice e)) (hi : P.info? e = some i) (hz : i.zero = some z)
    (hsize : i.size = size) (hby : i.bytes = bytes) (hzs : z.cells.size = size) (hsz : 0 < size) (a : Option Addr) (m c : Nat) (news : List Value) (hl : news.length = m * size)
    (hnews : m = 0 ∨ ∃ b off, a = some ⟨b, off, none⟩ ∧ ∀ j u, news[j]? = some u → w.cell? ((⟨b, off, none⟩ : Addr).add j) = some u) (h1 : ∀ u ∈ news, u.oneCell' = true)
    (h63 : m ≤ maxLen) (hbytes : m * bytes ≤ 140737488355328) :
    ∃ oa oc w', (Builtin.append_ #[t, t] ty #[.slice none 0 0, .slice a m c]).run P w = .ok (.slice oa m oc) w' ∧ w'.ownsRow w.heap.size e size (.slice oa m oc) m news ∧ w.grownBy w' none := by
  rcases hnews with h0 | ⟨b, off, rfl, hc⟩
  · subst h0
    refine ⟨none, 0, w, ?_, ⟨hl, .inl ⟨rfl, rfl⟩⟩, World.grownBy.refl _ _⟩
    cases a <;> simp [Builtin.append_, run_underlying ht, sizeOf, typeInfo, hi, Builtin.lenOf, Builtin.firstCells, loadCells, loadCellsFrom]
  · obtain ⟨v', w', r1, r2, r3, _, _⟩ := run_append_own_at (P := P) w w.heap.size t ty e i z size bytes ht hi hz hsize hby hzs hsz _ 0 [] (World.ownsRow_nil _ _ _ _) ⟨b, off, none⟩ m c news hl hc h1 (by omega) (by simpa using hbytes) (Nat.le_refl _)
    have r2' : w'.ownsRow w.heap.size e size v' m news := by simpa using r2
    obtain ⟨_, ⟨hv, hm⟩ | ⟨g, cap, cur, hv, _⟩⟩ := r2'
    · subst hv hm
      exact ⟨none, 0, w', r1, by simpa using r2, r3⟩
    · subst hv
      exact ⟨some ⟨g, 0, none⟩, cap, w', r1, by simpa using r2, r3⟩
/-- The same at a plain region's list of operations. -/
theorem wpList_append_all {P : Program} {w : World} {ops : Array Oper} {rest : List Oper} {o : Oper} {act : Act} {Q : Exit → Act → World → Prop} (hgd : o.guard = none) (s x : Operand) (t : TypeId)
    (ho : o.op = .call { callee := .builtin .append, args := #[s, x], argTypes := #[t, t] }) (e : TypeId) (i : TypeInfo) (z : Value) (size bytes : Nat) (ht : P.underlying t = some (.slice e)) (hi : P.info? e = some i) (hz : i.zero = some z)
    (hsize : i.size = size) (hby : i.bytes = bytes) (hzs : z.cells.size = size) (hsz : 0 < size) (a : Option Addr) (m c : Nat) (news : List Value) (hs : act.eval s = .slice none 0 0) (hx : act.eval x = .slice a m c) (hl : news.length = m * size)
    (hnews : m = 0 ∨ ∃ b off, a = some ⟨b, off, none⟩ ∧ ∀ j u, news[j]? = some u → w.cell? ((⟨b, off, none⟩ : Addr).add j) = some u) (h1 : ∀ u ∈ news, u.oneCell' = true)
    (h63 : m ≤ maxLen) (hbytes : m * bytes ≤ 140737488355328)
    (h : ∀ oa oc w', w'.ownsRow w.heap.size e size (.slice oa m oc) m news → w.grownBy w' none → wpList P ops Q rest (act.put o.dst (.slice oa m oc)) w') : wpList P ops Q (o :: rest) act w := by
  obtain ⟨oa, oc, w', hrun, h2, h3⟩ := run_append_all (P := P) w t o.type e i z size bytes ht hi hz hsize hby hzs hsz a m c news hl hnews h1 h63 hbytes
  exact wpList_append_run hgd s x t ho _ _ _ w' hs hx hrun (h oa oc w' h2 h3)
/-- The same at a step of a region that draws. -/
theorem step_append_all {P : Program} {w : World} {ops : Array Oper} {o : Oper} {act : Act} {K : Act → World → Prop} {Q : Exit → Act → World → Prop} {E : Prop} (hgd : o.guard = none) (s x : Operand) (t : TypeId)
    (ho : o.op = .call { callee := .builtin .append, args := #[s, x], argTypes := #[t, t] }) (e : TypeId) (i : TypeInfo) (z : Value) (size bytes : Nat) (ht : P.underlying t = some (.slice e)) (hi : P.info? e = some i) (hz : i.zero = some z)
    (hsize : i.size = size) (hby : i.bytes = bytes) (hzs : z.cells.size = size) (hsz : 0 < size) (a : Option Addr) (m c : Nat) (news : List Value) (hs : act.eval s = .slice none 0 0) (hx : act.eval x = .slice a m c) (hl : news.length = m * size)
    (hnews : m = 0 ∨ ∃ b off, a = some ⟨b, off, none⟩ ∧ ∀ j u, news[j]? = some u → w.cell? ((⟨b, off, none⟩ : Addr).add j) = some u) (h1 : ∀ u ∈ news, u.oneCell' = true)
    (h63 : m ≤ maxLen) (hbytes : m * bytes ≤ 140737488355328)
    (h : ∀ oa oc w', w'.ownsRow w.heap.size e size (.slice oa m oc) m news → w.grownBy w' none → K (act.put o.dst (.slice oa m oc)) w') : if Region.wanted o (yielded ops act.tmps) = true then Oper.wp P o act w K Q else E := by
  obtain ⟨oa, oc, w', hrun, h2, h3⟩ := run_append_all (P := P) w t o.type e i z size bytes ht hi hz hsize hby hzs hsz a m c news hl hnews h1 h63 hbytes
  exact step_append_run hgd s x t ho _ _ _ w' hs hx hrun (h oa oc w' h2 h3)
theorem info40 : (Tryd.prog.info? 40).map (fun i => (i.zero, i.size, i.bytes)) = some (some (.agg #[.int .i64 0, .string ByteArray.empty, .slice none 0 0, .slice none 0 0, .slice none 0 0]), 5, 96) := by kernel_rfl
theorem info60 : (Tryd.prog.info? 60).map (fun i => (i.zero, i.size, i.bytes)) = some (some (.agg #[.string ByteArray.empty, .int .i64 0, .int .i64 0, .int .i64 0, .bool false, .int .i64 0]), 6, 56) := by kernel_rfl
theorem info47 : (Tryd.prog.info? 47).map (fun i => (i.zero, i.size, i.bytes)) = some (some (.agg #[.int .i64 0, .int .i64 0, .int .i64 0, .int .i64 0]), 4, 32) := by kernel_rfl
end Go.Proofs.YtgilcgngffomnaaDoor
