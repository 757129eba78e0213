/- Lists of tasks of one's own: copies, and what is held against one another. -/
import Derived.Test.YtholmeebkgpjjaaD
namespace Go.Proofs.Ytholmeebkgpjjaa
open Go.RowKit
attribute [local go_sem ↓] Go.wp_at_zero Go.wp_at_succ
set_option linter.unusedVariables false
set_option linter.unusedSimpArgs false

theorem flat_get {α β : Type} (f : α → List β) (n : Nat) (hn : 0 < n) (hf : ∀ x, (f x).length = n) : ∀ (l : List α) (j : Nat), (l.flatMap f)[j]? = (l[j / n]?).bind fun x => (f x)[j % n]?
  | [], j => by simp
  | x :: l, j => by
    rw [List.flatMap_cons]
    by_cases h : j < n
    · rw [List.getElem?_append_left (by rw [hf]; exact h), Nat.div_eq_of_lt h, Nat.mod_eq_of_lt h]
      simp
    · rw [List.getElem?_append_right (by rw [hf]; omega), hf, flat_get f n hn hf l (j - n)]
      obtain ⟨k, rfl⟩ : ∃ k, j = k + n := ⟨j - n, by omega⟩
      rw [Nat.add_sub_cancel, Nat.add_div_right k hn, Nat.add_mod_right]
      simp
theorem flat_at {α β : Type} (f : α → List β) (n : Nat) (hn : 0 < n) (hf : ∀ x, (f x).length = n) (l : List α) (i r : Nat) (hi : i < l.length) (hr : r < n) : (l.flatMap f)[i * n + r]? = (f l[i])[r]? := by
  rw [flat_get f n hn hf, Nat.mul_comm, Nat.mul_add_div hn, Nat.div_eq_of_lt hr, Nat.mul_add_mod, Nat.mod_eq_of_lt hr, Nat.add_zero, List.getElem?_eq_getElem hi]
  rfl
theorem flat_len {α β : Type} (f : α → List β) (n : Nat) (hf : ∀ x, (f x).length = n) (l : List α) : (l.flatMap f).length = l.length * n := by
  induction l with
  | nil => simp
  | cons x l ih => rw [List.flatMap_cons, List.length_append, hf, ih, List.length_cons, Nat.add_mul]; omega
def rowT (t : Tk) : List Value := [.string t.name, .int .i64 t.per, .int .i64 t.off, .int .i64 t.cost, .int .i64 t.dead]
theorem rowT_len (t : Tk) : (rowT t).length = 5 := rfl
theorem rowT_one (l : List Tk) : ∀ u ∈ l.flatMap rowT, u.oneCell' = true := fun u hu => by
  obtain ⟨s, _, h⟩ := List.mem_flatMap.1 hu
  simp [rowT] at h
  rcases h with rfl | rfl | rfl | rfl | rfl <;> rfl
theorem TsAt.cells {w : World} {v : Value} {l : List Tk} (h : TsAt w v l) : ∃ a cap, v = .slice a l.length cap ∧ (l.length = 0 ∨ ∃ b off, a = some ⟨b, off, none⟩ ∧ ∀ j u, (l.flatMap rowT)[j]? = some u → w.cell? ((⟨b, off, none⟩ : Addr).add j) = some u) := by
  obtain ⟨a, cap, rfl, hcap, rfl | ⟨b, off, rfl, hc⟩⟩ := h
  · exact ⟨a, cap, rfl, .inl rfl⟩
  · refine ⟨_, cap, rfl, .inr ⟨b, off, rfl, fun j u hj => ?_⟩⟩
    rw [flat_get rowT 5 (by omega) rowT_len] at hj
    rw [addn]
    have hjl : j / 5 < l.length := by
      rcases Nat.lt_or_ge (j / 5) l.length with h | h
      · exact h
      · rw [List.getElem?_eq_none h] at hj; simp at hj
    obtain ⟨c0, c1, c2, c3, c4⟩ := hc (j / 5) hjl
    have hg : l.getD (j / 5) tk0 = l[j / 5] := by simp [List.getD, hjl]
    rw [hg] at c0 c1 c2 c3 c4
    rw [List.getElem?_eq_getElem hjl, Option.bind_some] at hj
    have hm : j % 5 = 0 ∨ j % 5 = 1 ∨ j % 5 = 2 ∨ j % 5 = 3 ∨ j % 5 = 4 := by omega
    generalize l[j / 5] = s at *
    have ed := Nat.div_add_mod j 5
    rcases hm with e | e | e | e | e <;> rw [e] at hj <;> simp [rowT] at hj <;> subst hj
    · rw [show off + j = off + j / 5 * 5 by omega]; exact c0
    · rw [show off + j = off + j / 5 * 5 + 1 by omega]; exact c1
    · rw [show off + j = off + j / 5 * 5 + 2 by omega]; exact c2
    · rw [show off + j = off + j / 5 * 5 + 3 by omega]; exact c3
    · rw [show off + j = off + j / 5 * 5 + 4 by omega]; exact c4
/-- A list of tasks of one's own. -/
def OwnT (B : Nat) (w : World) (a : Option Addr) (cap : Nat) (l : List Tk) : Prop := w.ownsRow B 42 5 (.slice a l.length cap) l.length (l.flatMap rowT)
theorem OwnT.ts {B : Nat} {w : World} {a : Option Addr} {cap : Nat} {l : List Tk} (h : OwnT B w a cap l) : TsAt w (.slice a l.length cap) l := by
  have h' := h
  obtain ⟨_, ⟨hv, hn⟩ | ⟨g, cap', cur, hv, hb, hc, hn, hm, hs, ht⟩⟩ := h
  · injection hv with e1 e2 e3
    exact ⟨a, cap, rfl, by omega, .inl (List.length_eq_zero_iff.1 hn)⟩
  · injection hv with e1 e2 e3
    subst e1 e3
    refine ⟨_, cap, rfl, hn, .inr ⟨g, 0, rfl, fun i hi => ?_⟩⟩
    have key : ∀ r u, r < 5 → (rowT l[i])[r]? = some u → w.cell? ⟨g, 0 + i * 5 + r, none⟩ = some u := fun r u hr hu => by
      have := World.ownsRow.cells h' rfl (i * 5 + r) u (by rw [flat_at rowT 5 (by omega) rowT_len l i r hi hr]; exact hu)
      rw [addn] at this
      rw [Nat.add_assoc]
      exact this
    have hg : l.getD i tk0 = l[i] := by simp [List.getD, hi]
    rw [hg]
    exact ⟨key 0 _ (by omega) rfl, key 1 _ (by omega) rfl, key 2 _ (by omega) rfl, key 3 _ (by omega) rfl, key 4 _ (by omega) rfl⟩
theorem OwnT.nil (B : Nat) (w : World) : OwnT B w none 0 [] := World.ownsRow_nil _ _ _ _
theorem OwnT.kept {B : Nat} {w w' : World} {a : Option Addr} {cap : Nat} {l : List Tk} (h : OwnT B w a cap l) (hg : w.grownBy w' none) : OwnT B w' a cap l := own_keep h hg
theorem info42 : (Try.prog.info? 42).map (fun i => (i.zero, i.size, i.bytes)) = some (some (.agg #[.string ⟨#[]⟩, .int .i64 0, .int .i64 0, .int .i64 0, .int .i64 0]), 5, 48) := by kernel_rfl
theorem OwnT.more {B : Nat} {w : World} {a : Option Addr} {cap : Nat} {l : List Tk} (h : OwnT B w a cap l) (x : Tk) (hl : l.length ≤ 1000000) (hB : B ≤ w.heap.size) :
    ∃ a' cap' w', (Builtin.append_ #[22, 22] 22 #[.slice a l.length cap, .slice (some ⟨w.heap.size, 0, none⟩) 1 1]).run Try.prog (w.alloc (.cells #[.string x.name, .int .i64 x.per, .int .i64 x.off, .int .i64 x.cost, .int .i64 x.dead] 42)) = .ok (.slice a' (l.length + 1) cap') w' ∧
      OwnT B w' a' cap' (l ++ [x]) ∧ ∀ w0 : World, w0.heap.size ≤ B → w0.grownBy w none → w0.grownBy w' none := by
  obtain ⟨i0, hi, hz0, hz1, hz2⟩ := info_parts info42
  obtain ⟨a', cap', w', r1, r2, r3⟩ := own_more Try.underlying22 hi hz0 hz1 hz2 rfl (by omega) h (rowT x) rfl (by simp [rowT, Value.oneCell']) hl (by omega) hB
  refine ⟨a', cap', w', r1, ?_, r3⟩
  unfold OwnT
  simpa using r2

/-- All of a list, behind none. -/
theorem run_append_all {P : Program} (w : World) (t ty e : TypeId) (i : TypeInfo) (z : Value) (size bytes : Nat) (ht : P.underlying t = some (.slice e)) (hi : P.info? e = some i) (hz : i.zero = some z)
    (hsize : i.size = size) (hby : i.bytes = bytes) (hzs : z.cells.size = size) (hsz : 0 < size) (a : Option Addr) (m c : Nat) (news : List Value) (hl : news.length = m * size)
    (hnews : m = 0 ∨ ∃ b off, a = some ⟨b, off, none⟩ ∧ ∀ j u, news[j]? = some u → w.cell? ((⟨b, off, none⟩ : Addr).add j) = some u) (h1 : ∀ u ∈ news, u.oneCell' = true)
    (h63 : m ≤ maxLen) (hbytes : m * bytes ≤ 140737488355328) :
    ∃ oa oc w', (Builtin.append_ #[t, t] ty #[.slice none 0 0, .slice a m c]).run P w = .ok (.slice oa m oc) w' ∧ w'.ownsRow w.heap.size e size (.slice oa m oc) m news ∧ w.grownBy w' none := by
  rcases hnews with h0 | ⟨b, off, rfl, hc⟩
  · subst h0
    refine ⟨none, 0, w, ?_, ⟨hl, .inl ⟨rfl, rfl⟩⟩, World.grownBy.refl _ _⟩
    cases a <;> simp [Builtin.append_, run_underlying ht, sizeOf, typeInfo, hi, Builtin.lenOf, Builtin.firstCells, loadCells, loadCellsFrom]
  · obtain ⟨v', w', r1, r2, r3, _, _⟩ := run_append_own_at (P := P) w w.heap.size t ty e i z size bytes ht hi hz hsize hby hzs hsz _ 0 [] (World.ownsRow_nil _ _ _ _) ⟨b, off, none⟩ m c news hl hc h1 (by omega) (by simpa using hbytes) (Nat.le_refl _)
    have r2' : w'.ownsRow w.heap.size e size v' m news := by simpa using r2
    obtain ⟨_, ⟨hv, hm⟩ | ⟨g, cap, cur, hv, _⟩⟩ := r2'
    · subst hv hm
      exact ⟨none, 0, w', r1, by simpa using r2, r3⟩
    · subst hv
      exact ⟨some ⟨g, 0, none⟩, cap, w', r1, by simpa using r2, r3⟩
/-- The same at a plain region's list of operations. -/
theorem wpList_append_all {P : Program} {w : World} {ops : Array Oper} {rest : List Oper} {o : Oper} {act : Act} {Q : Exit → Act → World → Prop} (hgd : o.guard = none) (s x : Operand) (t : TypeId)
    (ho : o.op = .call { callee := .builtin .append, args := #[s, x], argTypes := #[t, t] }) (e : TypeId) (i : TypeInfo) (z : Value) (size bytes : Nat) (ht : P.underlying t = some (.slice e)) (hi : P.info? e = some i) (hz : i.zero = some z)
    (hsize : i.size = size) (hby : i.bytes = bytes) (hzs : z.cells.size = size) (hsz : 0 < size) (a : Option Addr) (m c : Nat) (news : List Value) (hs : act.eval s = .slice none 0 0) (hx : act.eval x = .slice a m c) (hl : news.length = m * size)
    (hnews : m = 0 ∨ ∃ b off, a = some ⟨b, off, none⟩ ∧ ∀ j u, news[j]? = some u → w.cell? ((⟨b, off, none⟩ : Addr).add j) = some u) (h1 : ∀ u ∈ news, u.oneCell' = true)
    (h63 : m ≤ maxLen) (hbytes : m * bytes ≤ 140737488355328)
    (h : ∀ oa oc w', w'.ownsRow w.heap.size e size (.slice oa m oc) m news → w.grownBy w' none → wpList P ops Q rest (act.put o.dst (.slice oa m oc)) w') : wpList P ops Q (o :: rest) act w := by
  obtain ⟨oa, oc, w', hrun, h2, h3⟩ := run_append_all (P := P) w t o.type e i z size bytes ht hi hz hsize hby hzs hsz a m c news hl hnews h1 h63 hbytes
  exact wpList_append_run hgd s x t ho _ _ _ w' hs hx hrun (h oa oc w' h2 h3)

set_option maxHeartbeats 1000000 in
theorem sameTasks_yes (v u : Value) (l : List Tk) (w : World) (hv : TsAt w v l) (hu : TsAt w u l) (hb : l.length ≤ 17592186044416) :
    Calls Try.prog 15 #[v, u] w fun e w' => e = .returned (.bool true) ∧ w.grownBy w' none := by
  obtain ⟨a, cap, rfl, _, _⟩ := id hv
  obtain ⟨a', cap', rfl, _, _⟩ := id hu
  have HA : Hid (TsAt w (.slice a l.length cap) l) := hv
  have HA' : Hid (TsAt w (.slice a' l.length cap') l) := hu
  clear hv hu
  obtain ⟨n, hn⟩ : ∃ n, l.length = n := ⟨_, rfl⟩
  have HN : Hid (l.length = n) := hn
  rw [hn] at hb HA HA' ⊢
  clear hn
  go_enter Try.func15, Try.ntmps15
  go_wp2
  go_loopg [5] n (fun gk s5 wx => ∃ k : Nat, s5 = .int .i64 k ∧ k ≤ n ∧ gk = n - k ∧ w.grownBy wx none)
  case atStart => exact ⟨0, rfl, Nat.zero_le _, by omega, World.grownBy.refl _ _⟩
  case round =>
    obtain ⟨k, rfl, hk, hgk, hgr⟩ := hrel
    have HG : Hid (gk = n - k) := hgk
    clear hgk
    by_cases hlt : k < n
    · have hkl : k < l.length := by rw [HN.out]; exact hlt
      obtain ⟨b, off, cx, he, hc⟩ := (HA.out.grown hgr).at (by omega)
      obtain ⟨b', off', cx', he', hc'⟩ := (HA'.out.grown hgr).at (by omega)
      injection he with e1 _ e3
      injection he' with e1' _ e3'
      subst e1 e3 e1' e3'
      obtain ⟨p0, p1, p2, p3, p4⟩ := hc k hkl
      obtain ⟨q0, q1, q2, q3, q4⟩ := hc' k hkl
      clear hc hc'
      generalize l.getD k tk0 = x at *
      have i1 : (0 : Int) ≤ (k : Int) := by omega
      have i2 : (k : Int) < (n : Int) := by omega
      go_wp2
      go_region_held3 (fun w' => w'.cell? ⟨b, off + k * 5, none⟩ = some (.string x.name) ∧ w'.cell? ⟨b, off + k * 5 + 1, none⟩ = some (.int .i64 x.per) ∧ w'.cell? ⟨b, off + k * 5 + 2, none⟩ = some (.int .i64 x.off) ∧ w'.cell? ⟨b, off + k * 5 + 3, none⟩ = some (.int .i64 x.cost) ∧ w'.cell? ⟨b, off + k * 5 + 4, none⟩ = some (.int .i64 x.dead) ∧ w'.cell? ⟨b', off' + k * 5, none⟩ = some (.string x.name) ∧ w'.cell? ⟨b', off' + k * 5 + 1, none⟩ = some (.int .i64 x.per) ∧ w'.cell? ⟨b', off' + k * 5 + 2, none⟩ = some (.int .i64 x.off) ∧ w'.cell? ⟨b', off' + k * 5 + 3, none⟩ = some (.int .i64 x.cost) ∧ w'.cell? ⟨b', off' + k * 5 + 4, none⟩ = some (.int .i64 x.dead)) (go_keep) (fail)
      go_wp2
      have hgl := HG.out
      go_roundg (n - (k + 1))
      all_goals first | omega | exact ⟨k + 1, by go_num, by omega, by omega, gr_drew hgr⟩
    · have hk' : ¬ ((k : Int) < (n : Int)) := by omega
      go_wp2
      go_ret
      exact ⟨rfl, hgr⟩
end Go.Proofs.Ytholmeebkgpjjaa
