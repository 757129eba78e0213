/- The map of slots. -/
import Derived.Test.YtmkgobmlpmjocaaB
import Derived.Maps.OwnSet
import Derived.DeepKeys4
namespace Go.Proofs.Ytmkgobmlpmjocaa
open Go.RowKit
open Go.Maps (Keyed)
set_option linter.unusedVariables false
set_option linter.unusedSimpArgs false

/-- A slot whose parts are what Go's types bear. -/
structure WfS (t : Slt) : Prop where
  path : t.path.size ≤ maxLen
  kind : (Lit.int .i64 t.kind).wf = true
  len : (Lit.int .i64 t.len).wf = true
  at' : (Lit.int .i64 t.at').wf = true

theorem law63 : Keyed Try.prog 63 := Keyed.of_law (deep_law_laid (m := 50) (by kernel_rfl) (by omega) (of_decide_eq_true (by kernel_rfl)) (by kernel_rfl) (by kernel_rfl))
theorem keyType63 : Try.prog.keyType 63 = true := by kernel_rfl
theorem cells63 : Try.prog.cellsOf 63 = 3 := by kernel_rfl
theorem cells9 : Try.prog.cellsOf 9 = 1 := by kernel_rfl
theorem cells47 : Try.prog.cellsOf 47 = 1 := by kernel_rfl
theorem cells3 : Try.prog.cellsOf 3 = 1 := by kernel_rfl
theorem tsize : Try.prog.types.size = 83 := by kernel_rfl
theorem lits63 (d : Nat) {p : ByteArray} {k l : Int} (h1 : p.size ≤ maxLen) (h2 : (Lit.int .i64 k).wf = true) (h3 : (Lit.int .i64 l).wf = true) : ∃ ls, Try.prog.keyLits (d + 1 + 1) 63 [.string p, .int .i64 k, .int .i64 l] = some ls := by
  have e9 : Try.prog.keyLits (d + 1) 9 [.string p] = some [.string p.data.toList] := by
    unfold Program.keyLits
    simp [Try.underlying9, h1]
  have e47 : Try.prog.keyLits (d + 1) 47 [.int .i64 k] = some [.int .i64 k] := by
    unfold Program.keyLits
    simp [Try.underlying47, h2]
  have e3 : Try.prog.keyLits (d + 1) 3 [.int .i64 l] = some [.int .i64 l] := by
    unfold Program.keyLits
    simp [Try.underlying3, h3]
  unfold Program.keyLits
  simp [Try.underlying63, cells63, cells9, cells47, cells3, e9, e47, e3]
theorem key_mk {t : Slt} (h : WfS t) : ∃ kl, keyOf Try.prog 63 (idV t) = some kl := by
  obtain ⟨p, k, a, l, q, r⟩ := t
  obtain ⟨ls, hl⟩ := lits63 82 h.path h.kind h.len
  unfold keyOf idV
  rw [Try.underlying63]
  simp only [keyType63]
  have hf : (Value.agg #[.string p, .int .i64 k, .int .i64 l]).formed Try.prog 63 = true := by
    simp [Value.formed, Try.underlying63, cells63]
  rw [hf, tsize]
  refine ⟨.string (keyBytes ls), ?_⟩
  show (if (true && true) = true then (Try.prog.keyLits (82 + 1 + 1) 63 [.string p, .int .i64 k, .int .i64 l]).map (fun ls => Lit.string (keyBytes ls)) else none) = _
  rw [hl]
  rfl
theorem key_inj {s t : Slt} {kl : Lit} (h1 : keyOf Try.prog 63 (idV s) = some kl) (h2 : keyOf Try.prog 63 (idV t) = some kl) : same s t = true := by
  have := law63.inj h1 h2
  simp [idV] at this
  simp [same, this]
theorem key_same {s t : Slt} (h : same s t = true) : idV s = idV t := by
  simp [same] at h
  simp [idV, h]
theorem zero3 (w : World) : (zeroValue 3).run Try.prog w = .ok (.int .i64 0) w := by kernel_rfl
theorem fnd_more (l : List Slt) (x t : Slt) : fnd (l ++ [x]) t = if fnd l t < l.length then fnd l t else if same x t = true then l.length else l.length + 1 := by
  unfold fnd
  rw [List.findIdx_append]
  split
  · rfl
  · simp [List.findIdx_cons]
    split <;> simp_all <;> omega
/-- A map of the slots: where the first of each begins. -/
def FS (w : World) (b : Nat) (l : List Slt) : Prop := ∃ (D : DataW Unit) (n : Nat), w.ownsMap Try.prog 63 (plainElem Try.prog 3) b n D ∧ n ≤ l.length ∧
  ∀ t kl, keyOf Try.prog 63 (idV t) = some kl → Maps.has D kl = decide (fnd l t < l.length) ∧ (fnd l t < l.length → D.atKey kl (.lit (.int .i64 0)) = .lit (.int .i64 (l.getD (fnd l t) slt0).at'))
theorem FS.made (w : World) : FS (w.alloc (.map #[] 0)) w.heap.size [] :=
  ⟨.map [], 0, World.ownsMap_made _ _ _ _, Nat.le_refl _, fun t kl _ => ⟨by simp [Maps.has], fun h => by simp at h⟩⟩
theorem FS.kept {w w' : World} {b : Nat} {l : List Slt} {r : Option Nat} (h : FS w b l) (hg : w.grownBy w' r) (hr : some b ≠ r) : FS w' b l := by
  obtain ⟨D, n, h1, h2, h3⟩ := h
  exact ⟨D, n, h1.kept hg hr, h2, h3⟩
theorem FS.lt {w : World} {b : Nat} {l : List Slt} (h : FS w b l) : b < w.heap.size := by
  obtain ⟨D, n, h1, h2, h3⟩ := h
  exact h1.lt
/-- What a look at the map says: is there such a slot, and where do its words begin? -/
def atF (l : List Slt) (t : Slt) : Int := if fnd l t < l.length then (l.getD (fnd l t) slt0).at' else 0
theorem FS.look {w : World} {b : Nat} {l : List Slt} {t : Slt} (h : FS w b l) (ht : WfS t) : ∃ c, (Instr.lookup 55 (.map (some b)) (idV t) true).run Try.prog w = .ok (.tuple #[.int .i64 c, .bool (decide (fnd l t < l.length))]) w ∧ (fnd l t < l.length → c = atF l t) := by
  obtain ⟨D, n, h1, h2, h3⟩ := h
  obtain ⟨kl, hk⟩ := key_mk ht
  obtain ⟨v, ps, hrun, hv⟩ := h1.look_ok law63 Try.underlying55 (zero3 w) (plainElem_int Try.underlying3 (by decide)) hk
  obtain ⟨c, rfl, hc, hwc⟩ := plainElem_int_inv Try.underlying3 hv
  obtain ⟨e1, e2⟩ := h3 t kl hk
  rw [e1] at hrun
  refine ⟨c, hrun, fun hlt => ?_⟩
  have := e2 hlt
  rw [show D.atKey kl (.lit (.int .i64 0)) = .lit (.int .i64 c) from congrArg Prod.fst hc] at this
  simp at this
  rw [this]
  simp [atF, hlt]
theorem FS.put {w : World} {b : Nat} {l : List Slt} {t : Slt} (h : FS w b l) (ht : WfS t) (hn : ¬ fnd l t < l.length) (hl : l.length ≤ 20000) : ∃ w', (Instr.mapUpdate 55 (.map (some b)) (idV t) (.int .i64 t.at')).run Try.prog w = .ok () w' ∧ FS w' b (l ++ [t]) ∧ w.grownBy w' (some b) := by
  obtain ⟨D, n, h1, h2, h3⟩ := h
  obtain ⟨kl, hk⟩ := key_mk ht
  obtain ⟨w', hrun, o, g⟩ := h1.update law63 Try.underlying55 (by unfold maxLen; omega) hk (plainElem_int Try.underlying3 ht.at')
  refine ⟨w', hrun, ⟨_, _, o, by simp; omega, fun s ks hs => ?_⟩, g⟩
  obtain ⟨e1, e2⟩ := h3 s ks hs
  by_cases hks : ks = kl
  · subst hks
    have hsm := key_inj hk hs
    have hsf : fnd l s = fnd l t := by
      unfold fnd
      congr 1
      funext x
      simp [same] at hsm
      simp [same, hsm]
    have e3 : fnd (l ++ [t]) s = l.length := by
      rw [fnd_more, if_neg (by rw [hsf]; exact hn), if_pos hsm]
    refine ⟨?_, fun _ => ?_⟩
    · rw [Maps.has_put_same h1.isMap (law63.key hk), e3]
      simp
    · rw [Maps.atKey_put_same h1.isMap (law63.key hk), e3]
      simp [List.getD]
  · have hsm : same t s = false := by
      cases hc : same t s
      · rfl
      · have := key_same hc
        rw [this, hs] at hk
        exact absurd (Option.some.inj hk) hks
    rw [Maps.has_put_other hks, Maps.atKey_put_other hks, e1, fnd_more]
    by_cases hlt : fnd l s < l.length
    · rw [if_pos hlt]
      refine ⟨by simp; omega, fun _ => ?_⟩
      rw [e2 hlt]
      simp [List.getD, List.getElem?_append_left hlt]
    · rw [if_neg hlt, hsm]
      simp [hlt]
theorem FS.dup {w : World} {b : Nat} {l : List Slt} {t : Slt} (h : FS w b l) (hn : fnd l t < l.length) : FS w b (l ++ [t]) := by
  obtain ⟨D, n, h1, h2, h3⟩ := h
  refine ⟨D, n, h1, by simp; omega, fun s ks hs => ?_⟩
  obtain ⟨e1, e2⟩ := h3 s ks hs
  have hsm : ¬ fnd l s < l.length → same t s = false := fun hlt => by
    cases hc : same t s
    · rfl
    · exfalso
      apply hlt
      have : fnd l s = fnd l t := by
        unfold fnd
        congr 1
        funext x
        simp [same] at hc
        simp [same, hc]
      omega
  rw [e1, fnd_more]
  by_cases hlt : fnd l s < l.length
  · rw [if_pos hlt]
    refine ⟨by simp; omega, fun _ => ?_⟩
    rw [e2 hlt]
    simp [List.getD, List.getElem?_append_left hlt]
  · rw [if_neg hlt, hsm hlt]
    simp [hlt]
end Go.Proofs.Ytmkgobmlpmjocaa
