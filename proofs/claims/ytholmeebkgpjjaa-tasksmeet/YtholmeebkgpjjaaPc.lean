/- The order by deadlines, and what Respond says of it: plain. -/
import Derived.Test.YtholmeebkgpjjaaPb
import Derived.Test.YtholmeebkgpjjaaH
namespace Go.Proofs.Ytholmeebkgpjjaa
set_option linter.unusedVariables false
set_option linter.unusedSimpArgs false

theorem perm_range {l : List Nat} {n : Nat} (hl : l.Nodup) (hm : ∀ x, x ∈ l ↔ x < n) : l.Perm (List.range n) :=
  (List.perm_ext_iff_of_nodup hl List.nodup_range).2 (fun x => by rw [hm, List.mem_range])
theorem inOrd_range (l : List Tk) : inOrd l (List.range l.length) = l := by
  unfold inOrd
  apply List.ext_getElem
  · simp
  · intro i h1 h2
    simp [List.getD, h2]
theorem inOrd_perm {l : List Tk} {P : List Nat} (h : P.Perm (List.range l.length)) : (inOrd l P).Perm l := by
  have h1 : (inOrd l P).Perm (inOrd l (List.range l.length)) := h.map _
  rw [inOrd_range] at h1
  exact h1
theorem srt_perm (l : List Tk) : (srt l l.length).Perm (List.range l.length) := perm_range (sorted_nodup (srt_sorted l l.length)) (fun x => srt_mem l)
theorem srt_dead (l : List Tk) : (inOrd l (srt l l.length)).Pairwise (fun a b => a.dead ≤ b.dead) := by
  unfold inOrd
  rw [List.pairwise_map]
  exact (srt_sorted l l.length).imp (fun {a b} h => by
    unfold lt' dl at h
    omega)
theorem resp_ok_iff {l : List Tk} (h1 : 1 ≤ l.length) (h16 : l.length ≤ 16) (ho : Oks l) : (respS l).2.1 = 0 ↔ Feas l := by
  have hz := look_zero h16 h1 ho
  rw [← feas_iff ho]
  constructor
  · intro h i hi
    cases hc : firstB (fun j => (rep l j).isSome) l.length with
    | none => exact firstB_none.1 hc i hi
    | some j =>
      obtain ⟨a1, a2, a3⟩ := firstB_some.1 hc
      have := resp_slow (l := l) (by rw [hz]) a1 (by simpa using a2) a3
      rw [this] at h
      simp at h
  · intro h
    rw [resp_all (by rw [hz]) h]
/-- If Respond is content with any order, it is with the one by deadlines. -/
theorem best {l p : List Tk} (h1 : 1 ≤ l.length) (h16 : l.length ≤ 16) (ho : Oks l) (hp : p.Perm l) (hr : (respS p).2.1 = 0) : (respS (inOrd l (srt l l.length))).2.1 = 0 := by
  have hq := inOrd_perm (srt_perm l)
  have hl : (inOrd l (srt l l.length)).length = l.length := hq.length_eq
  have hpl := hp.length_eq
  have hoq : Oks (inOrd l (srt l l.length)) := ho.perm hq.symm
  rw [resp_ok_iff (by omega) (by omega) hoq]
  rw [resp_ok_iff (by omega) (by omega) (ho.perm hp.symm)] at hr
  exact dm_best _ _ p rfl (hp.trans hq.symm) hoq (srt_dead l) hr
theorem resp_slow_code {l : List Tk} (h1 : 1 ≤ l.length) (h16 : l.length ≤ 16) (ho : Oks l) (h : (respS l).2.1 ≠ 0) : (respS l).2.1 = 13 := by
  have hz := look_zero h16 h1 ho
  cases hc : firstB (fun j => (rep l j).isSome) l.length with
  | none =>
    rw [resp_all (by rw [hz]) (firstB_none.1 hc)] at h
    simp at h
  | some j =>
    obtain ⟨a1, a2, a3⟩ := firstB_some.1 hc
    rw [resp_slow (l := l) (by rw [hz]) a1 (by simpa using a2) a3]
end Go.Proofs.Ytholmeebkgpjjaa
