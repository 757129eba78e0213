/- Cells behind new blocks and draws. -/
import Derived.Test.YtphnadhkoigegaaD
namespace Go.Proofs.Ytphnadhkoigegaa
open Go.RowKit

theorem ck_drew {W : World} {a : Addr} {v : Value} (h : W.cell? a = some v) : W.drew.cell? a = some v := h
theorem ck_old {W : World} {o : Obj} {k i : Nat} {v : Value} (hk : k < W.heap.size) (h : W.cell? ⟨k, i, none⟩ = some v) : (W.alloc o).cell? ⟨k, i, none⟩ = some v := by
  rw [World.cell?_alloc_past _ _ _ hk]; exact h
theorem ck_new {W : World} {cs : Array Value} {T : TypeId} {k i : Nat} {v : Value} (hk : k = W.heap.size) (h : cs[i]? = some v) : (W.alloc (.cells cs T)).cell? ⟨k, i, none⟩ = some v := by
  rw [World.cell?_alloc_at _ _ _ _ hk]; exact h
end Go.Proofs.Ytphnadhkoigegaa
