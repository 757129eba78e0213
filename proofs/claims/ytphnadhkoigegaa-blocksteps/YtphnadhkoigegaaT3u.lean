/- The document's count: ctud. -/
import Derived.Test.YtphnadhkoigegaaT3x
import Derived.Test.YtphnadhkoigegaaT3y
import Derived.Test.YtphnadhkoigegaaT3z
namespace Go.Proofs.Ytphnadhkoigegaa
theorem refCount_ctud (b c : Nat) (u d n cu cd r ld pv : Int) (w : World) (h_u : u = 0 ∨ u = 1) (h_d : d = 0 ∨ d = 1) (h_n : -32768 ≤ n ∧ n ≤ 32767) (h_cu : cu = 0 ∨ cu = 1) (h_cd : cd = 0 ∨ cd = 1) (h_r : r = 0 ∨ r = 1) (h_ld : ld = 0 ∨ ld = 1) (h_pv : -32768 ≤ pv ∧ pv ≤ 32767) (hb : w.heap[b]? = some (.cells (intsA [u, d, n]) 3)) (hc : w.heap[c]? = some (.cells (intsA [cu, cd, r, ld, pv]) 3)) :
    Calls Try.prog 24 #[.string ctudName, .slice (some ⟨b, 0, none⟩) 3 3, .slice (some ⟨c, 0, none⟩) 5 5] w (StepPost 3 3 (ctudF [u, d, n] [cu, cd, r, ld, pv] 0) w) := by
  rcases h_cu with h | h
  · exact refCount_ctud0 b c u d n cu cd r ld pv w h_u h_d h_n (.inl h) h_cd h_r h_ld h_pv h hb hc
  · rcases h_u with h' | h'
    · exact refCount_ctud1 b c u d n cu cd r ld pv w (.inl h') h_d h_n (.inr h) h_cd h_r h_ld h_pv h h' hb hc
    · exact refCount_ctud2 b c u d n cu cd r ld pv w (.inr h') h_d h_n (.inr h) h_cd h_r h_ld h_pv h h' hb hc
end Go.Proofs.Ytphnadhkoigegaa
