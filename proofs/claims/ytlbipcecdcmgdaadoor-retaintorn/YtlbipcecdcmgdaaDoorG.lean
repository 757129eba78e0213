/- Numbers with their sum. -/
import Derived.Test.YtlbipcecdcmgdaaDoorE
namespace Go.Proofs.YtlbipcecdcmgdaaDoor
open Go.RowKit
attribute [local go_sem ↓] Go.wp_at_zero Go.wp_at_succ
set_option linter.unusedVariables false
set_option linter.unusedSimpArgs false

def iN (l : List Nat) : List Int := l.map fun (x : Nat) => (x : Int)
theorem iN_len (l : List Nat) : (iN l).length = l.length := by simp [iN]
theorem iN_get (l : List Nat) (k : Nat) : (iN l).getD k 0 = ((l.getD k 0 : Nat) : Int) := by
  by_cases h : k < l.length
  · simp [iN, List.getD, h]
  · simp [iN, List.getD, Nat.not_lt.1 h]
def is32 (l : List Nat) : Prop := ∀ x ∈ l, x < 2 ^ 32
theorem at_32 {l : List Nat} (h : is32 l) (k : Nat) : l.getD k 0 < 2 ^ 32 := by
  by_cases hk : k < l.length
  · have : l.getD k 0 = l[k] := by simp [List.getD, hk]
    rw [this]
    exact h _ (List.getElem_mem _)
  · have : l.getD k 0 = 0 := by simp [List.getD, Nat.not_lt.1 hk]
    omega
def fourL (l : List Nat) : List Nat := l.flatMap four
theorem fourL_len (l : List Nat) : (fourL l).length = l.length * 4 := by
  induction l with
  | nil => rfl
  | cons x l ih => simp [fourL] at ih ⊢; rw [four_len]; omega
theorem fourL_snoc (l : List Nat) (x : Nat) : fourL (l ++ [x]) = fourL l ++ four x := by simp [fourL]
theorem fourL_B (l : List Nat) : isB (fourL l) := by
  intro x hx
  simp [fourL] at hx
  obtain ⟨n, _, h⟩ := hx
  exact four_B n x h

set_option maxHeartbeats 1000000 in
theorem each_any (w0 : World) (l0 : List Nat) (p : Nat) (l ns : List Nat) (u : Value) (w : World) (h : WrAt w0 l0 p w l) (hu : rd w0 u (iN ns)) (hns : is32 ns) (hl : l.length ≤ 100) (hn : ns.length ≤ 2000) :
    Calls Tryd.prog 47 #[u, .func (.func 48) #[.pointer (some ⟨p, 0, none⟩)] #[]] w fun e w' => e = .returned (.tuple #[]) ∧ WrAt w0 l0 p w' (l ++ fourL ns) := by
  obtain ⟨a, cap, rfl, ha⟩ := hu
  rw [iN_len] at ha ⊢
  have HA : Hid (iN ns = [] ∨ ∃ b off, a = some ⟨b, off, none⟩ ∧ ∀ i, i < ns.length → w0.cell? ⟨b, off + i, none⟩ = some (.int .i64 ((iN ns).getD i 0))) := ha
  have H32 : Hid (is32 ns) := hns
  clear ha hns
  obtain ⟨n, hnn⟩ : ∃ n, ns.length = n := ⟨_, rfl⟩
  have HN : Hid (ns.length = n) := hnn
  rw [hnn] at hn ⊢
  clear hnn
  go_enter Tryd.func47, Tryd.ntmps47
  go_wp2
  go_loopg [8] n (fun gk s8 wx => ∃ k : Nat, s8 = .int .i64 k ∧ k ≤ n ∧ gk = n - k ∧ Hid (WrAt w0 l0 p wx (l ++ fourL (ns.take k))))
  case atStart => exact ⟨0, rfl, Nat.zero_le _, by omega, hidI (by simpa [fourL] using h)⟩
  case round =>
    obtain ⟨k, rfl, hk, hgk, HW⟩ := hrel
    have HG : Hid (gk = n - k) := hgk
    clear hgk
    by_cases hlt : k < n
    · have hkl : k < ns.length := by rw [HN.out]; exact hlt
      rcases HA.out with h | ⟨b, off, rfl, hc⟩
      · have := congrArg List.length h
        rw [iN_len] at this
        simp at this
        subst this
        simp at hkl
      have q0 := HW.out.grown.cell (hc k hkl) (by simp)
      rw [iN_get] at q0
      have hx := at_32 H32.out k
      have hT : ns.take (k + 1) = ns.take k ++ [ns.getD k 0] := by
        rw [List.take_add_one]
        simp [List.getD, hkl]
      have HT : Hid (_ = _) := hT
      have hlen : (l ++ fourL (ns.take k)).length ≤ 100000 := by simp [fourL_len]; omega
      clear hc hkl hT
      generalize ns.getD k 0 = x at *
      have cx := number48 w0 l0 p _ x _ HW.out hx hlen
      have i1 : (0 : Int) ≤ (k : Int) := by omega
      have i2 : (k : Int) < (n : Int) := by omega
      go_wp2_with fail
      refine cx.mono ?_
      rintro e w' ⟨rfl, hw'⟩
      have HNEW : Hid (WrAt w0 l0 p w' (l ++ fourL (ns.take (k + 1)))) := hidI (by rw [HT.out, fourL_snoc, ← List.append_assoc]; exact hw')
      clear hw' cx
      go_wp2
      have hgl := HG.out
      go_roundg (n - (k + 1))
      all_goals first | omega | exact ⟨k + 1, by go_num, by omega, by omega, HNEW⟩
    · have hk' : ¬ ((k : Int) < (n : Int)) := by omega
      have hkn : ns.take k = ns := List.take_of_length_le (by rw [HN.out]; omega)
      rw [hkn] at HW
      go_wp2
      go_end0
      exact ⟨rfl, HW.out⟩

def summedS (l ns : List Nat) : List Nat := l ++ fourL ns ++ four (crc (l ++ fourL ns))
theorem isB_app {l m : List Nat} (h : isB l) (h' : isB m) : isB (l ++ m) := fun x hx => by
  rcases List.mem_append.1 hx with hx | hx
  · exact h x hx
  · exact h' x hx
set_option maxHeartbeats 1000000 in
theorem summed_any (l ns : List Nat) (a : Option Addr) (cap : Nat) (u : Value) (w : World) (hbl : isB l) (h : (a = none ∧ cap = 0 ∧ l = []) ∨ ∃ b, b < w.heap.size ∧ a = some ⟨b, 0, none⟩ ∧ cap = l.length ∧ 0 < l.length ∧ ∀ i, i < l.length → w.cell? ⟨b, i, none⟩ = some (.int .u8 ((l.getD i 0 : Nat) : Int)))
    (hu : rd w u (iN ns)) (hns : is32 ns) (hl : l.length ≤ 100) (hn : ns.length ≤ 2000) :
    Calls Tryd.prog 43 #[.slice a l.length cap, u] w fun e w' => ∃ a' cap', e = .returned (.slice a' (summedS l ns).length cap') ∧ OwnB w.heap.size w' a' cap' (summedS l ns) ∧ w.grownBy w' none := by
  have hW : WrAt w l w.heap.size (w.alloc (.cells #[.slice a l.length cap] 73)) l := by
    refine ⟨Nat.le_refl _, gr_alloc (World.grownBy.refl _ _) _, a, cap, heap_alloc_new _ _, ?_⟩
    rcases h with ⟨rfl, rfl, rfl⟩ | ⟨b, hb, rfl, hcap, h0, hc⟩
    · exact .inl (OwnB.nil _ _)
    · exact .inr ⟨rfl, b, by omega, rfl, hcap, h0, fun i hi => (gr_alloc (World.grownBy.refl w none) _).cell (hc i hi) (by simp)⟩
  have cE := each_any w l w.heap.size l ns u _ hW hu hns hl hn
  have hblen : (l ++ fourL ns).length ≤ 10000 := by simp [fourL_len]; omega
  have hbB := isB_app hbl (fourL_B ns)
  have hge : l.length ≤ (l ++ fourL ns).length := by simp
  unfold summedS
  generalize l ++ fourL ns = L at *
  clear hW h
  go_enter Tryd.func43, Tryd.ntmps43
  go_wp2_with fail
  refine cE.mono ?_
  rintro e w1 ⟨rfl, hW1⟩
  obtain ⟨_, _, a1, cap1, hbox, hgw⟩ := id hW1
  have cS := sum_any L _ w1 hbB hgw.rd (by unfold maxLen; omega)
  have cN := number48 w l w.heap.size L (crc L) w1 hW1 (crc_lt L) (by omega)
  have c1 : w1.cell? ⟨w.heap.size, 0, none⟩ = some (.slice a1 L.length cap1) := at_cell hbox 0
  clear hbox hgw hW1 cE
  go_wp2_with fail
  refine cS.mono ?_
  rintro e w2 ⟨rfl, rfl⟩
  go_wp2_with fail
  refine cN.mono ?_
  rintro e w2 ⟨rfl, hW2⟩
  obtain ⟨_, hg2, a2, cap2, hbox, hgw⟩ := hW2
  have c2 : w2.cell? ⟨w.heap.size, 0, none⟩ = some (.slice a2 (L ++ four (crc L)).length cap2) := at_cell hbox 0
  have hown : OwnB (w.heap.size + 1) w2 a2 cap2 (L ++ four (crc L)) := by
    rcases hgw with h | ⟨he, _⟩
    · exact h
    · have := congrArg List.length he
      rw [List.length_append, four_len] at this
      omega
  have HO : Hid (OwnB w.heap.size w2 a2 cap2 (L ++ four (crc L))) := hidI (own_low hown (by omega))
  clear hbox hgw hown
  go_wp2
  go_ret
  exact ⟨a2, cap2, by rw [List.length_append]; rfl, HO.out, hg2⟩

set_option maxHeartbeats 1000000 in
theorem parts_any (ns : List Nat) (s : Nat) (u : Value) (w : World) (hu : rd w u (iN ns)) (hns : is32 ns) (hs : s < 2 ^ 32) (hn : ns.length ≤ 2000) (hB : Beg w) :
    Calls Tryd.prog 30 #[u, .int .i64 (s : Int)] w fun e w' => ∃ a c a' c', e = .returned (.tuple #[.slice a (summedS [80, 87, 82, 49] [s, ns.length]).length c, .slice a' (summedS [] ns).length c']) ∧ OwnB w.heap.size w' a c (summedS [80, 87, 82, 49] [s, ns.length]) ∧ (∃ B, w.heap.size ≤ B ∧ (∀ x, (Value.slice a (summedS [80, 87, 82, 49] [s, ns.length]).length c).ownBlock = some x → x < B) ∧ OwnB B w' a' c' (summedS [] ns)) ∧ w.grownBy w' none := by
  obtain ⟨a, cap, rfl, _⟩ := id hu
  rw [iN_len]
  obtain ⟨g0, g1, g2, g3⟩ := id hB
  have hg2 : w.grownBy ((w.alloc (.cells #[.int .u8 80, .int .u8 87, .int .u8 82, .int .u8 49] 68)).alloc (.cells #[.int .i64 (s : Int), .int .i64 ((ns.length : Nat) : Int)] 3)) none := gr_alloc (gr_alloc (World.grownBy.refl _ _) _) _
  have hb0 : ((w.alloc (.cells #[.int .u8 80, .int .u8 87, .int .u8 82, .int .u8 49] 68)).alloc (.cells #[.int .i64 (s : Int), .int .i64 ((ns.length : Nat) : Int)] 3)).heap[w.heap.size]? = some (.cells #[.int .u8 80, .int .u8 87, .int .u8 82, .int .u8 49] 68) := by
    rw [hp_old (by simp)]; exact heap_alloc_new _ _
  have hb1 : ((w.alloc (.cells #[.int .u8 80, .int .u8 87, .int .u8 82, .int .u8 49] 68)).alloc (.cells #[.int .i64 (s : Int), .int .i64 ((ns.length : Nat) : Int)] 3)).heap[w.heap.size + 1]? = some (.cells #[.int .i64 (s : Int), .int .i64 ((ns.length : Nat) : Int)] 3) := hp_new (by simp) _
  have hsz : w.heap.size + 2 = ((w.alloc (.cells #[.int .u8 80, .int .u8 87, .int .u8 82, .int .u8 49] 68)).alloc (.cells #[.int .i64 (s : Int), .int .i64 ((ns.length : Nat) : Int)] 3)).heap.size := by simp
  have c1 : Calls Tryd.prog 43 #[.slice (some ⟨w.heap.size, 0, none⟩) 4 4, .slice (some ⟨w.heap.size + 1, 0, none⟩) 2 2] ((w.alloc (.cells #[.int .u8 80, .int .u8 87, .int .u8 82, .int .u8 49] 68)).alloc (.cells #[.int .i64 (s : Int), .int .i64 ((ns.length : Nat) : Int)] 3)) _ := summed_any [80, 87, 82, 49] [s, ns.length] (some ⟨w.heap.size, 0, none⟩) 4 (.slice (some ⟨w.heap.size + 1, 0, none⟩) 2 2) _ (by intro x hx; simp at hx; omega)
    (.inr ⟨w.heap.size, by omega, rfl, rfl, by simp, fun i hi => by
      rw [at_cell hb0]
      have h4 : i = 0 ∨ i = 1 ∨ i = 2 ∨ i = 3 := by simp at hi; omega
      rcases h4 with rfl | rfl | rfl | rfl <;> rfl⟩)
    ⟨_, _, rfl, .inr ⟨w.heap.size + 1, 0, rfl, fun i hi => by
      rw [Nat.zero_add, at_cell hb1]
      have h4 : i = 0 ∨ i = 1 := by simp [iN] at hi; omega
      rcases h4 with rfl | rfl <;> rfl⟩⟩ (by intro x hx; simp at hx; omega) (by simp) (by simp)
  clear hb0 hb1 hsz
  go_enter Tryd.func30, Tryd.ntmps30
  go_wp2_with fail
  refine c1.mono ?_
  rintro e w1 ⟨a1, k1, rfl, ho1, hg1⟩
  have hg01 := grown_join hg2 hg1 (.inl rfl)
  have ho1' := own_low ho1 hg2.size
  have c2 := summed_any [] ns none 0 _ w1 (by intro x hx; simp at hx) (.inl ⟨rfl, rfl, rfl⟩) (rd_grown hu hg01) hns (by simp) hn
  rw [iN_len] at c2
  clear c1 ho1 hg1 hg2
  go_wp2_with fail
  refine c2.mono ?_
  rintro e w2 ⟨a2, k2, rfl, ho2, hg2⟩
  go_wp2
  go_ret2
  exact ⟨_, _, _, _, rfl, own_keep ho1' hg2, ⟨w1.heap.size, hg01.size, fun x hx => (World.ownsRow.lt ho1' x hx).2, ho2⟩, grown_join hg01 hg2 (.inl rfl)⟩
end Go.Proofs.YtlbipcecdcmgdaaDoor
