/- Shape, for whatever block. -/
import Derived.Test.YtbaijehecncclaaDoorD
import Derived.Test.YtbaijehecncclaaDoorE
namespace Go.Proofs.YtbaijehecncclaaDoor
open Go.RowKit
attribute [local go_sem ↓] Go.wp_at_zero Go.wp_at_succ


def ShapeC (nm : ByteArray) (I O S : List (ByteArray × Int)) : Prop :=
  ∀ w : World, Calls Tryd.prog 50 #[.string nm] w fun e w' => ∃ v, e = .returned (.tuple #[v, .bool true]) ∧ Shp w w' v I O S ∧ w.grownBy w' none

set_option maxHeartbeats 1000000 in
theorem shape_gen (nm : ByteArray) (P T fS : Nat) (z : Array Value) (I O S : List (ByteArray × Int))
    (hnamed : ∀ w, Calls Tryd.prog 53 #[.string nm] w fun e w' => e = .returned (.tuple #[.iface P (.pointer (some ⟨w.heap.size, 0, none⟩)), .bool true]) ∧ w' = w.alloc (.cells z T))
    (hmS : ∀ (p : Nat) (w : World), (method 265 P (.pointer (some ⟨p, 0, none⟩)) "plantwright/blocks.shape").run Tryd.prog w = .ok (fS, .pointer (some ⟨p, 0, none⟩)) w)
    (hcS : ∀ (args : Array Value) (w : World), (callFunc fS args).run Tryd.prog w = .ok (.enter fS args) w)
    (hshape : ∀ (p : Nat) (w : World), Calls Tryd.prog fS #[.pointer (some ⟨p, 0, none⟩)] w fun e w' => ∃ v, e = .returned v ∧ Shp w w' v I O S ∧ w.grownBy w' none) : ShapeC nm I O S := by
  intro w
  go_enter Tryd.func50, Tryd.ntmps50
  go_wp2_with (first | (go_at_call 53; refine (hnamed _).mono ?_; rintro e w' ⟨rfl, rfl⟩))
  refine (hshape _ _).mono ?_
  rintro e w1 ⟨v, rfl, ⟨b1, b2, b3, rfl, hb1, hb2, hb3, n12, n13, n23, hB1, hB2, hB3⟩, hg1⟩
  simp at hb1 hb2 hb3
  have hX : w1.heap[w.heap.size]? = some (.cells #[.slice none 0 0, .slice none 0 0, .slice none 0 0] 71) := kept hg1 ((hp_old (by simp) _).trans (heap_alloc_new _ _))
  have d0 := at_cell hX 0
  have d1 := at_cell hX 1
  have d2 := at_cell hX 2
  have f0 := at_frozen hX 0
  have f1 := at_frozen hX 1
  have f2 := at_frozen hX 2
  simp at d0 d1 d2
  have hgw : w.grownBy w1 none := (gr_alloc (gr_alloc (World.grownBy.refl w none) _) _).trans hg1
  go_wp2
  refine bodyPost_ret (v := .tuple #[.agg #[.slice (some ⟨b1, 0, none⟩) I.length I.length, .slice (some ⟨b2, 0, none⟩) O.length O.length, .slice (some ⟨b3, 0, none⟩) S.length S.length], .bool true]) (by simp [results, Tryd.results50, go_sem, d0, d1, d2]) rfl ⟨_, rfl, ⟨b1, b2, b3, rfl, by omega, by omega, by omega, n12, n13, n23, ?_, ?_, ?_⟩, ?_⟩
  · rw [Below.heap_setCell _ _ _ _ (by simp; omega), Below.heap_setCell _ _ _ _ (by simp; omega), Below.heap_setCell _ _ _ _ (by simp; omega)]; exact hB1
  · rw [Below.heap_setCell _ _ _ _ (by simp; omega), Below.heap_setCell _ _ _ _ (by simp; omega), Below.heap_setCell _ _ _ _ (by simp; omega)]; exact hB2
  · rw [Below.heap_setCell _ _ _ _ (by simp; omega), Below.heap_setCell _ _ _ _ (by simp; omega), Below.heap_setCell _ _ _ _ (by simp; omega)]; exact hB3
  · exact gr_own (gr_own (gr_own hgw (Nat.le_refl _) _ _) (Nat.le_refl _) _ _) (Nat.le_refl _) _ _

theorem shapeC_ton : ShapeC tonName tonI tonO tonS := shape_gen tonName 96 100 71 #[.bool false, .int .i64 0, .bool false, .int .i64 0] _ _ _ named_ton (fun _ _ => by kernel_rfl) (fun _ _ => by kernel_rfl) shape_ton
theorem shapeC_tof : ShapeC tofName tofI tofO tofS := shape_gen tofName 101 102 77 #[.bool false, .int .i64 0, .bool false, .int .i64 0] _ _ _ named_tof (fun _ _ => by kernel_rfl) (fun _ _ => by kernel_rfl) shape_tof
theorem shapeC_tp : ShapeC tpName tpI tpO tpS := shape_gen tpName 103 104 79 #[.bool false, .int .i64 0, .bool false, .int .i64 0] _ _ _ named_tp (fun _ _ => by kernel_rfl) (fun _ _ => by kernel_rfl) shape_tp
theorem shapeC_ctu : ShapeC ctuName ctuI ctuO ctuS := shape_gen ctuName 105 109 84 #[.bool false, .int .i64 0] _ _ _ named_ctu (fun _ _ => by kernel_rfl) (fun _ _ => by kernel_rfl) shape_ctu
theorem shapeC_ctd : ShapeC ctdName ctdI ctdO ctdS := shape_gen ctdName 110 111 88 #[.bool false, .int .i64 0] _ _ _ named_ctd (fun _ _ => by kernel_rfl) (fun _ _ => by kernel_rfl) shape_ctd
theorem shapeC_ctud : ShapeC ctudName ctudI ctudO ctudS := shape_gen ctudName 112 114 92 #[.bool false, .bool false, .int .i64 0] _ _ _ named_ctud (fun _ _ => by kernel_rfl) (fun _ _ => by kernel_rfl) shape_ctud
theorem shapeC_rtrig : ShapeC rtrigName edgeI edgeO edgeS := shape_gen rtrigName 115 119 96 #[.bool false] _ _ _ named_rtrig (fun _ _ => by kernel_rfl) (fun _ _ => by kernel_rfl) shape_edge
theorem shapeC_ftrig : ShapeC ftrigName edgeI edgeO edgeS := shape_gen ftrigName 120 121 96 #[.bool false] _ _ _ named_ftrig (fun _ _ => by kernel_rfl) (fun _ _ => by kernel_rfl) shape_edge
theorem shapeC_sr : ShapeC srName srI srO srS := shape_gen srName 122 126 101 #[.bool false] _ _ _ named_sr (fun _ _ => by kernel_rfl) (fun _ _ => by kernel_rfl) shape_sr
theorem shapeC_rs : ShapeC rsName rsI rsO rsS := shape_gen rsName 127 128 104 #[.bool false] _ _ _ named_rs (fun _ _ => by kernel_rfl) (fun _ _ => by kernel_rfl) shape_rs
theorem shapeC_ramp : ShapeC rampName rampI rampO rampS := shape_gen rampName 129 131 108 #[.int .i64 0] _ _ _ named_ramp (fun _ _ => by kernel_rfl) (fun _ _ => by kernel_rfl) shape_ramp
theorem shapeC_hyst : ShapeC hystName hystI hystO hystS := shape_gen hystName 132 133 110 #[.bool false] _ _ _ named_hyst (fun _ _ => by kernel_rfl) (fun _ _ => by kernel_rfl) shape_hyst

/-- A name that is no block's. -/
def NoName (s : ByteArray) : Prop := (s.toList == [116, 111, 110]) = false ∧ (s.toList == [116, 111, 102]) = false ∧ (s.toList == [116, 112]) = false ∧ (s.toList == [99, 116, 117]) = false ∧ (s.toList == [99, 116, 100]) = false ∧ (s.toList == [99, 116, 117, 100]) = false ∧ (s.toList == [114, 95, 116, 114, 105, 103]) = false ∧ (s.toList == [102, 95, 116, 114, 105, 103]) = false ∧ (s.toList == [115, 114]) = false ∧ (s.toList == [114, 115]) = false ∧ (s.toList == [114, 97, 109, 112]) = false ∧ (s.toList == [104, 121, 115, 116]) = false
theorem toList_eq {s : ByteArray} {l : List UInt8} (h : (s.toList == l) = true) : s = { data := l.toArray } := by
  have h1 : s.toList = l := by simpa using h
  have h2 : s.data.toList = l := by rw [← h1]; exact (ByteArray.toList_eq s).symm
  cases s
  simp at h2
  subst h2
  rfl
theorem name_cases (s : ByteArray) : s = tonName ∨ s = tofName ∨ s = tpName ∨ s = ctuName ∨ s = ctdName ∨ s = ctudName ∨ s = rtrigName ∨ s = ftrigName ∨ s = srName ∨ s = rsName ∨ s = rampName ∨ s = hystName ∨ NoName s := by
  unfold NoName
  by_cases h0 : (s.toList == [116, 111, 110]) = true
  · exact .inl (toList_eq h0)
  by_cases h1 : (s.toList == [116, 111, 102]) = true
  · exact .inr (.inl (toList_eq h1))
  by_cases h2 : (s.toList == [116, 112]) = true
  · exact .inr (.inr (.inl (toList_eq h2)))
  by_cases h3 : (s.toList == [99, 116, 117]) = true
  · exact .inr (.inr (.inr (.inl (toList_eq h3))))
  by_cases h4 : (s.toList == [99, 116, 100]) = true
  · exact .inr (.inr (.inr (.inr (.inl (toList_eq h4)))))
  by_cases h5 : (s.toList == [99, 116, 117, 100]) = true
  · exact .inr (.inr (.inr (.inr (.inr (.inl (toList_eq h5))))))
  by_cases h6 : (s.toList == [114, 95, 116, 114, 105, 103]) = true
  · exact .inr (.inr (.inr (.inr (.inr (.inr (.inl (toList_eq h6)))))))
  by_cases h7 : (s.toList == [102, 95, 116, 114, 105, 103]) = true
  · exact .inr (.inr (.inr (.inr (.inr (.inr (.inr (.inl (toList_eq h7))))))))
  by_cases h8 : (s.toList == [115, 114]) = true
  · exact .inr (.inr (.inr (.inr (.inr (.inr (.inr (.inr (.inl (toList_eq h8)))))))))
  by_cases h9 : (s.toList == [114, 115]) = true
  · exact .inr (.inr (.inr (.inr (.inr (.inr (.inr (.inr (.inr (.inl (toList_eq h9))))))))))
  by_cases h10 : (s.toList == [114, 97, 109, 112]) = true
  · exact .inr (.inr (.inr (.inr (.inr (.inr (.inr (.inr (.inr (.inr (.inl (toList_eq h10)))))))))))
  by_cases h11 : (s.toList == [104, 121, 115, 116]) = true
  · exact .inr (.inr (.inr (.inr (.inr (.inr (.inr (.inr (.inr (.inr (.inr (.inl (toList_eq h11))))))))))))
  exact .inr (.inr (.inr (.inr (.inr (.inr (.inr (.inr (.inr (.inr (.inr (.inr ⟨by simpa using h0, by simpa using h1, by simpa using h2, by simpa using h3, by simpa using h4, by simpa using h5, by simpa using h6, by simpa using h7, by simpa using h8, by simpa using h9, by simpa using h10, by simpa using h11⟩)))))))))))
set_option maxHeartbeats 1000000 in
theorem shape_none (s : ByteArray) (hs : NoName s) (w : World) : Calls Tryd.prog 50 #[.string s] w fun e w' => e = .returned (.tuple #[.agg #[.slice none 0 0, .slice none 0 0, .slice none 0 0], .bool false]) ∧ w.grownBy w' none := by
  obtain ⟨h0, h1, h2, h3, h4, h5, h6, h7, h8, h9, h10, h11⟩ := hs
  have hn := fun w => named_else s w h0 h1 h2 h3 h4 h5 h6 h7 h8 h9 h10 h11
  clear h0 h1 h2 h3 h4 h5 h6 h7 h8 h9 h10 h11
  go_enter Tryd.func50, Tryd.ntmps50
  go_wp2_with (first | (go_at_call 53; refine (hn _).mono ?_; rintro e w' ⟨rfl, rfl⟩))
  exact bodyPost_ret (v := .tuple #[.agg #[.slice none 0 0, .slice none 0 0, .slice none 0 0], .bool false]) (by simp [results, Tryd.results50, go_sem]) rfl ⟨rfl, gr_alloc (World.grownBy.refl _ _) _⟩
end Go.Proofs.YtbaijehecncclaaDoor
