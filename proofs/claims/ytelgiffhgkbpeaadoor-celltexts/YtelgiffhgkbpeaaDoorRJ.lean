/- The document's answer: ShowValue of a time. -/
import Derived.Test.YtelgiffhgkbpeaaDoorRI
namespace Go.Proofs.YtelgiffhgkbpeaaDoor
open Go.RowKit

def wordv (i : Nat) : ByteArray := if i = 0 then ⟨#[100]⟩ else if i = 1 then ⟨#[104]⟩ else if i = 2 then ⟨#[109]⟩ else if i = 3 then ⟨#[115]⟩ else ⟨#[109, 115]⟩
def partv (p0 p1 p2 p3 p4 : Int) (i : Nat) : Int := if i = 0 then p0 else if i = 1 then p1 else if i = 2 then p2 else if i = 3 then p3 else p4
def accT (f : Nat → Int) : Nat → ByteArray
  | 0 => ⟨#[84, 35]⟩
  | i + 1 => if 0 < f i then accT f i ++ (⟨(Lib.itoa (f i)).toArray⟩ ++ wordv i) else accT f i
theorem wordv_size (i : Nat) : (wordv i).size ≤ 2 := by
  unfold wordv
  repeat' split
  all_goals decide
theorem accT_size (f : Nat → Int) (h : ∀ i, 0 ≤ f i ∧ f i ≤ 4294967295) (c : Nat) (hc : c = 4294967298) : ∀ i, (accT f i).size ≤ 2 + i * c
  | 0 => by show 2 ≤ _; omega
  | i + 1 => by
    have ih := accT_size f h c hc i
    rw [accT, Nat.succ_mul]
    split
    · rw [ByteArray.size_append, ByteArray.size_append]
      have h1 := itoa_size (f i) (h i).1 (h i).2
      have h2 := wordv_size i
      omega
    · omega
def objP (p0 p1 p2 p3 p4 : Int) : Obj := .cells #[.int .i64 p0, .int .i64 p1, .int .i64 p2, .int .i64 p3, .int .i64 p4] 3 (0, 0)
def objQ : Obj := .cells #[.string ⟨#[100]⟩, .string ⟨#[104]⟩, .string ⟨#[109]⟩, .string ⟨#[115]⟩, .string ⟨#[109, 115]⟩] 9 (0, 0)
theorem cellP {w : World} {b : Nat} {p0 p1 p2 p3 p4 : Int} (h : w.heap[b]? = some (objP p0 p1 p2 p3 p4)) (i : Nat) (hi : i < 5) : w.cell? ⟨b, i, none⟩ = some (.int .i64 (partv p0 p1 p2 p3 p4 i)) := by
  unfold World.cell?
  show (match w.heap[b]? with | some (.cells c _ _) => c[i]? | _ => none) = _
  rw [h]
  have hc : i = 0 ∨ i = 1 ∨ i = 2 ∨ i = 3 ∨ i = 4 := by omega
  rcases hc with rfl | rfl | rfl | rfl | rfl <;> rfl
theorem cellQ {w : World} {b : Nat} (h : w.heap[b]? = some objQ) (i : Nat) (hi : i < 5) : w.cell? ⟨b, i, none⟩ = some (.string (wordv i)) := by
  unfold World.cell?
  show (match w.heap[b]? with | some (.cells c _ _) => c[i]? | _ => none) = _
  rw [h]
  have hc : i = 0 ∨ i = 1 ∨ i = 2 ∨ i = 3 ∨ i = 4 := by omega
  rcases hc with rfl | rfl | rfl | rfl | rfl <;> rfl

set_option maxHeartbeats 4000000 in
set_option maxRecDepth 100000 in
theorem stime_any (n p0 p1 p2 p3 p4 : Int) (w : World) (hf : fitsK 5 n = true) (h0 : 0 ≤ n) (h1 : n ≤ 4294967295)
    (e0 : n / 86400000 = p0) (e1 : n / 3600000 % 24 = p1) (e2 : n / 60000 % 60 = p2) (e3 : n / 1000 % 60 = p3) (e4 : n % 1000 = p4) :
    Calls Tryd.prog 8 #[.int .i64 5, .int .i64 n] w fun e w' => e = .returned (.string (accT (partv p0 p1 p2 p3 p4) 5 ++ (if n = 0 then ⟨#[48, 109, 115]⟩ else ⟨#[]⟩))) ∧ Below w.heap.size w w' := by
  have hb : ∀ i, 0 ≤ partv p0 p1 p2 p3 p4 i ∧ partv p0 p1 p2 p3 p4 i ≤ 4294967295 := by
    intro i
    unfold partv
    repeat' split
    all_goals omega
  obtain ⟨q1, g1⟩ : ∃ q, n / 3600000 = q := ⟨_, rfl⟩
  obtain ⟨q2, g2⟩ : ∃ q, n / 60000 = q := ⟨_, rfl⟩
  obtain ⟨q3, g3⟩ : ∃ q, n / 1000 = q := ⟨_, rfl⟩
  have b1 : 0 ≤ q1 := by omega
  have b2 : 0 ≤ q2 := by omega
  have b3 : 0 ≤ q3 := by omega
  rw [g1] at e1
  rw [g2] at e2
  rw [g3] at e3
  have f0 : n.tdiv 86400000 = p0 := by rw [Int.tdiv_eq_ediv_of_nonneg h0]; exact e0
  have f1 : n.tdiv 3600000 = q1 := by rw [Int.tdiv_eq_ediv_of_nonneg h0]; exact g1
  have f2 : n.tdiv 60000 = q2 := by rw [Int.tdiv_eq_ediv_of_nonneg h0]; exact g2
  have f3 : n.tdiv 1000 = q3 := by rw [Int.tdiv_eq_ediv_of_nonneg h0]; exact g3
  have k1 : q1.tmod 24 = p1 := by rw [Int.tmod_eq_emod_of_nonneg b1]; exact e1
  have k2 : q2.tmod 60 = p2 := by rw [Int.tmod_eq_emod_of_nonneg b2]; exact e2
  have k3 : q3.tmod 60 = p3 := by rw [Int.tmod_eq_emod_of_nonneg b3]; exact e3
  have k4 : n.tmod 1000 = p4 := by rw [Int.tmod_eq_emod_of_nonneg h0]; exact e4
  have hAs : ∀ i, i ≤ 5 → (accT (partv p0 p1 p2 p3 p4) i).size ≤ 25000000000 := fun i hi => by
    have h := accT_size (partv p0 p1 p2 p3 p4) hb 4294967298 rfl i
    have : i = 0 ∨ i = 1 ∨ i = 2 ∨ i = 3 ∨ i = 4 ∨ i = 5 := by omega
    rcases this with rfl | rfl | rfl | rfl | rfl | rfl <;> omega
  have w0 := i64_same p0 (by omega) (by omega)
  have w1 := i64_same q1 (by omega) (by omega)
  have w2 := i64_same q2 (by omega) (by omega)
  have w3 := i64_same q3 (by omega) (by omega)
  have HA : Hid (∀ i, i ≤ 5 → (accT (partv p0 p1 p2 p3 p4) i).size ≤ 25000000000) := hAs
  have HB : Hid (∀ i, 0 ≤ partv p0 p1 p2 p3 p4 i ∧ partv p0 p1 p2 p3 p4 i ≤ 4294967295) := hb
  clear hb hAs
  go_enter Tryd.func8, Tryd.ntmps8
  go_wp2_with (go_at_call 23; go_must (refine (rfits_any _ _ _).mono ?_; rintro e w' ⟨rfl, rfl⟩))
  have n1 := heap_alloc_new w' (objP p0 p1 p2 p3 p4)
  have s1 : (w'.alloc (objP p0 p1 p2 p3 p4)).heap.size = w'.heap.size + 1 := by simp
  have n2 := heap_alloc_new (w'.alloc (objP p0 p1 p2 p3 p4)) objQ
  have bl : Below w'.heap.size w' ((w'.alloc (objP p0 p1 p2 p3 p4)).alloc objQ) := ((Below.refl _ w').alloc (Nat.le_refl _) _).alloc (by omega) _
  have n3 : ((w'.alloc (objP p0 p1 p2 p3 p4)).alloc objQ).heap[w'.heap.size]? = some (objP p0 p1 p2 p3 p4) := (Below.heap_alloc _ _ _ (by omega)).trans n1
  rw [s1] at n2
  have HN : Hid (((w'.alloc (objP p0 p1 p2 p3 p4)).alloc objQ).heap[w'.heap.size]? = some (objP p0 p1 p2 p3 p4) ∧ ((w'.alloc (objP p0 p1 p2 p3 p4)).alloc objQ).heap[w'.heap.size + 1]? = some objQ ∧ Below w'.heap.size w' ((w'.alloc (objP p0 p1 p2 p3 p4)).alloc objQ)) := ⟨n3, n2, bl⟩
  clear n1 s1 n2 bl n3 e0 e1 e2 e3 e4 g1 g2 g3 f0 f1 f2 f3 k1 k2 k3 k4 w0 w1 w2 w3 b1 b2 b3
  go_loopg [6, 9] 5 (fun gk s6 s9 wx => ∃ i : Nat, s9 = .int .i64 i ∧ s6 = .string (accT (partv p0 p1 p2 p3 p4) i) ∧ i ≤ 5 ∧ wx.heap[w'.heap.size]? = some (objP p0 p1 p2 p3 p4) ∧ wx.heap[w'.heap.size + 1]? = some objQ ∧ Below w'.heap.size w' wx ∧ 5 ≤ i + gk)
  case atStart => exact ⟨0, rfl, rfl, by omega, HN.out.1, HN.out.2.1, HN.out.2.2, by omega⟩
  case round =>
    obtain ⟨i, rfl, rfl, hi, hP, hQ, hbl, hgk⟩ := hrel
    clear HN
    by_cases hlt : i < 5
    · obtain ⟨g', rfl⟩ : ∃ g', gk = g' + 1 := ⟨gk - 1, by omega⟩
      have cp := cellP hP i hlt
      have cq := cellQ hQ i hlt
      have hsz := HA.out i hi
      have hpb := HB.out i
      have hws := wordv_size i
      have hacc : Hid (accT (partv p0 p1 p2 p3 p4) (i + 1) = if 0 < partv p0 p1 p2 p3 p4 i then accT (partv p0 p1 p2 p3 p4) i ++ (⟨(Lib.itoa (partv p0 p1 p2 p3 p4 i)).toArray⟩ ++ wordv i) else accT (partv p0 p1 p2 p3 p4) i) := by
        show _ = _
        rw [accT]
      have cD := fun W => decimal_any (partv p0 p1 p2 p3 p4 i) W (by omega) hpb.2
      have hds := itoa_size (partv p0 p1 p2 p3 p4 i) hpb.1 hpb.2
      obtain ⟨D, hD⟩ : ∃ D, (⟨(Lib.itoa (partv p0 p1 p2 p3 p4 i)).toArray⟩ : ByteArray) = D := ⟨_, rfl⟩
      rw [hD] at cD hds hacc
      obtain ⟨V, hV⟩ : ∃ V, partv p0 p1 p2 p3 p4 i = V := ⟨_, rfl⟩
      rw [hV] at cp hpb cD hacc
      obtain ⟨A, hA⟩ : ∃ A, accT (partv p0 p1 p2 p3 p4) i = A := ⟨_, rfl⟩
      rw [hA] at hsz hacc ⊢
      obtain ⟨U, hU⟩ : ∃ U, wordv i = U := ⟨_, rfl⟩
      rw [hU] at cq hws hacc
      have hPs : w'.heap.size + 1 < wr.heap.size := (Array.getElem?_eq_some_iff.1 hQ).1
      have HP : Hid (wr.heap[w'.heap.size]? = some (objP p0 p1 p2 p3 p4)) := hP
      have HQ : Hid (wr.heap[w'.heap.size + 1]? = some objQ) := hQ
      have HBl : Hid (Below w'.heap.size w' wr) := hbl
      have hDU : (D ++ U).size = D.size + U.size := ByteArray.size_append
      clear hD hV hA hU hP hQ hbl
      by_cases hv : 0 < V
      · rw [if_pos hv] at hacc
        go_wp2
        go_region_with (go_at_call 28; go_must (refine (cD _).mono ?_; rintro e w1 ⟨rfl, hb1⟩; have cq1 := (hb1.cell (p := ⟨w'.heap.size + 1, i, none⟩) hPs).trans cq))
        all_goals go_wp2
        all_goals go_roundg g'
        all_goals first
          | omega
          | exact ⟨i + 1, rfl, by rw [hacc.out], by omega, (hb1.block _ (Nat.lt_of_succ_lt hPs)).trans HP.out, (hb1.block _ hPs).trans HQ.out, HBl.out.drew.trans (hb1.mono HBl.out.size), by omega⟩
      · rw [if_neg hv] at hacc
        go_wp2
        go_roundg g'
        case measure => omega
        case rel => exact ⟨i + 1, rfl, by rw [hacc.out], by omega, HP.out, HQ.out, HBl.out, by omega⟩
    · obtain rfl : i = 5 := by omega
      obtain ⟨A, hA⟩ : ∃ A, accT (partv p0 p1 p2 p3 p4) 5 = A := ⟨_, rfl⟩
      have hsz := HA.out 5 (Nat.le_refl _)
      rw [hA] at hsz ⊢
      have HE : Hid (accT (partv p0 p1 p2 p3 p4) 5 = A) := hA
      clear hA
      by_cases hz : n = 0
      · go_wp2
        go_ret
        exact ⟨by rw [HE.out]; rfl, hbl⟩
      · go_wp2
        go_ret
        exact ⟨by rw [HE.out, app_nil]; rfl, hbl⟩

/-- The document's text of a time is the program's. -/
theorem acc_is (n : Int) (h0 : 0 ≤ n) (h1 : n ≤ 4294967295) :
    accT (partv (n / 86400000) (n / 3600000 % 24) (n / 60000 % 60) (n / 1000 % 60) (n % 1000)) 5 ++ (if n = 0 then ⟨#[48, 109, 115]⟩ else ⟨#[]⟩ : ByteArray) = showT n := by
  by_cases hz : n = 0
  · subst hz; decide
  · rw [if_neg hz, app_nil, showT, if_neg hz]
    have pt : ∀ (m L v : Int) (u A : ByteArray), 0 ≤ m → 0 < L → m / L = v → (if 0 < v then A ++ (⟨(Lib.itoa v).toArray⟩ ++ u) else A) = A ++ ptB m L u := by
      intro m L v u A hm hL hv
      subst hv
      by_cases h : L ≤ m
      · have : 0 < m / L := by
          have := Int.ediv_le_ediv hL h
          rw [Int.ediv_self (by omega)] at this
          omega
        rw [if_pos this, ptB, if_pos h]
      · have : m / L = 0 := Int.ediv_eq_zero_of_lt hm (by omega)
        rw [if_neg (by omega), ptB, if_neg h, app_nil]
    obtain ⟨f, hf⟩ : ∃ f, partv (n / 86400000) (n / 3600000 % 24) (n / 60000 % 60) (n / 1000 % 60) (n % 1000) = f := ⟨_, rfl⟩
    have v0 : f 0 = n / 86400000 := by rw [← hf]; rfl
    have v1 : f 1 = n / 3600000 % 24 := by rw [← hf]; rfl
    have v2 : f 2 = n / 60000 % 60 := by rw [← hf]; rfl
    have v3 : f 3 = n / 1000 % 60 := by rw [← hf]; rfl
    have v4 : f 4 = n % 1000 := by rw [← hf]; rfl
    rw [hf]
    have a1 : accT f 1 = (⟨#[84, 35]⟩ : ByteArray) ++ ptB n 86400000 ⟨#[100]⟩ := by
      rw [accT]; exact pt n 86400000 (f 0) _ _ h0 (by omega) v0.symm
    have a2 : accT f 2 = accT f 1 ++ ptB (n % 86400000) 3600000 ⟨#[104]⟩ := by
      rw [accT]; exact pt (n % 86400000) 3600000 (f 1) _ _ (by omega) (by omega) (by rw [v1]; omega)
    have a3 : accT f 3 = accT f 2 ++ ptB (n % 86400000 % 3600000) 60000 ⟨#[109]⟩ := by
      rw [accT]; exact pt (n % 86400000 % 3600000) 60000 (f 2) _ _ (by omega) (by omega) (by rw [v2]; omega)
    have a4 : accT f 4 = accT f 3 ++ ptB (n % 86400000 % 3600000 % 60000) 1000 ⟨#[115]⟩ := by
      rw [accT]; exact pt (n % 86400000 % 3600000 % 60000) 1000 (f 3) _ _ (by omega) (by omega) (by rw [v3]; omega)
    have a5 : accT f 5 = accT f 4 ++ ptB (n % 86400000 % 3600000 % 60000 % 1000) 1 ⟨#[109, 115]⟩ := by
      rw [accT]; exact pt (n % 86400000 % 3600000 % 60000 % 1000) 1 (f 4) _ _ (by omega) (by omega) (by rw [v4]; omega)
    rw [a5, a4, a3, a2, a1]

set_option maxHeartbeats 1000000 in
theorem rshow_any (k n : Int) (w : World) :
    Calls Tryd.prog 8 #[.int .i64 k, .int .i64 n] w fun e w' => e = .returned (.string (showB k n)) ∧ Below w.heap.size w w' := by
  cases hf : fitsK k n with
  | false =>
    have e : showB k n = ⟨#[]⟩ := by rw [showB, if_neg (by rw [hf]; decide)]
    rw [e]
    clear e
    go_enter Tryd.func8, Tryd.ntmps8
    go_wp2_with (go_at_call 23; go_must (refine (rfits_any _ _ _).mono ?_; rintro e w' ⟨rfl, rfl⟩))
    go_ret
    exact ⟨rfl, Below.refl _ _⟩
  | true =>
    have hk : isK k = true := by
      simp only [fitsK, Bool.and_eq_true] at hf; exact hf.1
    have hk' : k = 1 ∨ k = 2 ∨ k = 3 ∨ k = 4 ∨ k = 5 := by
      simp only [isK, Bool.and_eq_true, decide_eq_true_eq] at hk; omega
    clear hk
    rcases hk' with rfl | rfl | rfl | rfl | rfl
    · have e : showB 1 n = if n = 0 then ⟨#[70, 65, 76, 83, 69]⟩ else ⟨#[84, 82, 85, 69]⟩ := by rw [showB, if_pos hf, if_pos rfl]
      rw [e]
      clear e
      by_cases hz : n = 0
      · rw [if_pos hz]
        go_enter Tryd.func8, Tryd.ntmps8
        go_wp2_with (go_at_call 23; go_must (refine (rfits_any _ _ _).mono ?_; rintro e w' ⟨rfl, rfl⟩))
        go_ret
        exact ⟨rfl, Below.refl _ _⟩
      · rw [if_neg hz]
        go_enter Tryd.func8, Tryd.ntmps8
        go_wp2_with (go_at_call 23; go_must (refine (rfits_any _ _ _).mono ?_; rintro e w' ⟨rfl, rfl⟩))
        go_ret
        exact ⟨rfl, Below.refl _ _⟩
    · have hb := kfits2 hf
      have e : Hid (showB 2 n = ⟨(Lib.itoa n).toArray⟩) := by
        show _ = _
        rw [showB, if_pos hf]; rfl
      have c := fun W => decimal_any n W (by omega) (by omega)
      go_enter Tryd.func8, Tryd.ntmps8
      go_wp2_with (first | (go_at_call 23; go_must (refine (rfits_any _ _ _).mono ?_; rintro e w' ⟨rfl, rfl⟩)) | (go_at_call 28; go_must (refine (c _).mono ?_; rintro e w1 ⟨rfl, hb1⟩)))
      go_ret
      exact ⟨by rw [e.out]; rfl, hb1⟩
    · have hb := kfits3 hf
      have e : Hid (showB 3 n = ⟨(Lib.itoa n).toArray⟩) := by
        show _ = _
        rw [showB, if_pos hf]; rfl
      have c := fun W => decimal_any n W (by omega) (by omega)
      go_enter Tryd.func8, Tryd.ntmps8
      go_wp2_with (first | (go_at_call 23; go_must (refine (rfits_any _ _ _).mono ?_; rintro e w' ⟨rfl, rfl⟩)) | (go_at_call 28; go_must (refine (c _).mono ?_; rintro e w1 ⟨rfl, hb1⟩)))
      go_ret
      exact ⟨by rw [e.out]; rfl, hb1⟩
    · exact (word_any n w hf).mono fun _ _ ⟨he, hw⟩ => ⟨he, hw ▸ Below.refl _ _⟩
    · have hb := kfits5 hf
      have e : showB 5 n = showT n := by rw [showB, if_pos hf]; rfl
      rw [e, ← acc_is n hb.1 hb.2]
      exact stime_any n _ _ _ _ _ w hf hb.1 hb.2 rfl rfl rfl rfl rfl
end Go.Proofs.YtelgiffhgkbpeaaDoor
