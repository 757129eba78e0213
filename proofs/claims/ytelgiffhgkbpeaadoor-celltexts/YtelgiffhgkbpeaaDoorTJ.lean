/- Contracts of showTime and Show. -/
import Derived.Test.YtelgiffhgkbpeaaDoorTI
namespace Go.Proofs.YtelgiffhgkbpeaaDoor
open Go.RowKit

theorem app_nil (t : ByteArray) : t ++ (⟨#[]⟩ : ByteArray) = t := by
  apply ByteArray.ext
  rw [ByteArray.data_append]
  simp

theorem spart_no (B : Nat) (n L : Int) (u t : ByteArray) (w : World) (h : ShowAt B n t w) (hn : n < L) (hn0 : 0 ≤ n) :
    Calls Tryd.prog 46 #[.int .i64 L, .string u, .pointer (some ⟨B, 0, none⟩), .pointer (some ⟨B + 1, 0, none⟩)] w fun e w' =>
      e = .returned (.tuple #[]) ∧ Below B w w' ∧ ShowAt B (n % L) t w' := by
  have hsh := h
  obtain ⟨n0, nf⟩ := one_cell h.n
  have hmod : n.tmod L = n % L := Int.tmod_eq_emod_of_nonneg (by omega)
  clear h
  go_enter Tryd.func46, Tryd.ntmps46
  go_wp2
  go_end0
  exact ⟨rfl, (Below.refl B w).setCell (Nat.le_refl _) _, one_set hsh.n, set_other (by omega) hsh.t⟩

theorem spart_any (B : Nat) (n L : Int) (u t : ByteArray) (w : World) (hT : Tabs w) (h : ShowAt B n t w) (hL : 0 < L) (hn0 : 0 ≤ n) (hn1 : n ≤ 4294967295) (hu : u.size ≤ 2) (ht : t.size ≤ 1000000000000) :
    Calls Tryd.prog 46 #[.int .i64 L, .string u, .pointer (some ⟨B, 0, none⟩), .pointer (some ⟨B + 1, 0, none⟩)] w fun e w' =>
      e = .returned (.tuple #[]) ∧ Below B w w' ∧ ShowAt B (n % L) (t ++ ptB n L u) w' := by
  by_cases hn : L ≤ n
  · have e : ptB n L u = ⟨(Lib.itoa (n / L)).toArray⟩ ++ u := by rw [ptB, if_pos hn]
    rw [e]; exact spart_yes B n L u t w hT h hn hL hn1 hu ht
  · have e : ptB n L u = ⟨#[]⟩ := by rw [ptB, if_neg hn]
    rw [e, app_nil]; exact spart_no B n L u t w h (by omega) hn0
theorem ptB_size (n L : Int) (u : ByteArray) (hL : 0 < L) (hn0 : 0 ≤ n) (hn1 : n ≤ 4294967295) (hu : u.size ≤ 2) : (ptB n L u).size ≤ 4294967298 := by
  unfold ptB
  split
  · rw [ByteArray.size_append]
    have hq1 : n / L ≤ n := Int.ediv_le_self _ (by omega)
    have := itoa_size (n / L) (Int.ediv_nonneg hn0 (by omega)) (by omega)
    omega
  · show 0 ≤ _; omega

/-- The text of a time. -/
def showT (n : Int) : ByteArray :=
  if n = 0 then ⟨#[84, 35, 48, 109, 115]⟩ else
  (((((⟨#[84, 35]⟩ : ByteArray) ++ ptB n 86400000 ⟨#[100]⟩) ++ ptB (n % 86400000) 3600000 ⟨#[104]⟩) ++ ptB (n % 86400000 % 3600000) 60000 ⟨#[109]⟩) ++ ptB (n % 86400000 % 3600000 % 60000) 1000 ⟨#[115]⟩) ++ ptB (n % 86400000 % 3600000 % 60000 % 1000) 1 ⟨#[109, 115]⟩

theorem show_start (w : World) (n : Int) : ShowAt w.heap.size n ⟨#[84, 35]⟩ ((w.alloc (oneO (.int .i64 n) 3)).alloc (oneO (.string ⟨#[84, 35]⟩) 9)) ∧
    Below w.heap.size w ((w.alloc (oneO (.int .i64 n) 3)).alloc (oneO (.string ⟨#[84, 35]⟩) 9)) := by
  have e1 : (w.alloc (oneO (.int .i64 n) 3)).heap.size = w.heap.size + 1 := by simp
  have n1 := heap_alloc_new w (oneO (.int .i64 n) 3)
  have n2 := heap_alloc_new (w.alloc (oneO (.int .i64 n) 3)) (oneO (.string ⟨#[84, 35]⟩) 9)
  rw [e1] at n2
  exact ⟨⟨(Below.heap_alloc _ _ _ (by omega)).trans n1, n2⟩, ((Below.refl _ w).alloc (Nat.le_refl _) _).alloc (by omega) _⟩

set_option maxHeartbeats 2000000 in
theorem showTime_any (n : Int) (w : World) (hT : Tabs w) (h0 : 0 ≤ n) (h1 : n ≤ 4294967295) :
    Calls Tryd.prog 26 #[.int .i64 n] w fun e w' => e = .returned (.string (showT n)) ∧ Below w.heap.size w w' := by
  by_cases hz : n = 0
  · subst hz
    go_enter Tryd.func26, Tryd.ntmps26
    go_wp2
    go_ret
    exact ⟨rfl, (Below.refl _ w).alloc (Nat.le_refl _) _⟩
  · have e : Hid (showT n = (((((⟨#[84, 35]⟩ : ByteArray) ++ ptB n 86400000 ⟨#[100]⟩) ++ ptB (n % 86400000) 3600000 ⟨#[104]⟩) ++ ptB (n % 86400000 % 3600000) 60000 ⟨#[109]⟩) ++ ptB (n % 86400000 % 3600000 % 60000) 1000 ⟨#[115]⟩) ++ ptB (n % 86400000 % 3600000 % 60000 % 1000) 1 ⟨#[109, 115]⟩) := by
      show _ = _
      rw [showT, if_neg hz]
    obtain ⟨hs, hb⟩ := show_start w n
    have z1 := ptB_size n 86400000 ⟨#[100]⟩ (by omega) h0 h1 (by decide)
    have c1 := fun W hT h => spart_any w.heap.size n 86400000 ⟨#[100]⟩ ⟨#[84, 35]⟩ W hT h (by omega) h0 h1 (by decide) (by decide)
    obtain ⟨t1, ht1⟩ : ∃ t1, (⟨#[84, 35]⟩ : ByteArray) ++ ptB n 86400000 ⟨#[100]⟩ = t1 := ⟨_, rfl⟩
    have y1 : t1.size ≤ 5000000000 := by rw [← ht1, ByteArray.size_append]; show 2 + _ ≤ _; omega
    rw [ht1] at e c1
    obtain ⟨m1, hm1⟩ : ∃ m1, n % 86400000 = m1 := ⟨_, rfl⟩
    have x1 : 0 ≤ m1 ∧ m1 ≤ 4294967295 := by omega
    rw [hm1] at e c1
    have z2 := ptB_size m1 3600000 ⟨#[104]⟩ (by omega) x1.1 x1.2 (by decide)
    have c2 := fun W hT h => spart_any w.heap.size m1 3600000 ⟨#[104]⟩ t1 W hT h (by omega) x1.1 x1.2 (by decide) (by omega)
    obtain ⟨t2, ht2⟩ : ∃ t2, t1 ++ ptB m1 3600000 ⟨#[104]⟩ = t2 := ⟨_, rfl⟩
    have y2 : t2.size ≤ 10000000000 := by rw [← ht2, ByteArray.size_append]; omega
    rw [ht2] at e c2
    obtain ⟨m2, hm2⟩ : ∃ m2, m1 % 3600000 = m2 := ⟨_, rfl⟩
    have x2 : 0 ≤ m2 ∧ m2 ≤ 4294967295 := by omega
    rw [hm2] at e c2
    have z3 := ptB_size m2 60000 ⟨#[109]⟩ (by omega) x2.1 x2.2 (by decide)
    have c3 := fun W hT h => spart_any w.heap.size m2 60000 ⟨#[109]⟩ t2 W hT h (by omega) x2.1 x2.2 (by decide) (by omega)
    obtain ⟨t3, ht3⟩ : ∃ t3, t2 ++ ptB m2 60000 ⟨#[109]⟩ = t3 := ⟨_, rfl⟩
    have y3 : t3.size ≤ 15000000000 := by rw [← ht3, ByteArray.size_append]; omega
    rw [ht3] at e c3
    obtain ⟨m3, hm3⟩ : ∃ m3, m2 % 60000 = m3 := ⟨_, rfl⟩
    have x3 : 0 ≤ m3 ∧ m3 ≤ 4294967295 := by omega
    rw [hm3] at e c3
    have z4 := ptB_size m3 1000 ⟨#[115]⟩ (by omega) x3.1 x3.2 (by decide)
    have c4 := fun W hT h => spart_any w.heap.size m3 1000 ⟨#[115]⟩ t3 W hT h (by omega) x3.1 x3.2 (by decide) (by omega)
    obtain ⟨t4, ht4⟩ : ∃ t4, t3 ++ ptB m3 1000 ⟨#[115]⟩ = t4 := ⟨_, rfl⟩
    have y4 : t4.size ≤ 20000000000 := by rw [← ht4, ByteArray.size_append]; omega
    rw [ht4] at e c4
    obtain ⟨m4, hm4⟩ : ∃ m4, m3 % 1000 = m4 := ⟨_, rfl⟩
    have x4 : 0 ≤ m4 ∧ m4 ≤ 4294967295 := by omega
    rw [hm4] at e c4
    have c5 := fun W hT h => spart_any w.heap.size m4 1 ⟨#[109, 115]⟩ t4 W hT h (by omega) x4.1 x4.2 (by decide) (by omega)
    obtain ⟨t5, ht5⟩ : ∃ t5, t4 ++ ptB m4 1 ⟨#[109, 115]⟩ = t5 := ⟨_, rfl⟩
    rw [ht5] at e c5
    clear ht1 ht2 ht3 ht4 ht5 hm1 hm2 hm3 hm4 z1 z2 z3 z4 y1 y2 y3 y4 x1 x2 x3 x4
    have HS : Hid (ShowAt w.heap.size n ⟨#[84, 35]⟩ ((w.alloc (oneO (.int .i64 n) 3)).alloc (oneO (.string ⟨#[84, 35]⟩) 9))) := hs
    have HB : Hid (Below w.heap.size w ((w.alloc (oneO (.int .i64 n) 3)).alloc (oneO (.string ⟨#[84, 35]⟩) 9))) := hb
    clear hs hb
    go_enter Tryd.func26, Tryd.ntmps26
    go_wp2_with fail
    refine (c1 _ (hT.below HB.out) HS.out).mono ?_
    rintro e1 w1 ⟨rfl, k1, s1⟩
    have b1 := HB.out.trans k1
    clear HS HB k1
    go_wp2_with fail
    refine (c2 _ (hT.below b1) s1).mono ?_
    rintro e1 w2 ⟨rfl, k2, s2⟩
    have b2 := b1.trans k2
    clear b1 s1 k2
    go_wp2_with fail
    refine (c3 _ (hT.below b2) s2).mono ?_
    rintro e1 w3 ⟨rfl, k3, s3⟩
    have b3 := b2.trans k3
    clear b2 s2 k3
    go_wp2_with fail
    refine (c4 _ (hT.below b3) s3).mono ?_
    rintro e1 w4 ⟨rfl, k4, s4⟩
    have b4 := b3.trans k4
    clear b3 s3 k4
    go_wp2_with fail
    refine (c5 _ (hT.below b4) s4).mono ?_
    rintro e1 w5 ⟨rfl, k5, s5⟩
    have b5 := b4.trans k5
    clear b4 s4 k5
    obtain ⟨q0, qf⟩ := one_cell s5.t
    go_wp2
    go_ret
    exact ⟨by rw [e.out]; rfl, b5⟩
end Go.Proofs.YtelgiffhgkbpeaaDoor
