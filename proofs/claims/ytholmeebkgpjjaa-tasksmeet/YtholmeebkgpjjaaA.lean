/- Contracts: isWithin, dividedUp, mayBe, taken, reply, lookAt. -/
import Derived.Test.YtholmeebkgpjjaaB0
import Derived.Test.YtholmeebkgpjjaaPl
namespace Go.Proofs.Ytholmeebkgpjjaa
open Go.RowKit
attribute [local go_sem ↓] Go.wp_at_zero Go.wp_at_succ
set_option linter.unusedVariables false
set_option linter.unusedSimpArgs false

theorem ret_int {k : IntKind} {a b : Int} (h : a = b) : Ending.returned (.int k a) = .returned (.int k b) := by rw [h]
theorem i64_id {n : Int} (h0 : -9223372036854775808 ≤ n) (h1 : n ≤ 9223372036854775807) : IntKind.i64.wrap n = n := by rw [IntWalk.i64_left]; unfold wrap64; omega
theorem ret_bool {a b : Bool} (h : a = b) : Ending.returned (.bool a) = .returned (.bool b) := by rw [h]

def inB (n lo hi : Int) : Bool := decide (lo ≤ n ∧ n ≤ hi)
theorem within_any (n lo hi : Int) (w : World) : Calls Try.prog 27 #[.int .i64 n, .int .i64 lo, .int .i64 hi] w fun e w' => e = .returned (.bool (inB n lo hi)) ∧ w = w' := by
  by_cases h1 : lo ≤ n
  · by_cases h2 : n ≤ hi
    · go_enter Try.func27, Try.ntmps27
      go_wp2
      go_ret
      exact ⟨ret_bool (by simp [inB, h1, h2]), rfl⟩
    · go_enter Try.func27, Try.ntmps27
      go_wp2
      go_ret
      exact ⟨ret_bool (by simp [inB, h1, h2]), rfl⟩
  · go_enter Try.func27, Try.ntmps27
    go_wp2
    go_ret
    exact ⟨ret_bool (by unfold inB; simp; omega), rfl⟩

theorem div_any (n p : Int) (w : World) (h0 : 0 ≤ n) (h1 : n ≤ 1000000000000000) (h2 : 1 ≤ p) (h3 : p ≤ 1000000) : Calls Try.prog 43 #[.int .i64 n, .int .i64 p] w fun e w' => e = .returned (.int .i64 (up n p)) ∧ w = w' := by
  go_enter Try.func43, Try.ntmps43
  go_wp2
  go_ret
  exact ⟨ret_int (by unfold up; first | rfl | omega), rfl⟩

def tkV (t : Tk) : Value := .agg #[.string t.name, .int .i64 t.per, .int .i64 t.off, .int .i64 t.cost, .int .i64 t.dead]
def tkC (t : Tk) : Array Value := #[.string t.name, .int .i64 t.per, .int .i64 t.off, .int .i64 t.cost, .int .i64 t.dead]
theorem okB_is (t : Tk) : okB t = (inB t.per 1 1000000 && inB t.off 0 1000000 && inB t.cost 1 t.per && inB t.dead 1 t.per) := by
  unfold okB inB
  rw [Bool.eq_iff_iff]
  simp
  omega

set_option maxHeartbeats 1000000 in
theorem mayBe_any (t : Tk) (w : World) : Calls Try.prog 32 #[.agg #[.string t.name, .int .i64 t.per, .int .i64 t.off, .int .i64 t.cost, .int .i64 t.dead]] w fun e w' => e = .returned (.bool (okB t)) ∧ w' = w.alloc (.cells #[.string t.name, .int .i64 t.per, .int .i64 t.off, .int .i64 t.cost, .int .i64 t.dead] 42) := by
  rw [okB_is]
  cases h1 : inB t.per 1 1000000
  · go_enter Try.func32, Try.ntmps32
    go_wp2_with (go_at_call 27; refine (within_any _ _ _ _).mono ?_; rintro e w' ⟨rfl, rfl⟩)
    all_goals (go_ret; exact ⟨by simp, rfl⟩)
  cases h2 : inB t.off 0 1000000
  · go_enter Try.func32, Try.ntmps32
    go_wp2_with (go_at_call 27; refine (within_any _ _ _ _).mono ?_; rintro e w' ⟨rfl, rfl⟩)
    all_goals (go_ret; exact ⟨by simp, rfl⟩)
  cases h3 : inB t.cost 1 t.per
  · go_enter Try.func32, Try.ntmps32
    go_wp2_with (go_at_call 27; refine (within_any _ _ _ _).mono ?_; rintro e w' ⟨rfl, rfl⟩)
    all_goals (go_ret; exact ⟨by simp, rfl⟩)
  cases h4 : inB t.dead 1 t.per
  · go_enter Try.func32, Try.ntmps32
    go_wp2_with (go_at_call 27; refine (within_any _ _ _ _).mono ?_; rintro e w' ⟨rfl, rfl⟩)
    all_goals (go_ret; exact ⟨by simp, rfl⟩)
  · go_enter Try.func32, Try.ntmps32
    go_wp2_with (go_at_call 27; refine (within_any _ _ _ _).mono ?_; rintro e w' ⟨rfl, rfl⟩)
    all_goals (go_ret; exact ⟨by simp, rfl⟩)

/-- A list of tasks that can be read. -/
def TsAt (w : World) (v : Value) (l : List Tk) : Prop :=
  ∃ a cap, v = .slice a l.length cap ∧ l.length ≤ cap ∧ (l = [] ∨ ∃ b off, a = some ⟨b, off, none⟩ ∧ ∀ i, i < l.length → w.cell? ⟨b, off + i * 5, none⟩ = some (.string (l.getD i tk0).name) ∧ w.cell? ⟨b, off + i * 5 + 1, none⟩ = some (.int .i64 (l.getD i tk0).per) ∧ w.cell? ⟨b, off + i * 5 + 2, none⟩ = some (.int .i64 (l.getD i tk0).off) ∧ w.cell? ⟨b, off + i * 5 + 3, none⟩ = some (.int .i64 (l.getD i tk0).cost) ∧ w.cell? ⟨b, off + i * 5 + 4, none⟩ = some (.int .i64 (l.getD i tk0).dead))
theorem TsAt.grown {w w' : World} {v : Value} {l : List Tk} (h : TsAt w v l) (hg : w.grownBy w' none) : TsAt w' v l := by
  obtain ⟨a, cap, rfl, hcap, h | ⟨b, off, rfl, hc⟩⟩ := h
  · exact ⟨a, cap, rfl, hcap, .inl h⟩
  · exact ⟨_, cap, rfl, hcap, .inr ⟨b, off, rfl, fun i hi => ⟨hg.cell (hc i hi).1 (by simp), hg.cell (hc i hi).2.1 (by simp), hg.cell (hc i hi).2.2.1 (by simp), hg.cell (hc i hi).2.2.2.1 (by simp), hg.cell (hc i hi).2.2.2.2 (by simp)⟩⟩⟩
theorem TsAt.at {w : World} {v : Value} {l : List Tk} (h : TsAt w v l) (hl : 0 < l.length) : ∃ b off cap, v = .slice (some ⟨b, off, none⟩) l.length cap ∧ ∀ i, i < l.length → w.cell? ⟨b, off + i * 5, none⟩ = some (.string (l.getD i tk0).name) ∧ w.cell? ⟨b, off + i * 5 + 1, none⟩ = some (.int .i64 (l.getD i tk0).per) ∧ w.cell? ⟨b, off + i * 5 + 2, none⟩ = some (.int .i64 (l.getD i tk0).off) ∧ w.cell? ⟨b, off + i * 5 + 3, none⟩ = some (.int .i64 (l.getD i tk0).cost) ∧ w.cell? ⟨b, off + i * 5 + 4, none⟩ = some (.int .i64 (l.getD i tk0).dead) := by
  obtain ⟨a, cap, rfl, hcap, h | ⟨b, off, rfl, hc⟩⟩ := h
  · subst h; simp at hl
  · exact ⟨b, off, cap, rfl, hc⟩

set_option maxHeartbeats 1000000 in
theorem taken_any (l : List Tk) (r : Int) (v : Value) (w : World) (ho : Oks l) (hl : l.length ≤ 16) (h0 : 0 ≤ r) (h1 : r ≤ 1000000) (hv : TsAt w v l) :
    Calls Try.prog 33 #[v, .int .i64 r] w fun e w' => e = .returned (.int .i64 (taken l r)) ∧ w.grownBy w' none := by
  obtain ⟨a, cap, rfl, hcap, _⟩ := id hv
  go_enter Try.func33, Try.ntmps33
  go_wp2
  go_loopw [5, 10, 7] (fun s i _ wx => ∃ k : Nat, k ≤ l.length ∧ i = .int .i64 k ∧ s = .int .i64 (taken (l.take k) r) ∧ w.grownBy wx none) (fun _ i _ _ => l.length - (intOf i).toNat)
  case atStart => exact ⟨0, Nat.zero_le _, rfl, rfl, World.grownBy.refl _ _⟩
  case round =>
    obtain ⟨k, hk, rfl, rfl, hg⟩ := hrel
    by_cases hlt : k < l.length
    · obtain ⟨b, off, cap', he, hc⟩ := (hv.grown hg).at (by omega)
      injection he with e1 e2 e3
      subst e1 e3
      obtain ⟨c0, c1, c2, c3, c4⟩ := hc k hlt
      have hok := (ok_iff _).1 (ho.at k hlt)
      have hts := taken_take l k r hlt
      have htb := taken_bd (ho.take k) r h0 h1
      have hub := up_bd (n := r) (p := (l.getD k tk0).per) (by omega) h0
      have hpb := prod_bd (c := (l.getD k tk0).cost) (u := up r (l.getD k tk0).per) (by omega) (by omega) hub.1 (by omega)
      have hlen : ((l.take k).length : Int) ≤ 16 := by simp; omega
      clear hc
      generalize l.getD k tk0 = t at *
      generalize hT : taken (l.take k) r = T at *
      have HS : Hid (taken (l.take (k + 1)) r = T + t.cost * up r t.per) := hts
      clear hts hT
      go_wp2_with fail
      go_quiet ((go_at_call 43; exact Calls.quiet_of_same ((div_any _ _ _ (by omega) (by omega) (by omega) (by omega)).mono fun _ _ h => ⟨h.1, h.2.symm⟩)))
      go_wp2
      go_roundw
      case rel => exact ⟨k + 1, by omega, by go_num, by rw [HS.out], gr_drewN (gr_alloc hg _) _⟩
      case measure => simp [intOf]; omega
    · go_wp2
      go_ret
      exact ⟨ret_int (by rw [List.take_of_length_le (by omega)]), hg⟩

/-- What reply answers. -/
def RepIs (e : Ending) (o : Option Nat) : Prop := (∃ s : Nat, o = some s ∧ e = .returned (.tuple #[.int .i64 (s + 1), .bool true])) ∨ o = none ∧ e = .returned (.tuple #[.int .i64 0, .bool false])
set_option maxHeartbeats 1000000 in
theorem reply_any (t : Tk) (l : List Tk) (v : Value) (w : World) (ht : okB t = true) (ho : Oks l) (hl : l.length ≤ 16) (hv : TsAt w v l) :
    Calls Try.prog 25 #[.agg #[.string t.name, .int .i64 t.per, .int .i64 t.off, .int .i64 t.cost, .int .i64 t.dead], v] w fun e w' => RepIs e (lfp t.cost l t.dead.toNat) ∧ w.grownBy w' none := by
  obtain ⟨a, cap, rfl, hcap, _⟩ := id hv
  have hok := (ok_iff _).1 ht
  have h0 := Sought.cost ho (c := t.cost) (by omega) (by omega)
  go_enter Try.func25, Try.ntmps25
  go_wp2_with fail
  go_loopw [6, 7] (fun r _ wx => ∃ k : Int, r = .int .i64 k ∧ Sought t.cost l k ∧ (w.alloc (.cells #[.string t.name, .int .i64 t.per, .int .i64 t.off, .int .i64 t.cost, .int .i64 t.dead] 42)).grownBy wx none) (fun r _ _ => (1000001 - intOf r).toNat)
  case atStart => exact ⟨_, rfl, h0, World.grownBy.refl _ _⟩
  case round =>
    obtain ⟨k, rfl, hs, hg⟩ := hrel
    have hk1 : 1 ≤ k := hs.1
    have c3 : wr.cell? ⟨w.heap.size, 3, none⟩ = some (.int .i64 t.cost) := hg.cell (by rw [at_cell (heap_alloc_new w _) 3]; rfl) (by simp)
    have c4 : wr.cell? ⟨w.heap.size, 4, none⟩ = some (.int .i64 t.dead) := hg.cell (by rw [at_cell (heap_alloc_new w _) 4]; rfl) (by simp)
    have hgw : w.grownBy wr none := grown_join (gr_alloc (World.grownBy.refl _ _) _) hg (.inl rfl)
    by_cases hd : k ≤ t.dead
    · have htb := taken_bd ho k (by omega) (by omega)
      have hlen : (l.length : Int) ≤ 16 := by omega
      have cT : ∀ W, wr.grownBy W none → Calls Try.prog 33 #[.slice a l.length cap, .int .i64 k] W fun e w1 => e = .returned (.int .i64 (taken l k)) ∧ w1.cell? ⟨w.heap.size, 3, none⟩ = some (.int .i64 t.cost) ∧ wr.grownBy w1 none := fun W hW =>
        (taken_any l k _ W ho hl (by omega) (by omega) ((hv.grown hgw).grown hW)).mono fun e w1 h => ⟨h.1, h.2.cell (hW.cell c3 (by simp)) (by simp), grown_join hW h.2 (.inl rfl)⟩
      have HN := hs.next ho
      have HF := hs.found (D := t.dead.toNat)
      have hnd : need t.cost l k = t.cost + taken l k := rfl
      rw [hnd] at HN HF
      clear hnd
      generalize taken l k = T at *
      have HN' : Hid (t.cost + T ≠ k → Sought t.cost l (t.cost + T) ∧ k < t.cost + T) := HN
      have HF' : Hid (t.cost + T = k → k ≤ t.dead.toNat → lfp t.cost l t.dead.toNat = some (k - 1).toNat) := HF
      have HW : Hid (w.grownBy wr none) := hgw
      have HG := fun W (h : wr.grownBy W none) => grown_join hg h (.inl rfl)
      have HG' : Hid (∀ W, wr.grownBy W none → (w.alloc (.cells #[.string t.name, .int .i64 t.per, .int .i64 t.off, .int .i64 t.cost, .int .i64 t.dead] 42)).grownBy W none) := HG
      clear HN HF hgw HG hg hs h0 hv
      have hwr : IntKind.i64.wrap (t.cost + T) = t.cost + T := i64_id (by omega) (by omega)
      by_cases he : t.cost + T = k
      · have hb : (t.cost + T == k) = true := by simp [he]
        have hx := HF'.out he (by omega)
        have hx' : (((k - 1).toNat : Nat) : Int) + 1 = k := by omega
        have HX : Hid (RepIs (.returned (.tuple #[.int .i64 k, .bool true])) (lfp t.cost l t.dead.toNat)) := .inl ⟨_, hx, by rw [hx']⟩
        clear hx hx' he
        go_wp2_with fail
        go_region_held3 (fun w' => w'.cell? ⟨w.heap.size, 3, none⟩ = some (.int .i64 t.cost) ∧ wr.grownBy w' none) (refine ⟨?_, ?_⟩ <;> first | assumption | exact gr_drew (World.grownBy.refl _ _) | (go_keep; done)) (first | (go_at_call 33; refine (cT _ (by first | assumption | exact gr_drew (World.grownBy.refl _ _))).mono ?_; rintro e w1 ⟨rfl, k1, hg1⟩))
        go_wp2
        go_ret2
        exact ⟨HX.out, grown_join HW.out hg1 (.inl rfl)⟩
      · have hb : (t.cost + T == k) = false := by simp [he]
        obtain ⟨hn1, hn2⟩ := HN'.out he
        have HN1 : Hid (Sought t.cost l (t.cost + T)) := hn1
        clear hn1 he
        go_wp2_with fail
        go_region_held3 (fun w' => w'.cell? ⟨w.heap.size, 3, none⟩ = some (.int .i64 t.cost) ∧ wr.grownBy w' none) (refine ⟨?_, ?_⟩ <;> first | assumption | exact gr_drew (World.grownBy.refl _ _) | (go_keep; done)) (first | (go_at_call 33; refine (cT _ (by first | assumption | exact gr_drew (World.grownBy.refl _ _))).mono ?_; rintro e w1 ⟨rfl, k1, hg1⟩))
        go_wp2
        go_roundw
        case rel => exact ⟨_, rfl, HN1.out, HG'.out _ hg1⟩
        case measure => simp [intOf]; omega
    · have hover := hs.over (D := t.dead.toNat) (by omega)
      have HX : Hid (RepIs (.returned (.tuple #[.int .i64 0, .bool false])) (lfp t.cost l t.dead.toNat)) := .inr ⟨hover, rfl⟩
      clear hover
      go_wp2
      go_ret2
      exact ⟨HX.out, hgw⟩
end Go.Proofs.Ytholmeebkgpjjaa
