/- Frame, the document's. -/
import Derived.Test.YtaiicehifailhaaH
namespace Go.Proofs.Ytaiicehifailhaa
open Go.RowKit
attribute [local go_sem ↓] Go.wp_at_zero Go.wp_at_succ
set_option linter.unusedVariables false
set_option linter.unusedSimpArgs false

theorem step_append_run {P : Program} {w : World} {ops : Array Oper} {o : Oper} {a : Act} {K : Act → World → Prop} {Q : Exit → Act → World → Prop} {E : Prop} (hgd : o.guard = none) (s x : Operand) (t : TypeId)
    (ho : o.op = .call { callee := .builtin .append, args := #[s, x], argTypes := #[t, t] })
    (v u v' : Value) (w' : World) (hs : a.eval s = v) (hx : a.eval x = u) (hrun : (Builtin.append_ #[t, t] o.type #[v, u]).run P w = .ok v' w')
    (h : K (a.put o.dst v') w') : if Region.wanted o (yielded ops a.tmps) = true then Oper.wp P o a w K Q else E := by
  have hw : Region.wanted o (yielded ops a.tmps) = true := by simp [Region.wanted, hgd]
  rw [if_pos hw]
  unfold Oper.wp
  simp [execOp, ho, resolve, invoke, builtin, hs, hx, hrun, Result.andThen]
  exact h
theorem ownB_two {B : Nat} {w : World} {a : Option Addr} {cap : Nat} {l : List Nat} (h : OwnB B w a cap l) (g x y : Nat) (X Y : Int) (hX : X = (x : Int)) (hY : Y = (y : Int)) (hg : w.heap[g]? = some (.cells #[.int .u8 X, .int .u8 Y] 5)) (hl : l.length ≤ 1000000) (hB : B ≤ w.heap.size) :
    ∃ a' cap' w', (Builtin.append_ #[23, 23] 23 #[.slice a l.length cap, .slice (some ⟨g, 0, none⟩) 2 2]).run Try.prog w = .ok (.slice a' (l.length + 2) cap') w' ∧
      NewB B w w' (Value.slice a l.length cap).ownBlock a' cap' (l ++ [x, y]) := by
  subst hX hY
  obtain ⟨i0, hi, hz0, hz1, hz2⟩ := info_parts info5
  obtain ⟨v', w', r1, r2, r3, r4, r5⟩ := run_append_own_at (P := Try.prog) w B 23 23 5 i0 _ 1 1 Try.underlying23 hi hz0 hz1 hz2 rfl (by omega) _ _ _ h ⟨g, 0, none⟩ 2 2 [.int .u8 (x : Int), .int .u8 (y : Int)] rfl
    (fun j u hj => by
      rw [addn, at_cell hg _]
      simpa using hj)
    (by simp [Value.oneCell']) (by unfold maxLen; omega) (by omega) hB
  have r2' := r2
  obtain ⟨_, ⟨hx, hn⟩ | ⟨g', cap', cur, rfl, _⟩⟩ := r2'
  · omega
  · refine ⟨_, cap', w', r1, ?_, r3, ?_⟩
    · unfold OwnB
      rw [bV_app, List.length_append]
      exact r2
    · rcases r5 with h5 | h5
      · exact .inl h5
      · right
        intro y hy
        have : some y = some w.heap.size := hy.symm.trans h5
        simp at this
        omega
theorem NewB.base {B : Nat} {w w' w0 : World} {r : Option Nat} {a : Option Addr} {cap : Nat} {l : List Nat} (h : NewB B w w' r a cap l) (hg : w0.grownBy w none) (hr : ∀ y, r = some y → w0.heap.size ≤ y) : w0.grownBy w' none := grown_join hg h.2.1 (.inr hr)
set_option maxRecDepth 10000 in
set_option maxHeartbeats 1000000 in
theorem refFrame_any (st sq : Int) (ls : List Int) (u : Value) (w : World) (hu : rd w u ls) : Calls Try.prog 9 #[.int .i64 st, .int .i64 sq, u] w fun e w' => FrP w w' e (frameS st sq ls) (frameE st sq ls) := by
  have cL := spelt_any ls u w hu
  obtain ⟨a, cap, rfl, ha⟩ := id hu
  by_cases h1 : 0 ≤ st ∧ st ≤ 247 ∧ 0 ≤ sq ∧ sq ≤ 255
  case neg =>
    have hE : frameE st sq ls = 3 := by
      unfold frameE
      rw [if_neg]
      rw [Bool.and_eq_true, wi_iff, wi_iff]
      omega
    have h5 : st < 0 ∨ (¬ st < 0 ∧ 247 < st) ∨ (¬ st < 0 ∧ ¬ 247 < st ∧ sq < 0) ∨ (¬ st < 0 ∧ ¬ 247 < st ∧ ¬ sq < 0 ∧ 255 < sq) := by omega
    have HE3 : Hid (_ = _) := hE
    clear h1 hE
    rcases h5 with h5 | ⟨h5, h6⟩ | ⟨h5, h6, h7⟩ | ⟨h5, h6, h7, h8⟩
    all_goals (
      go_enter Try.func9, Try.ntmps9
      go_wp2
      go_ret2
      exact FrP.no 3 HE3.out (by omega) rfl (World.grownBy.refl _ _))
  obtain ⟨s1, s2, s3, s4⟩ := h1
  have t1 : ¬ st < 0 := by omega
  have t2 : ¬ 247 < st := by omega
  have t3 : ¬ sq < 0 := by omega
  have t4 : ¬ 255 < sq := by omega
  have hE : frameE st sq ls = lookE ls := by unfold frameE; rw [wi_yes s1 s2, wi_yes s3 s4]; rfl
  by_cases h3 : lookE ls = 0
  case neg =>
    go_enter Try.func9, Try.ntmps9
    go_wp2_with fail
    refine cL.mono ?_
    rintro e w' ⟨rfl, rfl⟩
    have HE : Hid (_ = _) := hE
    generalize lookE ls = E at *
    have i3 : ¬ ((E : Int) = 0) := by omega
    clear hE
    go_wp2
    go_ret2
    exact FrP.no E HE.out h3 rfl (World.grownBy.refl _ _)
  rw [h3] at cL
  have HE : Hid (frameE st sq ls = 0) := hidI (by rw [hE, h3])
  have hn60 : ls.length ≤ 60 := by
    unfold lookE at h3
    split at h3 <;> omega
  have hok : ls.all okW = true := by
    unfold lookE at h3
    rw [if_neg (by omega)] at h3
    cases hh : ls.all okW with
    | true => rfl
    | false => rw [hh] at h3; simp at h3
  have HOK : Hid (∀ x ∈ ls, 0 ≤ x ∧ x ≤ 65535) := hidI (fun x hx => wi_iff.1 (List.all_eq_true.1 hok x hx))
  have HA : Hid (ls = [] ∨ ∃ b off, a = some ⟨b, off, none⟩ ∧ ∀ i, i < ls.length → w.cell? ⟨b, off + i, none⟩ = some (.int .i64 (ls.getD i 0))) := ha
  obtain ⟨n, hn⟩ : ∃ n, ls.length = n := ⟨_, rfl⟩
  have HN : Hid (ls.length = n) := hn
  rw [hn] at cL hn60 ⊢
  clear hE h3 hn hu ha hok
  have u1 := by8_wrap st
  have u2 := by8_wrap sq
  have u3 := by8_wrap (n : Int)
  have v1 := by8_is st
  have v2 := by8_is sq
  have v3 := by8_is (n : Int)
  obtain ⟨b1, hb1⟩ : ∃ b, by8 st = b := ⟨_, rfl⟩
  obtain ⟨b2, hb2⟩ : ∃ b, by8 sq = b := ⟨_, rfl⟩
  obtain ⟨b3, hb3⟩ : ∃ b, by8 (n : Int) = b := ⟨_, rfl⟩
  have HB : Hid (by8 st = b1 ∧ by8 sq = b2 ∧ by8 (n : Int) = b3) := hidI ⟨hb1, hb2, hb3⟩
  rw [hb1] at u1 v1
  rw [hb2] at u2 v2
  rw [hb3] at u3 v3
  clear hb1 hb2 hb3
  have HS : Hid (NewB w.heap.size w (w.alloc (.cells #[.int .u8 (b1 : Int), .int .u8 (b2 : Int), .int .u8 (b3 : Int)] 5)) none (some ⟨w.heap.size, 0, none⟩) 3 ([b1, b2, b3] ++ pairB (ls.take 0))) := hidI
    ⟨⟨rfl, .inr ⟨w.heap.size, 3, _, rfl, Nat.le_refl _, heap_alloc_new w _, Nat.le_refl _, by unfold maxLen; omega, rfl, rfl⟩⟩, gr_alloc (World.grownBy.refl _ _) _, .inr fun y hy => by simp [Value.ownBlock] at hy; omega⟩
  go_enter Try.func9, Try.ntmps9
  go_wp2_with fail
  refine cL.mono ?_
  rintro e w' ⟨rfl, rfl⟩
  go_wp2_with fail
  clear u1 u2 u3 v1 v2 v3
  go_loopg [9, 10] n (fun gk s9 s10 wx => ∃ (k : Nat) (a' : Option Addr) (cap' : Nat), s10 = .int .i64 k ∧ s9 = .slice a' (3 + 2 * k) cap' ∧ k ≤ n ∧ gk = n - k ∧ Hid (NewB w.heap.size w wx none a' cap' ([b1, b2, b3] ++ pairB (ls.take k))))
  case atStart => exact ⟨0, _, _, rfl, rfl, Nat.zero_le _, by omega, HS⟩
  case round =>
    obtain ⟨k, a', cap', rfl, rfl, hk, hgk, HK⟩ := hrel
    have HG : Hid (gk = n - k) := hgk
    clear hgk
    by_cases hlt : k < n
    · have hkl : k < ls.length := by rw [HN.out]; exact hlt
      obtain ⟨h1, h2, h3⟩ := HK.out
      have hlen : ([b1, b2, b3] ++ pairB (ls.take k)).length = 3 + 2 * k := by simp [pairB_len]; omega
      rcases HA.out with h | ⟨b, off, rfl, hc⟩
      · subst h; simp at hkl
      have q0 := h2.cell (hc k hkl) (by simp)
      have hT : ls.take (k + 1) = ls.take k ++ [ls.getD k 0] := by
        rw [List.take_add_one]
        simp [List.getD, hkl]
      have hx := HOK.out (ls.getD k 0) (by
        have : ls.getD k 0 = ls[k] := by simp [List.getD, hkl]
        rw [this]
        exact List.getElem_mem _)
      have HT : Hid (_ = _) := hT
      have hbw : b < w.heap.size := by have := World.block_lt_of_cell? w _ (hc k hkl); simpa using this
      have hsz := h2.size
      obtain ⟨x, hxx⟩ : ∃ x, ls.getD k 0 = x := ⟨_, rfl⟩
      rw [hxx] at HT q0 hx
      have m1 : IntKind.u8.wrap (x.tmod 256) = ((by8 x : Nat) : Int) := by rw [Int.tmod_eq_emod_of_nonneg hx.1, by8_wrap]; unfold by8; omega
      have m2 : IntKind.u8.wrap (x.tdiv 256) = ((by8 (x / 256) : Nat) : Int) := by rw [Int.tdiv_eq_ediv_of_nonneg hx.1, by8_wrap]
      have m0 : IntKind.i64.wrap (x.tdiv 256) = x.tdiv 256 := by rw [Int.tdiv_eq_ediv_of_nonneg hx.1]; exact i64_id (by omega) (by omega)
      obtain ⟨y1, hy1⟩ : ∃ y, by8 x = y := ⟨_, rfl⟩
      obtain ⟨y2, hy2⟩ : ∃ y, by8 (x / 256) = y := ⟨_, rfl⟩
      rw [hy1] at m1
      rw [hy2] at m2
      have hlt1 := World.ownsRow.lt h1
      obtain ⟨a2, cap2, w5, hrun, hnew⟩ := ownB_two (w := (wr.alloc (.cells #[.int .u8 (y1 : Int), .int .u8 (y2 : Int)] 5)).drew) (own_keep h1 (gr_drew (gr_alloc (World.grownBy.refl _ _) _))) wr.heap.size y1 y2 y1 y2 rfl rfl (heap_alloc_new wr _) (by omega) (by show _ ≤ (wr.alloc _).heap.size; simp; omega)
      rw [hlen] at hrun
      have HRUN : Hid (_ = _) := hrun
      have HNEW : Hid (NewB w.heap.size w w5 none a2 cap2 ([b1, b2, b3] ++ pairB (ls.take (k + 1)))) := hidI (by
        rw [HT.out, pairB_app, ← List.append_assoc]
        have := newB_join (r := none) (gr_drew (gr_alloc h2 _)) (.inr fun y hy => (hlt1 y hy).1) hnew
        simpa [pairB, hy1, hy2] using this)
      have HKP : Hid (w5.cell? ⟨b, off + k, none⟩ = some (.int .i64 x)) := hidI (HNEW.out.2.1.cell (by rw [← hxx]; exact hc k hkl) (by simp))
      clear hc hkl hT h1 h2 h3 hrun hnew hlen hlt1 hxx hy1 hy2
      have i1 : (0 : Int) ≤ (k : Int) := by omega
      have i2 : (k : Int) < (n : Int) := by omega
      go_wp2_with fail
      go_region_held3 (fun w' => w'.cell? ⟨b, off + k, none⟩ = some (.int .i64 x)) (first | (go_keep; done) | exact HKP.out) (first | (refine step_append_run (by rfl) _ _ 23 (by rfl) _ _ _ w5 (by rfl) (by rfl) HRUN.out ?_))
      go_wp2
      have hgl := HG.out
      go_roundg (n - (k + 1))
      all_goals first | omega | exact ⟨k + 1, a2, cap2, by go_num, by simp; omega, by omega, by omega, HNEW⟩
    · have hk' : ¬ ((k : Int) < (n : Int)) := by omega
      have hkn : ls.take k = ls := List.take_of_length_le (by rw [HN.out]; omega)
      have hk2 : k = n := by omega
      rw [hkn] at HK
      subst hk2
      have hH : [b1, b2, b3] ++ pairB ls = headF st sq ls := by unfold headF; rw [HN.out, HB.out.1, HB.out.2.1, HB.out.2.2]
      rw [hH] at HK
      have hHl := headF_len st sq ls
      rw [HN.out] at hHl
      obtain ⟨h1, h2, h3⟩ := HK.out
      have cC := crc_any _ _ wr (headF_B st sq ls) h1.rd (by rw [hHl]; unfold maxLen; omega)
      have hCl := crc_lt (headF_B st sq ls)
      obtain ⟨C, hC⟩ : ∃ C : Nat, crc (headF st sq ls) = C := ⟨_, rfl⟩
      have HC : Hid (crc (headF st sq ls) = C) := hC
      rw [hC] at cC hCl
      rw [hHl] at cC
      obtain ⟨y1, hy1⟩ : ∃ y, by8 C = y := ⟨_, rfl⟩
      obtain ⟨y2, hy2⟩ : ∃ y, by8 ((C : Int) / 256) = y := ⟨_, rfl⟩
      have hlt1 := World.ownsRow.lt h1
      have hsz := h2.size
      obtain ⟨a2, cap2, w5, hrun, hnew⟩ := ownB_two (w := (wr.alloc (.cells #[.int .u8 ((C : Int) % 256), .int .u8 ((C : Int) / 256)] 5))) (own_keep h1 (gr_alloc (World.grownBy.refl _ _) _)) wr.heap.size y1 y2 ((C : Int) % 256) ((C : Int) / 256) (by rw [← hy1]; exact by8_is _) (by rw [← hy2]; unfold by8; omega) (heap_alloc_new wr _) (by omega) (by simp; omega)
      rw [hHl] at hrun
      have HRUN : Hid (_ = _) := hrun
      have HNEW : Hid (NewB w.heap.size w w5 none a2 cap2 (headF st sq ls ++ pairB [(C : Int)])) := hidI (by
        have := newB_join (r := none) (gr_alloc h2 _) (.inr fun y hy => (hlt1 y hy).1) hnew
        simpa [pairB, hy1, hy2] using this)
      clear h1 h2 h3 hrun hnew hlt1 hC hy1 hy2 hH
      go_wp2_with fail
      refine cC.mono ?_
      rintro e w' ⟨rfl, rfl⟩
      go_wp2_with (first | (at_builtin; refine hidG ?_))
      refine hidI ?_
      refine wpList_append_run rfl _ _ 23 rfl _ _ _ w5 rfl rfl HRUN.out ?_
      go_wp2
      go_ret2
      have hS : frameS st sq ls = headF st sq ls ++ pairB [(C : Int)] := by unfold frameS; rw [if_pos HE.out, HC.out]
      rw [hS, HE.out]
      exact ⟨a2, cap2, by rw [List.length_append, hHl]; rfl, HNEW.out.1, HNEW.out.2.1⟩
end Go.Proofs.Ytaiicehifailhaa
