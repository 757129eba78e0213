/- Texts put together: BlT3v. -/
import Derived.Test.YtcgbfhpmkpglkaaGreatDoorQ31
import Derived.Deep.DeepCutAuto
set_option linter.unusedVariables false
set_option linter.unusedSimpArgs false
set_option maxHeartbeats 8000000
namespace Go.Proofs.YtcgbfhpmkpglkaaGreatDoor.Bl
open Go.RowKit
attribute [local go_sem ↓] Go.wp_at_zero Go.wp_at_succ
def k1_ (r ld n pv:Int) (up down:Bool):Int:=if r=1 then 0 else if ld=1 then pv else if up=true∧down=false then qk_ n else if down=true∧up=false then ql_ n else n
theorem ard_ (u d n cu cd r ld pv:Int) (h_u:u=0∨u=1) (h_d:d=0∨d=1) (h_cu:cu=0∨cu=1) (h_cd:cd=0∨cd=1) (h_r:r=0∨r=1) (h_ld:ld=0∨ld=1) (v:Int) (hv:v=k1_ r ld n pv (decide (cu=1) && decide (u=0)) (decide (cd=1) && decide (d=0))) :
 yn_ [u,d,n] [cu,cd,r,ld,pv] 0=([cu,cd,v],[x1_ (decide (pv≤v)),x1_ (decide (v≤0)),v]):=by
 subst hv;rcases h_r with rfl|rfl
 · rcases h_ld with rfl|rfl
   ·rcases h_cu with rfl|rfl <;> rcases h_cd with rfl|rfl <;> rcases h_u with rfl|rfl <;> rcases h_d with rfl|rfl <;> simp[yn_,udN,k1_]
   ·simp[yn_,k1_,x1_]
 ·simp[yn_,k1_,x1_]
set_option maxRecDepth 10000 in
theorem aem_ (b c:Nat) (u d n cu cd r ld pv:Int) (w:World) (h_u:u=0∨u=1) (h_d:d=0∨d=1) (h_n : -32768≤n∧n≤32767) (h_cu:cu=0∨cu=1) (h_cd:cd=0∨cd=1) (h_r:r=0∨r=1) (h_ld:ld=0∨ld=1) (h_pv : -32768≤pv∧pv≤32767) (hb:w.heap[b]?=some (.cells (xi_ [u,d,n]) 3)) (hc:w.heap[c]?=some (.cells (xi_ [cu,cd,r,ld,pv]) 3)) :
 Calls Tryz.prog 67 #[.string ze_,.slice (some ⟨b,0,none⟩) 3 3,.slice (some ⟨c,0,none⟩) 5 5] w (zf_ 3 3 (yn_ [u,d,n] [cu,cd,r,ld,pv] 0) w):=by
 obtain⟨up,hup⟩:∃ q,(decide (cu=1) && decide (u=0))=q:=⟨_,rfl⟩;obtain⟨down,hdown⟩:∃ q,(decide (cd=1) && decide (d=0))=q:=⟨_,rfl⟩;obtain⟨v,hv⟩:∃ v,v=k1_ r ld n pv up down:=⟨_,rfl⟩;rw[ard_ u d n cu cd r ld pv h_u h_d h_cu h_cd h_r h_ld v (by rw[hup,hdown];exact hv)];have HUP:=hd_ hup;have HDN:=hd_ hdown;have HV:=hd_ hv;clear hup hdown hv;have d0:=xa_ hb 0;have d1:=xa_ hb 1;have d2:=xa_ hb 2;have e0:=xa_ hc 0;have e1:=xa_ hc 1;have e2:=xa_ hc 2;have e3:=xa_ hc 3;have e4:=xa_ hc 4;simp[xi_] at d0 d1 d2 e0 e1 e2 e3 e4;have lb:=xg_ hb;have lc:=xg_ hc;clear hb hc;unfold ze_;go_enter Tryz.func67,Tryz.ntmps67;go_upto_region 3 with fail;go_cut [9,10] (fun s9 s10 wx=>s9=.bool up∧s10=.bool down∧∃ k,wx=w.drewN k)
 case first=>
  rcases h_cu with rfl|rfl
  · skip
    rcases h_cd with rfl|rfl
    · skip
      go_quiet (fail)
      go_wp2_with fail
      go_meet
      exact⟨by rw[← HUP.out];rfl,by rw[← HDN.out];rfl,_,rfl⟩
    · rcases h_d with rfl|rfl
      · skip
        go_quiet (fail)
        go_wp2_with fail
        go_meet
        exact⟨by rw[← HUP.out];rfl,by rw[← HDN.out];rfl,_,rfl⟩
      · skip
        go_quiet (fail)
        go_wp2_with fail
        go_meet
        exact⟨by rw[← HUP.out];rfl,by rw[← HDN.out];rfl,_,rfl⟩
  · rcases h_u with rfl|rfl
    · skip
      rcases h_cd with rfl|rfl
      · skip
        go_quiet (fail)
        go_wp2_with fail
        go_meet
        exact⟨by rw[← HUP.out];rfl,by rw[← HDN.out];rfl,_,rfl⟩
      · rcases h_d with rfl|rfl
        · skip
          go_quiet (fail)
          go_wp2_with fail
          go_meet
          exact⟨by rw[← HUP.out];rfl,by rw[← HDN.out];rfl,_,rfl⟩
        · skip
          go_quiet (fail)
          go_wp2_with fail
          go_meet
          exact⟨by rw[← HUP.out];rfl,by rw[← HDN.out];rfl,_,rfl⟩
    · skip
      rcases h_cd with rfl|rfl
      · skip
        go_quiet (fail)
        go_wp2_with fail
        go_meet
        exact⟨by rw[← HUP.out];rfl,by rw[← HDN.out];rfl,_,rfl⟩
      · rcases h_d with rfl|rfl
        · skip
          go_quiet (fail)
          go_wp2_with fail
          go_meet
          exact⟨by rw[← HUP.out];rfl,by rw[← HDN.out];rfl,_,rfl⟩
        · skip
          go_quiet (fail)
          go_wp2_with fail
          go_meet
          exact⟨by rw[← HUP.out];rfl,by rw[← HDN.out];rfl,_,rfl⟩
 case rest=>
  obtain⟨rfl,rfl,kq,rfl⟩:=hcut;have e0:=aaz_ (n:=kq) e0;have e1:=aaz_ (n:=kq) e1;have e2:=aaz_ (n:=kq) e2;have e3:=aaz_ (n:=kq) e3;have e4:=aaz_ (n:=kq) e4;clear d0 d1 d2;rcases h_r with rfl|rfl
  · rcases h_ld with rfl|rfl
    · cases up
      · cases down
        · skip
          obtain rfl:v=n:=(by rw[HV.out];simp[k1_]);clear HV;go_wp2_with fail
          go_region_held3 (fun w'=>w'.cell? ⟨c,0,none⟩=some (.int .i64 cu)∧w'.cell? ⟨c,1,none⟩=some (.int .i64 cd)∧w'.cell? ⟨c,2,none⟩=some (.int .i64 0)∧w'.cell? ⟨c,3,none⟩=some (.int .i64 0)∧w'.cell? ⟨c,4,none⟩=some (.int .i64 pv)) (refine⟨?_,?_,?_,?_,?_⟩ <;> (exact k5_)) (first|(go_at_call 28;refine(xl_ _ _).mono ?_;rintro e w' ⟨rfl,rfl⟩))
          all_goals go_wp2_with (go_at_call 28;refine(xl_ _ _).mono ?_;rintro e w' ⟨rfl,rfl⟩)
          all_goals go_ret2
          all_goals skip
          all_goals first|exact kl_ _ _ _ _ _|exact km_ _ _ _ _ _|exact vc_ _ _ _ _ _|exact vd_ _ _ _ _ _
        · by_cases hq : -32768<n
          · have hq2:max (n - 1) (-32768)=n - 1:=(by omega);obtain rfl:v=n - 1:=(by rw[HV.out];simp[k1_,ql_,hq2]);clear HV;go_wp2_with fail
            go_region_held3 (fun w'=>w'.cell? ⟨c,0,none⟩=some (.int .i64 cu)∧w'.cell? ⟨c,1,none⟩=some (.int .i64 cd)∧w'.cell? ⟨c,2,none⟩=some (.int .i64 0)∧w'.cell? ⟨c,3,none⟩=some (.int .i64 0)∧w'.cell? ⟨c,4,none⟩=some (.int .i64 pv)) (refine⟨?_,?_,?_,?_,?_⟩ <;> (exact k5_)) (first|(go_at_call 28;refine(xl_ _ _).mono ?_;rintro e w' ⟨rfl,rfl⟩))
            all_goals go_wp2_with (go_at_call 28;refine(xl_ _ _).mono ?_;rintro e w' ⟨rfl,rfl⟩)
            all_goals go_ret2
            all_goals skip
            all_goals first|exact kl_ _ _ _ _ _|exact km_ _ _ _ _ _|exact vc_ _ _ _ _ _|exact vd_ _ _ _ _ _
          · have hq2:max (n - 1) (-32768)=n:=(by omega);obtain rfl:v=n:=(by rw[HV.out];simp[k1_,ql_,hq2]);clear HV;go_wp2_with fail
            go_region_held3 (fun w'=>w'.cell? ⟨c,0,none⟩=some (.int .i64 cu)∧w'.cell? ⟨c,1,none⟩=some (.int .i64 cd)∧w'.cell? ⟨c,2,none⟩=some (.int .i64 0)∧w'.cell? ⟨c,3,none⟩=some (.int .i64 0)∧w'.cell? ⟨c,4,none⟩=some (.int .i64 pv)) (refine⟨?_,?_,?_,?_,?_⟩ <;> (exact k5_)) (first|(go_at_call 28;refine(xl_ _ _).mono ?_;rintro e w' ⟨rfl,rfl⟩))
            all_goals go_wp2_with (go_at_call 28;refine(xl_ _ _).mono ?_;rintro e w' ⟨rfl,rfl⟩)
            all_goals go_ret2
            all_goals skip
            all_goals first|exact kl_ _ _ _ _ _|exact km_ _ _ _ _ _|exact vc_ _ _ _ _ _|exact vd_ _ _ _ _ _
      · cases down
        · by_cases hq:n<32767
          · have hq2:min (n+1) 32767=n+1:=(by omega);obtain rfl:v=n+1:=(by rw[HV.out];simp[k1_,qk_,hq2]);clear HV;go_wp2_with fail
            go_region_held3 (fun w'=>w'.cell? ⟨c,0,none⟩=some (.int .i64 cu)∧w'.cell? ⟨c,1,none⟩=some (.int .i64 cd)∧w'.cell? ⟨c,2,none⟩=some (.int .i64 0)∧w'.cell? ⟨c,3,none⟩=some (.int .i64 0)∧w'.cell? ⟨c,4,none⟩=some (.int .i64 pv)) (refine⟨?_,?_,?_,?_,?_⟩ <;> (exact k5_)) (first|(go_at_call 28;refine(xl_ _ _).mono ?_;rintro e w' ⟨rfl,rfl⟩))
            all_goals go_wp2_with (go_at_call 28;refine(xl_ _ _).mono ?_;rintro e w' ⟨rfl,rfl⟩)
            all_goals go_ret2
            all_goals skip
            all_goals first|exact kl_ _ _ _ _ _|exact km_ _ _ _ _ _|exact vc_ _ _ _ _ _|exact vd_ _ _ _ _ _
          · have hq2:min (n+1) 32767=n:=(by omega);obtain rfl:v=n:=(by rw[HV.out];simp[k1_,qk_,hq2]);clear HV;go_wp2_with fail
            go_region_held3 (fun w'=>w'.cell? ⟨c,0,none⟩=some (.int .i64 cu)∧w'.cell? ⟨c,1,none⟩=some (.int .i64 cd)∧w'.cell? ⟨c,2,none⟩=some (.int .i64 0)∧w'.cell? ⟨c,3,none⟩=some (.int .i64 0)∧w'.cell? ⟨c,4,none⟩=some (.int .i64 pv)) (refine⟨?_,?_,?_,?_,?_⟩ <;> (exact k5_)) (first|(go_at_call 28;refine(xl_ _ _).mono ?_;rintro e w' ⟨rfl,rfl⟩))
            all_goals go_wp2_with (go_at_call 28;refine(xl_ _ _).mono ?_;rintro e w' ⟨rfl,rfl⟩)
            all_goals go_ret2
            all_goals skip
            all_goals first|exact kl_ _ _ _ _ _|exact km_ _ _ _ _ _|exact vc_ _ _ _ _ _|exact vd_ _ _ _ _ _
        · skip
          obtain rfl:v=n:=(by rw[HV.out];simp[k1_]);clear HV;go_wp2_with fail
          go_region_held3 (fun w'=>w'.cell? ⟨c,0,none⟩=some (.int .i64 cu)∧w'.cell? ⟨c,1,none⟩=some (.int .i64 cd)∧w'.cell? ⟨c,2,none⟩=some (.int .i64 0)∧w'.cell? ⟨c,3,none⟩=some (.int .i64 0)∧w'.cell? ⟨c,4,none⟩=some (.int .i64 pv)) (refine⟨?_,?_,?_,?_,?_⟩ <;> (exact k5_)) (first|(go_at_call 28;refine(xl_ _ _).mono ?_;rintro e w' ⟨rfl,rfl⟩))
          all_goals go_wp2_with (go_at_call 28;refine(xl_ _ _).mono ?_;rintro e w' ⟨rfl,rfl⟩)
          all_goals go_ret2
          all_goals skip
          all_goals first|exact kl_ _ _ _ _ _|exact km_ _ _ _ _ _|exact vc_ _ _ _ _ _|exact vd_ _ _ _ _ _
    · skip
      obtain rfl:pv=v:=(by rw[HV.out];simp[k1_]);clear HV;go_wp2_with fail
      go_region_held3 (fun w'=>w'.cell? ⟨c,0,none⟩=some (.int .i64 cu)∧w'.cell? ⟨c,1,none⟩=some (.int .i64 cd)∧w'.cell? ⟨c,2,none⟩=some (.int .i64 0)∧w'.cell? ⟨c,3,none⟩=some (.int .i64 1)∧w'.cell? ⟨c,4,none⟩=some (.int .i64 pv)) (refine⟨?_,?_,?_,?_,?_⟩ <;> (exact k5_)) (first|(go_at_call 28;refine(xl_ _ _).mono ?_;rintro e w' ⟨rfl,rfl⟩))
      all_goals go_wp2_with (go_at_call 28;refine(xl_ _ _).mono ?_;rintro e w' ⟨rfl,rfl⟩)
      all_goals go_ret2
      all_goals rw[show decide (pv≤pv)=true by simp]
      all_goals first|exact kl_ _ _ _ _ _|exact km_ _ _ _ _ _|exact vc_ _ _ _ _ _|exact vd_ _ _ _ _ _
  · skip
    obtain rfl:v=0:=(by rw[HV.out];simp[k1_]);clear HV;go_wp2_with fail
    go_region_held3 (fun w'=>w'.cell? ⟨c,0,none⟩=some (.int .i64 cu)∧w'.cell? ⟨c,1,none⟩=some (.int .i64 cd)∧w'.cell? ⟨c,2,none⟩=some (.int .i64 1)∧w'.cell? ⟨c,3,none⟩=some (.int .i64 ld)∧w'.cell? ⟨c,4,none⟩=some (.int .i64 pv)) (refine⟨?_,?_,?_,?_,?_⟩ <;> (exact k5_)) (first|(go_at_call 28;refine(xl_ _ _).mono ?_;rintro e w' ⟨rfl,rfl⟩))
    all_goals go_wp2_with (go_at_call 28;refine(xl_ _ _).mono ?_;rintro e w' ⟨rfl,rfl⟩)
    all_goals go_ret2
    all_goals skip
    all_goals first|exact kl_ _ _ _ _ _|exact km_ _ _ _ _ _|exact vc_ _ _ _ _ _|exact vd_ _ _ _ _ _
end Go.Proofs.YtcgbfhpmkpglkaaGreatDoor.Bl
