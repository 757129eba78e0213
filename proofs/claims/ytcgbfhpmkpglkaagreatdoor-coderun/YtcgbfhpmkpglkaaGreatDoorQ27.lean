/- Texts put together: CeRefD, CeRefE, CeRefF. -/
import Derived.Test.YtcgbfhpmkpglkaaGreatDoorQ14
set_option linter.unusedVariables false
set_option linter.unusedSimpArgs false
set_option maxHeartbeats 8000000
namespace Go.Proofs.YtcgbfhpmkpglkaaGreatDoor.Ce
open Go.RowKit
theorem aqy_ (a k:Nat):((a:Int) / 2 ^ k % 2)=((a / 2 ^ k % 2:Nat):Int):=by simp
theorem j5_ (a k:Nat):(a / 2 ^ k % 2=0∧(a:Int) / 2 ^ k % 2=0)∨(a / 2 ^ k % 2=1∧(a:Int) / 2 ^ k % 2=1):=by
 rw[aqy_];have:=Nat.mod_two_eq_zero_or_one (a / 2 ^ k);omega
theorem kp_ (x k:Nat) (h:x / 2 ^ k % 2=0):((x % 2 ^ (k+1):Nat):Int)=((x % 2 ^ k:Nat):Int):=by
 rw[ahy_,h];simp
theorem vm_ (x k:Nat) (h:x / 2 ^ k % 2=1):((x % 2 ^ (k+1):Nat):Int)=((x % 2 ^ k:Nat):Int)+2 ^ k:=by
 rw[ahy_,h];simp
theorem vk_ (x k:Nat) (h:k≤16):((x % 2 ^ k:Nat):Int)≤65535:=by
 have h1:2 ^ k≤2 ^ 16:=Nat.pow_le_pow_right (by decide) h;have h2:=Nat.mod_lt x (Nat.two_pow_pos k);omega
theorem aqz_ (a b:Nat) (w:World) (ha:a<65536) (hb:b<65536) :
 Calls Tryz.prog 43 #[.int .i64 6,.int .i64 a,.int .i64 b] w fun e w'=>e=.returned (.int .i64 ((bwX 6 a b:Nat):Int))∧w'=w:=by
 have HX:Hid (bwX 6 a b<65536):=afy_ 6 a b ha hb;go_enter Tryz.func43,Tryz.ntmps43;go_wp2;go_loop [7,8] (fun n i=>∃ k:Nat,k≤16∧i=.int .i64 k∧n=.int .i64 ((bwX 6 a b % 2 ^ k:Nat):Int)) (fun _ i=>16 - (intOf i).toNat)
 case atStart=>exact⟨0,Nat.zero_le _,rfl,by simp[Nat.mod_one]⟩
 case round=>
  obtain⟨k,hk,rfl,rfl⟩:=hrel;by_cases hlt:k<16
  · have hp:=ku_ k hk;have hl:=vk_ (bwX 6 a b) k hk;have hl0:0≤((bwX 6 a b % 2 ^ k:Nat):Int):=Int.natCast_nonneg _;have HB:Hid (bwX 6 a b / 2 ^ k % 2=_):=aui_ a b k;generalize hX:bwX 6 a b=X at *;clear hX;rcases j5_ a k with⟨A,ea⟩|⟨A,ea⟩
    · rcases j5_ b k with⟨B,eb⟩|⟨B,eb⟩
      · have HZ:Hid (((X % 2 ^ (k+1):Nat):Int)=((X % 2 ^ k:Nat):Int)):=kp_ X k (by rw[HB.out];simp[A,B]);clear A B HB;generalize hY:((X % 2 ^ k:Nat):Int)=Y at *;go_wp2_with (first|(go_at_call 62;refine(yj_ _ _ _ om_ om_ om_).mono ?_;rintro e w' ⟨rfl,rfl⟩)|(go_at_call 63;refine(x8_ _ _ om_).mono ?_;rintro e w' ⟨rfl,rfl⟩))
        go_round
        case rel=>exact⟨k+1,by omega,by go_num,by rw[HZ.out]⟩
        case measure=>simp[intOf];omega
      · have HZ:Hid (((X % 2 ^ (k+1):Nat):Int)=((X % 2 ^ k:Nat):Int)):=kp_ X k (by rw[HB.out];simp[A,B]);clear A B HB;generalize hY:((X % 2 ^ k:Nat):Int)=Y at *;go_wp2_with (first|(go_at_call 62;refine(yj_ _ _ _ om_ om_ om_).mono ?_;rintro e w' ⟨rfl,rfl⟩)|(go_at_call 63;refine(x8_ _ _ om_).mono ?_;rintro e w' ⟨rfl,rfl⟩))
        go_round
        case rel=>exact⟨k+1,by omega,by go_num,by rw[HZ.out]⟩
        case measure=>simp[intOf];omega
    · rcases j5_ b k with⟨B,eb⟩|⟨B,eb⟩
      · have HZ:Hid (((X % 2 ^ (k+1):Nat):Int)=((X % 2 ^ k:Nat):Int)):=kp_ X k (by rw[HB.out];simp[A,B]);clear A B HB;generalize hY:((X % 2 ^ k:Nat):Int)=Y at *;go_wp2_with (first|(go_at_call 62;refine(yj_ _ _ _ om_ om_ om_).mono ?_;rintro e w' ⟨rfl,rfl⟩)|(go_at_call 63;refine(x8_ _ _ om_).mono ?_;rintro e w' ⟨rfl,rfl⟩))
        go_round
        case rel=>exact⟨k+1,by omega,by go_num,by rw[HZ.out]⟩
        case measure=>simp[intOf];omega
      · have HZ:Hid (((X % 2 ^ (k+1):Nat):Int)=((X % 2 ^ k:Nat):Int)+2 ^ k):=vm_ X k (by rw[HB.out];simp[A,B]);clear A B HB;generalize hY:((X % 2 ^ k:Nat):Int)=Y at *;go_wp2_with (first|(go_at_call 62;refine(yj_ _ _ _ om_ om_ om_).mono ?_;rintro e w' ⟨rfl,rfl⟩)|(go_at_call 63;refine(x8_ _ _ om_).mono ?_;rintro e w' ⟨rfl,rfl⟩))
        go_round
        case rel=>exact⟨k+1,by omega,by go_num,by rw[HZ.out]⟩
        case measure=>simp[intOf];omega
  · have e:k=16:=om_;have HM:Hid (bwX 6 a b % 2 ^ k=bwX 6 a b):=by
     show bwX 6 a b % 2 ^ k=bwX 6 a b
     rw[e];exact Nat.mod_eq_of_lt HX.out
    clear e;generalize hX:bwX 6 a b=X at *;go_wp2;go_ret;exact⟨xs_ (by exact_mod_cast HM.out),rfl⟩
theorem aq0_ (a b:Nat) (w:World) (ha:a<65536) (hb:b<65536) :
 Calls Tryz.prog 43 #[.int .i64 7,.int .i64 a,.int .i64 b] w fun e w'=>e=.returned (.int .i64 ((bwX 7 a b:Nat):Int))∧w'=w:=by
 have HX:Hid (bwX 7 a b<65536):=afy_ 7 a b ha hb;go_enter Tryz.func43,Tryz.ntmps43;go_wp2;go_loop [7,8] (fun n i=>∃ k:Nat,k≤16∧i=.int .i64 k∧n=.int .i64 ((bwX 7 a b % 2 ^ k:Nat):Int)) (fun _ i=>16 - (intOf i).toNat)
 case atStart=>exact⟨0,Nat.zero_le _,rfl,by simp[Nat.mod_one]⟩
 case round=>
  obtain⟨k,hk,rfl,rfl⟩:=hrel;by_cases hlt:k<16
  · have hp:=ku_ k hk;have hl:=vk_ (bwX 7 a b) k hk;have hl0:0≤((bwX 7 a b % 2 ^ k:Nat):Int):=Int.natCast_nonneg _;have HB:Hid (bwX 7 a b / 2 ^ k % 2=_):=av9_ a b k;generalize hX:bwX 7 a b=X at *;clear hX;rcases j5_ a k with⟨A,ea⟩|⟨A,ea⟩
    · rcases j5_ b k with⟨B,eb⟩|⟨B,eb⟩
      · have HZ:Hid (((X % 2 ^ (k+1):Nat):Int)=((X % 2 ^ k:Nat):Int)):=kp_ X k (by rw[HB.out];simp[A,B]);clear A B HB;generalize hY:((X % 2 ^ k:Nat):Int)=Y at *;go_wp2_with (first|(go_at_call 62;refine(yj_ _ _ _ om_ om_ om_).mono ?_;rintro e w' ⟨rfl,rfl⟩)|(go_at_call 63;refine(x8_ _ _ om_).mono ?_;rintro e w' ⟨rfl,rfl⟩))
        go_round
        case rel=>exact⟨k+1,by omega,by go_num,by rw[HZ.out]⟩
        case measure=>simp[intOf];omega
      · have HZ:Hid (((X % 2 ^ (k+1):Nat):Int)=((X % 2 ^ k:Nat):Int)+2 ^ k):=vm_ X k (by rw[HB.out];simp[A,B]);clear A B HB;generalize hY:((X % 2 ^ k:Nat):Int)=Y at *;go_wp2_with (first|(go_at_call 62;refine(yj_ _ _ _ om_ om_ om_).mono ?_;rintro e w' ⟨rfl,rfl⟩)|(go_at_call 63;refine(x8_ _ _ om_).mono ?_;rintro e w' ⟨rfl,rfl⟩))
        go_round
        case rel=>exact⟨k+1,by omega,by go_num,by rw[HZ.out]⟩
        case measure=>simp[intOf];omega
    · rcases j5_ b k with⟨B,eb⟩|⟨B,eb⟩
      · have HZ:Hid (((X % 2 ^ (k+1):Nat):Int)=((X % 2 ^ k:Nat):Int)+2 ^ k):=vm_ X k (by rw[HB.out];simp[A,B]);clear A B HB;generalize hY:((X % 2 ^ k:Nat):Int)=Y at *;go_wp2_with (first|(go_at_call 62;refine(yj_ _ _ _ om_ om_ om_).mono ?_;rintro e w' ⟨rfl,rfl⟩)|(go_at_call 63;refine(x8_ _ _ om_).mono ?_;rintro e w' ⟨rfl,rfl⟩))
        go_round
        case rel=>exact⟨k+1,by omega,by go_num,by rw[HZ.out]⟩
        case measure=>simp[intOf];omega
      · have HZ:Hid (((X % 2 ^ (k+1):Nat):Int)=((X % 2 ^ k:Nat):Int)+2 ^ k):=vm_ X k (by rw[HB.out];simp[A,B]);clear A B HB;generalize hY:((X % 2 ^ k:Nat):Int)=Y at *;go_wp2_with (first|(go_at_call 62;refine(yj_ _ _ _ om_ om_ om_).mono ?_;rintro e w' ⟨rfl,rfl⟩)|(go_at_call 63;refine(x8_ _ _ om_).mono ?_;rintro e w' ⟨rfl,rfl⟩))
        go_round
        case rel=>exact⟨k+1,by omega,by go_num,by rw[HZ.out]⟩
        case measure=>simp[intOf];omega
  · have e:k=16:=om_;have HM:Hid (bwX 7 a b % 2 ^ k=bwX 7 a b):=by
     show bwX 7 a b % 2 ^ k=bwX 7 a b
     rw[e];exact Nat.mod_eq_of_lt HX.out
    clear e;generalize hX:bwX 7 a b=X at *;go_wp2;go_ret;exact⟨xs_ (by exact_mod_cast HM.out),rfl⟩
theorem aq1_ (a b:Nat) (w:World) (ha:a<65536) (hb:b<65536) :
 Calls Tryz.prog 43 #[.int .i64 8,.int .i64 a,.int .i64 b] w fun e w'=>e=.returned (.int .i64 ((bwX 8 a b:Nat):Int))∧w'=w:=by
 have HX:Hid (bwX 8 a b<65536):=afy_ 8 a b ha hb;go_enter Tryz.func43,Tryz.ntmps43;go_wp2;go_loop [7,8] (fun n i=>∃ k:Nat,k≤16∧i=.int .i64 k∧n=.int .i64 ((bwX 8 a b % 2 ^ k:Nat):Int)) (fun _ i=>16 - (intOf i).toNat)
 case atStart=>exact⟨0,Nat.zero_le _,rfl,by simp[Nat.mod_one]⟩
 case round=>
  obtain⟨k,hk,rfl,rfl⟩:=hrel;by_cases hlt:k<16
  · have hp:=ku_ k hk;have hl:=vk_ (bwX 8 a b) k hk;have hl0:0≤((bwX 8 a b % 2 ^ k:Nat):Int):=Int.natCast_nonneg _;have HB:Hid (bwX 8 a b / 2 ^ k % 2=_):=auj_ a b k;generalize hX:bwX 8 a b=X at *;clear hX;rcases j5_ a k with⟨A,ea⟩|⟨A,ea⟩
    · rcases j5_ b k with⟨B,eb⟩|⟨B,eb⟩
      · have HZ:Hid (((X % 2 ^ (k+1):Nat):Int)=((X % 2 ^ k:Nat):Int)):=kp_ X k (by rw[HB.out];simp[A,B]);clear A B HB;generalize hY:((X % 2 ^ k:Nat):Int)=Y at *;go_wp2_with (first|(go_at_call 62;refine(yj_ _ _ _ om_ om_ om_).mono ?_;rintro e w' ⟨rfl,rfl⟩)|(go_at_call 63;refine(x8_ _ _ om_).mono ?_;rintro e w' ⟨rfl,rfl⟩))
        go_round
        case rel=>exact⟨k+1,by omega,by go_num,by rw[HZ.out]⟩
        case measure=>simp[intOf];omega
      · have HZ:Hid (((X % 2 ^ (k+1):Nat):Int)=((X % 2 ^ k:Nat):Int)+2 ^ k):=vm_ X k (by rw[HB.out];simp[A,B]);clear A B HB;generalize hY:((X % 2 ^ k:Nat):Int)=Y at *;go_wp2_with (first|(go_at_call 62;refine(yj_ _ _ _ om_ om_ om_).mono ?_;rintro e w' ⟨rfl,rfl⟩)|(go_at_call 63;refine(x8_ _ _ om_).mono ?_;rintro e w' ⟨rfl,rfl⟩))
        go_round
        case rel=>exact⟨k+1,by omega,by go_num,by rw[HZ.out]⟩
        case measure=>simp[intOf];omega
    · rcases j5_ b k with⟨B,eb⟩|⟨B,eb⟩
      · have HZ:Hid (((X % 2 ^ (k+1):Nat):Int)=((X % 2 ^ k:Nat):Int)+2 ^ k):=vm_ X k (by rw[HB.out];simp[A,B]);clear A B HB;generalize hY:((X % 2 ^ k:Nat):Int)=Y at *;go_wp2_with (first|(go_at_call 62;refine(yj_ _ _ _ om_ om_ om_).mono ?_;rintro e w' ⟨rfl,rfl⟩)|(go_at_call 63;refine(x8_ _ _ om_).mono ?_;rintro e w' ⟨rfl,rfl⟩))
        go_round
        case rel=>exact⟨k+1,by omega,by go_num,by rw[HZ.out]⟩
        case measure=>simp[intOf];omega
      · have HZ:Hid (((X % 2 ^ (k+1):Nat):Int)=((X % 2 ^ k:Nat):Int)):=kp_ X k (by rw[HB.out];simp[A,B]);clear A B HB;generalize hY:((X % 2 ^ k:Nat):Int)=Y at *;go_wp2_with (first|(go_at_call 62;refine(yj_ _ _ _ om_ om_ om_).mono ?_;rintro e w' ⟨rfl,rfl⟩)|(go_at_call 63;refine(x8_ _ _ om_).mono ?_;rintro e w' ⟨rfl,rfl⟩))
        go_round
        case rel=>exact⟨k+1,by omega,by go_num,by rw[HZ.out]⟩
        case measure=>simp[intOf];omega
  · have e:k=16:=om_;have HM:Hid (bwX 8 a b % 2 ^ k=bwX 8 a b):=by
     show bwX 8 a b % 2 ^ k=bwX 8 a b
     rw[e];exact Nat.mod_eq_of_lt HX.out
    clear e;generalize hX:bwX 8 a b=X at *;go_wp2;go_ret;exact⟨xs_ (by exact_mod_cast HM.out),rfl⟩
theorem anp_ (a b:Nat) (w:World) (ha:a<65536) (hb:b<65536) :
 Calls Tryz.prog 43 #[.int .i64 21,.int .i64 a,.int .i64 b] w fun e w'=>e=.returned (.int .i64 ((bwX 21 a b:Nat):Int))∧w'=w:=by
 have HX:Hid (bwX 21 a b<65536):=afy_ 21 a b ha hb;go_enter Tryz.func43,Tryz.ntmps43;go_wp2;go_loop [7,8] (fun n i=>∃ k:Nat,k≤16∧i=.int .i64 k∧n=.int .i64 ((bwX 21 a b % 2 ^ k:Nat):Int)) (fun _ i=>16 - (intOf i).toNat)
 case atStart=>exact⟨0,Nat.zero_le _,rfl,by simp[Nat.mod_one]⟩
 case round=>
  obtain⟨k,hk,rfl,rfl⟩:=hrel;by_cases hlt:k<16
  · have hp:=ku_ k hk;have hl:=vk_ (bwX 21 a b) k hk;have hl0:0≤((bwX 21 a b % 2 ^ k:Nat):Int):=Int.natCast_nonneg _;have HB:Hid (bwX 21 a b / 2 ^ k % 2=_):=auk_ a b k hlt ha;generalize hX:bwX 21 a b=X at *;clear hX;rcases j5_ a k with⟨A,ea⟩|⟨A,ea⟩
    · rcases j5_ b k with⟨B,eb⟩|⟨B,eb⟩
      · have HZ:Hid (((X % 2 ^ (k+1):Nat):Int)=((X % 2 ^ k:Nat):Int)+2 ^ k):=vm_ X k (by rw[HB.out];simp[A]);clear A B HB;generalize hY:((X % 2 ^ k:Nat):Int)=Y at *;go_wp2_with (first|(go_at_call 62;refine(yj_ _ _ _ om_ om_ om_).mono ?_;rintro e w' ⟨rfl,rfl⟩)|(go_at_call 63;refine(x8_ _ _ om_).mono ?_;rintro e w' ⟨rfl,rfl⟩))
        go_round
        case rel=>exact⟨k+1,by omega,by go_num,by rw[HZ.out]⟩
        case measure=>simp[intOf];omega
      · have HZ:Hid (((X % 2 ^ (k+1):Nat):Int)=((X % 2 ^ k:Nat):Int)+2 ^ k):=vm_ X k (by rw[HB.out];simp[A]);clear A B HB;generalize hY:((X % 2 ^ k:Nat):Int)=Y at *;go_wp2_with (first|(go_at_call 62;refine(yj_ _ _ _ om_ om_ om_).mono ?_;rintro e w' ⟨rfl,rfl⟩)|(go_at_call 63;refine(x8_ _ _ om_).mono ?_;rintro e w' ⟨rfl,rfl⟩))
        go_round
        case rel=>exact⟨k+1,by omega,by go_num,by rw[HZ.out]⟩
        case measure=>simp[intOf];omega
    · rcases j5_ b k with⟨B,eb⟩|⟨B,eb⟩
      · have HZ:Hid (((X % 2 ^ (k+1):Nat):Int)=((X % 2 ^ k:Nat):Int)):=kp_ X k (by rw[HB.out];simp[A]);clear A B HB;generalize hY:((X % 2 ^ k:Nat):Int)=Y at *;go_wp2_with (first|(go_at_call 62;refine(yj_ _ _ _ om_ om_ om_).mono ?_;rintro e w' ⟨rfl,rfl⟩)|(go_at_call 63;refine(x8_ _ _ om_).mono ?_;rintro e w' ⟨rfl,rfl⟩))
        go_round
        case rel=>exact⟨k+1,by omega,by go_num,by rw[HZ.out]⟩
        case measure=>simp[intOf];omega
      · have HZ:Hid (((X % 2 ^ (k+1):Nat):Int)=((X % 2 ^ k:Nat):Int)):=kp_ X k (by rw[HB.out];simp[A]);clear A B HB;generalize hY:((X % 2 ^ k:Nat):Int)=Y at *;go_wp2_with (first|(go_at_call 62;refine(yj_ _ _ _ om_ om_ om_).mono ?_;rintro e w' ⟨rfl,rfl⟩)|(go_at_call 63;refine(x8_ _ _ om_).mono ?_;rintro e w' ⟨rfl,rfl⟩))
        go_round
        case rel=>exact⟨k+1,by omega,by go_num,by rw[HZ.out]⟩
        case measure=>simp[intOf];omega
  · have e:k=16:=om_;have HM:Hid (bwX 21 a b % 2 ^ k=bwX 21 a b):=by
     show bwX 21 a b % 2 ^ k=bwX 21 a b
     rw[e];exact Nat.mod_eq_of_lt HX.out
    clear e;generalize hX:bwX 21 a b=X at *;go_wp2;go_ret;exact⟨xs_ (by exact_mod_cast HM.out),rfl⟩
theorem ato_ (a:Nat) (w:World) (ha:a<65536) (c:Nat) (hc:c≤32767) :
 Calls Tryz.prog 44 #[.int .i64 15,.int .i64 a,.int .i64 c] w fun e w'=>e=.returned (.int .i64 ((mvX 15 a c:Nat):Int))∧w'=w:=by
 have HX:Hid (mvX 15 a c<65536):=aau_ 15 a c ha;go_enter Tryz.func44,Tryz.ntmps44;go_wp2;go_loop [7,8] (fun n i=>∃ k:Nat,k≤16∧i=.int .i64 k∧n=.int .i64 ((mvX 15 a c % 2 ^ k:Nat):Int)) (fun _ i=>16 - (intOf i).toNat)
 case atStart=>exact⟨0,Nat.zero_le _,rfl,by simp[Nat.mod_one]⟩
 case round=>
  obtain⟨k,hk,rfl,rfl⟩:=hrel;by_cases hlt:k<16
  · have hp:=ku_ k hk;have hl:=vk_ (mvX 15 a c) k hk;have hl0:0≤((mvX 15 a c % 2 ^ k:Nat):Int):=Int.natCast_nonneg _;have HB:Hid (mvX 15 a c / 2 ^ k % 2=_):=aow_ a c k hlt;generalize hX:mvX 15 a c=X at *;clear hX;by_cases hck:c≤k
    · obtain⟨f,hf⟩:∃ f:Nat,k=c+f:=⟨k - c,by omega⟩;have HB2:Hid (X / 2 ^ k % 2=a / 2 ^ f % 2):=by
       show X / 2 ^ k % 2=a / 2 ^ f % 2
       rw[HB.out,if_pos hck];have e:k - c=f:=om_;rw[e]
      have er:(k:Int) - c=f:=om_;have hf16:f≤15:=om_;clear hf HB;rcases j5_ a f with⟨A,ea⟩|⟨A,ea⟩
      · have HZ:Hid (((X % 2 ^ (k+1):Nat):Int)=((X % 2 ^ k:Nat):Int)):=kp_ X k (by rw[HB2.out,A]);clear A HB2;generalize hY:((X % 2 ^ k:Nat):Int)=Y at *;go_wp2_with (first|(go_at_call 62;refine(yj_ _ _ _ om_ om_ om_).mono ?_;rintro e w' ⟨rfl,rfl⟩)|(go_at_call 63;refine(x8_ _ _ om_).mono ?_;rintro e w' ⟨rfl,rfl⟩))
        go_round
        case rel=>exact⟨k+1,by omega,by go_num,by rw[HZ.out]⟩
        case measure=>simp[intOf];omega
      · have HZ:Hid (((X % 2 ^ (k+1):Nat):Int)=((X % 2 ^ k:Nat):Int)+2 ^ k):=vm_ X k (by rw[HB2.out,A]);clear A HB2;generalize hY:((X % 2 ^ k:Nat):Int)=Y at *;go_wp2_with (first|(go_at_call 62;refine(yj_ _ _ _ om_ om_ om_).mono ?_;rintro e w' ⟨rfl,rfl⟩)|(go_at_call 63;refine(x8_ _ _ om_).mono ?_;rintro e w' ⟨rfl,rfl⟩))
        go_round
        case rel=>exact⟨k+1,by omega,by go_num,by rw[HZ.out]⟩
        case measure=>simp[intOf];omega
    · have HZ:Hid (((X % 2 ^ (k+1):Nat):Int)=((X % 2 ^ k:Nat):Int)):=kp_ X k (by rw[HB.out,if_neg hck]);clear HB;generalize hY:((X % 2 ^ k:Nat):Int)=Y at *;go_wp2_with (first|(go_at_call 62;refine(yj_ _ _ _ om_ om_ om_).mono ?_;rintro e w' ⟨rfl,rfl⟩)|(go_at_call 63;refine(x8_ _ _ om_).mono ?_;rintro e w' ⟨rfl,rfl⟩))
      go_round
      case rel=>exact⟨k+1,by omega,by go_num,by rw[HZ.out]⟩
      case measure=>simp[intOf];omega
  · have e:k=16:=om_;have HM:Hid (mvX 15 a c % 2 ^ k=mvX 15 a c):=by
     show mvX 15 a c % 2 ^ k=mvX 15 a c
     rw[e];exact Nat.mod_eq_of_lt HX.out
    clear e;generalize hX:mvX 15 a c=X at *;go_wp2;go_ret;exact⟨xs_ (by exact_mod_cast HM.out),rfl⟩
theorem aq2_ (a:Nat) (w:World) (ha:a<65536) (y:Int) (hy:y<0) :
 Calls Tryz.prog 44 #[.int .i64 15,.int .i64 a,.int .i64 y] w fun e w'=>e=.returned (.int .i64 ((mvX 15 a 0:Nat):Int))∧w'=w:=by
 have HX:Hid (mvX 15 a 0<65536):=aau_ 15 a 0 ha;go_enter Tryz.func44,Tryz.ntmps44;go_wp2;go_loop [7,8] (fun n i=>∃ k:Nat,k≤16∧i=.int .i64 k∧n=.int .i64 ((mvX 15 a 0 % 2 ^ k:Nat):Int)) (fun _ i=>16 - (intOf i).toNat)
 case atStart=>exact⟨0,Nat.zero_le _,rfl,by simp[Nat.mod_one]⟩
 case round=>
  obtain⟨k,hk,rfl,rfl⟩:=hrel;by_cases hlt:k<16
  · have hp:=ku_ k hk;have hl:=vk_ (mvX 15 a 0) k hk;have hl0:0≤((mvX 15 a 0 % 2 ^ k:Nat):Int):=Int.natCast_nonneg _;have HB:Hid (mvX 15 a 0 / 2 ^ k % 2=_):=aow_ a 0 k hlt;generalize hX:mvX 15 a 0=X at *;clear hX;rcases j5_ a k with⟨A,ea⟩|⟨A,ea⟩
    · have HZ:Hid (((X % 2 ^ (k+1):Nat):Int)=((X % 2 ^ k:Nat):Int)):=kp_ X k (by rw[HB.out];simp[A]);clear A HB;generalize hY:((X % 2 ^ k:Nat):Int)=Y at *;go_wp2_with (first|(go_at_call 62;refine(yj_ _ _ _ om_ om_ om_).mono ?_;rintro e w' ⟨rfl,rfl⟩)|(go_at_call 63;refine(x8_ _ _ om_).mono ?_;rintro e w' ⟨rfl,rfl⟩))
      go_round
      case rel=>exact⟨k+1,by omega,by go_num,by rw[HZ.out]⟩
      case measure=>simp[intOf];omega
    · have HZ:Hid (((X % 2 ^ (k+1):Nat):Int)=((X % 2 ^ k:Nat):Int)+2 ^ k):=vm_ X k (by rw[HB.out];simp[A]);clear A HB;generalize hY:((X % 2 ^ k:Nat):Int)=Y at *;go_wp2_with (first|(go_at_call 62;refine(yj_ _ _ _ om_ om_ om_).mono ?_;rintro e w' ⟨rfl,rfl⟩)|(go_at_call 63;refine(x8_ _ _ om_).mono ?_;rintro e w' ⟨rfl,rfl⟩))
      go_round
      case rel=>exact⟨k+1,by omega,by go_num,by rw[HZ.out]⟩
      case measure=>simp[intOf];omega
  · have e:k=16:=om_;have HM:Hid (mvX 15 a 0 % 2 ^ k=mvX 15 a 0):=by
     show mvX 15 a 0 % 2 ^ k=mvX 15 a 0
     rw[e];exact Nat.mod_eq_of_lt HX.out
    clear e;generalize hX:mvX 15 a 0=X at *;go_wp2;go_ret;exact⟨xs_ (by exact_mod_cast HM.out),rfl⟩
theorem atp_ (a:Nat) (w:World) (ha:a<65536) (c:Nat) (hc:c≤32767) :
 Calls Tryz.prog 44 #[.int .i64 16,.int .i64 a,.int .i64 c] w fun e w'=>e=.returned (.int .i64 ((mvX 16 a c:Nat):Int))∧w'=w:=by
 have HX:Hid (mvX 16 a c<65536):=aau_ 16 a c ha;go_enter Tryz.func44,Tryz.ntmps44;go_wp2;go_loop [7,8] (fun n i=>∃ k:Nat,k≤16∧i=.int .i64 k∧n=.int .i64 ((mvX 16 a c % 2 ^ k:Nat):Int)) (fun _ i=>16 - (intOf i).toNat)
 case atStart=>exact⟨0,Nat.zero_le _,rfl,by simp[Nat.mod_one]⟩
 case round=>
  obtain⟨k,hk,rfl,rfl⟩:=hrel;by_cases hlt:k<16
  · have hp:=ku_ k hk;have hl:=vk_ (mvX 16 a c) k hk;have hl0:0≤((mvX 16 a c % 2 ^ k:Nat):Int):=Int.natCast_nonneg _;have HB:Hid (mvX 16 a c / 2 ^ k % 2=_):=aox_ a c k;generalize hX:mvX 16 a c=X at *;clear hX;by_cases hck:k+c<16
    · obtain⟨f,hf⟩:∃ f:Nat,f=k+c:=⟨k+c,rfl⟩;have HB2:Hid (X / 2 ^ k % 2=a / 2 ^ f % 2):=by
       show X / 2 ^ k % 2=a / 2 ^ f % 2
       rw[HB.out,hf]
      have er:(k:Int)+c=f:=om_;have hf16:f≤15:=om_;clear hf HB;rcases j5_ a f with⟨A,ea⟩|⟨A,ea⟩
      · have HZ:Hid (((X % 2 ^ (k+1):Nat):Int)=((X % 2 ^ k:Nat):Int)):=kp_ X k (by rw[HB2.out,A]);clear A HB2;generalize hY:((X % 2 ^ k:Nat):Int)=Y at *;go_wp2_with (first|(go_at_call 62;refine(yj_ _ _ _ om_ om_ om_).mono ?_;rintro e w' ⟨rfl,rfl⟩)|(go_at_call 63;refine(x8_ _ _ om_).mono ?_;rintro e w' ⟨rfl,rfl⟩))
        go_round
        case rel=>exact⟨k+1,by omega,by go_num,by rw[HZ.out]⟩
        case measure=>simp[intOf];omega
      · have HZ:Hid (((X % 2 ^ (k+1):Nat):Int)=((X % 2 ^ k:Nat):Int)+2 ^ k):=vm_ X k (by rw[HB2.out,A]);clear A HB2;generalize hY:((X % 2 ^ k:Nat):Int)=Y at *;go_wp2_with (first|(go_at_call 62;refine(yj_ _ _ _ om_ om_ om_).mono ?_;rintro e w' ⟨rfl,rfl⟩)|(go_at_call 63;refine(x8_ _ _ om_).mono ?_;rintro e w' ⟨rfl,rfl⟩))
        go_round
        case rel=>exact⟨k+1,by omega,by go_num,by rw[HZ.out]⟩
        case measure=>simp[intOf];omega
    · have HZ:Hid (((X % 2 ^ (k+1):Nat):Int)=((X % 2 ^ k:Nat):Int)):=kp_ X k (by rw[HB.out];exact aoy_ a _ ha om_);clear HB;generalize hY:((X % 2 ^ k:Nat):Int)=Y at *;go_wp2_with (first|(go_at_call 62;refine(yj_ _ _ _ om_ om_ om_).mono ?_;rintro e w' ⟨rfl,rfl⟩)|(go_at_call 63;refine(x8_ _ _ om_).mono ?_;rintro e w' ⟨rfl,rfl⟩))
      go_round
      case rel=>exact⟨k+1,by omega,by go_num,by rw[HZ.out]⟩
      case measure=>simp[intOf];omega
  · have e:k=16:=om_;have HM:Hid (mvX 16 a c % 2 ^ k=mvX 16 a c):=by
     show mvX 16 a c % 2 ^ k=mvX 16 a c
     rw[e];exact Nat.mod_eq_of_lt HX.out
    clear e;generalize hX:mvX 16 a c=X at *;go_wp2;go_ret;exact⟨xs_ (by exact_mod_cast HM.out),rfl⟩
theorem aq3_ (a:Nat) (w:World) (ha:a<65536) (y:Int) (hy:y<0) :
 Calls Tryz.prog 44 #[.int .i64 16,.int .i64 a,.int .i64 y] w fun e w'=>e=.returned (.int .i64 ((mvX 16 a 0:Nat):Int))∧w'=w:=by
 have HX:Hid (mvX 16 a 0<65536):=aau_ 16 a 0 ha;go_enter Tryz.func44,Tryz.ntmps44;go_wp2;go_loop [7,8] (fun n i=>∃ k:Nat,k≤16∧i=.int .i64 k∧n=.int .i64 ((mvX 16 a 0 % 2 ^ k:Nat):Int)) (fun _ i=>16 - (intOf i).toNat)
 case atStart=>exact⟨0,Nat.zero_le _,rfl,by simp[Nat.mod_one]⟩
 case round=>
  obtain⟨k,hk,rfl,rfl⟩:=hrel;by_cases hlt:k<16
  · have hp:=ku_ k hk;have hl:=vk_ (mvX 16 a 0) k hk;have hl0:0≤((mvX 16 a 0 % 2 ^ k:Nat):Int):=Int.natCast_nonneg _;have HB:Hid (mvX 16 a 0 / 2 ^ k % 2=_):=aox_ a 0 k;generalize hX:mvX 16 a 0=X at *;clear hX;rcases j5_ a k with⟨A,ea⟩|⟨A,ea⟩
    · have HZ:Hid (((X % 2 ^ (k+1):Nat):Int)=((X % 2 ^ k:Nat):Int)):=kp_ X k (by rw[HB.out];simp[A]);clear A HB;generalize hY:((X % 2 ^ k:Nat):Int)=Y at *;go_wp2_with (first|(go_at_call 62;refine(yj_ _ _ _ om_ om_ om_).mono ?_;rintro e w' ⟨rfl,rfl⟩)|(go_at_call 63;refine(x8_ _ _ om_).mono ?_;rintro e w' ⟨rfl,rfl⟩))
      go_round
      case rel=>exact⟨k+1,by omega,by go_num,by rw[HZ.out]⟩
      case measure=>simp[intOf];omega
    · have HZ:Hid (((X % 2 ^ (k+1):Nat):Int)=((X % 2 ^ k:Nat):Int)+2 ^ k):=vm_ X k (by rw[HB.out];simp[A]);clear A HB;generalize hY:((X % 2 ^ k:Nat):Int)=Y at *;go_wp2_with (first|(go_at_call 62;refine(yj_ _ _ _ om_ om_ om_).mono ?_;rintro e w' ⟨rfl,rfl⟩)|(go_at_call 63;refine(x8_ _ _ om_).mono ?_;rintro e w' ⟨rfl,rfl⟩))
      go_round
      case rel=>exact⟨k+1,by omega,by go_num,by rw[HZ.out]⟩
      case measure=>simp[intOf];omega
  · have e:k=16:=om_;have HM:Hid (mvX 16 a 0 % 2 ^ k=mvX 16 a 0):=by
     show mvX 16 a 0 % 2 ^ k=mvX 16 a 0
     rw[e];exact Nat.mod_eq_of_lt HX.out
    clear e;generalize hX:mvX 16 a 0=X at *;go_wp2;go_ret;exact⟨xs_ (by exact_mod_cast HM.out),rfl⟩
theorem atq_ (a:Nat) (w:World) (ha:a<65536) (c:Nat) (hc:c≤32767) :
 Calls Tryz.prog 44 #[.int .i64 17,.int .i64 a,.int .i64 c] w fun e w'=>e=.returned (.int .i64 ((mvX 17 a c:Nat):Int))∧w'=w:=by
 have HX:Hid (mvX 17 a c<65536):=aau_ 17 a c ha;go_enter Tryz.func44,Tryz.ntmps44;go_wp2;go_loop [7,8] (fun n i=>∃ k:Nat,k≤16∧i=.int .i64 k∧n=.int .i64 ((mvX 17 a c % 2 ^ k:Nat):Int)) (fun _ i=>16 - (intOf i).toNat)
 case atStart=>exact⟨0,Nat.zero_le _,rfl,by simp[Nat.mod_one]⟩
 case round=>
  obtain⟨k,hk,rfl,rfl⟩:=hrel;by_cases hlt:k<16
  · have hp:=ku_ k hk;have hl:=vk_ (mvX 17 a c) k hk;have hl0:0≤((mvX 17 a c % 2 ^ k:Nat):Int):=Int.natCast_nonneg _;obtain⟨f,hf⟩:∃ f:Nat,(f:Int)=((k:Int) - c) % 16:=⟨(((k:Int) - c) % 16).toNat,by omega⟩;have HB2:Hid (mvX 17 a c / 2 ^ k % 2=a / 2 ^ f % 2):=aoz_ a c k ha hlt f hf;have ht:=zs_ ((k:Int) - c) 16;have hb : -16<((k:Int) - c).tmod 16∧((k:Int) - c).tmod 16<16:=om_;have er:((k:Int) - c).tmod 16 % 16=f:=om_;have hf16:f≤15:=om_;clear ht hf;generalize hX:mvX 17 a c=X at *;clear hX;rcases j5_ a f with⟨A,ea⟩|⟨A,ea⟩
    · have HZ:Hid (((X % 2 ^ (k+1):Nat):Int)=((X % 2 ^ k:Nat):Int)):=kp_ X k (by rw[HB2.out,A]);clear A HB2;generalize hY:((X % 2 ^ k:Nat):Int)=Y at *;go_wp2_with (first|(go_at_call 62;refine(yj_ _ _ _ om_ om_ om_).mono ?_;rintro e w' ⟨rfl,rfl⟩)|(go_at_call 63;refine(x8_ _ _ om_).mono ?_;rintro e w' ⟨rfl,rfl⟩))
      go_round
      case rel=>exact⟨k+1,by omega,by go_num,by rw[HZ.out]⟩
      case measure=>simp[intOf];omega
    · have HZ:Hid (((X % 2 ^ (k+1):Nat):Int)=((X % 2 ^ k:Nat):Int)+2 ^ k):=vm_ X k (by rw[HB2.out,A]);clear A HB2;generalize hY:((X % 2 ^ k:Nat):Int)=Y at *;go_wp2_with (first|(go_at_call 62;refine(yj_ _ _ _ om_ om_ om_).mono ?_;rintro e w' ⟨rfl,rfl⟩)|(go_at_call 63;refine(x8_ _ _ om_).mono ?_;rintro e w' ⟨rfl,rfl⟩))
      go_round
      case rel=>exact⟨k+1,by omega,by go_num,by rw[HZ.out]⟩
      case measure=>simp[intOf];omega
  · have e:k=16:=om_;have HM:Hid (mvX 17 a c % 2 ^ k=mvX 17 a c):=by
     show mvX 17 a c % 2 ^ k=mvX 17 a c
     rw[e];exact Nat.mod_eq_of_lt HX.out
    clear e;generalize hX:mvX 17 a c=X at *;go_wp2;go_ret;exact⟨xs_ (by exact_mod_cast HM.out),rfl⟩
theorem aq4_ (a:Nat) (w:World) (ha:a<65536) (y:Int) (hy:y<0) :
 Calls Tryz.prog 44 #[.int .i64 17,.int .i64 a,.int .i64 y] w fun e w'=>e=.returned (.int .i64 ((mvX 17 a 0:Nat):Int))∧w'=w:=by
 have HX:Hid (mvX 17 a 0<65536):=aau_ 17 a 0 ha;go_enter Tryz.func44,Tryz.ntmps44;go_wp2;go_loop [7,8] (fun n i=>∃ k:Nat,k≤16∧i=.int .i64 k∧n=.int .i64 ((mvX 17 a 0 % 2 ^ k:Nat):Int)) (fun _ i=>16 - (intOf i).toNat)
 case atStart=>exact⟨0,Nat.zero_le _,rfl,by simp[Nat.mod_one]⟩
 case round=>
  obtain⟨k,hk,rfl,rfl⟩:=hrel;by_cases hlt:k<16
  · have hp:=ku_ k hk;have hl:=vk_ (mvX 17 a 0) k hk;have hl0:0≤((mvX 17 a 0 % 2 ^ k:Nat):Int):=Int.natCast_nonneg _;have HB2:Hid (mvX 17 a 0 / 2 ^ k % 2=a / 2 ^ k % 2):=aoz_ a 0 k ha hlt k om_;have er:(k:Int) % 16=k:=om_;generalize hX:mvX 17 a 0=X at *;clear hX;rcases j5_ a k with⟨A,ea⟩|⟨A,ea⟩
    · have HZ:Hid (((X % 2 ^ (k+1):Nat):Int)=((X % 2 ^ k:Nat):Int)):=kp_ X k (by rw[HB2.out,A]);clear A HB2;generalize hY:((X % 2 ^ k:Nat):Int)=Y at *;go_wp2_with (first|(go_at_call 62;refine(yj_ _ _ _ om_ om_ om_).mono ?_;rintro e w' ⟨rfl,rfl⟩)|(go_at_call 63;refine(x8_ _ _ om_).mono ?_;rintro e w' ⟨rfl,rfl⟩))
      go_round
      case rel=>exact⟨k+1,by omega,by go_num,by rw[HZ.out]⟩
      case measure=>simp[intOf];omega
    · have HZ:Hid (((X % 2 ^ (k+1):Nat):Int)=((X % 2 ^ k:Nat):Int)+2 ^ k):=vm_ X k (by rw[HB2.out,A]);clear A HB2;generalize hY:((X % 2 ^ k:Nat):Int)=Y at *;go_wp2_with (first|(go_at_call 62;refine(yj_ _ _ _ om_ om_ om_).mono ?_;rintro e w' ⟨rfl,rfl⟩)|(go_at_call 63;refine(x8_ _ _ om_).mono ?_;rintro e w' ⟨rfl,rfl⟩))
      go_round
      case rel=>exact⟨k+1,by omega,by go_num,by rw[HZ.out]⟩
      case measure=>simp[intOf];omega
  · have e:k=16:=om_;have HM:Hid (mvX 17 a 0 % 2 ^ k=mvX 17 a 0):=by
     show mvX 17 a 0 % 2 ^ k=mvX 17 a 0
     rw[e];exact Nat.mod_eq_of_lt HX.out
    clear e;generalize hX:mvX 17 a 0=X at *;go_wp2;go_ret;exact⟨xs_ (by exact_mod_cast HM.out),rfl⟩
theorem atr_ (a:Nat) (w:World) (ha:a<65536) (c:Nat) (hc:c≤32767) :
 Calls Tryz.prog 44 #[.int .i64 18,.int .i64 a,.int .i64 c] w fun e w'=>e=.returned (.int .i64 ((mvX 18 a c:Nat):Int))∧w'=w:=by
 have HX:Hid (mvX 18 a c<65536):=aau_ 18 a c ha;go_enter Tryz.func44,Tryz.ntmps44;go_wp2;go_loop [7,8] (fun n i=>∃ k:Nat,k≤16∧i=.int .i64 k∧n=.int .i64 ((mvX 18 a c % 2 ^ k:Nat):Int)) (fun _ i=>16 - (intOf i).toNat)
 case atStart=>exact⟨0,Nat.zero_le _,rfl,by simp[Nat.mod_one]⟩
 case round=>
  obtain⟨k,hk,rfl,rfl⟩:=hrel;by_cases hlt:k<16
  · have hp:=ku_ k hk;have hl:=vk_ (mvX 18 a c) k hk;have hl0:0≤((mvX 18 a c % 2 ^ k:Nat):Int):=Int.natCast_nonneg _;obtain⟨f,hf⟩:∃ f:Nat,(f:Int)=((k:Int)+c) % 16:=⟨(((k:Int)+c) % 16).toNat,by omega⟩;have HB2:Hid (mvX 18 a c / 2 ^ k % 2=a / 2 ^ f % 2):=ao0_ a c k ha hlt f hf;have er:((k:Int)+c) % 16=f:=hf.symm;have er2:(f:Int) % 16=f:=om_;have hf16:f≤15:=om_;clear hf;generalize hX:mvX 18 a c=X at *;clear hX;rcases j5_ a f with⟨A,ea⟩|⟨A,ea⟩
    · have HZ:Hid (((X % 2 ^ (k+1):Nat):Int)=((X % 2 ^ k:Nat):Int)):=kp_ X k (by rw[HB2.out,A]);clear A HB2;generalize hY:((X % 2 ^ k:Nat):Int)=Y at *;go_wp2_with (first|(go_at_call 62;refine(yj_ _ _ _ om_ om_ om_).mono ?_;rintro e w' ⟨rfl,rfl⟩)|(go_at_call 63;refine(x8_ _ _ om_).mono ?_;rintro e w' ⟨rfl,rfl⟩))
      go_round
      case rel=>exact⟨k+1,by omega,by go_num,by rw[HZ.out]⟩
      case measure=>simp[intOf];omega
    · have HZ:Hid (((X % 2 ^ (k+1):Nat):Int)=((X % 2 ^ k:Nat):Int)+2 ^ k):=vm_ X k (by rw[HB2.out,A]);clear A HB2;generalize hY:((X % 2 ^ k:Nat):Int)=Y at *;go_wp2_with (first|(go_at_call 62;refine(yj_ _ _ _ om_ om_ om_).mono ?_;rintro e w' ⟨rfl,rfl⟩)|(go_at_call 63;refine(x8_ _ _ om_).mono ?_;rintro e w' ⟨rfl,rfl⟩))
      go_round
      case rel=>exact⟨k+1,by omega,by go_num,by rw[HZ.out]⟩
      case measure=>simp[intOf];omega
  · have e:k=16:=om_;have HM:Hid (mvX 18 a c % 2 ^ k=mvX 18 a c):=by
     show mvX 18 a c % 2 ^ k=mvX 18 a c
     rw[e];exact Nat.mod_eq_of_lt HX.out
    clear e;generalize hX:mvX 18 a c=X at *;go_wp2;go_ret;exact⟨xs_ (by exact_mod_cast HM.out),rfl⟩
theorem aq5_ (a:Nat) (w:World) (ha:a<65536) (y:Int) (hy:y<0) :
 Calls Tryz.prog 44 #[.int .i64 18,.int .i64 a,.int .i64 y] w fun e w'=>e=.returned (.int .i64 ((mvX 18 a 0:Nat):Int))∧w'=w:=by
 have HX:Hid (mvX 18 a 0<65536):=aau_ 18 a 0 ha;go_enter Tryz.func44,Tryz.ntmps44;go_wp2;go_loop [7,8] (fun n i=>∃ k:Nat,k≤16∧i=.int .i64 k∧n=.int .i64 ((mvX 18 a 0 % 2 ^ k:Nat):Int)) (fun _ i=>16 - (intOf i).toNat)
 case atStart=>exact⟨0,Nat.zero_le _,rfl,by simp[Nat.mod_one]⟩
 case round=>
  obtain⟨k,hk,rfl,rfl⟩:=hrel;by_cases hlt:k<16
  · have hp:=ku_ k hk;have hl:=vk_ (mvX 18 a 0) k hk;have hl0:0≤((mvX 18 a 0 % 2 ^ k:Nat):Int):=Int.natCast_nonneg _;have HB2:Hid (mvX 18 a 0 / 2 ^ k % 2=a / 2 ^ k % 2):=ao0_ a 0 k ha hlt k om_;have er:(k:Int) % 16=k:=om_;generalize hX:mvX 18 a 0=X at *;clear hX;rcases j5_ a k with⟨A,ea⟩|⟨A,ea⟩
    · have HZ:Hid (((X % 2 ^ (k+1):Nat):Int)=((X % 2 ^ k:Nat):Int)):=kp_ X k (by rw[HB2.out,A]);clear A HB2;generalize hY:((X % 2 ^ k:Nat):Int)=Y at *;go_wp2_with (first|(go_at_call 62;refine(yj_ _ _ _ om_ om_ om_).mono ?_;rintro e w' ⟨rfl,rfl⟩)|(go_at_call 63;refine(x8_ _ _ om_).mono ?_;rintro e w' ⟨rfl,rfl⟩))
      go_round
      case rel=>exact⟨k+1,by omega,by go_num,by rw[HZ.out]⟩
      case measure=>simp[intOf];omega
    · have HZ:Hid (((X % 2 ^ (k+1):Nat):Int)=((X % 2 ^ k:Nat):Int)+2 ^ k):=vm_ X k (by rw[HB2.out,A]);clear A HB2;generalize hY:((X % 2 ^ k:Nat):Int)=Y at *;go_wp2_with (first|(go_at_call 62;refine(yj_ _ _ _ om_ om_ om_).mono ?_;rintro e w' ⟨rfl,rfl⟩)|(go_at_call 63;refine(x8_ _ _ om_).mono ?_;rintro e w' ⟨rfl,rfl⟩))
      go_round
      case rel=>exact⟨k+1,by omega,by go_num,by rw[HZ.out]⟩
      case measure=>simp[intOf];omega
  · have e:k=16:=om_;have HM:Hid (mvX 18 a 0 % 2 ^ k=mvX 18 a 0):=by
     show mvX 18 a 0 % 2 ^ k=mvX 18 a 0
     rw[e];exact Nat.mod_eq_of_lt HX.out
    clear e;generalize hX:mvX 18 a 0=X at *;go_wp2;go_ret;exact⟨xs_ (by exact_mod_cast HM.out),rfl⟩
def mvY (op a y:Int):Int:=((mvX op a.toNat (if y<0 then 0 else y).toNat:Nat):Int)
theorem abe_ (op a y:Int) (w:World) (hs:shB op=true) (h0:0≤a) (h1:a≤65535) (hy:y≤32767) :
 Calls Tryz.prog 44 #[.int .i64 op,.int .i64 a,.int .i64 y] w fun e w'=>e=.returned (.int .i64 (mvY op a y))∧w'=w:=by
 unfold mvY;obtain⟨b,rfl⟩:=Int.eq_ofNat_of_zero_le h0;have ho:op=15∨op=16∨op=17∨op=18:=(by simp[shB] at hs;omega);by_cases hn:y<0
 · rw[if_pos hn];rcases ho with rfl|rfl|rfl|rfl
   ·exact aq2_ b w om_ y hn
   ·exact aq3_ b w om_ y hn
   ·exact aq4_ b w om_ y hn
   ·exact aq5_ b w om_ y hn
 · rw[if_neg hn];obtain⟨c,rfl⟩:=Int.eq_ofNat_of_zero_le (show 0≤y by omega);rcases ho with rfl|rfl|rfl|rfl
   ·exact ato_ b w om_ c om_
   ·exact atp_ b w om_ c om_
   ·exact atq_ b w om_ c om_
   ·exact atr_ b w om_ c om_
theorem ub_ (op a b:Int) (w:World) (hs:mkB op=true) (h0:0≤a) (h1:a≤65535) (g0:0≤b) (g1:b≤65535) :
 Calls Tryz.prog 43 #[.int .i64 op,.int .i64 a,.int .i64 b] w fun e w'=>e=.returned (.int .i64 ((bwX op a.toNat b.toNat:Nat):Int))∧w'=w:=by
 obtain⟨x,rfl⟩:=Int.eq_ofNat_of_zero_le h0;obtain⟨y,rfl⟩:=Int.eq_ofNat_of_zero_le g0;have ho:op=6∨op=7∨op=8∨op=21:=(by simp[mkB] at hs;omega);rcases ho with rfl|rfl|rfl|rfl
 ·exact aqz_ x y w om_ om_
 ·exact aq0_ x y w om_ om_
 ·exact aq1_ x y w om_ om_
 ·exact anp_ x y w om_ om_
theorem qa_ {op k b:Int} (a:Int) (hh:yu_ op k=true) (hz:zi_ op k b=false):doN op k a b=xd_ (yd_ op k) (yq_ op (xd_ k a) (xd_ (xt_ op k) b)):=by
 simp[doN,hh,hz]
theorem yw_ {op:Int} (k b:Int) (h4:(op==4)=false) (h5:(op==5)=false):zi_ op k b=false:=by
 simp[zi_,h4,h5]
theorem qb_ {op k:Int} (hh:yu_ op k=true):(yd_ op k==0)=false:=by
 have:=kt_ op k;simp only[hh] at this;simp at this;simpa using this
theorem avz_ (r a b:Int):xd_ r (wrap64 (a - wrap64 (wrap64 (a.tdiv b)*b)))=xd_ r (a.tmod b):=by
 apply jd_;have e:=Int.mul_tdiv_add_tmod a b;have e1:∀ x:Int,wrap64 x % 4294967296=x % 4294967296:=fun x=>by unfold wrap64;omega
 rw[e1,Int.sub_emod,e1,Int.mul_emod,e1,← Int.mul_emod,← Int.sub_emod,Int.mul_comm];congr 1;omega
theorem agq_ {op k:Int} (hh:yu_ op k=true) (hm:mkB op=true):k=1∨k=4:=by
 have ho:op=6∨op=7∨op=8∨op=21:=(by simp[mkB] at hm;omega);rcases ho with rfl|rfl|rfl|rfl
 all_goals simpa[yu_] using hh
theorem qe_ {k:Int} (n:Int) (h:k=1∨k=4∨k=0):0≤xd_ k n∧xd_ k n≤65535:=by
 rcases h with rfl|rfl|rfl
 ·rw[uc_];omega
 ·rw[vf_];omega
 ·rw[kq_ n (by decide) (by decide) (by decide) (by decide) (by decide)];omega
theorem rdo1 (k a b:Int) (w:World) (hh:yu_ 1 k=true) :
 Calls Tryz.prog 27 #[.int .i64 1,.int .i64 k,.int .i64 a,.int .i64 b] w fun e w'=>e=.returned (.tuple #[.int .i64 (doN 1 k a b),.bool (doZ 1 k b)])∧w'=w:=by
 have hr:=qb_ hh;have bA:=x5_ k a;have bB:=x5_ (xt_ 1 k) b;have hz:zi_ 1 k b=false:=yw_ k b (by decide) (by decide);have HZ:Hid (doZ 1 k b=false):=by
  show doZ 1 k b=false
  simp[doZ,hz]
 have HN:Hid (doN 1 k a b=xd_ (yd_ 1 k) (xd_ k a+xd_ (xt_ 1 k) b)):=by
  show doN 1 k a b=xd_ (yd_ 1 k) (xd_ k a+xd_ (xt_ 1 k) b)
  have e:yq_ 1 (xd_ k a) (xd_ (xt_ 1 k) b)=wrap64 (xd_ k a+xd_ (xt_ 1 k) b):=(by simp[yq_,shB,mkB,qt_,uk_]);rw[qa_ a hh hz,e,uj_]
 clear hz hh;go_enter Tryz.func27,Tryz.ntmps27;go_wp2_with (first|(go_at_call 37;refine(xw_ _ _ _).mono ?_;rintro e w' ⟨rfl,rfl⟩)|(go_at_call 42;refine(ya_ _ _ _).mono ?_;rintro e w' ⟨rfl,rfl⟩)|(go_at_call 26;refine(x2_ _ _ _).mono ?_;rintro e w' ⟨rfl,rfl⟩)|(go_at_call 28;refine(yes_any _ _).mono ?_;rintro e w' ⟨rfl,rfl⟩))
 go_ret2;refine⟨?_,rfl⟩;rw[HN.out,HZ.out];simp
theorem rdo2 (k a b:Int) (w:World) (hh:yu_ 2 k=true) :
 Calls Tryz.prog 27 #[.int .i64 2,.int .i64 k,.int .i64 a,.int .i64 b] w fun e w'=>e=.returned (.tuple #[.int .i64 (doN 2 k a b),.bool (doZ 2 k b)])∧w'=w:=by
 have hr:=qb_ hh;have bA:=x5_ k a;have bB:=x5_ (xt_ 2 k) b;have hz:zi_ 2 k b=false:=yw_ k b (by decide) (by decide);have HZ:Hid (doZ 2 k b=false):=by
  show doZ 2 k b=false
  simp[doZ,hz]
 have HN:Hid (doN 2 k a b=xd_ (yd_ 2 k) (xd_ k a - xd_ (xt_ 2 k) b)):=by
  show doN 2 k a b=xd_ (yd_ 2 k) (xd_ k a - xd_ (xt_ 2 k) b)
  have e:yq_ 2 (xd_ k a) (xd_ (xt_ 2 k) b)=wrap64 (xd_ k a - xd_ (xt_ 2 k) b):=(by simp[yq_,shB,mkB,qt_,uk_]);rw[qa_ a hh hz,e,uj_]
 clear hz hh;go_enter Tryz.func27,Tryz.ntmps27;go_wp2_with (first|(go_at_call 37;refine(xw_ _ _ _).mono ?_;rintro e w' ⟨rfl,rfl⟩)|(go_at_call 42;refine(ya_ _ _ _).mono ?_;rintro e w' ⟨rfl,rfl⟩)|(go_at_call 26;refine(x2_ _ _ _).mono ?_;rintro e w' ⟨rfl,rfl⟩)|(go_at_call 28;refine(yes_any _ _).mono ?_;rintro e w' ⟨rfl,rfl⟩))
 go_ret2;refine⟨?_,rfl⟩;rw[HN.out,HZ.out];simp
theorem rdo3 (k a b:Int) (w:World) (hh:yu_ 3 k=true) :
 Calls Tryz.prog 27 #[.int .i64 3,.int .i64 k,.int .i64 a,.int .i64 b] w fun e w'=>e=.returned (.tuple #[.int .i64 (doN 3 k a b),.bool (doZ 3 k b)])∧w'=w:=by
 have hr:=qb_ hh;have bA:=x5_ k a;have bB:=x5_ (xt_ 3 k) b;have hz:zi_ 3 k b=false:=yw_ k b (by decide) (by decide);have HZ:Hid (doZ 3 k b=false):=by
  show doZ 3 k b=false
  simp[doZ,hz]
 have HN:Hid (doN 3 k a b=xd_ (yd_ 3 k) (wrap64 (xd_ k a*xd_ (xt_ 3 k) b))):=by
  show doN 3 k a b=xd_ (yd_ 3 k) (wrap64 (xd_ k a*xd_ (xt_ 3 k) b))
  have e:yq_ 3 (xd_ k a) (xd_ (xt_ 3 k) b)=wrap64 (xd_ k a*xd_ (xt_ 3 k) b):=(by simp[yq_,shB,mkB,qt_,uk_]);rw[qa_ a hh hz,e]
 clear hz hh;go_enter Tryz.func27,Tryz.ntmps27;go_wp2_with (first|(go_at_call 37;refine(xw_ _ _ _).mono ?_;rintro e w' ⟨rfl,rfl⟩)|(go_at_call 42;refine(ya_ _ _ _).mono ?_;rintro e w' ⟨rfl,rfl⟩)|(go_at_call 26;refine(x2_ _ _ _).mono ?_;rintro e w' ⟨rfl,rfl⟩)|(go_at_call 28;refine(yes_any _ _).mono ?_;rintro e w' ⟨rfl,rfl⟩))
 go_ret2;refine⟨?_,rfl⟩;rw[HN.out,HZ.out];simp
theorem awm_ (k a b:Int) (w:World) (hh:yu_ 22 k=true) :
 Calls Tryz.prog 27 #[.int .i64 22,.int .i64 k,.int .i64 a,.int .i64 b] w fun e w'=>e=.returned (.tuple #[.int .i64 (doN 22 k a b),.bool (doZ 22 k b)])∧w'=w:=by
 have hr:=qb_ hh;have bA:=x5_ k a;have bB:=x5_ (xt_ 22 k) b;have hz:zi_ 22 k b=false:=yw_ k b (by decide) (by decide);have HZ:Hid (doZ 22 k b=false):=by
  show doZ 22 k b=false
  simp[doZ,hz]
 have HN:Hid (doN 22 k a b=xd_ (yd_ 22 k) (-(xd_ k a))):=by
  show doN 22 k a b=xd_ (yd_ 22 k) (-(xd_ k a))
  have e:yq_ 22 (xd_ k a) (xd_ (xt_ 22 k) b)=wrap64 (-(xd_ k a)):=(by simp[yq_,shB,mkB,qt_,uk_]);rw[qa_ a hh hz,e,uj_]
 clear hz hh;go_enter Tryz.func27,Tryz.ntmps27;go_wp2_with (first|(go_at_call 37;refine(xw_ _ _ _).mono ?_;rintro e w' ⟨rfl,rfl⟩)|(go_at_call 42;refine(ya_ _ _ _).mono ?_;rintro e w' ⟨rfl,rfl⟩)|(go_at_call 26;refine(x2_ _ _ _).mono ?_;rintro e w' ⟨rfl,rfl⟩)|(go_at_call 28;refine(yes_any _ _).mono ?_;rintro e w' ⟨rfl,rfl⟩))
 go_ret2;refine⟨?_,rfl⟩;rw[HN.out,HZ.out];simp
theorem rdo4 (k a b:Int) (w:World) (hh:yu_ 4 k=true) :
 Calls Tryz.prog 27 #[.int .i64 4,.int .i64 k,.int .i64 a,.int .i64 b] w fun e w'=>e=.returned (.tuple #[.int .i64 (doN 4 k a b),.bool (doZ 4 k b)])∧w'=w:=by
 have hr:=qb_ hh;have bA:=x5_ k a;have bB:=x5_ (xt_ 4 k) b;by_cases h0:xd_ (xt_ 4 k) b=0
 · have HN:Hid (doN 4 k a b=0):=by
    show doN 4 k a b=0
    simp[doN,hh,zi_,h0]
   have HZ:Hid (doZ 4 k b=true):=by
    show doZ 4 k b=true
    simp[doZ,hh,zi_,h0]
   have e0:(xd_ (xt_ 4 k) b==0)=true:=(by simpa using h0);clear h0 hh;go_enter Tryz.func27,Tryz.ntmps27;go_wp2_with (first|(go_at_call 37;refine(xw_ _ _ _).mono ?_;rintro e w' ⟨rfl,rfl⟩)|(go_at_call 42;refine(ya_ _ _ _).mono ?_;rintro e w' ⟨rfl,rfl⟩)|(go_at_call 26;refine(x2_ _ _ _).mono ?_;rintro e w' ⟨rfl,rfl⟩)|(go_at_call 28;refine(yes_any _ _).mono ?_;rintro e w' ⟨rfl,rfl⟩))
   go_ret2;refine⟨?_,rfl⟩;rw[HN.out,HZ.out];simp
 · have hz:zi_ 4 k b=false:=(by simp[zi_,h0]);have HZ:Hid (doZ 4 k b=false):=by
    show doZ 4 k b=false
    simp[doZ,hz]
   have HN:Hid (doN 4 k a b=xd_ (yd_ 4 k) (wrap64 ((xd_ k a).tdiv (xd_ (xt_ 4 k) b)))):=by
    show doN 4 k a b=xd_ (yd_ 4 k) (wrap64 ((xd_ k a).tdiv (xd_ (xt_ 4 k) b)))
    have e:yq_ 4 (xd_ k a) (xd_ (xt_ 4 k) b)=wrap64 ((xd_ k a).tdiv (xd_ (xt_ 4 k) b)):=(by simp[yq_,shB,mkB,qt_,uk_]);rw[qa_ a hh hz,e]
   have e0:(xd_ (xt_ 4 k) b==0)=false:=(by simpa using h0);clear hz hh;go_enter Tryz.func27,Tryz.ntmps27;go_wp2_with (first|(go_at_call 37;refine(xw_ _ _ _).mono ?_;rintro e w' ⟨rfl,rfl⟩)|(go_at_call 42;refine(ya_ _ _ _).mono ?_;rintro e w' ⟨rfl,rfl⟩)|(go_at_call 26;refine(x2_ _ _ _).mono ?_;rintro e w' ⟨rfl,rfl⟩)|(go_at_call 28;refine(yes_any _ _).mono ?_;rintro e w' ⟨rfl,rfl⟩))
   go_ret2;refine⟨?_,rfl⟩;rw[HN.out,HZ.out];simp
theorem rdo5 (k a b:Int) (w:World) (hh:yu_ 5 k=true) :
 Calls Tryz.prog 27 #[.int .i64 5,.int .i64 k,.int .i64 a,.int .i64 b] w fun e w'=>e=.returned (.tuple #[.int .i64 (doN 5 k a b),.bool (doZ 5 k b)])∧w'=w:=by
 have hr:=qb_ hh;have bA:=x5_ k a;have bB:=x5_ (xt_ 5 k) b;by_cases h0:xd_ (xt_ 5 k) b=0
 · have HN:Hid (doN 5 k a b=0):=by
    show doN 5 k a b=0
    simp[doN,hh,zi_,h0]
   have HZ:Hid (doZ 5 k b=true):=by
    show doZ 5 k b=true
    simp[doZ,hh,zi_,h0]
   have e0:(xd_ (xt_ 5 k) b==0)=true:=(by simpa using h0);clear h0 hh;go_enter Tryz.func27,Tryz.ntmps27;go_wp2_with (first|(go_at_call 37;refine(xw_ _ _ _).mono ?_;rintro e w' ⟨rfl,rfl⟩)|(go_at_call 42;refine(ya_ _ _ _).mono ?_;rintro e w' ⟨rfl,rfl⟩)|(go_at_call 26;refine(x2_ _ _ _).mono ?_;rintro e w' ⟨rfl,rfl⟩)|(go_at_call 28;refine(yes_any _ _).mono ?_;rintro e w' ⟨rfl,rfl⟩))
   go_ret2;refine⟨?_,rfl⟩;rw[HN.out,HZ.out];simp
 · have hz:zi_ 5 k b=false:=(by simp[zi_,h0]);have HZ:Hid (doZ 5 k b=false):=by
    show doZ 5 k b=false
    simp[doZ,hz]
   have HN:Hid (doN 5 k a b=xd_ (yd_ 5 k) (wrap64 (xd_ k a - wrap64 (wrap64 ((xd_ k a).tdiv (xd_ (xt_ 5 k) b))*xd_ (xt_ 5 k) b)))):=by
    show doN 5 k a b=xd_ (yd_ 5 k) (wrap64 (xd_ k a - wrap64 (wrap64 ((xd_ k a).tdiv (xd_ (xt_ 5 k) b))*xd_ (xt_ 5 k) b)))
    have e:yq_ 5 (xd_ k a) (xd_ (xt_ 5 k) b)=(xd_ k a).tmod (xd_ (xt_ 5 k) b):=(by simp[yq_,shB,mkB,qt_,uk_]);rw[qa_ a hh hz,e,avz_]
   have e0:(xd_ (xt_ 5 k) b==0)=false:=(by simpa using h0);clear hz hh;go_enter Tryz.func27,Tryz.ntmps27;go_wp2_with (first|(go_at_call 37;refine(xw_ _ _ _).mono ?_;rintro e w' ⟨rfl,rfl⟩)|(go_at_call 42;refine(ya_ _ _ _).mono ?_;rintro e w' ⟨rfl,rfl⟩)|(go_at_call 26;refine(x2_ _ _ _).mono ?_;rintro e w' ⟨rfl,rfl⟩)|(go_at_call 28;refine(yes_any _ _).mono ?_;rintro e w' ⟨rfl,rfl⟩))
   go_ret2;refine⟨?_,rfl⟩;rw[HN.out,HZ.out];simp
theorem rdo6 (k a b:Int) (w:World) (hh:yu_ 6 k=true) :
 Calls Tryz.prog 27 #[.int .i64 6,.int .i64 k,.int .i64 a,.int .i64 b] w fun e w'=>e=.returned (.tuple #[.int .i64 (doN 6 k a b),.bool (doZ 6 k b)])∧w'=w:=by
 have hr:=qb_ hh;have bA:=x5_ k a;have bB:=x5_ (xt_ 6 k) b;have hz:zi_ 6 k b=false:=yw_ k b (by decide) (by decide);have HZ:Hid (doZ 6 k b=false):=by
  show doZ 6 k b=false
  simp[doZ,hz]
 have hk:=agq_ hh (by decide);have hA:=qe_ a (show k=1∨k=4∨k=0 by omega);have hB:=qe_ b (show xt_ 6 k=1∨xt_ 6 k=4∨xt_ 6 k=0 by rw[show xt_ 6 k=k by simp[xt_,hh]];omega);have HN:Hid (doN 6 k a b=xd_ (yd_ 6 k) ((bwX 6 (xd_ k a).toNat (xd_ (xt_ 6 k) b).toNat:Nat):Int)):=by
  show doN 6 k a b=xd_ (yd_ 6 k) ((bwX 6 (xd_ k a).toNat (xd_ (xt_ 6 k) b).toNat:Nat):Int)
  have e:yq_ 6 (xd_ k a) (xd_ (xt_ 6 k) b)=acs_ 6 (xd_ k a) (xd_ (xt_ 6 k) b):=(by simp[yq_,shB,mkB]);have er:yd_ 6 k=k:=(by simp[yd_,hh,qt_]);rw[qa_ a hh hz,e,er,adb_ 6 k _ _ (by decide) hk hA.1 hA.2 hB.1 hB.2]
 clear hz hh hk;go_enter Tryz.func27,Tryz.ntmps27;go_wp2_with (first|(go_at_call 37;refine(xw_ _ _ _).mono ?_;rintro e w' ⟨rfl,rfl⟩)|(go_at_call 42;refine(ya_ _ _ _).mono ?_;rintro e w' ⟨rfl,rfl⟩)|(go_at_call 26;refine(x2_ _ _ _).mono ?_;rintro e w' ⟨rfl,rfl⟩)|(go_at_call 28;refine(yes_any _ _).mono ?_;rintro e w' ⟨rfl,rfl⟩)|(go_at_call 43;refine(ub_ _ _ _ _ (by decide) hA.1 hA.2 hB.1 hB.2).mono ?_;rintro e w' ⟨rfl,rfl⟩))
 go_ret2;refine⟨?_,rfl⟩;rw[HN.out,HZ.out];simp
theorem rdo7 (k a b:Int) (w:World) (hh:yu_ 7 k=true) :
 Calls Tryz.prog 27 #[.int .i64 7,.int .i64 k,.int .i64 a,.int .i64 b] w fun e w'=>e=.returned (.tuple #[.int .i64 (doN 7 k a b),.bool (doZ 7 k b)])∧w'=w:=by
 have hr:=qb_ hh;have bA:=x5_ k a;have bB:=x5_ (xt_ 7 k) b;have hz:zi_ 7 k b=false:=yw_ k b (by decide) (by decide);have HZ:Hid (doZ 7 k b=false):=by
  show doZ 7 k b=false
  simp[doZ,hz]
 have hk:=agq_ hh (by decide);have hA:=qe_ a (show k=1∨k=4∨k=0 by omega);have hB:=qe_ b (show xt_ 7 k=1∨xt_ 7 k=4∨xt_ 7 k=0 by rw[show xt_ 7 k=k by simp[xt_,hh]];omega);have HN:Hid (doN 7 k a b=xd_ (yd_ 7 k) ((bwX 7 (xd_ k a).toNat (xd_ (xt_ 7 k) b).toNat:Nat):Int)):=by
  show doN 7 k a b=xd_ (yd_ 7 k) ((bwX 7 (xd_ k a).toNat (xd_ (xt_ 7 k) b).toNat:Nat):Int)
  have e:yq_ 7 (xd_ k a) (xd_ (xt_ 7 k) b)=acs_ 7 (xd_ k a) (xd_ (xt_ 7 k) b):=(by simp[yq_,shB,mkB]);have er:yd_ 7 k=k:=(by simp[yd_,hh,qt_]);rw[qa_ a hh hz,e,er,adb_ 7 k _ _ (by decide) hk hA.1 hA.2 hB.1 hB.2]
 clear hz hh hk;go_enter Tryz.func27,Tryz.ntmps27;go_wp2_with (first|(go_at_call 37;refine(xw_ _ _ _).mono ?_;rintro e w' ⟨rfl,rfl⟩)|(go_at_call 42;refine(ya_ _ _ _).mono ?_;rintro e w' ⟨rfl,rfl⟩)|(go_at_call 26;refine(x2_ _ _ _).mono ?_;rintro e w' ⟨rfl,rfl⟩)|(go_at_call 28;refine(yes_any _ _).mono ?_;rintro e w' ⟨rfl,rfl⟩)|(go_at_call 43;refine(ub_ _ _ _ _ (by decide) hA.1 hA.2 hB.1 hB.2).mono ?_;rintro e w' ⟨rfl,rfl⟩))
 go_ret2;refine⟨?_,rfl⟩;rw[HN.out,HZ.out];simp
theorem rdo8 (k a b:Int) (w:World) (hh:yu_ 8 k=true) :
 Calls Tryz.prog 27 #[.int .i64 8,.int .i64 k,.int .i64 a,.int .i64 b] w fun e w'=>e=.returned (.tuple #[.int .i64 (doN 8 k a b),.bool (doZ 8 k b)])∧w'=w:=by
 have hr:=qb_ hh;have bA:=x5_ k a;have bB:=x5_ (xt_ 8 k) b;have hz:zi_ 8 k b=false:=yw_ k b (by decide) (by decide);have HZ:Hid (doZ 8 k b=false):=by
  show doZ 8 k b=false
  simp[doZ,hz]
 have hk:=agq_ hh (by decide);have hA:=qe_ a (show k=1∨k=4∨k=0 by omega);have hB:=qe_ b (show xt_ 8 k=1∨xt_ 8 k=4∨xt_ 8 k=0 by rw[show xt_ 8 k=k by simp[xt_,hh]];omega);have HN:Hid (doN 8 k a b=xd_ (yd_ 8 k) ((bwX 8 (xd_ k a).toNat (xd_ (xt_ 8 k) b).toNat:Nat):Int)):=by
  show doN 8 k a b=xd_ (yd_ 8 k) ((bwX 8 (xd_ k a).toNat (xd_ (xt_ 8 k) b).toNat:Nat):Int)
  have e:yq_ 8 (xd_ k a) (xd_ (xt_ 8 k) b)=acs_ 8 (xd_ k a) (xd_ (xt_ 8 k) b):=(by simp[yq_,shB,mkB]);have er:yd_ 8 k=k:=(by simp[yd_,hh,qt_]);rw[qa_ a hh hz,e,er,adb_ 8 k _ _ (by decide) hk hA.1 hA.2 hB.1 hB.2]
 clear hz hh hk;go_enter Tryz.func27,Tryz.ntmps27;go_wp2_with (first|(go_at_call 37;refine(xw_ _ _ _).mono ?_;rintro e w' ⟨rfl,rfl⟩)|(go_at_call 42;refine(ya_ _ _ _).mono ?_;rintro e w' ⟨rfl,rfl⟩)|(go_at_call 26;refine(x2_ _ _ _).mono ?_;rintro e w' ⟨rfl,rfl⟩)|(go_at_call 28;refine(yes_any _ _).mono ?_;rintro e w' ⟨rfl,rfl⟩)|(go_at_call 43;refine(ub_ _ _ _ _ (by decide) hA.1 hA.2 hB.1 hB.2).mono ?_;rintro e w' ⟨rfl,rfl⟩))
 go_ret2;refine⟨?_,rfl⟩;rw[HN.out,HZ.out];simp
theorem awn_ (k a b:Int) (w:World) (hh:yu_ 21 k=true) :
 Calls Tryz.prog 27 #[.int .i64 21,.int .i64 k,.int .i64 a,.int .i64 b] w fun e w'=>e=.returned (.tuple #[.int .i64 (doN 21 k a b),.bool (doZ 21 k b)])∧w'=w:=by
 have hr:=qb_ hh;have bA:=x5_ k a;have bB:=x5_ (xt_ 21 k) b;have hz:zi_ 21 k b=false:=yw_ k b (by decide) (by decide);have HZ:Hid (doZ 21 k b=false):=by
  show doZ 21 k b=false
  simp[doZ,hz]
 have hk:=agq_ hh (by decide);have hA:=qe_ a (show k=1∨k=4∨k=0 by omega);have hB:=qe_ b (show xt_ 21 k=1∨xt_ 21 k=4∨xt_ 21 k=0 by simp[xt_,hh]);have HN:Hid (doN 21 k a b=xd_ (yd_ 21 k) ((bwX 21 (xd_ k a).toNat (xd_ (xt_ 21 k) b).toNat:Nat):Int)):=by
  show doN 21 k a b=xd_ (yd_ 21 k) ((bwX 21 (xd_ k a).toNat (xd_ (xt_ 21 k) b).toNat:Nat):Int)
  have e:yq_ 21 (xd_ k a) (xd_ (xt_ 21 k) b)=acs_ 21 (xd_ k a) (xd_ (xt_ 21 k) b):=(by simp[yq_,shB,mkB]);have er:yd_ 21 k=k:=(by simp[yd_,hh,qt_]);rw[qa_ a hh hz,e,er,adb_ 21 k _ _ (by decide) hk hA.1 hA.2 hB.1 hB.2]
 clear hz hh hk;go_enter Tryz.func27,Tryz.ntmps27;go_wp2_with (first|(go_at_call 37;refine(xw_ _ _ _).mono ?_;rintro e w' ⟨rfl,rfl⟩)|(go_at_call 42;refine(ya_ _ _ _).mono ?_;rintro e w' ⟨rfl,rfl⟩)|(go_at_call 26;refine(x2_ _ _ _).mono ?_;rintro e w' ⟨rfl,rfl⟩)|(go_at_call 28;refine(yes_any _ _).mono ?_;rintro e w' ⟨rfl,rfl⟩)|(go_at_call 43;refine(ub_ _ _ _ _ (by decide) hA.1 hA.2 hB.1 hB.2).mono ?_;rintro e w' ⟨rfl,rfl⟩))
 go_ret2;refine⟨?_,rfl⟩;rw[HN.out,HZ.out];simp
theorem rdo9 (k a b:Int) (w:World) (hh:yu_ 9 k=true) :
 Calls Tryz.prog 27 #[.int .i64 9,.int .i64 k,.int .i64 a,.int .i64 b] w fun e w'=>e=.returned (.tuple #[.int .i64 (doN 9 k a b),.bool (doZ 9 k b)])∧w'=w:=by
 have hr:=qb_ hh;have bA:=x5_ k a;have bB:=x5_ (xt_ 9 k) b;have hz:zi_ 9 k b=false:=yw_ k b (by decide) (by decide);have HZ:Hid (doZ 9 k b=false):=by
  show doZ 9 k b=false
  simp[doZ,hz]
 have HN:Hid (doN 9 k a b=xd_ (yd_ 9 k) (tru (xd_ k a==xd_ (xt_ 9 k) b))):=by
  show doN 9 k a b=xd_ (yd_ 9 k) (tru (xd_ k a==xd_ (xt_ 9 k) b))
  have e:yq_ 9 (xd_ k a) (xd_ (xt_ 9 k) b)=tru (xd_ k a==xd_ (xt_ 9 k) b):=(by simp[yq_,shB,mkB,qt_,u2_]);rw[qa_ a hh hz,e]
 clear hz hh;go_enter Tryz.func27,Tryz.ntmps27;go_wp2_with (first|(go_at_call 37;refine(xw_ _ _ _).mono ?_;rintro e w' ⟨rfl,rfl⟩)|(go_at_call 42;refine(ya_ _ _ _).mono ?_;rintro e w' ⟨rfl,rfl⟩)|(go_at_call 26;refine(x2_ _ _ _).mono ?_;rintro e w' ⟨rfl,rfl⟩)|(go_at_call 28;refine(yes_any _ _).mono ?_;rintro e w' ⟨rfl,rfl⟩))
 go_ret2;refine⟨?_,rfl⟩;rw[HN.out,HZ.out];simp
theorem awo_ (k a b:Int) (w:World) (hh:yu_ 10 k=true) :
 Calls Tryz.prog 27 #[.int .i64 10,.int .i64 k,.int .i64 a,.int .i64 b] w fun e w'=>e=.returned (.tuple #[.int .i64 (doN 10 k a b),.bool (doZ 10 k b)])∧w'=w:=by
 have hr:=qb_ hh;have bA:=x5_ k a;have bB:=x5_ (xt_ 10 k) b;have hz:zi_ 10 k b=false:=yw_ k b (by decide) (by decide);have HZ:Hid (doZ 10 k b=false):=by
  show doZ 10 k b=false
  simp[doZ,hz]
 have HN:Hid (doN 10 k a b=xd_ (yd_ 10 k) (tru (xd_ k a != xd_ (xt_ 10 k) b))):=by
  show doN 10 k a b=xd_ (yd_ 10 k) (tru (xd_ k a != xd_ (xt_ 10 k) b))
  have e:yq_ 10 (xd_ k a) (xd_ (xt_ 10 k) b)=tru (xd_ k a != xd_ (xt_ 10 k) b):=(by simp[yq_,shB,mkB,qt_,u2_]);rw[qa_ a hh hz,e]
 clear hz hh;go_enter Tryz.func27,Tryz.ntmps27;go_wp2_with (first|(go_at_call 37;refine(xw_ _ _ _).mono ?_;rintro e w' ⟨rfl,rfl⟩)|(go_at_call 42;refine(ya_ _ _ _).mono ?_;rintro e w' ⟨rfl,rfl⟩)|(go_at_call 26;refine(x2_ _ _ _).mono ?_;rintro e w' ⟨rfl,rfl⟩)|(go_at_call 28;refine(yes_any _ _).mono ?_;rintro e w' ⟨rfl,rfl⟩))
 go_ret2;refine⟨?_,rfl⟩;rw[HN.out,HZ.out];simp
theorem awp_ (k a b:Int) (w:World) (hh:yu_ 11 k=true) :
 Calls Tryz.prog 27 #[.int .i64 11,.int .i64 k,.int .i64 a,.int .i64 b] w fun e w'=>e=.returned (.tuple #[.int .i64 (doN 11 k a b),.bool (doZ 11 k b)])∧w'=w:=by
 have hr:=qb_ hh;have bA:=x5_ k a;have bB:=x5_ (xt_ 11 k) b;have hz:zi_ 11 k b=false:=yw_ k b (by decide) (by decide);have HZ:Hid (doZ 11 k b=false):=by
  show doZ 11 k b=false
  simp[doZ,hz]
 have HN:Hid (doN 11 k a b=xd_ (yd_ 11 k) (tru (decide (xd_ k a<xd_ (xt_ 11 k) b)))):=by
  show doN 11 k a b=xd_ (yd_ 11 k) (tru (decide (xd_ k a<xd_ (xt_ 11 k) b)))
  have e:yq_ 11 (xd_ k a) (xd_ (xt_ 11 k) b)=tru (decide (xd_ k a<xd_ (xt_ 11 k) b)):=(by simp[yq_,shB,mkB,qt_,u2_]);rw[qa_ a hh hz,e]
 clear hz hh;go_enter Tryz.func27,Tryz.ntmps27;go_wp2_with (first|(go_at_call 37;refine(xw_ _ _ _).mono ?_;rintro e w' ⟨rfl,rfl⟩)|(go_at_call 42;refine(ya_ _ _ _).mono ?_;rintro e w' ⟨rfl,rfl⟩)|(go_at_call 26;refine(x2_ _ _ _).mono ?_;rintro e w' ⟨rfl,rfl⟩)|(go_at_call 28;refine(yes_any _ _).mono ?_;rintro e w' ⟨rfl,rfl⟩))
 go_ret2;refine⟨?_,rfl⟩;rw[HN.out,HZ.out];simp
theorem awq_ (k a b:Int) (w:World) (hh:yu_ 12 k=true) :
 Calls Tryz.prog 27 #[.int .i64 12,.int .i64 k,.int .i64 a,.int .i64 b] w fun e w'=>e=.returned (.tuple #[.int .i64 (doN 12 k a b),.bool (doZ 12 k b)])∧w'=w:=by
 have hr:=qb_ hh;have bA:=x5_ k a;have bB:=x5_ (xt_ 12 k) b;have hz:zi_ 12 k b=false:=yw_ k b (by decide) (by decide);have HZ:Hid (doZ 12 k b=false):=by
  show doZ 12 k b=false
  simp[doZ,hz]
 have HN:Hid (doN 12 k a b=xd_ (yd_ 12 k) (tru (decide (xd_ k a≤xd_ (xt_ 12 k) b)))):=by
  show doN 12 k a b=xd_ (yd_ 12 k) (tru (decide (xd_ k a≤xd_ (xt_ 12 k) b)))
  have e:yq_ 12 (xd_ k a) (xd_ (xt_ 12 k) b)=tru (decide (xd_ k a≤xd_ (xt_ 12 k) b)):=(by simp[yq_,shB,mkB,qt_,u2_]);rw[qa_ a hh hz,e]
 clear hz hh;go_enter Tryz.func27,Tryz.ntmps27;go_wp2_with (first|(go_at_call 37;refine(xw_ _ _ _).mono ?_;rintro e w' ⟨rfl,rfl⟩)|(go_at_call 42;refine(ya_ _ _ _).mono ?_;rintro e w' ⟨rfl,rfl⟩)|(go_at_call 26;refine(x2_ _ _ _).mono ?_;rintro e w' ⟨rfl,rfl⟩)|(go_at_call 28;refine(yes_any _ _).mono ?_;rintro e w' ⟨rfl,rfl⟩))
 go_ret2;refine⟨?_,rfl⟩;rw[HN.out,HZ.out];simp
theorem awr_ (k a b:Int) (w:World) (hh:yu_ 13 k=true) :
 Calls Tryz.prog 27 #[.int .i64 13,.int .i64 k,.int .i64 a,.int .i64 b] w fun e w'=>e=.returned (.tuple #[.int .i64 (doN 13 k a b),.bool (doZ 13 k b)])∧w'=w:=by
 have hr:=qb_ hh;have bA:=x5_ k a;have bB:=x5_ (xt_ 13 k) b;have hz:zi_ 13 k b=false:=yw_ k b (by decide) (by decide);have HZ:Hid (doZ 13 k b=false):=by
  show doZ 13 k b=false
  simp[doZ,hz]
 have HN:Hid (doN 13 k a b=xd_ (yd_ 13 k) (tru (decide (xd_ (xt_ 13 k) b<xd_ k a)))):=by
  show doN 13 k a b=xd_ (yd_ 13 k) (tru (decide (xd_ (xt_ 13 k) b<xd_ k a)))
  have e:yq_ 13 (xd_ k a) (xd_ (xt_ 13 k) b)=tru (decide (xd_ (xt_ 13 k) b<xd_ k a)):=(by simp[yq_,shB,mkB,qt_,u2_]);rw[qa_ a hh hz,e]
 clear hz hh;go_enter Tryz.func27,Tryz.ntmps27;go_wp2_with (first|(go_at_call 37;refine(xw_ _ _ _).mono ?_;rintro e w' ⟨rfl,rfl⟩)|(go_at_call 42;refine(ya_ _ _ _).mono ?_;rintro e w' ⟨rfl,rfl⟩)|(go_at_call 26;refine(x2_ _ _ _).mono ?_;rintro e w' ⟨rfl,rfl⟩)|(go_at_call 28;refine(yes_any _ _).mono ?_;rintro e w' ⟨rfl,rfl⟩))
 go_ret2;refine⟨?_,rfl⟩;rw[HN.out,HZ.out];simp
theorem aws_ (k a b:Int) (w:World) (hh:yu_ 14 k=true) :
 Calls Tryz.prog 27 #[.int .i64 14,.int .i64 k,.int .i64 a,.int .i64 b] w fun e w'=>e=.returned (.tuple #[.int .i64 (doN 14 k a b),.bool (doZ 14 k b)])∧w'=w:=by
 have hr:=qb_ hh;have bA:=x5_ k a;have bB:=x5_ (xt_ 14 k) b;have hz:zi_ 14 k b=false:=yw_ k b (by decide) (by decide);have HZ:Hid (doZ 14 k b=false):=by
  show doZ 14 k b=false
  simp[doZ,hz]
 have HN:Hid (doN 14 k a b=xd_ (yd_ 14 k) (tru (decide (xd_ (xt_ 14 k) b≤xd_ k a)))):=by
  show doN 14 k a b=xd_ (yd_ 14 k) (tru (decide (xd_ (xt_ 14 k) b≤xd_ k a)))
  have e:yq_ 14 (xd_ k a) (xd_ (xt_ 14 k) b)=tru (decide (xd_ (xt_ 14 k) b≤xd_ k a)):=(by simp[yq_,shB,mkB,qt_,u2_]);rw[qa_ a hh hz,e]
 clear hz hh;go_enter Tryz.func27,Tryz.ntmps27;go_wp2_with (first|(go_at_call 37;refine(xw_ _ _ _).mono ?_;rintro e w' ⟨rfl,rfl⟩)|(go_at_call 42;refine(ya_ _ _ _).mono ?_;rintro e w' ⟨rfl,rfl⟩)|(go_at_call 26;refine(x2_ _ _ _).mono ?_;rintro e w' ⟨rfl,rfl⟩)|(go_at_call 28;refine(yes_any _ _).mono ?_;rintro e w' ⟨rfl,rfl⟩))
 go_ret2;refine⟨?_,rfl⟩;rw[HN.out,HZ.out];simp
theorem awt_ (k a b:Int) (w:World) (hh:yu_ 15 k=true) :
 Calls Tryz.prog 27 #[.int .i64 15,.int .i64 k,.int .i64 a,.int .i64 b] w fun e w'=>e=.returned (.tuple #[.int .i64 (doN 15 k a b),.bool (doZ 15 k b)])∧w'=w:=by
 have hr:=qb_ hh;have bA:=x5_ k a;have bB:=x5_ (xt_ 15 k) b;have hz:zi_ 15 k b=false:=yw_ k b (by decide) (by decide);have HZ:Hid (doZ 15 k b=false):=by
  show doZ 15 k b=false
  simp[doZ,hz]
 have hk:k=4:=aak_ hh (by decide);have hA:=qe_ a (show k=1∨k=4∨k=0 by omega);have hs:xt_ 15 k=2:=u3_ hh (by decide);have hB:xd_ (xt_ 15 k) b≤32767:=(by rw[hs,ve_];omega);have HN:Hid (doN 15 k a b=xd_ (yd_ 15 k) (mvY 15 (xd_ k a) (xd_ (xt_ 15 k) b))):=by
  show doN 15 k a b=xd_ (yd_ 15 k) (mvY 15 (xd_ k a) (xd_ (xt_ 15 k) b))
  have e:yq_ 15 (xd_ k a) (xd_ (xt_ 15 k) b)=shK 15 (xd_ k a) (if xd_ (xt_ 15 k) b<0 then 0 else xd_ (xt_ 15 k) b):=(by simp[yq_,shB]);have er:yd_ 15 k=4:=(by rw[← hk];simp[yd_,hh,qt_]);rw[qa_ a hh hz,e,er,ab5_ 15 _ _ (by decide) hA.1 hA.2 (by split <;> omega),mvY]
 clear hz hh hk hs;go_enter Tryz.func27,Tryz.ntmps27;go_wp2_with (first|(go_at_call 37;refine(xw_ _ _ _).mono ?_;rintro e w' ⟨rfl,rfl⟩)|(go_at_call 42;refine(ya_ _ _ _).mono ?_;rintro e w' ⟨rfl,rfl⟩)|(go_at_call 26;refine(x2_ _ _ _).mono ?_;rintro e w' ⟨rfl,rfl⟩)|(go_at_call 28;refine(yes_any _ _).mono ?_;rintro e w' ⟨rfl,rfl⟩)|(go_at_call 44;refine(abe_ _ _ _ _ (by decide) hA.1 hA.2 hB).mono ?_;rintro e w' ⟨rfl,rfl⟩))
 go_ret2;refine⟨?_,rfl⟩;rw[HN.out,HZ.out];simp
theorem awu_ (k a b:Int) (w:World) (hh:yu_ 16 k=true) :
 Calls Tryz.prog 27 #[.int .i64 16,.int .i64 k,.int .i64 a,.int .i64 b] w fun e w'=>e=.returned (.tuple #[.int .i64 (doN 16 k a b),.bool (doZ 16 k b)])∧w'=w:=by
 have hr:=qb_ hh;have bA:=x5_ k a;have bB:=x5_ (xt_ 16 k) b;have hz:zi_ 16 k b=false:=yw_ k b (by decide) (by decide);have HZ:Hid (doZ 16 k b=false):=by
  show doZ 16 k b=false
  simp[doZ,hz]
 have hk:k=4:=aak_ hh (by decide);have hA:=qe_ a (show k=1∨k=4∨k=0 by omega);have hs:xt_ 16 k=2:=u3_ hh (by decide);have hB:xd_ (xt_ 16 k) b≤32767:=(by rw[hs,ve_];omega);have HN:Hid (doN 16 k a b=xd_ (yd_ 16 k) (mvY 16 (xd_ k a) (xd_ (xt_ 16 k) b))):=by
  show doN 16 k a b=xd_ (yd_ 16 k) (mvY 16 (xd_ k a) (xd_ (xt_ 16 k) b))
  have e:yq_ 16 (xd_ k a) (xd_ (xt_ 16 k) b)=shK 16 (xd_ k a) (if xd_ (xt_ 16 k) b<0 then 0 else xd_ (xt_ 16 k) b):=(by simp[yq_,shB]);have er:yd_ 16 k=4:=(by rw[← hk];simp[yd_,hh,qt_]);rw[qa_ a hh hz,e,er,ab5_ 16 _ _ (by decide) hA.1 hA.2 (by split <;> omega),mvY]
 clear hz hh hk hs;go_enter Tryz.func27,Tryz.ntmps27;go_wp2_with (first|(go_at_call 37;refine(xw_ _ _ _).mono ?_;rintro e w' ⟨rfl,rfl⟩)|(go_at_call 42;refine(ya_ _ _ _).mono ?_;rintro e w' ⟨rfl,rfl⟩)|(go_at_call 26;refine(x2_ _ _ _).mono ?_;rintro e w' ⟨rfl,rfl⟩)|(go_at_call 28;refine(yes_any _ _).mono ?_;rintro e w' ⟨rfl,rfl⟩)|(go_at_call 44;refine(abe_ _ _ _ _ (by decide) hA.1 hA.2 hB).mono ?_;rintro e w' ⟨rfl,rfl⟩))
 go_ret2;refine⟨?_,rfl⟩;rw[HN.out,HZ.out];simp
theorem awv_ (k a b:Int) (w:World) (hh:yu_ 17 k=true) :
 Calls Tryz.prog 27 #[.int .i64 17,.int .i64 k,.int .i64 a,.int .i64 b] w fun e w'=>e=.returned (.tuple #[.int .i64 (doN 17 k a b),.bool (doZ 17 k b)])∧w'=w:=by
 have hr:=qb_ hh;have bA:=x5_ k a;have bB:=x5_ (xt_ 17 k) b;have hz:zi_ 17 k b=false:=yw_ k b (by decide) (by decide);have HZ:Hid (doZ 17 k b=false):=by
  show doZ 17 k b=false
  simp[doZ,hz]
 have hk:k=4:=aak_ hh (by decide);have hA:=qe_ a (show k=1∨k=4∨k=0 by omega);have hs:xt_ 17 k=2:=u3_ hh (by decide);have hB:xd_ (xt_ 17 k) b≤32767:=(by rw[hs,ve_];omega);have HN:Hid (doN 17 k a b=xd_ (yd_ 17 k) (mvY 17 (xd_ k a) (xd_ (xt_ 17 k) b))):=by
  show doN 17 k a b=xd_ (yd_ 17 k) (mvY 17 (xd_ k a) (xd_ (xt_ 17 k) b))
  have e:yq_ 17 (xd_ k a) (xd_ (xt_ 17 k) b)=shK 17 (xd_ k a) (if xd_ (xt_ 17 k) b<0 then 0 else xd_ (xt_ 17 k) b):=(by simp[yq_,shB]);have er:yd_ 17 k=4:=(by rw[← hk];simp[yd_,hh,qt_]);rw[qa_ a hh hz,e,er,ab5_ 17 _ _ (by decide) hA.1 hA.2 (by split <;> omega),mvY]
 clear hz hh hk hs;go_enter Tryz.func27,Tryz.ntmps27;go_wp2_with (first|(go_at_call 37;refine(xw_ _ _ _).mono ?_;rintro e w' ⟨rfl,rfl⟩)|(go_at_call 42;refine(ya_ _ _ _).mono ?_;rintro e w' ⟨rfl,rfl⟩)|(go_at_call 26;refine(x2_ _ _ _).mono ?_;rintro e w' ⟨rfl,rfl⟩)|(go_at_call 28;refine(yes_any _ _).mono ?_;rintro e w' ⟨rfl,rfl⟩)|(go_at_call 44;refine(abe_ _ _ _ _ (by decide) hA.1 hA.2 hB).mono ?_;rintro e w' ⟨rfl,rfl⟩))
 go_ret2;refine⟨?_,rfl⟩;rw[HN.out,HZ.out];simp
theorem aww_ (k a b:Int) (w:World) (hh:yu_ 18 k=true) :
 Calls Tryz.prog 27 #[.int .i64 18,.int .i64 k,.int .i64 a,.int .i64 b] w fun e w'=>e=.returned (.tuple #[.int .i64 (doN 18 k a b),.bool (doZ 18 k b)])∧w'=w:=by
 have hr:=qb_ hh;have bA:=x5_ k a;have bB:=x5_ (xt_ 18 k) b;have hz:zi_ 18 k b=false:=yw_ k b (by decide) (by decide);have HZ:Hid (doZ 18 k b=false):=by
  show doZ 18 k b=false
  simp[doZ,hz]
 have hk:k=4:=aak_ hh (by decide);have hA:=qe_ a (show k=1∨k=4∨k=0 by omega);have hs:xt_ 18 k=2:=u3_ hh (by decide);have hB:xd_ (xt_ 18 k) b≤32767:=(by rw[hs,ve_];omega);have HN:Hid (doN 18 k a b=xd_ (yd_ 18 k) (mvY 18 (xd_ k a) (xd_ (xt_ 18 k) b))):=by
  show doN 18 k a b=xd_ (yd_ 18 k) (mvY 18 (xd_ k a) (xd_ (xt_ 18 k) b))
  have e:yq_ 18 (xd_ k a) (xd_ (xt_ 18 k) b)=shK 18 (xd_ k a) (if xd_ (xt_ 18 k) b<0 then 0 else xd_ (xt_ 18 k) b):=(by simp[yq_,shB]);have er:yd_ 18 k=4:=(by rw[← hk];simp[yd_,hh,qt_]);rw[qa_ a hh hz,e,er,ab5_ 18 _ _ (by decide) hA.1 hA.2 (by split <;> omega),mvY]
 clear hz hh hk hs;go_enter Tryz.func27,Tryz.ntmps27;go_wp2_with (first|(go_at_call 37;refine(xw_ _ _ _).mono ?_;rintro e w' ⟨rfl,rfl⟩)|(go_at_call 42;refine(ya_ _ _ _).mono ?_;rintro e w' ⟨rfl,rfl⟩)|(go_at_call 26;refine(x2_ _ _ _).mono ?_;rintro e w' ⟨rfl,rfl⟩)|(go_at_call 28;refine(yes_any _ _).mono ?_;rintro e w' ⟨rfl,rfl⟩)|(go_at_call 44;refine(abe_ _ _ _ _ (by decide) hA.1 hA.2 hB).mono ?_;rintro e w' ⟨rfl,rfl⟩))
 go_ret2;refine⟨?_,rfl⟩;rw[HN.out,HZ.out];simp
theorem awx_ (k a b:Int) (w:World) (hh:yu_ 19 k=true) :
 Calls Tryz.prog 27 #[.int .i64 19,.int .i64 k,.int .i64 a,.int .i64 b] w fun e w'=>e=.returned (.tuple #[.int .i64 (doN 19 k a b),.bool (doZ 19 k b)])∧w'=w:=by
 have hr:=qb_ hh;have bA:=x5_ k a;have bB:=x5_ (xt_ 19 k) b;have hz:zi_ 19 k b=false:=yw_ k b (by decide) (by decide);have HZ:Hid (doZ 19 k b=false):=by
  show doZ 19 k b=false
  simp[doZ,hz]
 have e:yq_ 19 (xd_ k a) (xd_ (xt_ 19 k) b)=(if xd_ (xt_ 19 k) b<xd_ k a then xd_ (xt_ 19 k) b else xd_ k a):=(by simp[yq_,shB,mkB,qt_,uk_]);have ed:=qa_ a hh hz;by_cases hc:xd_ (xt_ 19 k) b<xd_ k a
 · have HN:Hid (doN 19 k a b=xd_ (yd_ 19 k) (xd_ (xt_ 19 k) b)):=by
    show doN 19 k a b=xd_ (yd_ 19 k) (xd_ (xt_ 19 k) b)
    rw[ed,e];congr 1;rw[if_pos hc]
   clear ed e hz hh;go_enter Tryz.func27,Tryz.ntmps27;go_wp2_with (first|(go_at_call 37;refine(xw_ _ _ _).mono ?_;rintro e w' ⟨rfl,rfl⟩)|(go_at_call 42;refine(ya_ _ _ _).mono ?_;rintro e w' ⟨rfl,rfl⟩)|(go_at_call 26;refine(x2_ _ _ _).mono ?_;rintro e w' ⟨rfl,rfl⟩)|(go_at_call 28;refine(yes_any _ _).mono ?_;rintro e w' ⟨rfl,rfl⟩))
   go_ret2;refine⟨?_,rfl⟩;rw[HN.out,HZ.out];simp
 · have HN:Hid (doN 19 k a b=xd_ (yd_ 19 k) (xd_ k a)):=by
    show doN 19 k a b=xd_ (yd_ 19 k) (xd_ k a)
    rw[ed,e];congr 1;rw[if_neg hc]
   clear ed e hz hh;go_enter Tryz.func27,Tryz.ntmps27;go_wp2_with (first|(go_at_call 37;refine(xw_ _ _ _).mono ?_;rintro e w' ⟨rfl,rfl⟩)|(go_at_call 42;refine(ya_ _ _ _).mono ?_;rintro e w' ⟨rfl,rfl⟩)|(go_at_call 26;refine(x2_ _ _ _).mono ?_;rintro e w' ⟨rfl,rfl⟩)|(go_at_call 28;refine(yes_any _ _).mono ?_;rintro e w' ⟨rfl,rfl⟩))
   go_ret2;refine⟨?_,rfl⟩;rw[HN.out,HZ.out];simp
theorem awy_ (k a b:Int) (w:World) (hh:yu_ 20 k=true) :
 Calls Tryz.prog 27 #[.int .i64 20,.int .i64 k,.int .i64 a,.int .i64 b] w fun e w'=>e=.returned (.tuple #[.int .i64 (doN 20 k a b),.bool (doZ 20 k b)])∧w'=w:=by
 have hr:=qb_ hh;have bA:=x5_ k a;have bB:=x5_ (xt_ 20 k) b;have hz:zi_ 20 k b=false:=yw_ k b (by decide) (by decide);have HZ:Hid (doZ 20 k b=false):=by
  show doZ 20 k b=false
  simp[doZ,hz]
 have e:yq_ 20 (xd_ k a) (xd_ (xt_ 20 k) b)=(if xd_ k a<xd_ (xt_ 20 k) b then xd_ (xt_ 20 k) b else xd_ k a):=(by simp[yq_,shB,mkB,qt_,uk_]);have ed:=qa_ a hh hz;by_cases hc:xd_ k a<xd_ (xt_ 20 k) b
 · have HN:Hid (doN 20 k a b=xd_ (yd_ 20 k) (xd_ (xt_ 20 k) b)):=by
    show doN 20 k a b=xd_ (yd_ 20 k) (xd_ (xt_ 20 k) b)
    rw[ed,e];congr 1;rw[if_pos hc]
   clear ed e hz hh;go_enter Tryz.func27,Tryz.ntmps27;go_wp2_with (first|(go_at_call 37;refine(xw_ _ _ _).mono ?_;rintro e w' ⟨rfl,rfl⟩)|(go_at_call 42;refine(ya_ _ _ _).mono ?_;rintro e w' ⟨rfl,rfl⟩)|(go_at_call 26;refine(x2_ _ _ _).mono ?_;rintro e w' ⟨rfl,rfl⟩)|(go_at_call 28;refine(yes_any _ _).mono ?_;rintro e w' ⟨rfl,rfl⟩))
   go_ret2;refine⟨?_,rfl⟩;rw[HN.out,HZ.out];simp
 · have HN:Hid (doN 20 k a b=xd_ (yd_ 20 k) (xd_ k a)):=by
    show doN 20 k a b=xd_ (yd_ 20 k) (xd_ k a)
    rw[ed,e];congr 1;rw[if_neg hc]
   clear ed e hz hh;go_enter Tryz.func27,Tryz.ntmps27;go_wp2_with (first|(go_at_call 37;refine(xw_ _ _ _).mono ?_;rintro e w' ⟨rfl,rfl⟩)|(go_at_call 42;refine(ya_ _ _ _).mono ?_;rintro e w' ⟨rfl,rfl⟩)|(go_at_call 26;refine(x2_ _ _ _).mono ?_;rintro e w' ⟨rfl,rfl⟩)|(go_at_call 28;refine(yes_any _ _).mono ?_;rintro e w' ⟨rfl,rfl⟩))
   go_ret2;refine⟨?_,rfl⟩;rw[HN.out,HZ.out];simp
theorem awz_ (k a b:Int) (w:World) (hh:yu_ 23 k=true) :
 Calls Tryz.prog 27 #[.int .i64 23,.int .i64 k,.int .i64 a,.int .i64 b] w fun e w'=>e=.returned (.tuple #[.int .i64 (doN 23 k a b),.bool (doZ 23 k b)])∧w'=w:=by
 have hr:=qb_ hh;have bA:=x5_ k a;have bB:=x5_ (xt_ 23 k) b;have hz:zi_ 23 k b=false:=yw_ k b (by decide) (by decide);have HZ:Hid (doZ 23 k b=false):=by
  show doZ 23 k b=false
  simp[doZ,hz]
 have e:yq_ 23 (xd_ k a) (xd_ (xt_ 23 k) b)=(if xd_ k a<wrap64 (-(xd_ k a)) then wrap64 (-(xd_ k a)) else xd_ k a):=(by simp[yq_,shB,mkB,qt_,uk_]);have ed:=qa_ a hh hz;by_cases hc:xd_ k a<0
 · have HN:Hid (doN 23 k a b=xd_ (yd_ 23 k) (-(xd_ k a))):=by
    show doN 23 k a b=xd_ (yd_ 23 k) (-(xd_ k a))
    rw[ed,e];congr 1;rw[qc_ (by omega) (by omega)];split <;> omega
   clear ed e hz hh;go_enter Tryz.func27,Tryz.ntmps27;go_wp2_with (first|(go_at_call 37;refine(xw_ _ _ _).mono ?_;rintro e w' ⟨rfl,rfl⟩)|(go_at_call 42;refine(ya_ _ _ _).mono ?_;rintro e w' ⟨rfl,rfl⟩)|(go_at_call 26;refine(x2_ _ _ _).mono ?_;rintro e w' ⟨rfl,rfl⟩)|(go_at_call 28;refine(yes_any _ _).mono ?_;rintro e w' ⟨rfl,rfl⟩))
   go_ret2;refine⟨?_,rfl⟩;rw[HN.out,HZ.out];simp
 · have HN:Hid (doN 23 k a b=xd_ (yd_ 23 k) (xd_ k a)):=by
    show doN 23 k a b=xd_ (yd_ 23 k) (xd_ k a)
    rw[ed,e];congr 1;rw[qc_ (by omega) (by omega)];split <;> omega
   clear ed e hz hh;go_enter Tryz.func27,Tryz.ntmps27;go_wp2_with (first|(go_at_call 37;refine(xw_ _ _ _).mono ?_;rintro e w' ⟨rfl,rfl⟩)|(go_at_call 42;refine(ya_ _ _ _).mono ?_;rintro e w' ⟨rfl,rfl⟩)|(go_at_call 26;refine(x2_ _ _ _).mono ?_;rintro e w' ⟨rfl,rfl⟩)|(go_at_call 28;refine(yes_any _ _).mono ?_;rintro e w' ⟨rfl,rfl⟩))
   go_ret2;refine⟨?_,rfl⟩;rw[HN.out,HZ.out];simp
theorem rdo_any (op k a b:Int) (w:World) :
 Calls Tryz.prog 27 #[.int .i64 op,.int .i64 k,.int .i64 a,.int .i64 b] w fun e w'=>e=.returned (.tuple #[.int .i64 (doN op k a b),.bool (doZ op k b)])∧w'=w:=by
 by_cases hh:yu_ op k=true
 · rcases ops op with rfl|rfl|rfl|rfl|rfl|rfl|rfl|rfl|rfl|rfl|rfl|rfl|rfl|rfl|rfl|rfl|rfl|rfl|rfl|rfl|rfl|rfl|rfl|h
   ·exact rdo1 k a b w hh
   ·exact rdo2 k a b w hh
   ·exact rdo3 k a b w hh
   ·exact rdo4 k a b w hh
   ·exact rdo5 k a b w hh
   ·exact rdo6 k a b w hh
   ·exact rdo7 k a b w hh
   ·exact rdo8 k a b w hh
   ·exact rdo9 k a b w hh
   ·exact awo_ k a b w hh
   ·exact awp_ k a b w hh
   ·exact awq_ k a b w hh
   ·exact awr_ k a b w hh
   ·exact aws_ k a b w hh
   ·exact awt_ k a b w hh
   ·exact awu_ k a b w hh
   ·exact awv_ k a b w hh
   ·exact aww_ k a b w hh
   ·exact awx_ k a b w hh
   ·exact awy_ k a b w hh
   ·exact awn_ k a b w hh
   ·exact awm_ k a b w hh
   ·exact awz_ k a b w hh
   ·rw[vv_ k h] at hh;cases hh
 · have hh:yu_ op k=false:=(by simpa using hh);have hr:(yd_ op k==0)=true:=by
    have:=(kt_ op k).2 hh;simp[this]
   have HN:Hid (doN op k a b=0):=by
    show doN op k a b=0
    simp[doN,hh]
   have HZ:Hid (doZ op k b=false):=by
    show doZ op k b=false
    simp[doZ,hh]
   clear hh;go_enter Tryz.func27,Tryz.ntmps27;go_wp2_with (go_at_call 37;refine(xw_ _ _ _).mono ?_;rintro e w' ⟨rfl,rfl⟩)
   go_ret2;refine⟨?_,rfl⟩;rw[HN.out,HZ.out];simp
end Go.Proofs.YtcgbfhpmkpglkaaGreatDoor.Ce
