/- Texts put together: G1. -/
import Derived.Test.YtcgbfhpmkpglkaaGreatDoorQ09
import Derived.BigRegion
set_option linter.unusedVariables false
set_option linter.unusedSimpArgs false
set_option maxHeartbeats 8000000
namespace Go.Proofs.YtcgbfhpmkpglkaaGreatDoor
open Go.RowKit
attribute [local go_sem ↓] Go.wp_at_zero Go.wp_at_succ
theorem aj3_ (t:List Ins):qw_ t↔∀ p q,p<q→q<(yh_ t t.length).length→ue_ t ((yh_ t t.length).getD p 0) ((yh_ t t.length).getD q 0):=by
 rw[al4_];constructor
 ·intro h p q hpq hq;have hp:p<(yh_ t t.length).length:=(by omega);have:=h p q hpq hq hp;simpa[List.getD,hp,hq] using this
 ·intro h p q hpq hq hp;have:=h p q hpq hq;simpa[List.getD,hp,hq] using this
theorem aca_ {t:List Ins} {i:Nat} (hE:isE t i=true) (h:¬(rnd t (i+1)<t.length∧i+1≤rnd t (i+1)∧(nth t (rnd t (i+1))).a=(nth t i).a)):¬(LpOk t∧qw_ t):=fun hx=>h (hx.1.enters i hE)
def amr_ (w:World) (t:List Ins) (e:Ending) (w':World):Prop:=
 w.grownBy w' none∧((LpOk t∧qw_ t∧∃ v,e=.returned (.tuple #[v,.bool true])∧LpsAt w' v t (yh_ t t.length))∨(¬(LpOk t∧qw_ t)∧e=.returned (.tuple #[.slice none 0 0,.bool false])))
set_option maxRecDepth 10000 in
theorem aff_ (tv:Value) (t:List Ins) (w:World) (hT:TxtAt w tv t) (hl:t.length≤100000):Calls Tryz.prog 21 #[tv] w (amr_ w t):=by
 obtain⟨ta,tcap,rfl,hT⟩:=hT;have HT:Hid (t=[]∨∃ b off,ta=some ⟨b,off,none⟩∧∀ i,i<t.length→
  w.cell? ⟨b,off+i*4,none⟩=some (.int .i64 (nth t i).d)∧w.cell? ⟨b,off+i*4+1,none⟩=some (.int .i64 (nth t i).a)∧
  w.cell? ⟨b,off+i*4+2,none⟩=some (.int .i64 (nth t i).b)∧w.cell? ⟨b,off+i*4+3,none⟩=some (.int .i64 (nth t i).c)):=hT
 clear hT;obtain⟨n,hn⟩:∃ n,t.length=n:=⟨_,rfl⟩;have HN:=hd_ hn;rw[hn] at hl ⊢;clear hn;obtain⟨H,hH⟩:∃ H,w.heap.size=H:=⟨_,rfl⟩;go_enter Tryz.func21,Tryz.ntmps21;go_wp2;go_loopg [5,6] n (fun gk s5 s6 wx=>∃ k:Nat,s6=.int .i64 k∧k≤n∧gk=n - k∧s5=.int .i64 (rdsK t k)∧w=wx)
 case atStart=>exact⟨0,rfl,Nat.zero_le _,by omega,rfl,rfl⟩
 case round=>
  obtain⟨k,rfl,hk,hgk,rfl,hww⟩:=hrel;subst hww;have HG:=hd_ hgk;clear hgk;have hrl:=ar5_ t k;by_cases hlt:k<n
  · have hkl:k<t.length:=(by rw[HN.out];exact hlt);rcases HT.out with h|⟨b',off,rfl,hc⟩
    ·subst h;simp at hkl
    obtain⟨q0,q1,q2,q3⟩:=hc k hkl;have hsu:=amn_ t k hkl;have HSU:=hd_ hsu;have HD:Hid (isR t k=((nth t k).d==14)):=(rfl:isR t k=((nth t k).d==14));generalize(nth t k).d=d at *;generalize rdsK t k=m at *;clear hc hsu;have i1:(0:Int)≤(k:Int):=(by omega);have i2:(k:Int)<(n:Int):=(by omega);by_cases h14:d=14
    · subst h14;go_wp2;have hgl:=HG.out;go_roundg (n - (k+1))
      all_goals first|omega|exact⟨k+1,by go_num,by omega,by omega,by rw[HSU.out,HD.out];simp,rfl⟩
    · have e14:(d==14)=false:=(by simpa using h14);go_wp2;have hgl:=HG.out;go_roundg (n - (k+1))
      all_goals first|omega|exact⟨k+1,by go_num,by omega,by omega,by rw[HSU.out,HD.out,e14];simp,rfl⟩
  · have hkn:k=n:=(by omega);subst hkn;have hk':¬((k:Int)<(k:Int)):=(by omega);clear HG hk';go_wp2;go_loopg [4,7] k (fun gk s4 s7 wx=>∃(i:Nat) (lv:Value),lv=s4∧s7=.int .i64 i∧i≤k∧gk=k - i∧OwnL H wx lv t (yh_ t i)∧(∀ e,e<i→alm_ t e)∧w.grownBy wx none∧H≤wx.heap.size)
    case atStart=>exact⟨0,_,rfl,rfl,Nat.zero_le _,by omega,OwnL.nil _ _ _,fun e he=>by omega,gz_,by omega⟩
    case round=>
     obtain⟨i,lv,hlv,rfl,hi,hgi,hown,hgood,hgr,hHs⟩:=hrel;subst hlv;have HG:Hid (_=k - i):=hgi;have HO:=hd_ hown;have HQ:=hd_ hgood;obtain⟨la,lcap,hlf⟩:=hown.form;clear hgi hown hgood;subst hlf;by_cases hlt2:i<k
     · have hil:i<t.length:=(by rw[HN.out];exact hlt2);rcases HT.out with h|⟨b',off,rfl,hc⟩
       ·subst h;simp at hil
       have HC:Hid (∀ i,i<t.length→wr.cell? ⟨b',off+i*4,none⟩=some (.int .i64 (nth t i).d)∧wr.cell? ⟨b',off+i*4+1,none⟩=some (.int .i64 (nth t i).a)∧wr.cell? ⟨b',off+i*4+2,none⟩=some (.int .i64 (nth t i).b)∧wr.cell? ⟨b',off+i*4+3,none⟩=some (.int .i64 (nth t i).c)):=fun i hi=>⟨hgr.cell (hc i hi).1 (by simp),hgr.cell (hc i hi).2.1 (by simp),hgr.cell (hc i hi).2.2.1 (by simp),hgr.cell (hc i hi).2.2.2 (by simp)⟩;obtain⟨q0,q1,q2,q3⟩:=HC.out i hil;clear hc;obtain⟨d,hd⟩:∃ d,(nth t i).d=d:=⟨_,rfl⟩;obtain⟨a,ha⟩:∃ d,(nth t i).a=d:=⟨_,rfl⟩;obtain⟨b,hb⟩:∃ d,(nth t i).b=d:=⟨_,rfl⟩;rw[hd] at q0;rw[ha] at q1;rw[hb] at q2;generalize(nth t i).c=c at q3;have HD:Hid ((nth t i).d=d∧(nth t i).a=a∧(nth t i).b=b):=⟨hd,ha,hb⟩;clear hd ha hb;have i1:(0:Int)≤(i:Int):=(by omega);have i2:(i:Int)<(k:Int):=(by omega);by_cases h13:d=13
       · subst h13;have hE:isE t i=true:=(by simp[isE,HD.out.1]);have HEN:=hd_ (by rw[acl_,if_pos hE]:yh_ t (i+1)=yh_ t i++[i]);have hrn:=at7_ t (i+1);rw[HN.out] at hrn;go_wp2;go_loopg [8,9] k (fun gk s8 s9 wx=>∃ j:Nat,s9=.int .i64 j∧j≤k∧gk=k - j∧wr=wx∧((s8=.int .i64 (-1)∧j≤rnd t (i+1))∨(s8=.int .i64 (rnd t (i+1))∧rnd t (i+1)<k)))
         case atStart=>exact⟨0,rfl,Nat.zero_le _,by omega,rfl,.inl ⟨rfl,Nat.zero_le _⟩⟩
         case round=>
          obtain⟨j,rfl,hj,hgj,hww,hfd⟩:=hrel;subst hww;have HGJ:Hid (_=k - j):=hgj;clear hgj;rcases hfd with⟨rfl,hjr⟩|⟨rfl,hfk⟩
          · by_cases hjk:j<k
            · obtain⟨p0,p1,p2,p3⟩:=HC.out j (by rw[HN.out];exact hjk);have HJ:Hid (isR t j=((nth t j).d==14)):=(rfl:isR t j=((nth t j).d==14));obtain⟨dj,hdj⟩:∃ d,(nth t j).d=d:=⟨_,rfl⟩;obtain⟨bj,hbj⟩:∃ d,(nth t j).b=d:=⟨_,rfl⟩;rw[hdj] at p0;rw[hbj] at p2;have HDJ:Hid ((nth t j).d=dj∧(nth t j).b=bj):=⟨hdj,hbj⟩;clear hdj hbj p1 p3;have j1:(0:Int)≤(j:Int):=(by omega);have j2:(j:Int)<(k:Int):=(by omega);by_cases h14:dj=14
              · subst h14;have hRj:isR t j=true:=(by simp[isR,HDJ.out.1]);by_cases hbi:bj=(i:Int)+1
                · subst hbi;have hfj:rnd t (i+1)=j:=by
                   have:=an6_ (f:=i+1) hRj (by rw[HDJ.out.2];simp);omega
                  go_wp2;have hgl:=HGJ.out;go_roundg (k - (j+1))
                  all_goals first|omega|exact⟨j+1,by go_num,by omega,by omega,rfl,.inr ⟨by rw[hfj],by omega⟩⟩
                · have e1:(bj==(i:Int)+1)=false:=(by simpa using hbi);have hne:rnd t (i+1)≠j:=fun h=>by
                   have:=(jp_ (t:=t) (f:=i+1) (by rw[h,HN.out];exact hjk)).2;rw[h,HDJ.out.2] at this;apply hbi;rw[this];simp
                  go_wp2;have hgl:=HGJ.out;go_roundg (k - (j+1))
                  all_goals first|omega|exact⟨j+1,by go_num,by omega,by omega,rfl,.inl ⟨rfl,by omega⟩⟩
              · have e1:(dj==14)=false:=(by simpa using h14);have hne:rnd t (i+1)≠j:=fun h=>by
                 have:=(jp_ (t:=t) (f:=i+1) (by rw[h,HN.out];exact hjk)).1;rw[h] at this;simp[isR,HDJ.out.1] at this;exact h14 this
                go_wp2;have hgl:=HGJ.out;go_roundg (k - (j+1))
                all_goals first|omega|exact⟨j+1,by go_num,by omega,by omega,rfl,.inl ⟨rfl,by omega⟩⟩
            · have hjk':¬((j:Int)<(k:Int)):=(by omega);have HX:Hid (¬(LpOk t∧qw_ t)):=aca_ hE (by rw[HN.out];omega);have k1:decide ((-1:Int)<(i:Int)+1)=true:=(by simp;omega);go_wp2;go_quiet (fail)
              go_wp2;go_ret2;exact⟨x4_ hgr _,.inr ⟨HX.out,rfl⟩⟩
          · by_cases hjk:j<k
            · have hjk':(j:Int)<(k:Int):=(by omega);obtain⟨g0,g1,g2,g3⟩:=HC.out (rnd t (i+1)) (by rw[HN.out];omega);obtain⟨f,hf⟩:∃ f,rnd t (i+1)=f:=⟨_,rfl⟩;obtain⟨af,haf⟩:∃ f,(nth t (rnd t (i+1))).a=f:=⟨_,rfl⟩;rw[haf] at g1;rw[hf] at g0 g1 g2 g3;rw[hf] at hfk;have HF:Hid (rnd t (i+1)=f∧(nth t (rnd t (i+1))).a=af):=⟨hf,haf⟩;rw[hf] at hrn;rw[hf];clear hf haf g0 g2 g3;have j1:(0:Int)≤(f:Int):=(by omega);have j2:(f:Int)<(k:Int):=(by omega);have j3:¬((f:Int)<0):=(by omega);have j4:decide ((f:Int)<0)=false:=(by simp);by_cases hfi:(f:Int)<(i:Int)+1
              · have HX:Hid (¬(LpOk t∧qw_ t)):=aca_ hE (by rw[HF.out.1];omega);have k1:decide ((f:Int)<(i:Int)+1)=true:=(by simpa using hfi);go_wp2;go_quiet (fail)
                go_wp2;go_ret2;exact⟨x4_ hgr _,.inr ⟨HX.out,rfl⟩⟩
              · have k1:decide ((f:Int)<(i:Int)+1)=false:=(by simp;omega);by_cases haa:af=a
                · subst haa;have HGE:Hid (alm_ t i):=fun _=>⟨by rw[HN.out,HF.out.1];omega,by rw[HF.out.1];omega,by rw[HF.out.2,HD.out.2.1]⟩;have hlv2:lpV t i=[.int .i64 ((i:Int)+1),.int .i64 (f:Int),.int .i64 af,.int .i64 b]:=(by simp only[lpV,HF.out.1,HD.out.2.1,HD.out.2.2]);go_wp2;go_quiet (fail)
                  go_wp2;obtain⟨wz,hwz⟩:∃ wz,wr.drewN nq=wz:=⟨_,rfl⟩;have hgz:wr.grownBy wz none:=(by rw[← hwz];exact x4_ gz_ _);rw[hwz];clear hwz;have w1:wrap64 ((i:Int)+1)=(i:Int)+1:=(by unfold wrap64;omega);have w2':IntKind.i64.wrap ((i:Int)+1)=(i:Int)+1:=(by rw[IntWalk.i64_left];exact w1);have q1z:=hgz.cell q1 (by simp);have q2z:=hgz.cell q2 (by simp);have hsz:=hgz.size;have hbH:b'<H:=by
                   rcases HT.out with h|⟨b'',off'',hx,hc⟩
                   ·subst h;simp at hil
                   ·injection hx with hx;injection hx with hx1 hx2;rw[hx1,← hH];exact World.block_lt_of_cell? w _ (hc i hil).1
                  obtain⟨v',w2,hrun,hown2,hg2⟩:=(HO.out.keptN (hgz.trans (xf_ (gr1 wz (.cells #[.int .i64 ((i:Int)+1),.int .i64 (f:Int),.int .i64 af,.int .i64 b] 71))))).more i wz.heap.size (by rw[hlv2];exact heap_alloc_new _ _) (by have:=aao_ t i;omega) (by show H≤(wz.alloc _).heap.size;simp;omega);have HRUN:Hid (_=_):=hrun;have HO2:=hd_ (by rw[HEN.out];exact hown2:OwnL H w2 v' t (yh_ t (i+1)));have hrow:=HO.out.row;have HG2:Hid (w.grownBy w2 none):=x6_ (xf_ (xb_ (hgr.trans hgz) _)) hg2 (.inr fun x hx=>by have:=hrow x hx;omega);have HKP:Hid (w2.cell? ⟨b',off+i*4+1,none⟩=some (.int .i64 af)∧w2.cell? ⟨b',off+i*4+2,none⟩=some (.int .i64 b)):=⟨hg2.cell ((xf_ (gr1 wz _)).cell q1z (by simp)) (fun e=>by have:=hrow b' (by simpa using e.symm);omega),hg2.cell ((xf_ (gr1 wz _)).cell q2z (by simp)) (fun e=>by have:=hrow b' (by simpa using e.symm);omega)⟩;have hs2:H≤w2.heap.size:=by
                   have h:=hg2.size;have h':(wz.alloc (.cells #[.int .i64 ((i:Int)+1),.int .i64 (f:Int),.int .i64 af,.int .i64 b] 71)).heap.size≤w2.heap.size:=h;simp at h';omega
                  clear hrun hown2 hg2 hrow;go_region_held3 (fun w'=>w'.cell? ⟨b',off+i*4+1,none⟩=some (.int .i64 af)∧w'.cell? ⟨b',off+i*4+2,none⟩=some (.int .i64 b)) (first|(go_keep;done)|exact HKP.out) (first|(refine y7_ (by rfl) _ _ 66 (by rfl) _ _ _ w2 (by rfl) (by rfl) HRUN.out ?_))
                  go_wp2;have hgl:=HG.out;go_roundg (k - (i+1))
                  all_goals first|omega|exact⟨i+1,v',rfl,by go_num,by omega,by omega,HO2.out,(fun e he=>by
                   by_cases e1:e=i
                   ·subst e1;exact HGE.out
                   ·exact HQ.out e (by omega)),HG2.out,hs2⟩
                · have HX:Hid (¬(LpOk t∧qw_ t)):=aca_ hE (by rw[HF.out.2,HD.out.2.1];exact fun h=>haa h.2.2);have k2:(af==a)=false:=(by simpa using haa);have k3:(af != a)=true:=(by simpa using haa);go_wp2;go_quiet (fail)
                  go_wp2;go_ret2;exact⟨x4_ hgr _,.inr ⟨HX.out,rfl⟩⟩
            · have hjk':¬((j:Int)<(k:Int)):=(by omega);obtain⟨g0,g1,g2,g3⟩:=HC.out (rnd t (i+1)) (by rw[HN.out];omega);obtain⟨f,hf⟩:∃ f,rnd t (i+1)=f:=⟨_,rfl⟩;obtain⟨af,haf⟩:∃ f,(nth t (rnd t (i+1))).a=f:=⟨_,rfl⟩;rw[haf] at g1;rw[hf] at g0 g1 g2 g3;rw[hf] at hfk;have HF:Hid (rnd t (i+1)=f∧(nth t (rnd t (i+1))).a=af):=⟨hf,haf⟩;rw[hf] at hrn;rw[hf];clear hf haf g0 g2 g3;have j1:(0:Int)≤(f:Int):=(by omega);have j2:(f:Int)<(k:Int):=(by omega);have j3:¬((f:Int)<0):=(by omega);have j4:decide ((f:Int)<0)=false:=(by simp);by_cases hfi:(f:Int)<(i:Int)+1
              · have HX:Hid (¬(LpOk t∧qw_ t)):=aca_ hE (by rw[HF.out.1];omega);have k1:decide ((f:Int)<(i:Int)+1)=true:=(by simpa using hfi);go_wp2;go_quiet (fail)
                go_wp2;go_ret2;exact⟨x4_ hgr _,.inr ⟨HX.out,rfl⟩⟩
              · have k1:decide ((f:Int)<(i:Int)+1)=false:=(by simp;omega);by_cases haa:af=a
                · subst haa;have HGE:Hid (alm_ t i):=fun _=>⟨by rw[HN.out,HF.out.1];omega,by rw[HF.out.1];omega,by rw[HF.out.2,HD.out.2.1]⟩;have hlv2:lpV t i=[.int .i64 ((i:Int)+1),.int .i64 (f:Int),.int .i64 af,.int .i64 b]:=(by simp only[lpV,HF.out.1,HD.out.2.1,HD.out.2.2]);go_wp2;go_quiet (fail)
                  go_wp2;obtain⟨wz,hwz⟩:∃ wz,wr.drewN nq=wz:=⟨_,rfl⟩;have hgz:wr.grownBy wz none:=(by rw[← hwz];exact x4_ gz_ _);rw[hwz];clear hwz;have w1:wrap64 ((i:Int)+1)=(i:Int)+1:=(by unfold wrap64;omega);have w2':IntKind.i64.wrap ((i:Int)+1)=(i:Int)+1:=(by rw[IntWalk.i64_left];exact w1);have q1z:=hgz.cell q1 (by simp);have q2z:=hgz.cell q2 (by simp);have hsz:=hgz.size;have hbH:b'<H:=by
                   rcases HT.out with h|⟨b'',off'',hx,hc⟩
                   ·subst h;simp at hil
                   ·injection hx with hx;injection hx with hx1 hx2;rw[hx1,← hH];exact World.block_lt_of_cell? w _ (hc i hil).1
                  obtain⟨v',w2,hrun,hown2,hg2⟩:=(HO.out.keptN (hgz.trans (xf_ (gr1 wz (.cells #[.int .i64 ((i:Int)+1),.int .i64 (f:Int),.int .i64 af,.int .i64 b] 71))))).more i wz.heap.size (by rw[hlv2];exact heap_alloc_new _ _) (by have:=aao_ t i;omega) (by show H≤(wz.alloc _).heap.size;simp;omega);have HRUN:Hid (_=_):=hrun;have HO2:=hd_ (by rw[HEN.out];exact hown2:OwnL H w2 v' t (yh_ t (i+1)));have hrow:=HO.out.row;have HG2:Hid (w.grownBy w2 none):=x6_ (xf_ (xb_ (hgr.trans hgz) _)) hg2 (.inr fun x hx=>by have:=hrow x hx;omega);have HKP:Hid (w2.cell? ⟨b',off+i*4+1,none⟩=some (.int .i64 af)∧w2.cell? ⟨b',off+i*4+2,none⟩=some (.int .i64 b)):=⟨hg2.cell ((xf_ (gr1 wz _)).cell q1z (by simp)) (fun e=>by have:=hrow b' (by simpa using e.symm);omega),hg2.cell ((xf_ (gr1 wz _)).cell q2z (by simp)) (fun e=>by have:=hrow b' (by simpa using e.symm);omega)⟩;have hs2:H≤w2.heap.size:=by
                   have h:=hg2.size;have h':(wz.alloc (.cells #[.int .i64 ((i:Int)+1),.int .i64 (f:Int),.int .i64 af,.int .i64 b] 71)).heap.size≤w2.heap.size:=h;simp at h';omega
                  clear hrun hown2 hg2 hrow;go_region_held3 (fun w'=>w'.cell? ⟨b',off+i*4+1,none⟩=some (.int .i64 af)∧w'.cell? ⟨b',off+i*4+2,none⟩=some (.int .i64 b)) (first|(go_keep;done)|exact HKP.out) (first|(refine y7_ (by rfl) _ _ 66 (by rfl) _ _ _ w2 (by rfl) (by rfl) HRUN.out ?_))
                  go_wp2;have hgl:=HG.out;go_roundg (k - (i+1))
                  all_goals first|omega|exact⟨i+1,v',rfl,by go_num,by omega,by omega,HO2.out,(fun e he=>by
                   by_cases e1:e=i
                   ·subst e1;exact HGE.out
                   ·exact HQ.out e (by omega)),HG2.out,hs2⟩
                · have HX:Hid (¬(LpOk t∧qw_ t)):=aca_ hE (by rw[HF.out.2,HD.out.2.1];exact fun h=>haa h.2.2);have k2:(af==a)=false:=(by simpa using haa);have k3:(af != a)=true:=(by simpa using haa);go_wp2;go_quiet (fail)
                  go_wp2;go_ret2;exact⟨x4_ hgr _,.inr ⟨HX.out,rfl⟩⟩
       · have e13:(d==13)=false:=(by simpa using h13);have e13b:(d != 13)=true:=(by simpa using h13);have hE:isE t i=false:=(by simp[isE,HD.out.1];exact h13);have HEN:=hd_ (by rw[acl_,hE];simp:yh_ t (i+1)=yh_ t i);go_wp2;have hgl:=HG.out;go_roundg (k - (i+1))
         all_goals first|omega|exact⟨i+1,_,rfl,by go_num,by omega,by omega,by rw[HEN.out];exact HO.out,(fun e he=>by
          by_cases e1:e=i
          ·subst e1;intro h;rw[hE] at h;simp at h
          ·exact HQ.out e (by omega)),hgr,hHs⟩
     · have hin:i=k:=(by omega);subst hin;have hk':¬((i:Int)<(i:Int)):=(by omega);have HLA:=HO.out.at;obtain⟨la',lcap',hlf2,hla⟩:=HLA;injection hlf2 with hx1 _ hx2;subst hx1 hx2;by_cases hcnt:rdsK t i=(yh_ t i).length
       · have c1:((rdsK t i:Nat):Int)=(((yh_ t i).length:Nat):Int):=(by omega);have HLP:Hid (LpOk t):=(aih_ t).2 ⟨fun e he=>HQ.out e (by rw[HN.out] at he;exact he),by rw[HN.out];exact hcnt⟩;have HLL:Hid (yh_ t i=[]∨∃ b off,la=some ⟨b,off,none⟩∧∀ j,j<(yh_ t i).length→
          wr.cell? ⟨b,off+j*4,none⟩=some (.int .i64 ((((yh_ t i).getD j 0):Nat)+1:Int))∧wr.cell? ⟨b,off+j*4+1,none⟩=some (.int .i64 (rnd t ((yh_ t i).getD j 0+1)))∧
          wr.cell? ⟨b,off+j*4+2,none⟩=some (.int .i64 (nth t ((yh_ t i).getD j 0)).a)∧wr.cell? ⟨b,off+j*4+3,none⟩=some (.int .i64 (nth t ((yh_ t i).getD j 0)).b)):=hla
         have hel:=aao_ t i;obtain⟨L,hL⟩:∃ L,yh_ t i=L:=⟨_,rfl⟩;rw[hL] at HLL hcnt c1 hel;rw[hL];have HL:=hd_ (by rw[HN.out];exact hL:yh_ t t.length=L);have HPI:=hd_ (by rw[← HL.out];exact aj3_ t:qw_ t↔∀ p q,p<q→q<L.length→ue_ t (L.getD p 0) (L.getD q 0));obtain⟨m,hm⟩:∃ m,L.length=m:=⟨_,rfl⟩;have HM:=hd_ hm;rw[hm] at c1 hel;rw[hm];have HWR:=hd_ hgr;obtain⟨wl,hwl⟩:∃ wl,wl=wr:=⟨_,rfl⟩;subst hwl;clear hm hL hla HO HG hcnt HQ hk';go_wp2;go_loopg [10] m (fun gk s10 wx=>∃ p:Nat,s10=.int .i64 p∧p≤m∧gk=m - p∧(∀ p' q,p'<p→p'<q→q<m→ue_ t (L.getD p' 0) (L.getD q 0))∧wl.grownBy wx none)
         case atStart=>exact⟨0,rfl,Nat.zero_le _,by omega,fun p' q h=>by omega,gz_⟩
         case round=>
          obtain⟨p,rfl,hp,hgp,hpo,hg4⟩:=hrel;have HGP:Hid (_=m - p):=hgp;have HPO:=hd_ hpo;clear hgp hpo;by_cases hpm:p<m
          · have p2:(p:Int)<(m:Int):=(by omega);go_wp2;go_loopg [11] (m - (p+1)) (fun gk s11 wx=>∃ q:Nat,s11=.int .i64 q∧p+1≤q∧q≤m∧gk=m - q∧(∀ q',p<q'→q'<q→ue_ t (L.getD p 0) (L.getD q' 0))∧wl.grownBy wx none)
            case atStart=>exact⟨p+1,by go_num,Nat.le_refl _,by omega,by omega,fun q' h1 h2=>by omega,hg4⟩
            case round=>
             obtain⟨q,rfl,hpq,hqm,hgq,hqo,hg5⟩:=hrel;have HGQ:Hid (_=m - q):=hgq;have HQO:=hd_ hqo;clear hgq hqo;by_cases hlt5:q<m
             · rcases HLL.out with h|⟨bl,ol,rfl,hcl⟩
               ·rw[h] at HM;have:=HM.out;simp at this;omega
               obtain⟨x0,x1,x2,x3⟩:=hcl p (by rw[HM.out];exact hpm);obtain⟨y0,y1,y2,y3⟩:=hcl q (by rw[HM.out];exact hlt5);have x0:=hg5.cell x0 (by simp);have x1:=hg5.cell x1 (by simp);have x2:=hg5.cell x2 (by simp);have x3:=hg5.cell x3 (by simp);have y0:=hg5.cell y0 (by simp);have y1:=hg5.cell y1 (by simp);have y2:=hg5.cell y2 (by simp);have y3:=hg5.cell y3 (by simp);have HPK:=hd_ (by unfold ue_;omega:ue_ t (L.getD p 0) (L.getD q 0)↔((rnd t (L.getD p 0+1):Int)<((L.getD q 0:Nat):Int)+1∨((rnd t (L.getD q 0+1):Int)<(rnd t (L.getD p 0+1):Int)∧(nth t (L.getD p 0)).a≠(nth t (L.getD q 0)).a)));have HBAD:Hid (¬ue_ t (L.getD p 0) (L.getD q 0)→¬(LpOk t∧qw_ t)):=fun hno hx=>hno (HPI.out.1 hx.2 p q (by omega) (by rw[HM.out];exact hlt5));generalize(((L.getD p 0:Nat):Int)+1)=Fp at x0;generalize(((L.getD q 0:Nat):Int)+1)=Fq at y0 HPK;generalize((rnd t (L.getD p 0+1):Nat):Int)=Tp at x1 HPK;generalize((rnd t (L.getD q 0+1):Nat):Int)=Tq at y1 HPK;generalize(nth t (L.getD p 0)).a=Cp at x2 HPK;generalize(nth t (L.getD q 0)).a=Cq at y2 HPK;generalize(nth t (L.getD p 0)).b=Mp at x3;generalize(nth t (L.getD q 0)).b=Mq at y3;clear hcl;have z1:(0:Int)≤(p:Int):=(by omega);have z2:(0:Int)≤(q:Int):=(by omega);have z3:(q:Int)<(m:Int):=(by omega);have X0:∀ ob,(wr.alloc ob).cell? ⟨bl,ol+p*4,none⟩=some (.int .i64 Fp):=fun ob=>(gr1 wr ob).cell x0 (by simp);have X0':∀ ob ob',((wr.alloc ob).alloc ob').cell? ⟨bl,ol+p*4,none⟩=some (.int .i64 Fp):=fun ob ob'=>(xb_ (gr1 wr ob) ob').cell x0 (by simp)
               have X1:∀ ob,(wr.alloc ob).cell? ⟨bl,ol+p*4+1,none⟩=some (.int .i64 Tp):=fun ob=>(gr1 wr ob).cell x1 (by simp);have X1':∀ ob ob',((wr.alloc ob).alloc ob').cell? ⟨bl,ol+p*4+1,none⟩=some (.int .i64 Tp):=fun ob ob'=>(xb_ (gr1 wr ob) ob').cell x1 (by simp);have X2:∀ ob,(wr.alloc ob).cell? ⟨bl,ol+p*4+2,none⟩=some (.int .i64 Cp):=fun ob=>(gr1 wr ob).cell x2 (by simp);have X2':∀ ob ob',((wr.alloc ob).alloc ob').cell? ⟨bl,ol+p*4+2,none⟩=some (.int .i64 Cp):=fun ob ob'=>(xb_ (gr1 wr ob) ob').cell x2 (by simp);have X3:∀ ob,(wr.alloc ob).cell? ⟨bl,ol+p*4+3,none⟩=some (.int .i64 Mp):=fun ob=>(gr1 wr ob).cell x3 (by simp);have X3':∀ ob ob',((wr.alloc ob).alloc ob').cell? ⟨bl,ol+p*4+3,none⟩=some (.int .i64 Mp):=fun ob ob'=>(xb_ (gr1 wr ob) ob').cell x3 (by simp);have Y0:∀ ob,(wr.alloc ob).cell? ⟨bl,ol+q*4,none⟩=some (.int .i64 Fq):=fun ob=>(gr1 wr ob).cell y0 (by simp);have Y0':∀ ob ob',((wr.alloc ob).alloc ob').cell? ⟨bl,ol+q*4,none⟩=some (.int .i64 Fq):=fun ob ob'=>(xb_ (gr1 wr ob) ob').cell y0 (by simp);have Y1:∀ ob,(wr.alloc ob).cell? ⟨bl,ol+q*4+1,none⟩=some (.int .i64 Tq):=fun ob=>(gr1 wr ob).cell y1 (by simp);have Y1':∀ ob ob',((wr.alloc ob).alloc ob').cell? ⟨bl,ol+q*4+1,none⟩=some (.int .i64 Tq):=fun ob ob'=>(xb_ (gr1 wr ob) ob').cell y1 (by simp);have Y2:∀ ob,(wr.alloc ob).cell? ⟨bl,ol+q*4+2,none⟩=some (.int .i64 Cq):=fun ob=>(gr1 wr ob).cell y2 (by simp);have Y2':∀ ob ob',((wr.alloc ob).alloc ob').cell? ⟨bl,ol+q*4+2,none⟩=some (.int .i64 Cq):=fun ob ob'=>(xb_ (gr1 wr ob) ob').cell y2 (by simp)
               have Y3:∀ ob,(wr.alloc ob).cell? ⟨bl,ol+q*4+3,none⟩=some (.int .i64 Mq):=fun ob=>(gr1 wr ob).cell y3 (by simp);have Y3':∀ ob ob',((wr.alloc ob).alloc ob').cell? ⟨bl,ol+q*4+3,none⟩=some (.int .i64 Mq):=fun ob ob'=>(xb_ (gr1 wr ob) ob').cell y3 (by simp);by_cases hA:Tp<Fq
               · have HOK:Hid (ue_ t (L.getD p 0) (L.getD q 0)):=HPK.out.2 (.inl hA);have dA:decide (Tp<Fq)=true:=(by simpa using hA);go_wp2;go_region
                 all_goals go_wp2
                 all_goals have hgl:=HGQ.out
                 all_goals go_roundg (m - (q+1))
                 all_goals first|omega|exact⟨q+1,by go_num,by omega,by omega,by omega,(fun q' h1 h2=>by
                  by_cases e1:q'=q
                  ·subst e1;exact HOK.out
                  ·exact HQO.out q' h1 (by omega)),xf_ (xb_ (xb_ hg5 _) _)⟩
               · have dA:decide (Tp<Fq)=false:=(by simpa using hA);by_cases hI:Tq<Tp
                 · have dI:decide (Tq<Tp)=true:=(by simpa using hI);by_cases hCC:Cp=Cq
                   · have HX:Hid (¬(LpOk t∧qw_ t)):=HBAD.out (fun h=>by rcases HPK.out.1 h with h|h;exact hA h;exact h.2 hCC);subst hCC;go_wp2;go_region
                     all_goals go_wp2
                     all_goals go_ret2
                     all_goals exact⟨HWR.out.trans (xf_ (xb_ (xb_ hg5 _) _)),.inr ⟨HX.out,rfl⟩⟩
                   · have HOK:Hid (ue_ t (L.getD p 0) (L.getD q 0)):=HPK.out.2 (.inr ⟨hI,hCC⟩);have dC:(Cp==Cq)=false:=(by simpa using hCC);go_wp2;go_region
                     all_goals go_wp2
                     all_goals have hgl:=HGQ.out
                     all_goals go_roundg (m - (q+1))
                     all_goals first|omega|exact⟨q+1,by go_num,by omega,by omega,by omega,(fun q' h1 h2=>by
                      by_cases e1:q'=q
                      ·subst e1;exact HOK.out
                      ·exact HQO.out q' h1 (by omega)),xf_ (xb_ (xb_ hg5 _) _)⟩
                 · have dI:decide (Tq<Tp)=false:=(by simpa using hI);have HX:Hid (¬(LpOk t∧qw_ t)):=HBAD.out (fun h=>by rcases HPK.out.1 h with h|h;exact hA h;exact hI h.1);go_wp2;go_region
                   all_goals go_wp2
                   all_goals go_ret2
                   all_goals exact⟨HWR.out.trans (xf_ (xb_ (xb_ hg5 _) _)),.inr ⟨HX.out,rfl⟩⟩
             · have hq':¬((q:Int)<(m:Int)):=(by omega);go_wp2;have hgl:=HGP.out;go_roundg (m - (p+1))
               all_goals first|omega|exact⟨p+1,by go_num,by omega,by omega,(fun p' q' h1 h2 h3=>by
                by_cases e1:p'=p
                ·subst e1;exact HQO.out q' h2 (by omega)
                ·exact HPO.out p' q' (by omega) h2 h3),hg5⟩
          · have hp':¬((p:Int)<(m:Int)):=(by omega);have hpp:p=m:=(by omega);subst hpp;have HPA:Hid (qw_ t):=HPI.out.2 (fun p' q h1 h2=>HPO.out p' q (by rw[HM.out] at h2;omega) h1 (by rw[HM.out] at h2;exact h2));have HFI:=hd_ (by
             refine LpsAt.grown (w:=wl) ?_ hg4;rw[HL.out];exact⟨la,lcap,by rw[HM.out],HLL.out⟩:LpsAt wr (.slice la p lcap) t (yh_ t t.length))
            go_wp2;go_ret2;exact⟨HWR.out.trans hg4,.inl ⟨HLP.out,HPA.out,_,rfl,HFI.out⟩⟩
       ·have c1:(((rdsK t i:Nat):Int)==(((yh_ t i).length:Nat):Int))=false:=(by simp;omega);have c2:(((rdsK t i:Nat):Int) != (((yh_ t i).length:Nat):Int))=true:=(by simp;omega);have HX:Hid (¬(LpOk t∧qw_ t)):=fun hx=>hcnt (by have:=((aih_ t).1 hx.1).2;rw[HN.out] at this;exact this);go_wp2;go_ret2;exact⟨hgr,.inr ⟨HX.out,rfl⟩⟩
end Go.Proofs.YtcgbfhpmkpglkaaGreatDoor
