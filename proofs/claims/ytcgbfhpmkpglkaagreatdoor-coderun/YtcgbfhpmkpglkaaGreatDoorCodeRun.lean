/- PROVED: whatever the code, the unit, the frame and the time, CodeRun returns true: code.Run answers what the document's Run answers, twice the same (frame, steps, faults, code), changes neither the code nor the frame that it was given, and keeps nothing of them. Conditions: the package-level table that the row lists holds what the program's text lays (the card ties that). -/
import Derived.Test.YtcgbfhpmkpglkaaGreatDoorQ41
import Derived.Test.YtcgbfhpmkpglkaaGreatDoorQ46
import Derived.Test.YtcgbfhpmkpglkaaGreatDoorQ47
set_option linter.unusedVariables false
set_option linter.unusedSimpArgs false
set_option maxHeartbeats 8000000
namespace Go.Proofs.YtcgbfhpmkpglkaaGreatDoor
open Go.RowKit
attribute [local go_sem ↓] Go.wp_at_zero Go.wp_at_succ
def ark_ (w:World) (ps:List Pr) (unit:Int) (fr:List Int) (now:Int) (e:Ending) (w':World):Prop:=
 w.grownBy w' none∧((vs_ (Classical.propDecidable,()) ps unit fr.length≠0∧e=.returned (.agg #[.slice none 0 0,.int .i64 0,.int .i64 0,.int .i64 (vs_ (Classical.propDecidable,()) ps unit fr.length)]))
  ∨(vs_ (Classical.propDecidable,()) ps unit fr.length=0∧∃(rv:Value) (m1:Ms) (k:Nat),e=.returned (.agg #[rv,.int .i64 m1.sp,.int .i64 m1.fl,.int .i64 0])∧OwnV w.heap.size w' rv m1.ar∧m1.ar.length=fr.length∧Ex ps now k unit.toNat 0 0 j4_ ⟨[],fr,0,0⟩ m1))
set_option maxRecDepth 10000 in
theorem arl_ (cv:Value) (ps:List Pr) (unit now:Int) (fa:Option Addr) (fr:List Int) (fc:Nat) (w:World) (hC:CdP w cv ps) (hl:ps.length≤1000000000000000) (hf:rd w (.slice fa fr.length fc) fr) (hE:vs_ (Classical.propDecidable,()) ps unit fr.length=0→∃ k m1,Ex ps now k unit.toNat 0 0 j4_ ⟨[],fr,0,0⟩ m1) :
 Calls Tryz.prog 5 #[.agg #[cv],.int .i64 unit,.slice fa fr.length fc,.int .i64 now] w (ark_ w ps unit fr now):=by
 obtain⟨ca,cap,rfl,hcap,hc⟩:=hC;have HC:Hid (CdP w (.slice ca ps.length cap) ps):=⟨ca,cap,rfl,hcap,hc⟩;have HCC:=hd_ hc;have HF:=hd_ hf;have HE:=hd_ hE;obtain⟨n,hn⟩:∃ n,ps.length=n:=⟨_,rfl⟩;have HN:=hd_ hn;obtain⟨m,hm⟩:∃ m,fr.length=m:=⟨_,rfl⟩;have HM:=hd_ hm;obtain⟨l,cd,un,hR⟩:∃ l cd un,jx_ (Classical.propDecidable,()) ps=(l,cd,un):=⟨_,_,_,rfl⟩;have HR:=hd_ hR;have cV:∀ W,w.grownBy W none→Calls Tryz.prog 15 #[.agg #[.slice ca n cap]] W (adc_ W (l,cd,un)):=fun W hW=>by
  have h:=ajc_ ak6_ _ ps W (HC.out.grown hW) hl;rw[hR,hn] at h;exact h
 have HRV:Hid (vs_ (Classical.propDecidable,()) ps unit m=if cd≠0 then 12 else if unit<0∨(n:Int)≤unit then 6 else if m≠(ps.getD unit.toNat pr0).fs.length then 4 else 0):=by
  unfold vs_;rw[hR,hn];exact rfl
 unfold ark_;rw[hn,hm];clear hc hR hn hcap hf hm hE;obtain⟨H,hH⟩:∃ H,w.heap.size=H:=⟨_,rfl⟩;have HHH:=hd_ hH;go_enter Tryz.func5,Tryz.ntmps5;go_wp2_with fail
 refine(cV _ (xb_ (gr1 _ _) _)).mono ?_;rintro e w1 ⟨v,rfl,hown,hg⟩;have HG:Hid (w.grownBy w1 none):=(xb_ (gr1 _ _) _).trans hg;have z1:=xa_ (kept ((gr1 _ _).trans hg) (xj_ hH.symm (.cells #[.slice ca n cap] 24))) 0;simp at z1;have HZ1:=hd_ z1;have HZ2:Hid (w1.heap[H+1]?=some (.cells #[.slice none 0 0,.int .i64 0,.int .i64 0,.int .i64 0] 28)):=kept hg (xj_ (by simp[hH]) _);have z1a:∀ o:Obj,(w1.alloc o).cell? ⟨H,0,none⟩=some (.slice ca n cap):=fun o=>(gr1 w1 o).cell z1 (by simp);obtain⟨H1,hH1⟩:∃ H1,w1.heap.size=H1:=⟨_,rfl⟩;have hlt:H+1<H1:=(by have:=xg_ HZ2.out;omega);clear hown hg cV;have f0:=xc_ HZ2.out 0;have f1:=xc_ HZ2.out 1;have f2:=xc_ HZ2.out 2;have f3:=xc_ HZ2.out 3;have r0:=xa_ HZ2.out 0;have r1:=xa_ HZ2.out 1;have r2:=xa_ HZ2.out 2;have r3:=xa_ HZ2.out 3;simp at r0 r1 r2 r3;by_cases h1:cd=0
 · subst h1;by_cases h2:unit<0
   · have g2:decide (unit<0)=true:=(by simpa using h2);have hrr:vs_ (Classical.propDecidable,()) ps unit m=6:=(by rw[HRV.out,if_neg (by simp),if_pos (.inl h2)]);have HRR:=hd_ hrr;clear hrr;go_wp2;refine⟨rfl,.agg #[.slice none 0 0,.int .i64 0,.int .i64 0,.int .i64 6],?_,?_⟩
     ·simp[results,Tryz.f5];exact aah_ _ _ _ rfl (by rw[xh_ (by simp;omega),xk_ (xk_ (xk_ (xk_ HZ2.out 0 _) 1 _) 2 _) 3 _];rfl)
     ·have hHH:=HHH.out;exact⟨xb_ (((HG.out.trans2 (by omega) 0 _).trans2 (by omega) 1 _ |>.trans2 (by omega) 2 _).trans2 (by omega) 3 _) _,.inl ⟨by rw[HRR.out];decide,by rw[HRR.out]⟩⟩
   · have g2:decide (unit<0)=false:=(by simpa using h2);obtain⟨k,rfl⟩:=Int.eq_ofNat_of_zero_le (show 0≤unit by omega);by_cases h3:k<n
     · have g3:decide ((n:Int)≤(k:Int))=false:=(by simp;omega);obtain⟨b,off,rfl,hcc⟩:∃ b off,ca=some ⟨b,off,none⟩∧∀ i,i<ps.length→∃ fv sv tv,PrAt w b (off+i*5) (ps.getD i pr0) fv sv tv:=by
        rcases HCC.out with h|h
        ·have:=HN.out;rw[h] at this;simp at this;omega
        ·exact h
       have HPR:=hd_ hcc;obtain⟨fv,sv,tv,hp⟩:=hcc k (by rw[HN.out];exact h3);obtain⟨fa',fc',rfl,_⟩:=hp.first
       have hq:=HG.out.cell hp.fcell (by simp);have e0:vs_ (Classical.propDecidable,()) ps (k:Int) m=if m≠(ps.getD k pr0).fs.length then 4 else 0:=by rw[HRV.out,if_neg (by simp),if_neg (by omega)];rfl
       have HE0:=hd_ e0;clear e0;obtain⟨q,hqd⟩:∃ q,(ps.getD k pr0).fs.length=q:=⟨_,rfl⟩;have HQD:=hd_ hqd;rw[hqd] at hq HE0;have hqa:∀ o:Obj,(w1.alloc o).cell? ⟨b,off+k*5+2,none⟩=some (.slice fa' q fc'):=fun o=>(gr1 w1 o).cell hq (by simp);have i1:(0:Int)≤(k:Int):=(by omega);have i2:(k:Int)<(n:Int):=(by omega);clear hcc hp hqd;by_cases h4:m=q
       · subst h4;have hrr:vs_ (Classical.propDecidable,()) ps (k:Int) m=0:=(by rw[HE0.out,if_neg (by simp)]);have HRR:=hd_ hrr;clear hrr HE0;obtain⟨kx,m1,hex⟩:=HE.out (by rw[HM.out];exact HRR.out);rw[show((k:Int)).toNat=k by simp] at hex;have HEX:=hd_ hex;have hok:ac5_ ps:=by
          have h:=HR.out;unfold jx_ at h;split at h
          ·simp at h
          ·exact fun u hu=>alr_ ps.length 0 [] l un h u (by omega) (by omega)
         have HOK:=hd_ hok;have hm2:m≤20000:=by
          have h:=(hok k (by rw[HN.out];exact h3)).frame;rw[HQD.out] at h;exact h
         have hout:=hex.out hok (by rw[HN.out];exact h3) (by show 0+_≤fr.length;rw[HQD.out,HM.out];omega);have HOL:Hid (m1.ar.length=fr.length):=hout.1;have HRU:Hid (RefU w b off n cap ps now k m):=by
          have h:=arj_ (c:=w) (pb:=b) (po:=off) (pcap:=cap) (now:=now) hok HPR.out ps.length k (by rw[HN.out];exact h3) (by rw[HN.out];exact h3);rw[HQD.out,HN.out] at h;exact h
         obtain⟨i3,hi3,hz3,hs3,hb3⟩:=yt_ v1_;have HNW:Hid (∀ W,w.grownBy W none→(fr.map (Value.int .i64)).length=m*1∧(m=0∨∃ b off2,fa=some ⟨b,off2,none⟩∧∀ j2 u2,(fr.map (Value.int .i64))[j2]?=some u2→W.cell? ((⟨b,off2,none⟩:Addr).add j2)=some u2)):=fun W hW=>by
          refine⟨by rw[List.length_map,HM.out];omega,?_⟩;obtain⟨fa2,fc2,e,h⟩:=xo_ HF.out hW;simp at e;obtain⟨rfl,rfl⟩:=e;rcases h with h|⟨b2,o2,rfl,h⟩
          ·left;rw[← HM.out,h];rfl
          ·refine .inr ⟨b2,o2,rfl,fun j2 u2 hj=>?_⟩;rw[List.getElem?_map] at hj;obtain⟨y,hy,rfl⟩:=Option.map_eq_some_iff.1 hj;have hlt:=(List.getElem?_eq_some_iff.1 hy).1;rw[jc_,h j2 hlt];simp[List.getD,hy]
         clear hex hok hout;have HMB:Hid (((w1.alloc (.cells #[.int .i64 0,.int .i64 un,.int .i64 0] 46)).alloc (.cells #[.slice (some ⟨b,off,none⟩) n cap,.int .i64 now,.slice none 0 0,.int .i64 0,.int .i64 0] 51)).heap[H1+1]?=some (.cells #[.slice (some ⟨b,off,none⟩) n cap,.int .i64 now,.slice none 0 0,.int .i64 0,.int .i64 0] 51)):=xj_ (by simp[hH1]) _;have HZ3:Hid (((w1.alloc (.cells #[.int .i64 0,.int .i64 un,.int .i64 0] 46)).alloc (.cells #[.slice (some ⟨b,off,none⟩) n cap,.int .i64 now,.slice none 0 0,.int .i64 0,.int .i64 0] 51)).heap[H+1]?=some (.cells #[.slice none 0 0,.int .i64 0,.int .i64 0,.int .i64 0] 28)):=kept (xb_ (gr1 _ _) _) HZ2.out;have HGG:Hid (w.grownBy ((w1.alloc (.cells #[.int .i64 0,.int .i64 un,.int .i64 0] 46)).alloc (.cells #[.slice (some ⟨b,off,none⟩) n cap,.int .i64 now,.slice none 0 0,.int .i64 0,.int .i64 0] 51)) none):=xb_ (xb_ HG.out _) _;clear f0 f1 f2 f3 r0 r1 r2 r3;go_wp2_with (first
          | (at_builtin
             refine ua_ rfl _ _ 25 rfl 3 i3 _ 1 8 Tryz.underlying25 hi3 hz3 hs3 hb3 rfl (by omega) fa m fc (fr.map (Value.int .i64)) rfl rfl (HNW.out _ HGG.out).1 (HNW.out _ HGG.out).2 (by simp[Value.oneCell']) (by unfold maxLen;omega) (by omega) ?_;intro oa oc w4 hown4 hg4;have HO4:Hid (OwnV (H1+2) w4 (.slice oa m oc) fr):=by
              have h:=hown4;rw[show((w1.alloc (.cells #[.int .i64 0,.int .i64 un,.int .i64 0] 46)).alloc (.cells #[.slice (some ⟨b,off,none⟩) n cap,.int .i64 now,.slice none 0 0,.int .i64 0,.int .i64 0] 51)).heap.size=H1+2 by simp[hH1]] at h;unfold OwnV;rw[HM.out];exact h
             have HG4:Hid (w.grownBy w4 none):=HGG.out.trans hg4;have HMB4:Hid (w4.heap[H1+1]?=some (.cells #[.slice (some ⟨b,off,none⟩) n cap,.int .i64 now,.slice none 0 0,.int .i64 0,.int .i64 0] 51)):=kept hg4 HMB.out;have HZ4:Hid (w4.heap[H+1]?=some (.cells #[.slice none 0 0,.int .i64 0,.int .i64 0,.int .i64 0] 28)):=kept hg4 HZ3.out;have hs4:H1+2≤w4.heap.size:=by
              have h:=hg4.size;rw[show((w1.alloc (.cells #[.int .i64 0,.int .i64 un,.int .i64 0] 46)).alloc (.cells #[.slice (some ⟨b,off,none⟩) n cap,.int .i64 now,.slice none 0 0,.int .i64 0,.int .i64 0] 51)).heap.size=H1+2 by simp[hH1]] at h;exact h
             clear hown4 hg4))
         have hsub:sub fr 0 m=fr:=(by unfold sub;rw[List.drop_zero,← HM.out,List.take_length]);have hle:H≤H1:=(by omega);refine(HRU.out w4 (H1+2) (H1+1) (.slice oa m oc) none 0 [] 0 0 0 kx fr m1 ⟨⟨HMB4.out,⟨by simp,.inl ⟨rfl,rfl⟩⟩,by omega⟩,by rw[hsub];exact k9_ HO4.out (by omega),fun y hy=>⟨by have:=(HO4.out.lt y hy).1;omega,by simp[sb]⟩,HG4.out,by omega,by omega,by omega⟩ (by rw[HM.out];omega) HEX.out).mono ?_;rintro e w5 ⟨rfl,sa',sc',hrc,hlen,hch,hnx⟩;have hsub2:sub m1.ar 0 m=m1.ar:=(by unfold sub;rw[List.drop_zero,← HM.out,← HOL.out,List.take_length]);have HO5:Hid (OwnV H w5 (.slice oa m oc) m1.ar):=by
          have h:=hrc.fr;rw[hsub2,hH] at h;exact h
         have HZ5:Hid (w5.heap[H+1]?=some (.cells #[.slice none 0 0,.int .i64 0,.int .i64 0,.int .i64 0] 28)):=(hch.block (H+1) (xg_ HZ4.out) (by omega) (fun e=>by have:=(HO4.out.lt (H+1) e.symm).1;omega) (by simp[sb])).trans HZ4.out;have HG5:Hid (w.grownBy w5 none):=hrc.cw;have s3:=xa_ hrc.ma.blk 3;have s4:=xa_ hrc.ma.blk 4;simp at s3 s4;have HOB:Hid (∀ y,(Value.slice oa m oc).ownBlock=some y→y≠H+1):=fun y hy=>by have:=(HO4.out.lt y hy).1;omega
         have f0:=xc_ HZ5.out 0;have f1:=xc_ HZ5.out 1;have f2:=xc_ HZ5.out 2;have f3:=xc_ HZ5.out 3;have r0:=xa_ HZ5.out 0;have r1:=xa_ HZ5.out 1;have r2:=xa_ HZ5.out 2;have r3:=xa_ HZ5.out 3;simp at r0 r1 r2 r3;generalize hsp:m1.sp=xsp at s3;generalize hfl:m1.fl=xfl at s4;have HSP:Hid (m1.sp=xsp∧m1.fl=xfl):=⟨hsp,hfl⟩;clear hrc hlen hch hnx hsub hsub2 hsp hfl;have n1:¬H1+1=H+1:=(by omega);have n2:¬H+1=H1+1:=(by omega);have n3:¬H1=H:=(by omega);have n4:¬H=H1:=(by omega);go_wp2;go_region_held3 (fun w'=>w'.cell? ⟨H1+1,3,none⟩=some (.int .i64 xsp)∧w'.cell? ⟨H1+1,4,none⟩=some (.int .i64 xfl)) (go_keep) (fail)
         go_wp2;refine⟨rfl,.agg #[.slice oa m oc,.int .i64 xsp,.int .i64 xfl,.int .i64 0],?_,?_⟩
         ·simp[results,Tryz.f5];exact aah_ _ _ _ rfl (kept (xf_ gz_) (by rw[xk_ (xk_ (xk_ (xk_ HZ5.out 0 _) 1 _) 2 _) 3 _];rfl))
         · have hHH:=HHH.out;refine⟨xf_ (((HG5.out.trans2 (by omega) 0 _).trans2 (by omega) 1 _ |>.trans2 (by omega) 2 _).trans2 (by omega) 3 _),.inr ⟨HRR.out,.slice oa m oc,m1,kx,by rw[HSP.out.1,HSP.out.2],?_,by rw[HOL.out,HM.out],by simpa using HEX.out⟩⟩;rw[hHH];have hk:∀(W:World) k x,OwnV H W (.slice oa m oc) m1.ar→OwnV H (W.setCell ⟨H+1,k,none⟩ x) (.slice oa m oc) m1.ar:=fun W k x h=>World.ownsRow.kept h (x3_ (World.grownBy.refl _ (some (H+1))) _ _) (by
            cases hv:(Value.slice oa m oc).ownBlock with
            | none=>exact .inl rfl
            | some y=>exact .inr (by simpa using HOB.out y hv))
           exact OwnV.keptN (hk _ _ _ (hk _ _ _ (hk _ _ _ (hk _ _ _ HO5.out)))) (xf_ gz_)
       · have g4:((m:Int)==(q:Int))=false:=(by simp;omega);have g5:((m:Int) != (q:Int))=true:=(by simp;omega);have hrr:vs_ (Classical.propDecidable,()) ps (k:Int) m=4:=(by rw[HE0.out,if_pos h4]);have HRR:=hd_ hrr;clear hrr HE0;go_wp2;refine⟨rfl,.agg #[.slice none 0 0,.int .i64 0,.int .i64 0,.int .i64 4],?_,?_⟩
         ·simp[results,Tryz.f5];exact aah_ _ _ _ rfl (by rw[xh_ (by simp;omega),xk_ (xk_ (xk_ (xk_ HZ2.out 0 _) 1 _) 2 _) 3 _];rfl)
         ·have hHH:=HHH.out;exact⟨xb_ (((HG.out.trans2 (by omega) 0 _).trans2 (by omega) 1 _ |>.trans2 (by omega) 2 _).trans2 (by omega) 3 _) _,.inl ⟨by rw[HRR.out];decide,by rw[HRR.out]⟩⟩
     · have g3:decide ((n:Int)≤(k:Int))=true:=(by simp;omega);have hrr:vs_ (Classical.propDecidable,()) ps (k:Int) m=6:=(by rw[HRV.out,if_neg (by simp),if_pos (.inr (by omega))]);have HRR:=hd_ hrr;clear hrr;go_wp2;refine⟨rfl,.agg #[.slice none 0 0,.int .i64 0,.int .i64 0,.int .i64 6],?_,?_⟩
       ·simp[results,Tryz.f5];exact aah_ _ _ _ rfl (by rw[xh_ (by simp;omega),xk_ (xk_ (xk_ (xk_ HZ2.out 0 _) 1 _) 2 _) 3 _];rfl)
       ·have hHH:=HHH.out;exact⟨xb_ (((HG.out.trans2 (by omega) 0 _).trans2 (by omega) 1 _ |>.trans2 (by omega) 2 _).trans2 (by omega) 3 _) _,.inl ⟨by rw[HRR.out];decide,by rw[HRR.out]⟩⟩
 · have g1:(cd != 0)=true:=(by simpa using h1);have g1b:(cd==0)=false:=(by simpa using h1);have hrr:vs_ (Classical.propDecidable,()) ps unit m=12:=(by rw[HRV.out,if_pos h1]);have HRR:=hd_ hrr;clear hrr;go_wp2;refine⟨rfl,.agg #[.slice none 0 0,.int .i64 0,.int .i64 0,.int .i64 12],?_,?_⟩
   ·simp[results,Tryz.f5];exact aah_ _ _ _ rfl (by rw[xh_ (by simp;omega),xk_ (xk_ (xk_ (xk_ HZ2.out 0 _) 1 _) 2 _) 3 _];rfl)
   ·have hHH:=HHH.out;exact⟨xb_ (((HG.out.trans2 (by omega) 0 _).trans2 (by omega) 1 _ |>.trans2 (by omega) 2 _).trans2 (by omega) 3 _) _,.inl ⟨by rw[HRR.out];decide,by rw[HRR.out]⟩⟩
theorem CpAt.less {w:World} {B B':Nat} {x:Option Nat} {u:Un} (h:CpAt w B x u) (hb:B'≤B):CpAt w B' x u:=by
 obtain⟨c,f1,f2,f3,f4,f5⟩:=h.first
 obtain⟨g,cap,m1,m2,m3,m4,m5,m6⟩:=h.mark;refine⟨⟨c,f1,f2,by omega,f4,f5⟩,h.slots,fun y hy=>?_,h.text,⟨g,cap,m1,m2,m3,by omega,m5,m6⟩⟩;obtain⟨h1,h2,h3⟩:=h.sown y hy;exact⟨by omega,h2,h3⟩
set_option maxRecDepth 10000 in
theorem ak9_ (cv:Value) (ps:List Pr) (unit now:Int) (fa:Option Addr) (fr:List Int) (fc:Nat) (w:World) (hC:CdP w cv ps) (hB:BdP ps) (hS:Stds w) (hf:rd w (.slice fa fr.length fc) fr) (hfl:fr.length≤17592186043904) :
 Calls Tryz.prog 3 #[.agg #[cv],.int .i64 unit,.slice fa fr.length fc,.int .i64 now] w fun e w'=>e=.returned (.bool true)∧w.grownBy w' none:=by
 have HC:=hd_ hC;have HBD:=hd_ hB;have HS:=hd_ hS;have HF:=hd_ hf;have hl:ps.length≤1000000000000000:=(by have:=hB.n;omega);have hE:vs_ (Classical.propDecidable,()) ps unit fr.length=0→∃ k m1,Ex ps now k unit.toNat 0 0 j4_ ⟨[],fr,0,0⟩ m1:=fun h0=>by
  obtain⟨e,w',_,⟨_,⟨h,_⟩|⟨_,F,m1,k,_,_,_,_,h⟩⟩,_⟩:=aua_ cv ps unit now fa fr fc w hC hS hl hf []
  ·exact absurd h0 h
  ·exact⟨k,m1,h⟩
 obtain⟨ca,cc,rfl,_⟩:=hC;obtain⟨n,hn⟩:∃ n,ps.length=n:=⟨_,rfl⟩;obtain⟨m,hm⟩:∃ m,fr.length=m:=⟨_,rfl⟩;have HM:=hd_ hm;have HN:=hd_ hn;obtain⟨R,hR⟩:∃ R,vs_ (Classical.propDecidable,()) ps unit fr.length=R:=⟨_,rfl⟩;have HR:=hd_ hR;have cW:∀ W,w.grownBy W none→Calls Tryz.prog 5 #[.agg #[.slice ca n cc],.int .i64 unit,.slice fa m fc,.int .i64 now] W (ark_ W ps unit fr now):=fun W hW=>by
  have h:=arl_ _ ps unit now fa fr fc W (HC.out.grown hW) hl (xo_ HF.out hW) hE;rw[hn,hm] at h;exact h
 have cC:∀ W,w.grownBy W none→Calls Tryz.prog 6 #[.agg #[.slice ca n cc]] W fun e w'=>∃ v us,e=.returned (.agg #[v])∧CopyAt w' (W.heap.size+2) v us∧us.map Un.p=ps∧W.grownBy w' none:=fun W hW=>by
  have:=aqe_ _ ps W (HC.out.grown hW) HBD.out;rw[hn] at this;exact this
 have cM:∀ W,w.grownBy W none→Calls Tryz.prog 7 #[.slice fa m fc] W fun e w'=>e=.returned (.slice (some ⟨W.heap.size,0,none⟩) m (m+5))∧RoomAt w' W.heap.size fr∧W.grownBy w' none:=fun W hW=>by
  have:=afg_ _ fr W (xo_ HF.out hW) hfl;rw[hm] at this;exact this
 have HCN:Hid (CdP w (.slice ca n cc) ps):=(by have:=HC.out;rw[hn] at this;exact this);have HFN:Hid (rd w (.slice fa m fc) fr):=(by have:=HF.out;rw[hm] at this;exact this);rw[hn,hm];clear hB hS hf hE hn hm hR;obtain⟨H,hH⟩:∃ H,w.heap.size=H:=⟨_,rfl⟩;go_enter Tryz.func3,Tryz.ntmps3;go_wp2_with fail
 refine(cW _ (gr1 _ _)).mono ?_;rintro e w1 ⟨hg1,hcase⟩;obtain⟨rv,l,xs,xf,rfl,hown1,hans⟩:∃ rv l xs xf,e=.returned (.agg #[rv,.int .i64 xs,.int .i64 xf,.int .i64 R])∧OwnV (H+1) w1 rv l∧((R≠0∧l=[]∧xs=0∧xf=0∧rv=.slice none 0 0)∨(R=0∧∃ m1 k,m1.ar=l∧m1.sp=xs∧m1.fl=xf∧l.length=fr.length∧Ex ps now k unit.toNat 0 0 j4_ ⟨[],fr,0,0⟩ m1)):=by
  rw[HR.out] at hcase;rcases hcase with⟨h0,rfl⟩|⟨h0,rv,m1,k,rfl,h1,h2,h3⟩
  ·exact⟨_,[],0,0,rfl,OwnV.nil _ _,.inl ⟨h0,rfl,rfl,rfl,rfl⟩⟩
  ·refine⟨rv,m1.ar,m1.sp,m1.fl,by rw[h0],?_,.inr ⟨h0,m1,k,rfl,rfl,rfl,h2,h3⟩⟩;rw[show(w.alloc (.cells #[.slice ca n cc] 24)).heap.size=H+1 by simp[hH]] at h1;exact h1
 obtain⟨ra,rcp,hrv,_⟩:=hown1.rd;obtain⟨ml,hml⟩:∃ ml,l.length=ml:=⟨_,rfl⟩;rw[hml] at hrv;subst hrv;have HML:=hd_ hml;clear hml;have HAN:=hd_ hans;have HO1:=hd_ hown1;have hgw1:w.grownBy w1 none:=(gr1 _ _).trans hg1;have HBX1:Hid (w1.heap[H]?=some (.cells #[.slice ca n cc] 24)):=kept hg1 (xj_ hH.symm _);have z1:=xa_ HBX1.out 0;simp at z1;have z1a:∀ o:Obj,(w1.alloc o).cell? ⟨H,0,none⟩=some (.slice ca n cc):=fun o=>(gr1 w1 o).cell z1 (by simp);clear hg1 hcase hown1 hans cW;go_wp2_with fail
 refine(cC _ (xb_ hgw1 _)).mono ?_;rintro e w2 ⟨v,us,rfl,hcp,hup,hg2⟩;obtain⟨ha,hc2,rfl,hcap2,_⟩:=hcp.cells;obtain⟨mu,hmu⟩:∃ mu,us.length=mu:=⟨_,rfl⟩;have hg12:w1.grownBy w2 none:=(gr1 _ _).trans hg2;have hgw2:w.grownBy w2 none:=hgw1.trans hg12;have HW2:Hid (w2.heap[w1.heap.size]?=some (.cells #[.slice ra ml rcp,.int .i64 xs,.int .i64 xf,.int .i64 R] 28)):=kept hg2 (heap_alloc_new _ _);have HBX2:Hid (w2.heap[H]?=some (.cells #[.slice ca n cc] 24)):=kept hg12 HBX1.out;have HCP2:Hid (CopyAt w2 (w1.heap.size+1) (.slice ha mu hc2) us):=by
  rw[hmu] at hcp;exact⟨k9_ hcp.1 (by simp),fun i hi=>(hcp.2 i hi).less (by simp)⟩
 have HUP:=hd_ hup;rw[hmu] at *;clear hcp hmu hup z1 z1a hg2 cC;go_wp2_with fail
 refine(cM _ (xb_ hgw2 _)).mono ?_;rintro e w3 ⟨rfl,hrm,hg3⟩;obtain⟨D,hD⟩:∃ D,(w2.alloc (.cells #[.slice ha mu hc2] 24)).heap.size=D:=⟨_,rfl⟩;rw[hD] at hrm ⊢;have HRM:=hd_ hrm;have hg23:w2.grownBy w3 none:=(gr1 _ _).trans hg3;have hgw3:w.grownBy w3 none:=hgw2.trans hg23;have HHB:Hid (w3.heap[w2.heap.size]?=some (.cells #[.slice ha mu hc2] 24)):=kept hg3 (heap_alloc_new _ _);have cA:∀ W,w3.grownBy W none→Calls Tryz.prog 8 #[.agg #[.slice ha mu hc2],.int .i64 unit,.slice (some ⟨D,0,none⟩) m (m+5),.int .i64 now] W fun e w'=>∃ aa ac,e=.returned (.agg #[.slice aa ml ac,.int .i64 xs,.int .i64 xf,.int .i64 R])∧OwnV W.heap.size w' (.slice aa ml ac) l∧W.grownBy w' none:=fun W hW=>by
  have h1:=(CopyAt.kept HCP2.out (hg23.trans hW) (fun y hy=>by simp at hy)).cd;rw[HUP.out] at h1;have h2:=(HRM.out.kept hW).rd;have hx:=aua_ _ ps unit now (some ⟨D,0,none⟩) fr (fr.length+5) W h1 (HS.out.grown (hgw3.trans hW)) hl h2;rw[HM.out] at hx;refine hx.mono ?_;rintro e w' ⟨hg,hc⟩;rw[HR.out] at hc;have hml:=HML.out;rcases hc with⟨h0,rfl⟩|⟨h0,F,m2,k2,rfl,hF,hfr,hlen,hex⟩
  · rcases HAN.out with⟨_,rfl,rfl,rfl,e5⟩|⟨h0',_⟩
    ·simp at hml;subst hml;exact⟨none,0,rfl,OwnV.nil _ _,hg⟩
    ·exact absurd h0' h0
  · rcases HAN.out with⟨h0',_⟩|⟨_,m1,k1,e1,e2,e3,e4,hex1⟩
    ·exact absurd h0 h0'
    · obtain rfl:=hex1.one hex;have hm2:fr.length≤20000:=by
       obtain⟨kk,bds,ue,hu,hk,hv,hmk⟩:=acr_ (HR.out.trans h0);rw[hmk];have h16:ps.length≤16:=by
        rcases Nat.lt_or_ge 16 ps.length with h|h
        ·unfold jx_ at hv;rw[if_pos h] at hv;simp at hv
        ·exact h
       unfold jx_ at hv;rw[if_neg (by omega)] at hv;exact abr_ ps.length 0 [] bds ue hv kk (by omega) (by omega)
      have ho:=hfr.own hF (by rw[hlen];exact hm2);rw[e1,hml] at ho;refine⟨some ⟨F,0,none⟩,ml,?_,ho,hg⟩;rw[e2,e3,← e4,hml,h0]
 clear hrm hg3 cM hD;have x3:=xa_ HHB.out 0;simp at x3;go_wp2_with fail
 refine(cA _ gz_).mono ?_;rintro e w4 ⟨aa,ac,rfl,hoa,hg4⟩;have hg34:w3.grownBy w4 none:=hg4;have HOA:=hd_ hoa;have x4:=hg34.cell x3 (by simp);have x4a:∀ o:Obj,(w4.alloc o).cell? ⟨w2.heap.size,0,none⟩=some (.slice ha mu hc2):=fun o=>(gr1 w4 o).cell x4 (by simp);clear hoa hg4 x3;go_wp2_with fail
 refine(cA _ (xb_ hg34 _)).mono ?_;rintro e w5 ⟨ba,bc,rfl,hob,hg5⟩;have hg45:w4.grownBy w5 none:=(gr1 _ _).trans hg5;have hg35:w3.grownBy w5 none:=hg34.trans hg45;have HAB:Hid (w5.heap[w4.heap.size]?=some (.cells #[.slice aa ml ac,.int .i64 xs,.int .i64 xf,.int .i64 R] 28)):=kept hg5 (heap_alloc_new _ _);have HOB:Hid (OwnV (w4.heap.size+1) w5 (.slice ba ml bc) l):=(by rw[show(w4.alloc (.cells #[.slice aa ml ac,.int .i64 xs,.int .i64 xf,.int .i64 R] 28)).heap.size=w4.heap.size+1 by simp] at hob;exact hob);have HWB:Hid (w5.heap[w1.heap.size]?=some (.cells #[.slice ra ml rcp,.int .i64 xs,.int .i64 xf,.int .i64 R] 28)):=kept hg35 (kept hg23 HW2.out);have HOA5:Hid (OwnV w3.heap.size w5 (.slice aa ml ac) l):=HOA.out.keptN hg45;have HOW5:Hid (OwnV (H+1) w5 (.slice ra ml rcp) l):=HO1.out.keptN (hg12.trans (hg23.trans hg35));clear hob hg5 x4 x4a cA;go_upto_region 6 with fail;generalize hw6:w5.alloc (.cells #[.slice ba ml bc,.int .i64 xs,.int .i64 xf,.int .i64 R] 28)=w6;have hg56:w5.grownBy w6 none:=hw6▸gr1 _ _;have hg36:w3.grownBy w6 none:=hg35.trans hg56;have HAB6:Hid (w6.heap[w4.heap.size]?=some (.cells #[.slice aa ml ac,.int .i64 xs,.int .i64 xf,.int .i64 R] 28)):=kept hg56 HAB.out;have HWB6:Hid (w6.heap[w1.heap.size]?=some (.cells #[.slice ra ml rcp,.int .i64 xs,.int .i64 xf,.int .i64 R] 28)):=kept hg56 HWB.out;have HBB6:Hid (w6.heap[w5.heap.size]?=some (.cells #[.slice ba ml bc,.int .i64 xs,.int .i64 xf,.int .i64 R] 28)):=hw6▸heap_alloc_new _ _;have HHB6:Hid (w6.heap[w2.heap.size]?=some (.cells #[.slice ha mu hc2] 24)):=kept hg36 HHB.out
 have HBX6:Hid (w6.heap[H]?=some (.cells #[.slice ca n cc] 24)):=kept (hg23.trans hg36) HBX2.out;have HOA6:Hid (OwnV w3.heap.size w6 (.slice aa ml ac) l):=HOA5.out.keptN hg56;have HOB6:Hid (OwnV (w4.heap.size+1) w6 (.slice ba ml bc) l):=HOB.out.keptN hg56;have HOW6:Hid (OwnV (H+1) w6 (.slice ra ml rcp) l):=HOW5.out.keptN hg56;obtain⟨A,hA⟩:∃ A,w4.heap.size=A:=⟨_,rfl⟩;obtain⟨E,hEE⟩:∃ E,w1.heap.size=E:=⟨_,rfl⟩;rw[hA] at HAB6 ⊢;rw[hEE] at HWB6 ⊢;have a0:=xa_ HAB6.out 0;have a1:=xa_ HAB6.out 1;have a2:=xa_ HAB6.out 2;have a3:=xa_ HAB6.out 3;have t0:=xa_ HWB6.out 0;have t1:=xa_ HWB6.out 1;have t2:=xa_ HWB6.out 2;have t3:=xa_ HWB6.out 3;simp at a0 a1 a2 a3 t0 t1 t2 t3;have hll:l.length≤17592186044416:=by
  rcases HAN.out with⟨_,h,_⟩|⟨_,_,_,_,_,_,h,_⟩
  ·rw[h];simp
  ·rw[h];omega
 have HLL:=hd_ hll;have cI:∀ W,w6.grownBy W none→Calls Tryz.prog 9 #[.slice aa ml ac,.slice ra ml rcp] W fun e w'=>e=.returned (.bool true)∧W.grownBy w' none:=fun W hW=>aad_ _ _ l W (HOA6.out.keptN hW).rd (HOW6.out.keptN hW).rd HLL.out;have cL:∀ W,w6.grownBy W none→Calls Tryz.prog 10 #[.slice (some ⟨D,0,none⟩) m (m+5),.slice fa m fc] W fun e w'=>e=.returned (.bool true)∧W.grownBy w' none:=fun W hW=>by
  have h:=aeb_ D (.slice fa fr.length fc) fr W (HRM.out.kept (hg36.trans hW)) (xo_ HF.out (hgw3.trans (hg36.trans hW))) (by omega);rw[HM.out] at h;exact h
 clear hw6 hll;go_wp2_with fail
 refine(cI _ gz_).mono ?_;rintro e w7 ⟨rfl,hg7⟩;go_wp2_with fail
 refine(cL _ hg7).mono ?_;rintro e w8 ⟨rfl,hg8⟩;have hg68:w6.grownBy w8 none:=hg7.trans hg8;have HAB8:Hid (w8.heap[A]?=some (.cells #[.slice aa ml ac,.int .i64 xs,.int .i64 xf,.int .i64 R] 28)):=kept hg68 HAB6.out;have d0:=xa_ HAB8.out 0;simp at d0;clear a0 a1 a2 a3 t0 t1 t2 t3 cI cL hg7 hg8;have hl2:l.length≤20000:=by
  rcases HAN.out with⟨_,h,_⟩|⟨h0,_,_,_,_,_,h,_⟩
  ·rw[h];simp
  · rw[h];obtain⟨kk,bds,ue,hu,hk,hv,hmk⟩:=acr_ (HR.out.trans h0);rw[hmk];have h16:ps.length≤16:=by
     rcases Nat.lt_or_ge 16 ps.length with h|h
     ·unfold jx_ at hv;rw[if_pos h] at hv;simp at hv
     ·exact h
    unfold jx_ at hv;rw[if_neg (by omega)] at hv;exact abr_ ps.length 0 [] bds ue hv kk (by omega) (by omega)
 have cO:=anh_ w3.heap.size (.slice aa ml ac) l (-71) w8 hl2 (HOA6.out.keptN hg68);clear hl2;go_wp2_with fail
 refine cO.mono ?_;rintro e w9 ⟨rfl,hg9⟩;have hav:∀ y,(Value.slice aa ml ac).ownBlock=some y→w3.heap.size≤y∧y<w4.heap.size:=fun y hy=>HOA.out.lt y hy;have HGW9:Hid (w.grownBy w9 none):=x6_ (hgw3.trans (hg36.trans hg68)) hg9 (.inr fun y hy=>by have:=hav y hy;have:=hgw3.size;omega);have HG19:Hid (w1.grownBy w9 none):=x6_ (hg12.trans (hg23.trans (hg36.trans hg68))) hg9 (.inr fun y hy=>by have:=hav y hy;have:=(hg12.trans hg23).size;omega);have HG29:Hid (w2.grownBy w9 none):=x6_ (hg23.trans (hg36.trans hg68)) hg9 (.inr fun y hy=>by have:=hav y hy;have:=hg23.size;omega);have HG39:Hid (w3.grownBy w9 none):=x6_ (hg36.trans hg68) hg9 (.inr fun y hy=>(hav y hy).1);have HG69:Hid (w6.grownBy w9 (Value.slice aa ml ac).ownBlock):=x6_ (aqd_ hg68) hg9 (.inl rfl);have HB9:Hid (OwnV (w4.heap.size+1) w9 (.slice ba ml bc) l):=HOB6.out.kept HG69.out (by
  cases hb:(Value.slice ba ml bc).ownBlock with
  | none=>exact .inl rfl
  | some y=>
   right;intro e;have h1:=(HOB6.out.lt y hb).1;have h2:=(hav y e.symm).2;omega)
 have HBB9:Hid (w9.heap[w5.heap.size]?=some (.cells #[.slice ba ml bc,.int .i64 xs,.int .i64 xf,.int .i64 R] 28)):=(HG69.out.block w5.heap.size (xg_ HBB6.out) (fun e=>by have:=(hav _ e.symm).2;have:=hg45.size;omega)).trans HBB6.out;have HWB9:Hid (w9.heap[E]?=some (.cells #[.slice ra ml rcp,.int .i64 xs,.int .i64 xf,.int .i64 R] 28)):=(HG69.out.block E (xg_ HWB6.out) (fun e=>by have:=(hav _ e.symm).1;have:=(hg12.trans hg23).size;have h:=xg_ HW2.out;rw[hEE] at h;have:=hg23.size;omega)).trans HWB6.out;have HHB9:Hid (w9.heap[w2.heap.size]?=some (.cells #[.slice ha mu hc2] 24)):=kept HG39.out HHB.out;have HBX9:Hid (w9.heap[H]?=some (.cells #[.slice ca n cc] 24)):=kept HG29.out HBX2.out;have HOW9:Hid (OwnV (H+1) w9 (.slice ra ml rcp) l):=HO1.out.keptN HG19.out;have cI:Calls Tryz.prog 9 #[.slice ba ml bc,.slice ra ml rcp] w9 fun e w'=>e=.returned (.bool true)∧w9.grownBy w' none:=aad_ _ _ l w9 HB9.out.rd HOW9.out.rd HLL.out;have cS:∀ W,w9.grownBy W none→Calls Tryz.prog 12 #[.agg #[.slice ha mu hc2],.agg #[.slice ca n cc]] W fun e w'=>e=.returned (.bool true)∧W.grownBy w' none:=fun W hW=>by
  have h:=(CopyAt.kept HCP2.out (HG29.out.trans hW) (fun y hy=>by simp at hy)).cd;rw[HUP.out] at h;exact arm_ _ _ ps W h (HCN.out.grown (HGW9.out.trans hW)) HBD.out
 have cP:∀ W,w9.grownBy W none→Calls Tryz.prog 13 #[.agg #[.slice ha mu hc2]] W fun e w'=>e=.returned (.bool true)∧W.grownBy w' none:=fun W hW=>an1_ _ _ us W (CopyAt.kept HCP2.out (HG29.out.trans hW) (fun y hy=>by simp at hy)) (by rw[HUP.out];exact HBD.out);have cL:∀ W,w9.grownBy W none→Calls Tryz.prog 10 #[.slice (some ⟨D,0,none⟩) m (m+5),.slice fa m fc] W fun e w'=>e=.returned (.bool true)∧W.grownBy w' none:=fun W hW=>by
  have h:=aeb_ D (.slice fa fr.length fc) fr W (HRM.out.kept (HG39.out.trans hW)) (xo_ HF.out (HGW9.out.trans hW)) (by omega);rw[HM.out] at h;exact h
 have b0:=xa_ HBB9.out 0;have t0:=xa_ HWB9.out 0;simp at b0 t0;clear cO hg9 hav d0;go_wp2_with fail
 refine cI.mono ?_;rintro e w10 ⟨rfl,hg10⟩;have x10:w10.cell? ⟨w2.heap.size,0,none⟩=some (.slice ha mu hc2):=(by have:=xa_ (kept hg10 HHB9.out) 0;simpa using this);have b10:w10.cell? ⟨H,0,none⟩=some (.slice ca n cc):=(by have:=xa_ (kept hg10 HBX9.out) 0;simpa using this);clear b0 t0;go_wp2_with fail
 refine(cS _ hg10).mono ?_;rintro e w11 ⟨rfl,hg11⟩;have x11:=hg11.cell x10 (by simp);go_wp2_with fail
 refine(cP _ (hg10.trans hg11)).mono ?_;rintro e w12 ⟨rfl,hg12'⟩;go_wp2_with fail
 refine(cL _ ((hg10.trans hg11).trans hg12')).mono ?_;rintro e w13 ⟨rfl,hg13⟩;go_wp2;go_ret;exact⟨rfl,HGW9.out.trans (((hg10.trans hg11).trans hg12').trans hg13)⟩
end Go.Proofs.YtcgbfhpmkpglkaaGreatDoor
namespace Go.Proofs.YtcgbfhpmkpglkaaGreatDoor
open Go.ChangeShapes Go.WideShapes Go.ChangeAt Go.RowKit Go.Lib
set_option maxRecDepth 100000 in
theorem add_ (os:Os) (started:os.Started) (H:Type) (enc:TypeId×Value→H) :
 ReturnsInHanded {} Tryz.checked os 3 .any (fun w args=>(Rows.codeRunSpec.pre enc Tryz.prog Tryz.f3 [] false w args∧laidMetH Tryz.prog ain_ w)∧sizedMet enc Tryz.prog Tryz.f3 (OpenSpec.ofChange Rows.codeRunSpec) false w args)
  (Rows.codeRunSpec.post enc Tryz.prog Tryz.f3 false true false false):=by
 refine returnsInHanded_of_change_and (C:=Tryz.checked) (X:=fun w _=>laidMetH Tryz.prog ain_ w) (fun _ _ _ hh h=>h.of_heap hh) asl_ started (by kernel_rfl) Tryz.func3
  (ChangeSpec.witness_shaped (enc:=enc) (C:=Tryz.checked) (os:=os) (X:=fun w _=>laidMetH Tryz.prog ain_ w) false (World.laidAll Tryz.prog os ain_) #[.agg #[.slice none 0 0],.int .i64 0,.slice none 0 0,.int .i64 0] 8 (World.laidAll_os _ _ _)
   (World.shaped_of_ZipB (by kernel_rfl) (by kernel_rfl)) (by kernel_rfl) (by kernel_rfl) (by kernel_rfl)
   (by rw[MakeChecks.laidMetH_plain _ _ _ (by kernel_rfl)];exact laidMet_laidAll _ (by kernel_rfl) (by kernel_rfl))) ?_
 intro W base args ds gs before hval0 hW _ hsz0 hL _;have hsz:(DataW.weightsEach Tryz.prog (Tryz.f3.params.toList++Rows.codeRunSpec.plain.varTypes Tryz.prog) (ds++gs)).all (·≤reachBytes)=true:=hsz0;have hval:∀(j:Nat) t v,Tryz.f3.params[j]?=some t→args[j]?=some v→Value.okWide Tryz.prog W .any base t v:=hval0;have hW':=hW;obtain⟨p,q,hA0,hV,rfl,_,_⟩:=hW;have hA:DataW.TrodAll enc Tryz.prog W 0 (fun _=>true) true Tryz.f3.params.toList args.toList ds p:=hA0;rw[Tryz.params3] at hA hval hsz;obtain⟨v0,vs0,d0,ds0,p0,q0,hargs,rfl,rfl,h0,r0⟩:=trodAll_cons hA;obtain⟨v1,vs1,d1,ds1,p1,q1,rfl,rfl,rfl,h1,r1⟩:=trodAll_cons r0;obtain⟨v2,vs2,d2,ds2,p2,q2,rfl,rfl,rfl,h2,r2⟩:=trodAll_cons r1;obtain⟨v3,vs3,d3,ds3,p3,q3,rfl,rfl,rfl,h3,r3⟩:=trodAll_cons r2;obtain⟨rfl,rfl,rfl⟩:=trodAll_nil r3;obtain rfl:args=#[v0,v1,v2,v3]:=(by cases args;simp_all);obtain⟨rfl,rfl⟩:=trodVars_none hV;obtain⟨unit,rfl,rfl,rfl,w1⟩:=open_int Tryz.underlying3 (hval 1 3 v1 rfl rfl) h1;obtain⟨now,rfl,rfl,rfl,w3⟩:=open_int Tryz.underlying3 (hval 3 3 v3 rfl rfl) h3;have k0:=h0;have lt0:∀ x∈p0,x.block<W.heap.size:=(by obtain⟨m,hm⟩:=k0;exact DataW.trod_lt m _ _ _ hm);have k2:=h2;have lt2:∀ x∈p2,x.block<W.heap.size:=(by obtain⟨m,hm⟩:=k2;exact DataW.trod_lt m _ _ _ hm);obtain⟨x,rfl,ps,hC,hBd⟩:=asm_ (hval 0 24 v0 rfl rfl) h0 (fun k hk=>by
  have:=List.all_eq_true.1 hsz k (DataW.weights_mem_each (j:=0) (t:=24) (d:=d0) rfl rfl k hk);simpa using this)
 obtain⟨fr,hF,hfb⟩:∃ fr,rd W v2 fr∧fr.length≤17592186043904:=by
  obtain⟨a2,len2,cap2,rfl⟩:=okWide_slice Tryz.underlying25 (hval 2 25 v2 rfl rfl);obtain⟨fuel,hf⟩:=h2;have hf':DataW.trod enc Tryz.prog W 0 (fun _=>true) true fuel 25 [.slice a2 len2 cap2]=some (d2,p2):=(by simpa[Value.cells] using hf);exact aim_ hf' (fun k hk=>by
   have:=List.all_eq_true.1 hsz k (DataW.weights_mem_each (j:=2) (t:=25) (d:=d2) rfl rfl k hk);simpa using this)
 clear hA0 hval0;simp only[List.append_nil] at hW';obtain⟨fa,fc,hv2,hr⟩:=hF;subst hv2;refine(ak9_ x ps unit now fa fr fc W hC hBd (agb_ hL) ⟨fa,fc,rfl,hr⟩ hfb).mono fun e W' ⟨he,hg⟩=>?_;subst he;have bel:Below W.heap.size W W':=ag5_ hg;exact⟨_,rfl,_,_,_,[],_,[],hW',trodAll_mk1 (shut_bool Tryz.underlying4 _),(trodAll_cons_mk (Below.trod ac1_ (by kernel_rfl) (of_decide_eq_true (by kernel_rfl)) k0 bel lt0) (trodAll_cons_mk (shut_int Tryz.underlying3 w1) (trodAll_cons_mk (Below.trod ac1_ (by kernel_rfl) (of_decide_eq_true (by kernel_rfl)) k2 bel lt2) (trodAll_cons_mk (shut_int Tryz.underlying3 w3) trodAll_mk0)))),rfl,bel.frame _,fun h=>by cases h⟩
theorem afo_:Rows.CodeRunSaid:=
 OpenClaim.holds_of_wide 3 Tryz.f3 rfl rfl rfl rfl rfl rfl rfl ⟨rfl,rfl,rfl,rfl,rfl⟩ rfl rfl rfl rfl rfl (by kernel_rfl) Tryz.func3 (by kernel_rfl)
  (of_decide_eq_true (by kernel_rfl)) (by unfold Func.isWrapper;first|(rw[if_pos (by decide +kernel)];kernel_rfl)|(rw[if_neg (by decide +kernel)];exact⟨rfl,rfl⟩))
  (fun os started H enc _=>add_ os started H enc)
theorem codeRun_proved:Rows.CodeRunCardSaid:=
 Claim7.holds_tied_plain_at .later [] [.data] true (true, "fb9541895c7636c58c8e7d8f367f43f09601a712b3e29fbbbf369531d24c7481") false
  afo_ (fun _ h=>by cases h) (by kernel_rfl) (fun _ h=>by cases h) codeRun_row_tie rfl ⟨rfl,rfl⟩ (by kernel_rfl) rfl
  (fun f fn hf hfn=>by
    obtain rfl:f=3:=Option.some.inj ((show Tryz.prog.funcNamed "plantwright/plantwrightlaw.CodeRun"=some 3 by kernel_rfl).symm.trans hf) |>.symm
    obtain rfl:fn=Tryz.f3:=(Option.some.inj (Tryz.func3.symm.trans hfn)).symm;exact⟨by kernel_rfl,fun j t ht=>by
     rw[Tryz.params3] at ht;have hm:t∈[24,3,25,3]:=(by simpa using Array.mem_of_getElem? ht);have hall:([24,3,25,3].all fun u=>!Tryz.prog.wantsStandIn u)=true:=(by kernel_rfl);exact(show Tryz.prog.wantsStandIn t=false by simpa using List.all_eq_true.1 hall t hm)⟩)
  (by kernel_rfl)
#print axioms codeRun_proved
end Go.Proofs.YtcgbfhpmkpglkaaGreatDoor
