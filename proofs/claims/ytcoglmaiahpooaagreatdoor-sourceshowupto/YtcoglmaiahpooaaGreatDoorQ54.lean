/- Texts put together: Eh, Ek, El, Ej. -/
import Derived.Test.YtcoglmaiahpooaaGreatDoorQ49
import Derived.Test.YtcoglmaiahpooaaGreatDoorQ50
import Derived.Test.YtcoglmaiahpooaaGreatDoorQ51
import Derived.Test.YtcoglmaiahpooaaGreatDoorQ52
import Derived.Test.YtcoglmaiahpooaaGreatDoorQ46
import Derived.Test.YtcoglmaiahpooaaGreatDoorQ53
set_option linter.unusedVariables false
set_option linter.unusedSimpArgs false
set_option maxHeartbeats 8000000
namespace Go.Proofs.YtcoglmaiahpooaaGreatDoor
open Go.RowKit
attribute [local go_sem ↓] Go.wp_at_zero Go.wp_at_succ
theorem vs_ {n:Int} (h:yw_ n=true):xu_ n=true:=by
 simp[yw_] at h;simp[xu_];omega
theorem ae6_:∀(m:Nat) (l:List PS),SizeOf.sizeOf l<m→∀(d:Int) (n:Nat),0≤d→xq_ d l=true→(n:Int)≤4*d+4→n≤1000→ys_ l≤4000000→∀(W:World) (ok:Nat→Prop) (k:Value),Sm W ok k (.inl l)→SL W k l n:=by
 intro m;induction m with
 | zero=>intro l h;omega
 | succ m ih=>
  intro l hsz d n hd0 hm hn hn1 hc W ok k hx;obtain⟨x,c,rfl⟩:=(Sm.ss hx).sl;have hll:=zv_ l d n hn hm;refine ajj_ n (by omega) (Sm.ss hx) ?_;intro i hi q W1 hg hk W2 hg2;have hme:=kk_ d l hm _ (List.getElem_mem hi);have hce:=kd_ l i hi;have s1:SizeOf.sizeOf l[i]<SizeOf.sizeOf l:=List.sizeOf_lt_of_mem (List.getElem_mem hi);generalize l[i]=E at hk hce s1 hme ⊢;have hk2:kdS.S W2 ok E q:=kdS.keep hk (fun b _ hl=>hg2.block b hl (by simp)) hg2.size;obtain⟨v,sa,nm,it,es,ps,ms,el,bo,lo,hi',by1,ti⟩:=E;have hSl:=aan_ _ (d+1) n (by omega) (by omega) hme.2;rw[jb_] at hce;have hce2:=hce;obtain⟨xa1,xc1,xa2,xc2,xa3,xc3,xa4,xc4,xa5,xc5,rfl⟩:=qg_ hk2;obtain⟨⟨k1,k2⟩,k3,k4,k5⟩:=hk2;simp at s1;obtain⟨hd,hmS⟩:=hme;rw[ye_] at hmS;simp only[Bool.and_eq_true] at hmS;obtain⟨⟨⟨⟨⟨hs,hes⟩,hps⟩,hmA⟩,hmE⟩,hmB⟩:=hmS;have hes:=List.all_eq_true.1 hes;have hps:=List.all_eq_true.1 hps;have hms:=kj_ v (d+1) ms hmA;have hEl:=ih el (by omega) (d+1) (n+2) (by omega) hmE (by omega) (by omega) (by omega) W2 ok _ k4;have hBd:=ih bo (by omega) (d+1) (n+2) (by omega) hmB (by omega) (by omega) (by omega) W2 ok _ k5;have hBl:(shL (n+2) bo).length≤100000000000:=(by have:=zv_ bo (d+1) (n+2) (by omega) hmB;omega);have hEll:(shL (n+2) el).length≤100000000000:=(by have:=zv_ el (d+1) (n+2) (by omega) hmE;omega);have hTl:(shS n (.mk v sa nm it es ps ms el bo lo hi' by1 ti)).length≤100000000000:=(by rw[jb_] at hSl;omega);have hE:∀(i:Nat) (hi:i<es.length),∃ d,xr_ d es[i]=true∧yj_ es[i]≤4000000:=fun i hi=>⟨_,hes _ (List.getElem_mem hi),by have:=qa_ es i hi;omega⟩
  have hAr:∀(i:Nat) (hi:i<ps.length),(∃ d,yl_ d ps[i]=true)∧za_ ps[i]≤4000000:=fun i hi=>⟨⟨_,hps _ (List.getElem_mem hi)⟩,by have:=qn_ za_ ps i hi;omega⟩;have hMb:∀(nn:Nat),(nn:Int)≤4*(d+1)+4→nn≤1000→∀(i:Nat) (hi:i<ms.length) (k:Value) (W':World),W2.grownBy W' none→Sm W' ok k (.inl ms[i].body)→SL W' k ms[i].body nn:=by
   intro nn hnn hn2 j hj k W3 hg3 hk3;have hcm:=qo_ ms j hj;have s2:SizeOf.sizeOf ms[j]<SizeOf.sizeOf ms:=List.sizeOf_lt_of_mem (List.getElem_mem hj);have hmm:=hms _ (List.getElem_mem hj);generalize ms[j]=M at hk3 hcm s2 hmm ⊢;obtain⟨e,ls,b⟩:=M;rw[jm_] at hcm;rw[x5_,Bool.and_eq_true] at hmm;simp at s2;exact ih b (by omega) (d+1) nn (by omega) hmm.2 hnn hn2 (by omega) W3 ok k hk3
  rcases ada_ hs with rfl|rfl|rfl|rfl|rfl|rfl|rfl|rfl|rfl|rfl
  · cases it with
    | false=>exact ajq_ (W:=W2) (ok:=ok) xa1 xa2 xa3 xa4 xa5 xc1 xc2 xc3 xc4 xc5 sa nm es ps ms el bo lo hi' by1 ti n (by omega) (by omega) hBd hBl k1 hE (by simp[yb_] at hs;omega)
    | true=>exact ajr_ (W:=W2) (ok:=ok) xa1 xa2 xa3 xa4 xa5 xc1 xc2 xc3 xc4 xc5 sa nm es ps ms el bo lo hi' by1 ti n (by omega) (by omega) hBd hBl k1 hE (by simp[yb_] at hs;omega)
  ·exact ss_2 (W:=W2) (ok:=ok) xa1 xa2 xa3 xa4 xa5 xc1 xc2 xc3 xc4 xc5 sa nm it es ps ms el bo lo hi' by1 ti n (by omega) (by omega) hBd hBl k2 hAr (by simp[yb_] at hs;omega)
  ·refine ss_3 (W:=W2) (ok:=ok) xa1 xa2 xa3 xa4 xa5 xc1 xc2 xc3 xc4 xc5 sa nm it es ps ms el bo lo hi' by1 ti n (by omega) (by omega) hBd hBl (Sm.ms k3) (fun i hi=>?_) (hMb _ (by omega) (by omega)) hEl hEll hTl;have hmm:=hms _ (List.getElem_mem hi);have hcm:=qo_ ms i hi;generalize ms[i]=M at hmm hcm ⊢;obtain⟨e,ls,b⟩:=M;rw[jm_] at hcm;rw[x5_,kn_,if_pos rfl,Bool.and_eq_true,Bool.and_eq_true] at hmm;exact⟨⟨_,hmm.1.2⟩,by show yj_ e≤_;omega⟩
  ·refine ss_4 (W:=W2) (ok:=ok) xa1 xa2 xa3 xa4 xa5 xc1 xc2 xc3 xc4 xc5 sa nm it es ps ms el bo lo hi' by1 ti n (by omega) (by omega) hBd hBl (Sm.ms k3) (fun i hi=>?_) (hMb _ (by omega) (by omega)) hEl hEll hTl k1 hE (by simp[yb_] at hs;omega);have hmm:=hms _ (List.getElem_mem hi);generalize ms[i]=M at hmm ⊢;obtain⟨e,ls,b⟩:=M;rw[x5_,kn_,if_neg (by decide),Bool.and_eq_true,Bool.and_eq_true] at hmm;exact List.all_eq_true.1 hmm.1.2
  · have h5:xu_ lo=true∧xu_ hi'=true∧yw_ by1=true:=by
     simp[yb_] at hs;exact⟨hs.1.2.1.1.1,hs.1.2.1.1.2,hs.1.2.2⟩
    exact ss_5 (W:=W2) (ok:=ok) xa1 xa2 xa3 xa4 xa5 xc1 xc2 xc3 xc4 xc5 sa nm it es ps ms el bo lo hi' by1 ti n (by omega) (by omega) hBd hBl h5.1 h5.2.1 (vs_ h5.2.2)
  · have h6:es.length=1∧yw_ ti=true:=by
     simp[yb_] at hs;exact⟨by omega,hs.2⟩
    exact ss_6 (W:=W2) (ok:=ok) xa1 xa2 xa3 xa4 xa5 xc1 xc2 xc3 xc4 xc5 sa nm it es ps ms el bo lo hi' by1 ti n (by omega) (by omega) hBd hBl k1 hE h6.1 (vs_ h6.2)
  · have h6:es.length=1∧yw_ ti=true:=by
     simp[yb_] at hs;exact⟨by omega,hs.2⟩
    exact ss_7 (W:=W2) (ok:=ok) xa1 xa2 xa3 xa4 xa5 xc1 xc2 xc3 xc4 xc5 sa nm it es ps ms el bo lo hi' by1 ti n (by omega) (by omega) hBd hBl k1 hE h6.1 (vs_ h6.2)
  ·exact ss_8 (W:=W2) (ok:=ok) xa1 xa2 xa3 xa4 xa5 xc1 xc2 xc3 xc4 xc5 sa nm it es ps ms el bo lo hi' by1 ti n (by omega) (by omega) hBd hBl
  ·exact ss_9 (W:=W2) (ok:=ok) xa1 xa2 xa3 xa4 xa5 xc1 xc2 xc3 xc4 xc5 sa nm it es ps ms el bo lo hi' by1 ti n (by omega) (by omega) hBd hBl
  ·exact ajk_ (W:=W2) (ok:=ok) xa1 xa2 xa3 xa4 xa5 xc1 xc2 xc3 xc4 xc5 sa nm it es ps ms el bo lo hi' by1 ti n (by omega) (by omega) hBd hBl
theorem ah8_ {W:World} {ok:Nat→Prop} {k:Value} {l:List PS} {d:Int} (hd:0≤d) (hm:xq_ d l=true) (n:Nat) (hn:(n:Int)≤4*d+4) (hn1:n≤1000) (hc:ys_ l≤4000000) (hx:Li kdS 99 W ok k l):SL W k l n:=ae6_ _ l (Nat.lt_succ_self _) d n hd hm hn hn1 hc W ok k hx.ss
theorem aas_ (ro:Int) (RL:ByteArray) (h:ro=1∨ro=2∨ro=3∨ro=4∨ro=5) (hR:bs (ji_ ro)=RL):∀ hh,([.string ⟨#[]⟩,.string ⟨#[86,65,82]⟩,.string ⟨#[86,65,82,95,73,78,80,85,84]⟩,.string ⟨#[86,65,82,95,79,85,84,80,85,84]⟩,.string ⟨#[86,65,82,95,69,88,84,69,82,78,65,76]⟩,.string ⟨#[86,65,82,32,82,69,84,65,73,78]⟩]:List Value)[ro.toNat]'hh=.string RL:=by
 subst hR;rcases h with rfl|rfl|rfl|rfl|rfl <;> (intro hh;rfl)
def jr_ (k:Nat):Code→Option Code
 | .loop c=>jr_ k c
 | .seq a b=>match jr_ k a with
  | some c=>some c
  | none=>jr_ k b
 | .block _ c=>jr_ k c
 | .scope c=>jr_ k c
 | .cond c a b=>match c with
  | .tmp m=>if m=k then some (.cond c a b) else match jr_ k a with
   | some c=>some c
   | none=>jr_ k b
  | _=>none
 | _=>none
def ifOf (k:Nat) (F:Func):Code:=(F.body.bind (jr_ k)).getD .skip
set_option maxRecDepth 100000 in
theorem u1_ (ro last i:Int) (RL A:ByteArray) (hro5:ro=1∨ro=2∨ro=3∨ro=4∨ro=5) (hR:bs (ji_ ro)=RL) (hRs:RL.size≤12) (hAs:A.size≤200000000000) (hi:i=0) (WS:Nat) (w:World) (vn vo nm2 pt:ByteArray) (vk lo ln f o kd n a va:Int) (ka:Option Addr) (kn kc:Nat)
 (hB:w.heap[WS]?=some (.cells #[.string vn,.int .i64 ro,.int .i64 vk,.string vo,.int .i64 lo,.int .i64 ln,.int .i64 f,.int .i64 o,.int .i64 kd,.int .i64 n,.string nm2,.string pt,.int .i64 a,.slice ka kn kc,.int .i64 va] 54)) (u0 u1 u2 u3 u8 u9 u10 u11 u12 u13 u14 u15 u16 u17 u18 u19 u20 u21 u22 u23 u24 u25 u26 u27 u28 u29 u30 u31 u32 u33 u34 u35 u36 u37 u38 u39 u40 u41 u42 u43 u44 u45 u46 u48 u49 u50 u51 u52 u53 u54 u55 u56 u57 u58 u59 u60 u61 u62 u63 u64 u65 u66 u67 u68 u69 u70 u71 u72 u73 u74 u75 u76 u77 u78 u79 u80 u81 u82 u83 u84 u85 u86 u87 u88 u89 u90 u91 u92 u93 u94 u95 u96 u97 u98 u99 u100 u101 u102 u103 u104 u105 u106 u107 u108 u109 u110 u111 u112 u113 u114 u115 u116 u117 u118 u119 u120 u121:Value) (Q:Exit→Act→World→Prop)
 (hQ:∀ x48 x49 x50 x51 x52 x53 x54 x55 x56 x57 x58 x59 x60 x61:Value,∀ w',w.grownBy w' none→Q .normal ⟨List.toArray ((u0)::(u1)::(u2)::(u3)::(.string (A++(RL++(⟨#[10]⟩:ByteArray))))::(.int .i64 ro)::(.int .i64 i)::(.pointer (some ⟨WS,0,none⟩))::(u8)::(u9)::(u10)::(u11)::(u12)::(u13)::(u14)::(u15)::(u16)::(u17)::(u18)::(u19)::(u20)::(u21)::(u22)::(u23)::(u24)::(u25)::(u26)::(u27)::(u28)::(u29)::(u30)::(u31)::(u32)::(u33)::(u34)::(u35)::(u36)::(u37)::(u38)::(u39)::(u40)::(u41)::(u42)::(u43)::(u44)::(u45)::(u46)::(.bool true)::(x48)::(x49)::(x50)::(x51)::(x52)::(x53)::(x54)::(x55)::(x56)::(x57)::(x58)::(x59)::(x60)::(x61)::(u62)::(u63)::(u64)::(u65)::(u66)::(u67)::(u68)::(u69)::(u70)::(u71)::(u72)::(u73)::(u74)::(u75)::(u76)::(u77)::(u78)::(u79)::(u80)::(u81)::(u82)::(u83)::(u84)::(u85)::(u86)::(u87)::(u88)::(u89)::(u90)::(u91)::(u92)::(u93)::(u94)::(u95)::(u96)::(u97)::(u98)::(u99)::(u100)::(u101)::(u102)::(u103)::(u104)::(u105)::(u106)::(u107)::(u108)::(u109)::(u110)::(u111)::(u112)::(u113)::(u114)::(u115)::(u116)::(u117)::(u118)::(u119)::(u120)::(u121)::[]),[]⟩ w') :
 Code.wp Tryz.prog (ifOf 47 Tryz.f10) Q ⟨List.toArray ((u0)::(u1)::(u2)::(u3)::(.string A)::(.int .i64 last)::(.int .i64 i)::(.pointer (some ⟨WS,0,none⟩))::(u8)::(u9)::(u10)::(u11)::(u12)::(u13)::(u14)::(u15)::(u16)::(u17)::(u18)::(u19)::(u20)::(u21)::(u22)::(u23)::(u24)::(u25)::(u26)::(u27)::(u28)::(u29)::(u30)::(u31)::(u32)::(u33)::(u34)::(u35)::(u36)::(u37)::(u38)::(u39)::(u40)::(u41)::(u42)::(u43)::(u44)::(u45)::(u46)::(.bool true)::(u48)::(u49)::(u50)::(u51)::(u52)::(u53)::(u54)::(u55)::(u56)::(u57)::(u58)::(u59)::(u60)::(u61)::(u62)::(u63)::(u64)::(u65)::(u66)::(u67)::(u68)::(u69)::(u70)::(u71)::(u72)::(u73)::(u74)::(u75)::(u76)::(u77)::(u78)::(u79)::(u80)::(u81)::(u82)::(u83)::(u84)::(u85)::(u86)::(u87)::(u88)::(u89)::(u90)::(u91)::(u92)::(u93)::(u94)::(u95)::(u96)::(u97)::(u98)::(u99)::(u100)::(u101)::(u102)::(u103)::(u104)::(u105)::(u106)::(u107)::(u108)::(u109)::(u110)::(u111)::(u112)::(u113)::(u114)::(u115)::(u116)::(u117)::(u118)::(u119)::(u120)::(u121)::[]),[]⟩ w:=by
 have h0:(0:Int)≤ro:=(by omega);have h6:ro<6:=(by omega);have hA:=aas_ ro RL hro5 hR;have z1:(RL++(⟨#[10]⟩:ByteArray)).size=RL.size+1:=ByteArray.size_append;have q1:¬9223372036854775806<RL.size:=(by omega);have q1':RL.size≤9223372036854775806:=(by omega);have z2:(A++(RL++(⟨#[10]⟩:ByteArray))).size=A.size+(RL.size+1):=(by rw[ByteArray.size_append,z1]);have q2:¬9223372036854775807<A.size+(RL.size+1):=(by omega);have q2':A.size+(RL.size+1)≤9223372036854775807:=(by omega);subst hi;obtain⟨p1,p2,p3,p4,p5,p6⟩:=xb_ hB;have HQ:=xa_ hQ;clear hQ hro5 hR;conv=>arg 2;whnf
 go_wp2_with fail
 exact HQ.out _ _ _ _ _ _ _ _ _ _ _ _ _ _ _ (gr1 _ _)
set_option maxRecDepth 100000 in
theorem abj_ (ro last i:Int) (RL A:ByteArray) (hro5:ro=1∨ro=2∨ro=3∨ro=4∨ro=5) (hR:bs (ji_ ro)=RL) (hRs:RL.size≤12) (hAs:A.size≤200000000000) (hi:0<i) (WS:Nat) (w:World) (vn vo nm2 pt:ByteArray) (vk lo ln f o kd n a va:Int) (ka:Option Addr) (kn kc:Nat)
 (hB:w.heap[WS]?=some (.cells #[.string vn,.int .i64 ro,.int .i64 vk,.string vo,.int .i64 lo,.int .i64 ln,.int .i64 f,.int .i64 o,.int .i64 kd,.int .i64 n,.string nm2,.string pt,.int .i64 a,.slice ka kn kc,.int .i64 va] 54)) (u0 u1 u2 u3 u8 u9 u10 u11 u12 u13 u14 u15 u16 u17 u18 u19 u20 u21 u22 u23 u24 u25 u26 u27 u28 u29 u30 u31 u32 u33 u34 u35 u36 u37 u38 u39 u40 u41 u42 u43 u44 u45 u46 u48 u49 u50 u51 u52 u53 u54 u55 u56 u57 u58 u59 u60 u61 u62 u63 u64 u65 u66 u67 u68 u69 u70 u71 u72 u73 u74 u75 u76 u77 u78 u79 u80 u81 u82 u83 u84 u85 u86 u87 u88 u89 u90 u91 u92 u93 u94 u95 u96 u97 u98 u99 u100 u101 u102 u103 u104 u105 u106 u107 u108 u109 u110 u111 u112 u113 u114 u115 u116 u117 u118 u119 u120 u121:Value) (Q:Exit→Act→World→Prop)
 (hQ:∀ x48 x49 x50 x51 x52 x53 x54 x55 x56 x57 x58 x59 x60 x61:Value,∀ w',w.grownBy w' none→Q .normal ⟨List.toArray ((u0)::(u1)::(u2)::(u3)::(.string (A++(⟨#[69,78,68,95,86,65,82,10]⟩:ByteArray)++(RL++(⟨#[10]⟩:ByteArray))))::(.int .i64 ro)::(.int .i64 i)::(.pointer (some ⟨WS,0,none⟩))::(u8)::(u9)::(u10)::(u11)::(u12)::(u13)::(u14)::(u15)::(u16)::(u17)::(u18)::(u19)::(u20)::(u21)::(u22)::(u23)::(u24)::(u25)::(u26)::(u27)::(u28)::(u29)::(u30)::(u31)::(u32)::(u33)::(u34)::(u35)::(u36)::(u37)::(u38)::(u39)::(u40)::(u41)::(u42)::(u43)::(u44)::(u45)::(u46)::(.bool true)::(x48)::(x49)::(x50)::(x51)::(x52)::(x53)::(x54)::(x55)::(x56)::(x57)::(x58)::(x59)::(x60)::(x61)::(u62)::(u63)::(u64)::(u65)::(u66)::(u67)::(u68)::(u69)::(u70)::(u71)::(u72)::(u73)::(u74)::(u75)::(u76)::(u77)::(u78)::(u79)::(u80)::(u81)::(u82)::(u83)::(u84)::(u85)::(u86)::(u87)::(u88)::(u89)::(u90)::(u91)::(u92)::(u93)::(u94)::(u95)::(u96)::(u97)::(u98)::(u99)::(u100)::(u101)::(u102)::(u103)::(u104)::(u105)::(u106)::(u107)::(u108)::(u109)::(u110)::(u111)::(u112)::(u113)::(u114)::(u115)::(u116)::(u117)::(u118)::(u119)::(u120)::(u121)::[]),[]⟩ w') :
 Code.wp Tryz.prog (ifOf 47 Tryz.f10) Q ⟨List.toArray ((u0)::(u1)::(u2)::(u3)::(.string A)::(.int .i64 last)::(.int .i64 i)::(.pointer (some ⟨WS,0,none⟩))::(u8)::(u9)::(u10)::(u11)::(u12)::(u13)::(u14)::(u15)::(u16)::(u17)::(u18)::(u19)::(u20)::(u21)::(u22)::(u23)::(u24)::(u25)::(u26)::(u27)::(u28)::(u29)::(u30)::(u31)::(u32)::(u33)::(u34)::(u35)::(u36)::(u37)::(u38)::(u39)::(u40)::(u41)::(u42)::(u43)::(u44)::(u45)::(u46)::(.bool true)::(u48)::(u49)::(u50)::(u51)::(u52)::(u53)::(u54)::(u55)::(u56)::(u57)::(u58)::(u59)::(u60)::(u61)::(u62)::(u63)::(u64)::(u65)::(u66)::(u67)::(u68)::(u69)::(u70)::(u71)::(u72)::(u73)::(u74)::(u75)::(u76)::(u77)::(u78)::(u79)::(u80)::(u81)::(u82)::(u83)::(u84)::(u85)::(u86)::(u87)::(u88)::(u89)::(u90)::(u91)::(u92)::(u93)::(u94)::(u95)::(u96)::(u97)::(u98)::(u99)::(u100)::(u101)::(u102)::(u103)::(u104)::(u105)::(u106)::(u107)::(u108)::(u109)::(u110)::(u111)::(u112)::(u113)::(u114)::(u115)::(u116)::(u117)::(u118)::(u119)::(u120)::(u121)::[]),[]⟩ w:=by
 have h0:(0:Int)≤ro:=(by omega);have h6:ro<6:=(by omega);have hA:=aas_ ro RL hro5 hR;have z1:(RL++(⟨#[10]⟩:ByteArray)).size=RL.size+1:=ByteArray.size_append;have q1:¬9223372036854775806<RL.size:=(by omega);have q1':RL.size≤9223372036854775806:=(by omega);have z0:(A++(⟨#[69,78,68,95,86,65,82,10]⟩:ByteArray)).size=A.size+8:=ByteArray.size_append;have q0:¬9223372036854775799<A.size:=(by omega);have q0':A.size≤9223372036854775799:=(by omega);have z2:(A++(⟨#[69,78,68,95,86,65,82,10]⟩:ByteArray)++(RL++(⟨#[10]⟩:ByteArray))).size=A.size+8+(RL.size+1):=(by rw[ByteArray.size_append,z0,z1]);have q2:¬9223372036854775807<A.size+8+(RL.size+1):=(by omega);have q2':A.size+8+(RL.size+1)≤9223372036854775807:=(by omega);have hi1:(0:Int)<i:=(by omega);obtain⟨p1,p2,p3,p4,p5,p6⟩:=xb_ hB;have HQ:=xa_ hQ;clear hQ hro5 hR;conv=>arg 2;whnf
 go_wp2_with fail
 exact HQ.out _ _ _ _ _ _ _ _ _ _ _ _ _ _ _ (gr1 _ _)
set_option maxRecDepth 100000 in
theorem ah9_ {W:World} {ok:Nat→Prop} (k ur:Int) (s1:ByteArray) (vs:List PV) (xv:Option Addr) (cv:Nat) (bo:List PS) (xb:Option Addr) (cb:Nat) (at1:Int) (hM:∀ X,W.grownBy X none→Calls Tryz.prog 8 #[.agg #[.int .i64 k,.string s1,.int .i64 ur,.slice xv vs.length cv,.slice xb bo.length cb,.int .i64 at1]] X (xs_ X (yx_ ⟨k,s1,ur,vs,bo,at1⟩)))
 (hv:Li kdV 54 W ok (.slice xv vs.length cv) vs) (hs1:s1.size≤4000000) (hvc:∀(i:Nat) (hi:i<vs.length),zt_ vs[i]≤4000000) (hb:xq_ 1 bo=true→SL W (.slice xb bo.length cb) bo 2) (hTl:yx_ ⟨k,s1,ur,vs,bo,at1⟩=true→(shU ⟨k,s1,ur,vs,bo,at1⟩).length≤100000000000) :
 Calls Tryz.prog 10 #[.agg #[.int .i64 k,.string s1,.int .i64 ur,.slice xv vs.length cv,.slice xb bo.length cb,.int .i64 at1]] W (xv_ W (bs (if yx_ ⟨k,s1,ur,vs,bo,at1⟩=true then shU ⟨k,s1,ur,vs,bo,at1⟩ else []))):=by
 obtain⟨W1,hW1⟩:∃ X,X=W.alloc (.cells #[.int .i64 k,.string s1,.int .i64 ur,.slice xv vs.length cv,.slice xb bo.length cb,.int .i64 at1] 27):=⟨_,rfl⟩;have AX:Hid (W1.heap[W.heap.size]?=some (.cells #[.int .i64 k,.string s1,.int .i64 ur,.slice xv vs.length cv,.slice xb bo.length cb,.int .i64 at1] 27)):=hW1▸xe_ rfl _;have GX:Hid (W.grownBy W1 none):=hW1▸gr1 _ _;have HW:=xa_ hW1;clear hW1;cases hU:yx_ ⟨k,s1,ur,vs,bo,at1⟩ with
 | false=>
  rw[hU] at hM;have cM:=xa_ hM;rw[if_neg (by decide)];clear hM hU hTl hvc hv hb;go_enter Tryz.func10,Tryz.ntmps10;go_upto_region 1 with fail;rw[← HW.out];clear HW;obtain⟨p1,p2,p3,p4,p5,p6⟩:=xb_ AX.out;go_wp2_with fail
  refine(cM.out _ GX.out).mono ?_;rintro e w2 ⟨rfl,g⟩;dsimp only;have G2:=xa_ (gtn GX.out g);clear g;go_wp2_with fail
  go_ret;exact⟨rfl,G2.out⟩
 | true=>
 rw[if_pos rfl];rw[hU] at hM;have hTl:=hTl hU;have cM:=xa_ hM;obtain⟨T,hT⟩:∃ T,shU ⟨k,s1,ur,vs,bo,at1⟩=T:=⟨_,rfl⟩;rw[hT] at hTl ⊢;have hU2:=hU;rw[← ub_,docU] at hU2;simp only[Bool.and_eq_true,decide_eq_true_eq] at hU2;obtain⟨⟨hk1,hk3⟩,⟨hnm,hvl⟩,hur,hva,hbo⟩:=hU2;have hva:=List.all_eq_true.1 hva;have HVA:Hid (∀ v∈vs,zu_ v=true):=xa_ hva;have HB:=xa_ (hb hbo);have HV:=xa_ hv;have HC:=xa_ hvc;have hle:=hv.le;obtain⟨RT,hRT⟩:∃ R,shL 2 bo++([69,78,68,95]++(zc_ k++[10]))=R:=⟨_,rfl⟩;have HT:Hid (zc_ k++([32]++(s1.data.toList++((if k=2 then [32,58,32]++yc_ ur else [])++([10]++(shV 0 vs++RT)))))=T):=by
  show _=_
  rw[← hT,← hRT];rfl
 have HRT:=xa_ hRT;have hkur:k=2→1≤ur∧ur≤5:=fun h=>by rw[if_pos h] at hur;simpa[kdB] using hur
 have HKU:=xa_ hkur;have hkk:k=1∨k=2∨k=3:=(by omega);clear hM hU hT hnm hvl hur hva hbo hb hv hvc hRT hk1 hk3 hkur;go_enter Tryz.func10,Tryz.ntmps10;go_upto_region 1 with fail;rw[← HW.out];clear HW;obtain⟨p1,p2,p3,p4,p5,p6⟩:=xb_ AX.out;go_wp2_with fail
 refine(cM.out _ GX.out).mono ?_;rintro e w2 ⟨rfl,g⟩;dsimp only;have AX0:=xa_ (kept g AX.out);have GX0:=xa_ (gtn GX.out g);clear g AX GX p1 p2 p3 p4 p5 p6 cM;have AX:=AX0;have GX:=GX0;clear AX0 GX0;obtain⟨p1,p2,p3,p4,p5,p6⟩:=xb_ AX.out;go_upto_region 3 with fail;go_cut [3] from 7 (fun s3 wx=>∃ WD:ByteArray,s3=.string WD∧Hid (WD.data.toList=zc_ k∧WD.size≤14)∧Hid (w2.grownBy wx none))
 case first=>
  as_aux_lemma=>
   rcases hkk with rfl|rfl|rfl
   all_goals
    go_wp2_with fail
    go_meet
    case rel=>exact⟨_,rfl,xa_ ⟨rfl,by decide⟩,xa_ (gr1 _ _)⟩
 case rest=>as_aux_lemma=>
 obtain⟨WD,rfl,HD,g⟩:=hcut;have AX0:=xa_ (kept g.out AX.out);have GX0:=xa_ (gtn GX.out g.out);clear g AX GX p1 p2 p3 p4 p5 p6;have AX:=AX0;have GX:=GX0;clear AX0 GX0;obtain⟨hDd,hDs⟩:=HD.out;obtain⟨p1,p2,p3,p4,p5,p6⟩:=xb_ AX.out;have z1_0:(WD++(⟨#[32]⟩:ByteArray)).size=WD.size+1:=ByteArray.size_append;have qz1_0:¬9223372036854775807<WD.size+1:=(by omega);have uz1_0:WD.size+1≤9223372036854775807:=(by omega);have rz1_0:¬9223372036854775806<WD.size:=(by omega);have wz1_0:WD.size≤9223372036854775806:=(by omega);have z1_1:(WD++(⟨#[32]⟩:ByteArray)++s1).size=WD.size+1+s1.size:=(by rw[ByteArray.size_append,z1_0]);have qz1_1:¬9223372036854775807<WD.size+1+s1.size:=(by omega);have uz1_1:WD.size+1+s1.size≤9223372036854775807:=(by omega);have HA0:Hid ((WD++(⟨#[32]⟩:ByteArray)++s1).data.toList=zc_ k++([32]++s1.data.toList)):=(by show _=_;simp[ByteArray.data_append,hDd]);have hA0s:(WD++(⟨#[32]⟩:ByteArray)++s1).size≤4000015:=(by omega);go_upto_if 23 with fail;generalize(WD++(⟨#[32]⟩:ByteArray)++s1)=A0 at HA0 hA0s ⊢;go_cut [4] from 7 (fun s4 wx=>∃ A:ByteArray,s4=.string A∧Hid (W.grownBy wx none∧wx.heap[W.heap.size]?=some (.cells #[.int .i64 k,.string s1,.int .i64 ur,.slice xv vs.length cv,.slice xb bo.length cb,.int .i64 at1] 27))∧Hid (A.data.toList=zc_ k++([32]++(s1.data.toList++(if k=2 then [32,58,32]++yc_ ur else [])))∧A.size≤4000050))
 case first=>
  as_aux_lemma=>
   by_cases h2:k=2
   · obtain⟨u1,u5⟩:=HKU.out h2;have cK:=xa_ (k3_ ur (by omega) (by omega));rw[if_neg (by omega)] at cK;have j2:(k==2)=true:=(by rw[h2];rfl);obtain⟨KT,hKT⟩:∃ P,bs (yc_ ur)=P:=⟨_,rfl⟩;have hKd:KT.data.toList=yc_ ur:=(by rw[← hKT]);have hKs:KT.size≤4:=(by rw[← hKT];exact jf_ ur);rw[hKT] at cK;have z1:((⟨#[32,58,32]⟩:ByteArray)++KT).size=3+KT.size:=ByteArray.size_append;have q1:¬9223372036854775807<3+KT.size:=(by omega);have q1':3+KT.size≤9223372036854775807:=(by omega);have z2:(A0++((⟨#[32,58,32]⟩:ByteArray)++KT)).size=A0.size+(3+KT.size):=(by rw[ByteArray.size_append,z1]);have q2:¬9223372036854775807<A0.size+(3+KT.size):=(by omega);have q2':A0.size+(3+KT.size)≤9223372036854775807:=(by omega);have HE:Hid ((A0++((⟨#[32,58,32]⟩:ByteArray)++KT)).data.toList=zc_ k++([32]++(s1.data.toList++(if k=2 then [32,58,32]++yc_ ur else [])))):=by
      show _=_
      rw[if_pos h2];simp[ByteArray.data_append,HA0.out,hKd]
     clear h2 hKT;go_wp2_with fail
     refine(cK.out _).mono ?_;rintro e w3 ⟨rfl,g⟩;dsimp only;have A2:=xa_ (kept g AX.out);have G2:=xa_ (gtn GX.out g);clear g;go_wp2_with fail
     go_meet
     case rel=>exact⟨_,rfl,xa_ ⟨G2.out,A2.out⟩,xa_ ⟨HE.out,by omega⟩⟩
   · have j2:(k==2)=false:=(by rw[beq_eq_false_iff_ne];exact h2);have HE:Hid (A0.data.toList=zc_ k++([32]++(s1.data.toList++(if k=2 then [32,58,32]++yc_ ur else [])))):=by
      show _=_
      rw[if_neg h2,List.append_nil];exact HA0.out
     clear h2;go_wp2_with fail
     go_meet
     case rel=>exact⟨A0,rfl,xa_ ⟨GX.out,AX.out⟩,xa_ ⟨HE.out,by omega⟩⟩
 case rest=>as_aux_lemma=>
 clear AX GX p1 p2 p3 p4 p5 p6 HA0 hA0s;obtain⟨A1,rfl,HX,HA⟩:=hcut;have GX:=xa_ HX.out.1;have AX:=xa_ HX.out.2;obtain⟨hA1d,hA1s⟩:=HA.out;clear HX HA;obtain⟨p1,p2,p3,p4,p5,p6⟩:=xb_ AX.out;have zn:(A1++(⟨#[10]⟩:ByteArray)).size=A1.size+1:=ByteArray.size_append;have qn:¬9223372036854775806<A1.size:=(by omega);have qn2:A1.size≤9223372036854775806:=(by omega);have HA0:Hid ((A1++(⟨#[10]⟩:ByteArray)).data.toList++(shV 0 (vs.drop 0)++RT)=T):=by
  show _=_
  rw[← HT.out];simp[ByteArray.data_append,hA1d]
 clear hA1d HT;go_upto_block 0 with fail
 generalize(A1++(⟨#[10]⟩:ByteArray))=A0 at HA0 ⊢;clear zn qn qn2 hA1s;have wcX:Hid (W.grownBy wc none):=GX;go_cut [4] from 8 (fun s4 wx=>∃ A:ByteArray,s4=.string A∧Hid (W.grownBy wx none∧wx.heap[W.heap.size]?=some (.cells #[.int .i64 k,.string s1,.int .i64 ur,.slice xv vs.length cv,.slice xb bo.length cb,.int .i64 at1] 27))∧Hid (A.data.toList++((if vs.length=0 then [] else y3_)++RT)=T))
 case first=>
  as_aux_lemma=>
   go_wp2_with fail
   have LS:Hid (∃(i:Nat) (A:ByteArray) (last:Int),Value.string A0=.string A∧Value.int .i64 0=.int .i64 last∧Value.int .i64 0=.int .i64 (i:Int)∧Hid (W.grownBy wc none∧wc.heap[W.heap.size]?=some (.cells #[.int .i64 k,.string s1,.int .i64 ur,.slice xv vs.length cv,.slice xb bo.length cb,.int .i64 at1] 27))∧Hid (A.data.toList++(shV last (vs.drop i)++RT)=T)∧Hid ((i=0→last=0)∧(last=0→i=0))∧Hid (i≤vs.length∧vs.length+1=vs.length+1 - i)):=⟨0,A0,0,rfl,rfl,rfl,xa_ ⟨GX.out,AX.out⟩,HA0,xa_ ⟨fun _=>rfl,fun _=>rfl⟩,xa_ ⟨by omega,rfl⟩⟩;clear HA0 p1 p2 p3 p4 p5 p6 AX GX wcX;go_loopg [4,5,6,7] (vs.length+1) (fun gk s4 s5 s6 _ wx=>∃(i:Nat) (A:ByteArray) (last:Int),s4=.string A∧s5=.int .i64 last∧s6=.int .i64 (i:Int)∧Hid (W.grownBy wx none∧wx.heap[W.heap.size]?=some (.cells #[.int .i64 k,.string s1,.int .i64 ur,.slice xv vs.length cv,.slice xb bo.length cb,.int .i64 at1] 27))∧Hid (A.data.toList++(shV last (vs.drop i)++RT)=T)∧Hid ((i=0→last=0)∧(last=0→i=0))∧Hid (i≤vs.length∧gk=vs.length+1 - i))
   case atStart=>exact LS.out
   case round=>
    clear LS;obtain⟨i,A,last,rfl,rfl,rfl,HX,HA,HL,HB2⟩:=hrel;obtain⟨hi1,hgk⟩:=HB2.out;clear HB2;have GX:=xa_ HX.out.1;have AX:=xa_ HX.out.2;clear HX;obtain⟨p1,p2,p3,p4,p5,p6⟩:=xb_ AX.out;by_cases hiM:i<vs.length;rotate_left
    · have hlt:¬((i:Int)<(vs.length:Int)):=(by omega);have HE:Hid (A.data.toList++((if vs.length=0 then [] else y3_)++RT)=T):=by
       have h:=HA.out;have hl:=HL.out;rw[List.drop_eq_nil_of_le (by omega),shV] at h;have:(if vs.length=0 then([]:Tx) else y3_)=if last=0 then [] else y3_:=by
        by_cases h0:last=0
        ·rw[if_pos h0,if_pos (by have:=hl.2 h0;omega)]
        ·rw[if_neg h0,if_neg (fun e=>h0 (hl.1 (by omega)))]
       show _=_
       rw[this];exact h
      clear HA;go_wp2_with fail
      go_meet
      case rel=>exact⟨A,rfl,xa_ ⟨GX.out,AX.out⟩,HE⟩
    have hlt:((i:Int)<(vs.length:Int)):=(by omega);have hwi:IntKind.i64.wrap ((i:Int)+1)=i+1:=IntWalk.i64_in _ (by omega);have hdv:=HVA.out _ (List.getElem_mem hiM);have hcv:=HC.out i hiM;have hA1:=HA.out;rw[List.drop_eq_getElem_cons hiM,shV] at hA1;obtain⟨g,off,c',q,ex,hgl,hk,hc⟩:=HV.out.atG (sz:=15) zm_ (by decide) i hiM;injection ex with e1 _ e3;subst e1 e3;have hC:=hc wr GX.out;have hk2:Xs W ok q vs[i].init.kids:=hk;obtain⟨ka,kc,rfl⟩:=hk2.sl;have cE:=xa_ (fun (d:Int) (h':xr_ d vs[i].init=true) (h2:yj_ vs[i].init≤4000000)=>sx h' h2 hk2);clear hc hk hk2 HA;generalize vs[i]=P at hC cE hA1 hdv hcv;obtain⟨vn,ro,vk,vo,lo,ln,⟨f,o,kd,n,nm2,pt,a,ks⟩,va⟩:=P;have hcv2:1+vn.size+vo.size+yj_ (.mk f o kd n nm2 pt a ks)≤4000000:=hcv;rw[zu_] at hdv;simp only[Bool.and_eq_true,decide_eq_true_eq] at hdv;obtain⟨⟨hnmv,hro1,hro5⟩,hdk,hdi⟩:=hdv;have HRO:Hid (1≤ro∧ro≤5):=xa_ ⟨hro1,hro5⟩;have hvn:vn.size≤4000000:=(by omega);have hvo:vo.size≤4000000:=(by omega);have HKD:Hid (0≤vk∧vk≤5∧(vk≠0→vo=nob)∧vo.size≤4000000):=xa_ (by
     rw[vp_] at hdk;split at hdk
     ·rename_i hn;simp[kdB] at hdk;exact⟨by omega,by omega,fun _=>hn,hvo⟩
     ·simp at hdk;exact⟨by omega,by omega,fun h=>absurd hdk.2.1 h,hvo⟩)
    have HLEN:Hid (0<ln→vk≠0∧xu_ lo=true∧xu_ (lo+ln - 1)=true∧IntKind.i64.wrap (lo+ln)=lo+ln∧IntKind.i64.wrap (lo+ln - 1)=lo+ln - 1):=xa_ (fun hl=>by
     rw[vp_] at hdk;split at hdk
     ·simp only[docR,kdB,Bool.and_eq_true,decide_eq_true_eq] at hdk;obtain⟨⟨h1,h5⟩,h0,h1000,_,hn,hm⟩:=hdk;have hm2:xu_ (lo+ln - 1)=true:=(by simpa[hl] using hm);have hb : -4294967295≤lo∧lo≤4294967295:=(by simpa[xu_] using hn);exact⟨by omega,hn,hm2,IntWalk.i64_in _ (by omega),IntWalk.i64_in _ (by omega)⟩
     ·simp at hdk;omega)
    have HIN:Hid (f=1→∀ X,W.grownBy X none→Calls Tryz.prog 31 #[xV f o kd n nm2 pt a (.slice ka ks.length kc)] X (xv_ X (bs (yf_ kd n)))):=xa_ (fun hf=>by
     have hm:xr_ 2 (.mk f o kd n nm2 pt a ks)=true:=by
      have:PE.form (.mk f o kd n nm2 pt a ks)=f:=rfl
      simp only[jv_,this,Bool.or_eq_true,Bool.and_eq_true,decide_eq_true_eq] at hdi;rcases hdi with h|h
      ·simp[xz_,hf] at h
      ·exact h.2
     intro X g;have:=cE.out 2 hm (by show yj_ (.mk f o kd n nm2 pt a ks)≤_;omega) X g;rw[show shE (.mk f o kd n nm2 pt a ks)=yf_ kd n by rw[shE,if_pos hf]] at this;exact this)
    have y0:wr.cell? ⟨g,off+i*15,none⟩=some (.string vn):=hC 0 (by decide);have y1:wr.cell? ⟨g,off+i*15+1,none⟩=some (.int .i64 ro):=hC 1 (by decide);have y2:wr.cell? ⟨g,off+i*15+2,none⟩=some (.int .i64 vk):=hC 2 (by decide);have y3:wr.cell? ⟨g,off+i*15+3,none⟩=some (.string vo):=hC 3 (by decide);have y4:wr.cell? ⟨g,off+i*15+4,none⟩=some (.int .i64 lo):=hC 4 (by decide);have y5:wr.cell? ⟨g,off+i*15+5,none⟩=some (.int .i64 ln):=hC 5 (by decide);have y6:wr.cell? ⟨g,off+i*15+6,none⟩=some (.int .i64 f):=hC 6 (by decide);have y7:wr.cell? ⟨g,off+i*15+7,none⟩=some (.int .i64 o):=hC 7 (by decide);have y8:wr.cell? ⟨g,off+i*15+8,none⟩=some (.int .i64 kd):=hC 8 (by decide);have y9:wr.cell? ⟨g,off+i*15+9,none⟩=some (.int .i64 n):=hC 9 (by decide);have y10:wr.cell? ⟨g,off+i*15+10,none⟩=some (.string nm2):=hC 10 (by decide);have y11:wr.cell? ⟨g,off+i*15+11,none⟩=some (.string pt):=hC 11 (by decide);have y12:wr.cell? ⟨g,off+i*15+12,none⟩=some (.int .i64 a):=hC 12 (by decide);have y13:wr.cell? ⟨g,off+i*15+13,none⟩=some (.slice ka ks.length kc):=hC 13 (by decide);have y14:wr.cell? ⟨g,off+i*15+14,none⟩=some (.int .i64 va):=hC 14 (by decide);clear hC cE hcv hcv2 hnmv hro1 hro5 hdk hdi;have HA:=xa_ hA1;clear hA1;have hAs:A.size≤100000000000:=by
     have h:=congrArg List.length HA.out;rw[List.length_append] at h;rw[qp_];omega
    go_upto_region 13 with fail;obtain⟨WS,hWS⟩:∃ q,wr.heap.size=q:=⟨_,rfl⟩;have BX:Hid ((wr.alloc (.cells #[.string vn,.int .i64 ro,.int .i64 vk,.string vo,.int .i64 lo,.int .i64 ln,.int .i64 f,.int .i64 o,.int .i64 kd,.int .i64 n,.string nm2,.string pt,.int .i64 a,.slice ka ks.length kc,.int .i64 va] 54)).heap[WS]?=some (.cells #[.string vn,.int .i64 ro,.int .i64 vk,.string vo,.int .i64 lo,.int .i64 ln,.int .i64 f,.int .i64 o,.int .i64 kd,.int .i64 n,.string nm2,.string pt,.int .i64 a,.slice ka ks.length kc,.int .i64 va] 54)):=xa_ (xe_ hWS.symm _);have AX0:=xa_ (old AX.out (.cells #[.string vn,.int .i64 ro,.int .i64 vk,.string vo,.int .i64 lo,.int .i64 ln,.int .i64 f,.int .i64 o,.int .i64 kd,.int .i64 n,.string nm2,.string pt,.int .i64 a,.slice ka ks.length kc,.int .i64 va] 54));have GX0:=xa_ (xf_ GX.out (.cells #[.string vn,.int .i64 ro,.int .i64 vk,.string vo,.int .i64 lo,.int .i64 ln,.int .i64 f,.int .i64 o,.int .i64 kd,.int .i64 n,.string nm2,.string pt,.int .i64 a,.slice ka ks.length kc,.int .i64 va] 54));rw[hWS];clear AX GX p1 p2 p3 p4 p5 p6 y0 y1 y2 y3 y4 y5 y6 y7 y8 y9 y10 y11 y12 y13 y14 hWS;have AX:=AX0;have GX:=GX0;clear AX0 GX0;generalize wr.alloc (.cells #[.string vn,.int .i64 ro,.int .i64 vk,.string vo,.int .i64 lo,.int .i64 ln,.int .i64 f,.int .i64 o,.int .i64 kd,.int .i64 n,.string nm2,.string pt,.int .i64 a,.slice ka ks.length kc,.int .i64 va] 54)=W5 at AX BX GX ⊢;obtain⟨p1,p2,p3,p4,p5,p6⟩:=xb_ AX.out;obtain⟨q1,q2,q3,q4,q5,q6⟩:=xb_ BX.out;go_cut [47] from 32 to 106 (fun s47 wx=>W5=wx∧s47=.bool (ro != last))
    case first=>
     as_aux_lemma=>
      go_wp2_with fail
      go_meet
      case rel=>exact⟨rfl,rfl⟩
    case rest=>
    obtain⟨rfl,rfl⟩:=hcut;go_upto_if 47 with fail;go_cut [4,5] from 32 to 106 (fun s4 s5 wx=>∃ A:ByteArray,s4=.string A∧s5=.int .i64 ro∧Hid (W.grownBy wx none∧wx.heap[W.heap.size]?=some (.cells #[.int .i64 k,.string s1,.int .i64 ur,.slice (some ⟨g,off,none⟩) vs.length cv,.slice xb bo.length cb,.int .i64 at1] 27)∧wx.heap[WS]?=some (.cells #[.string vn,.int .i64 ro,.int .i64 vk,.string vo,.int .i64 lo,.int .i64 ln,.int .i64 f,.int .i64 o,.int .i64 kd,.int .i64 n,.string nm2,.string pt,.int .i64 a,.slice ka ks.length kc,.int .i64 va] 54))∧Hid (A.data.toList++(q3_ ⟨vn,ro,vk,vo,lo,ln,.mk f o kd n nm2 pt a ks,va⟩++(shV ro (vs.drop (i+1))++RT))=T))
    case first=>
     as_aux_lemma=>
      by_cases hr:ro=last
      · have j:(ro==last)=true:=(by rw[hr];exact beq_self_eq_true last);have nj:(ro != last)=false:=(by rw[bne,j];rfl);have HE:Hid (A.data.toList++(q3_ ⟨vn,ro,vk,vo,lo,ln,.mk f o kd n nm2 pt a ks,va⟩++(shV ro (vs.drop (i+1))++RT))=T):=(by have h:=HA.out;rw[if_pos hr] at h;show _=_;simpa[List.append_assoc] using h);have HR:=xa_ hr;clear hr;go_wp2_with fail
        go_meet
        case rel=>exact⟨A,rfl,by rw[HR.out],xa_ ⟨GX.out,AX.out,BX.out⟩,HE⟩
      · have j:(ro==last)=false:=(by rw[beq_eq_false_iff_ne];exact hr);have nj:(ro != last)=true:=(by rw[bne,j];rfl);have HE0:Hid (A.data.toList++(((if last=0 then [] else y3_)++(ji_ ro++[10]))++(q3_ ⟨vn,ro,vk,vo,lo,ln,.mk f o kd n nm2 pt a ks,va⟩++(shV ro (vs.drop (i+1))++RT)))=T):=(by have h:=HA.out;rw[if_neg hr] at h;show _=_;simpa[List.append_assoc] using h);obtain⟨RL,hRL⟩:∃ P,bs (ji_ ro)=P:=⟨_,rfl⟩;have hRd:RL.data.toList=ji_ ro:=(by rw[← hRL]);have hRs:RL.size≤12:=(by rw[← hRL];exact ud_ ro);have hlast:=HL.out;have hro5:ro=1∨ro=2∨ro=3∨ro=4∨ro=5:=(by have:=HRO.out;omega);rw[nj];by_cases h0:i=0
        · have hl0:last=0:=hlast.1 h0;have HE:Hid ((A++(RL++(⟨#[10]⟩:ByteArray))).data.toList++(q3_ ⟨vn,ro,vk,vo,lo,ln,.mk f o kd n nm2 pt a ks,va⟩++(shV ro (vs.drop (i+1))++RT))=T):=by
           show _=_
           rw[← HE0.out,if_pos hl0];simp[ByteArray.data_append,hRd]
          refine u1_ ro last (i:Int) RL A hro5 hRL hRs (by omega) (by omega) WS _ vn vo nm2 pt vk lo ln f o kd n a va ka ks.length kc BX.out _ _ _ _ _ _ _ _ _ _ _ _ _ _ _ _ _ _ _ _ _ _ _ _ _ _ _ _ _ _ _ _ _ _ _ _ _ _ _ _ _ _ _ _ _ _ _ _ _ _ _ _ _ _ _ _ _ _ _ _ _ _ _ _ _ _ _ _ _ _ _ _ _ _ _ _ _ _ _ _ _ _ _ _ _ _ _ _ _ _ _ _ _ _ _ _ _ _ _ _ _ _ _ _ _ _ _ _ _ _ _ _ _ _ _ _ _ _ ?_;intro x48 x49 x50 x51 x52 x53 x54 x55 x56 x57 x58 x59 x60 x61 w' g';have G9:=xa_ g';clear g' h0 hl0;go_wp2_with fail
          go_meet
          case rel=>exact⟨_,rfl,rfl,xa_ ⟨gtn GX.out G9.out,kept G9.out AX.out,kept G9.out BX.out⟩,HE⟩
        · have hl0:last≠0:=fun e=>h0 (hlast.2 e);have HE:Hid ((A++(⟨#[69,78,68,95,86,65,82,10]⟩:ByteArray)++(RL++(⟨#[10]⟩:ByteArray))).data.toList++(q3_ ⟨vn,ro,vk,vo,lo,ln,.mk f o kd n nm2 pt a ks,va⟩++(shV ro (vs.drop (i+1))++RT))=T):=by
           show _=_
           rw[← HE0.out,if_neg hl0];simp[ByteArray.data_append,hRd,y3_]
          refine abj_ ro last (i:Int) RL A hro5 hRL hRs (by omega) (by omega) WS _ vn vo nm2 pt vk lo ln f o kd n a va ka ks.length kc BX.out _ _ _ _ _ _ _ _ _ _ _ _ _ _ _ _ _ _ _ _ _ _ _ _ _ _ _ _ _ _ _ _ _ _ _ _ _ _ _ _ _ _ _ _ _ _ _ _ _ _ _ _ _ _ _ _ _ _ _ _ _ _ _ _ _ _ _ _ _ _ _ _ _ _ _ _ _ _ _ _ _ _ _ _ _ _ _ _ _ _ _ _ _ _ _ _ _ _ _ _ _ _ _ _ _ _ _ _ _ _ _ _ _ _ _ _ _ _ ?_;intro x48 x49 x50 x51 x52 x53 x54 x55 x56 x57 x58 x59 x60 x61 w' g';have G9:=xa_ g';clear g' h0 hl0;go_wp2_with fail
          go_meet
          case rel=>exact⟨_,rfl,rfl,xa_ ⟨gtn GX.out G9.out,kept G9.out AX.out,kept G9.out BX.out⟩,HE⟩
    case rest=>as_aux_lemma=>
    clear AX BX GX HA hAs p1 p2 p3 p4 p5 p6 q1 q2 q3 q4 q5 q6;obtain⟨A,rfl,rfl,HX,HA⟩:=hcut;have GX:=xa_ HX.out.1;have AX:=xa_ HX.out.2.1;have BX:=xa_ HX.out.2.2;clear HX;have hAs:A.size≤100000000000:=by
     have h:=congrArg List.length HA.out;rw[List.length_append] at h;rw[qp_];omega
    obtain⟨p1,p2,p3,p4,p5,p6⟩:=xb_ AX.out;obtain⟨q1,q2,q3,q4,q5,q6⟩:=xb_ BX.out;have hvT:q3_ ⟨vn,ro,vk,vo,lo,ln,.mk f o kd n nm2 pt a ks,va⟩=[32,32]++(vn.data.toList++([32,58,32]++((if vk=0 then vo.data.toList else if 0<ln then [65,82,82,65,89,91]++(Lib.itoa lo++([46,46]++(Lib.itoa (lo+ln - 1)++([93,32,79,70,32]++yc_ vk)))) else yc_ vk)++((if f=1 then [32,58,61,32]++yf_ kd n else [])++[59,10])))):=rfl;have z4_0:((⟨#[32,32]⟩:ByteArray)++vn).size=2+vn.size:=ByteArray.size_append;have qz4_0:¬9223372036854775807<2+vn.size:=(by omega);have uz4_0:2+vn.size≤9223372036854775807:=(by omega);have z4_1:((⟨#[32,32]⟩:ByteArray)++vn++(⟨#[32,58,32]⟩:ByteArray)).size=2+vn.size+3:=(by rw[ByteArray.size_append,z4_0];rfl);have qz4_1:¬9223372036854775807<2+vn.size+3:=(by omega);have uz4_1:2+vn.size+3≤9223372036854775807:=(by omega);have rz4_1:¬9223372036854775804<2+vn.size:=(by omega);have wz4_1:2+vn.size≤9223372036854775804:=(by omega);have zt:(A++((⟨#[32,32]⟩:ByteArray)++vn++(⟨#[32,58,32]⟩:ByteArray))).size=A.size+(2+vn.size+3):=(by rw[ByteArray.size_append,z4_1]);have qt:¬9223372036854775807<A.size+(2+vn.size+3):=(by omega);have qt2:A.size+(2+vn.size+3)≤9223372036854775807:=(by omega);have HE:Hid ((A++((⟨#[32,32]⟩:ByteArray)++vn++(⟨#[32,58,32]⟩:ByteArray))).data.toList++((if vk=0 then vo.data.toList else if 0<ln then [65,82,82,65,89,91]++(Lib.itoa lo++([46,46]++(Lib.itoa (lo+ln - 1)++([93,32,79,70,32]++yc_ vk)))) else yc_ vk)++(((if f=1 then [32,58,61,32]++yf_ kd n else [])++[59,10])++(shV ro (vs.drop (i+1))++RT)))=T):=by
     show _=_
     rw[← HA.out,hvT];simp[ByteArray.data_append]
    clear hvT HA;go_upto_if 70 with fail;generalize(A++((⟨#[32,32]⟩:ByteArray)++vn++(⟨#[32,58,32]⟩:ByteArray)))=A2 at HE ⊢;go_cut [4] from 32 to 106 (fun s4 wx=>∃ A:ByteArray,s4=.string A∧Hid (W.grownBy wx none∧wx.heap[W.heap.size]?=some (.cells #[.int .i64 k,.string s1,.int .i64 ur,.slice (some ⟨g,off,none⟩) vs.length cv,.slice xb bo.length cb,.int .i64 at1] 27)∧wx.heap[WS]?=some (.cells #[.string vn,.int .i64 ro,.int .i64 vk,.string vo,.int .i64 lo,.int .i64 ln,.int .i64 f,.int .i64 o,.int .i64 kd,.int .i64 n,.string nm2,.string pt,.int .i64 a,.slice ka ks.length kc,.int .i64 va] 54))∧Hid (A.data.toList++((if vk=0 then vo.data.toList else yc_ vk)++(((if f=1 then [32,58,61,32]++yf_ kd n else [])++[59,10])++(shV ro (vs.drop (i+1))++RT)))=T))
    case first=>
     as_aux_lemma=>
      have hA2s:A2.size≤100000000000:=by
       have h:=congrArg List.length HE.out;rw[List.length_append] at h;rw[qp_];omega
      by_cases hl:0<ln
      · obtain⟨hvk,hn1,hn2,hw1,hw2⟩:=HLEN.out hl;have HE1:Hid (A2.data.toList++(([65,82,82,65,89,91]++(Lib.itoa lo++([46,46]++(Lib.itoa (lo+ln - 1)++([93,32,79,70,32]++yc_ vk)))))++(((if f=1 then [32,58,61,32]++yf_ kd n else [])++[59,10])++(shV ro (vs.drop (i+1))++RT)))=T):=by
         have h:=HE.out;rw[if_neg hvk,if_pos hl] at h;exact h
        obtain⟨M,hM⟩:∃ M,lo+ln - 1=M:=⟨_,rfl⟩;rw[hM] at hw2 hn2 HE1;obtain⟨D1,hD1⟩:∃ P,bs (Lib.itoa lo)=P:=⟨_,rfl⟩;obtain⟨D2,hD2⟩:∃ P,bs (Lib.itoa M)=P:=⟨_,rfl⟩;have hD1s:D1.size≤11:=(by rw[← hD1];exact qf_ lo hn1);have hD2s:D2.size≤11:=(by rw[← hD2];exact qf_ M hn2);have hD1d:D1.data.toList=Lib.itoa lo:=(by rw[← hD1]);have hD2d:D2.data.toList=Lib.itoa M:=(by rw[← hD2]);have cD1:Hid (∀ X,wc.grownBy X none→Calls Tryz.prog 30 #[.int .i64 lo] X (fun e w'=>e=.returned (.string D1)∧wc.grownBy w' none)):=xa_ fun X g=>(qz_ lo hn1 X).mono fun e w' h=>⟨by rw[h.1,hD1],gtn g h.2⟩;have cD2:Hid (∀ X,wc.grownBy X none→Calls Tryz.prog 30 #[.int .i64 M] X (fun e w'=>e=.returned (.string D2)∧wc.grownBy w' none)):=xa_ fun X g=>(qz_ M hn2 X).mono fun e w' h=>⟨by rw[h.1,hD2],gtn g h.2⟩;have HCC:Hid (∀ X,wc.grownBy X none→X.cell? ⟨WS,4,none⟩=some (.int .i64 lo)∧X.cell? ⟨WS,5,none⟩=some (.int .i64 ln)):=xa_ fun X g=>by
         have p:=xn_ (kept g BX.out);exact⟨(p 4).trans rfl,(p 5).trans rfl⟩
        have z5_0:((⟨#[65,82,82,65,89,91]⟩:ByteArray)++D1).size=6+D1.size:=ByteArray.size_append;have qz5_0:¬9223372036854775807<6+D1.size:=(by omega);have uz5_0:6+D1.size≤9223372036854775807:=(by omega);have z5_1:((⟨#[65,82,82,65,89,91]⟩:ByteArray)++D1++(⟨#[46,46]⟩:ByteArray)).size=6+D1.size+2:=(by rw[ByteArray.size_append,z5_0];rfl);have qz5_1:¬9223372036854775807<6+D1.size+2:=(by omega);have uz5_1:6+D1.size+2≤9223372036854775807:=(by omega);have rz5_1:¬9223372036854775805<6+D1.size:=(by omega);have wz5_1:6+D1.size≤9223372036854775805:=(by omega);have z5_2:((⟨#[65,82,82,65,89,91]⟩:ByteArray)++D1++(⟨#[46,46]⟩:ByteArray)++D2).size=6+D1.size+2+D2.size:=(by rw[ByteArray.size_append,z5_1]);have qz5_2:¬9223372036854775807<6+D1.size+2+D2.size:=(by omega);have uz5_2:6+D1.size+2+D2.size≤9223372036854775807:=(by omega);have z5_3:((⟨#[65,82,82,65,89,91]⟩:ByteArray)++D1++(⟨#[46,46]⟩:ByteArray)++D2++(⟨#[93,32,79,70,32]⟩:ByteArray)).size=6+D1.size+2+D2.size+5:=(by rw[ByteArray.size_append,z5_2];rfl);have qz5_3:¬9223372036854775807<6+D1.size+2+D2.size+5:=(by omega);have uz5_3:6+D1.size+2+D2.size+5≤9223372036854775807:=(by omega);have rz5_3:¬9223372036854775802<6+D1.size+2+D2.size:=(by omega);have wz5_3:6+D1.size+2+D2.size≤9223372036854775802:=(by omega);have zt:(A2++((⟨#[65,82,82,65,89,91]⟩:ByteArray)++D1++(⟨#[46,46]⟩:ByteArray)++D2++(⟨#[93,32,79,70,32]⟩:ByteArray))).size=A2.size+(6+D1.size+2+D2.size+5):=(by rw[ByteArray.size_append,z5_3]);have qt:¬9223372036854775807<A2.size+(6+D1.size+2+D2.size+5):=(by omega);have qt2:A2.size+(6+D1.size+2+D2.size+5)≤9223372036854775807:=(by omega)
        have HE2:Hid ((A2++((⟨#[65,82,82,65,89,91]⟩:ByteArray)++D1++(⟨#[46,46]⟩:ByteArray)++D2++(⟨#[93,32,79,70,32]⟩:ByteArray))).data.toList++((if vk=0 then vo.data.toList else yc_ vk)++(((if f=1 then [32,58,61,32]++yf_ kd n else [])++[59,10])++(shV ro (vs.drop (i+1))++RT)))=T):=by
         show _=_
         rw[← HE1.out,if_neg hvk];simp[ByteArray.data_append,hD1d,hD2d]
        have hlI:(0:Int)<ln:=hl;clear hl hD1 hD2 hn1 hn2 hvk HE HE1;go_wp2_with fail
        go_region_held3 (fun X=>X.cell? ⟨WS,4,none⟩=some (.int .i64 lo)∧X.cell? ⟨WS,5,none⟩=some (.int .i64 ln)) (first|exact HCC.out _ (by assumption)|exact HCC.out _ (xi_ (gr0 _))|exact HCC.out _ (gr0 _)) (first
         | (go_at_call 30;with_reducible refine(cD1.out _ (by first | assumption | exact xi_ (gr0 _) | exact gr0 _)).mono ?_;rintro e w6 ⟨rfl,g6⟩)
         | (go_at_call 30;with_reducible refine(cD2.out _ (by first | assumption | exact xi_ (gr0 _) | exact gr0 _)).mono ?_;rintro e w6 ⟨rfl,g6⟩))
        all_goals
         go_wp2_with fail
         go_meet
         case rel=>
          have gq:=(show wc.grownBy _ none from by assumption);exact⟨_,rfl,xa_ ⟨gtn GX.out gq,kept gq AX.out,kept gq BX.out⟩,HE2⟩
      · have HE2:Hid (A2.data.toList++((if vk=0 then vo.data.toList else yc_ vk)++(((if f=1 then [32,58,61,32]++yf_ kd n else [])++[59,10])++(shV ro (vs.drop (i+1))++RT)))=T):=by
         have h:=HE.out;rw[if_neg hl] at h;exact h
        have hlI:¬(0:Int)<ln:=hl;clear hl HE;go_wp2_with fail
        go_meet
        case rel=>exact⟨A2,rfl,xa_ ⟨GX.out,AX.out,BX.out⟩,HE2⟩
    case rest=>as_aux_lemma=>
    clear AX BX GX HE hAs p1 p2 p3 p4 p5 p6 q1 q2 q3 q4 q5 q6;obtain⟨A,rfl,HX,HA⟩:=hcut;have GX:=xa_ HX.out.1;have AX:=xa_ HX.out.2.1;have BX:=xa_ HX.out.2.2;clear HX;have hAs:A.size≤100000000000:=by
     have h:=congrArg List.length HA.out;rw[List.length_append] at h;rw[qp_];omega
    obtain⟨p1,p2,p3,p4,p5,p6⟩:=xb_ AX.out;obtain⟨q1,q2,q3,q4,q5,q6⟩:=xb_ BX.out;go_upto_region 21 with fail;go_cut [4] from 32 to 106 (fun s4 wx=>∃ A:ByteArray,s4=.string A∧Hid (W.grownBy wx none∧wx.heap[W.heap.size]?=some (.cells #[.int .i64 k,.string s1,.int .i64 ur,.slice (some ⟨g,off,none⟩) vs.length cv,.slice xb bo.length cb,.int .i64 at1] 27)∧wx.heap[WS]?=some (.cells #[.string vn,.int .i64 ro,.int .i64 vk,.string vo,.int .i64 lo,.int .i64 ln,.int .i64 f,.int .i64 o,.int .i64 kd,.int .i64 n,.string nm2,.string pt,.int .i64 a,.slice ka ks.length kc,.int .i64 va] 54))∧Hid (A.data.toList++(((if f=1 then [32,58,61,32]++yf_ kd n else [])++[59,10])++(shV ro (vs.drop (i+1))++RT))=T))
    case first=>
     as_aux_lemma=>
      obtain⟨hk0,hk5,hvoE,hvoS⟩:=HKD.out;obtain⟨KT,hKT⟩:∃ P,bs (if vk=0 then [] else yc_ vk)=P:=⟨_,rfl⟩;have hKs:KT.size≤4:=by
       rw[← hKT,vn_];split
       ·simp
       ·exact jf_ vk
      have hKd:vo.data.toList++KT.data.toList=(if vk=0 then vo.data.toList else yc_ vk):=by
       rw[← hKT,bs_l];by_cases h:vk=0
       ·rw[if_pos h,if_pos h,List.append_nil]
       ·rw[if_neg h,if_neg h,hvoE h];rfl
      have cK:Hid (∀ X,wc.grownBy X none→Calls Tryz.prog 29 #[.int .i64 vk] X (fun e w'=>e=.returned (.string KT)∧wc.grownBy w' none)):=xa_ fun X g=>(k3_ vk hk0 hk5 X).mono fun e w' h=>⟨by rw[h.1,hKT],gtn g h.2⟩;have HCC:Hid (∀ X,wc.grownBy X none→X.cell? ⟨WS,2,none⟩=some (.int .i64 vk)∧X.cell? ⟨WS,3,none⟩=some (.string vo)):=xa_ fun X g=>by
       have p:=xn_ (kept g BX.out);exact⟨(p 2).trans rfl,(p 3).trans rfl⟩
      have z1:(vo++KT).size=vo.size+KT.size:=ByteArray.size_append;have q1:¬9223372036854775807<vo.size+KT.size:=(by omega);have q1':vo.size+KT.size≤9223372036854775807:=(by omega);have zt:(A++(vo++KT)).size=A.size+(vo.size+KT.size):=(by rw[ByteArray.size_append,z1]);have qt:¬9223372036854775807<A.size+(vo.size+KT.size):=(by omega);have qt2:A.size+(vo.size+KT.size)≤9223372036854775807:=(by omega);have HE2:Hid ((A++(vo++KT)).data.toList++(((if f=1 then [32,58,61,32]++yf_ kd n else [])++[59,10])++(shV ro (vs.drop (i+1))++RT))=T):=by
       show _=_
       rw[← HA.out,← hKd];simp[ByteArray.data_append]
      clear hKT hKd hvoE HA;go_region_held3 (fun X=>X.cell? ⟨WS,2,none⟩=some (.int .i64 vk)∧X.cell? ⟨WS,3,none⟩=some (.string vo)) (first|exact HCC.out _ (by assumption)|exact HCC.out _ (xi_ (gr0 _))|exact HCC.out _ (gr0 _)) (first
       | (go_at_call 29;with_reducible refine(cK.out _ (by first | assumption | exact xi_ (gr0 _) | exact gr0 _)).mono ?_;rintro e w6 ⟨rfl,g6⟩))
      all_goals
       go_wp2_with fail
       go_meet
       case rel=>
        have gq:=(show wc.grownBy _ none from by assumption);exact⟨_,rfl,xa_ ⟨gtn GX.out gq,kept gq AX.out,kept gq BX.out⟩,HE2⟩
    case rest=>as_aux_lemma=>
    clear AX BX GX HA hAs p1 p2 p3 p4 p5 p6 q1 q2 q3 q4 q5 q6;obtain⟨A,rfl,HX,HA⟩:=hcut;have GX:=xa_ HX.out.1;have AX:=xa_ HX.out.2.1;have BX:=xa_ HX.out.2.2;clear HX;have hAs:A.size≤100000000000:=by
     have h:=congrArg List.length HA.out;rw[List.length_append] at h;rw[qp_];omega
    obtain⟨p1,p2,p3,p4,p5,p6⟩:=xb_ AX.out;obtain⟨q1,q2,q3,q4,q5,q6⟩:=xb_ BX.out;go_upto_if 98 with fail;go_cut [4] from 32 to 106 (fun s4 wx=>∃ A:ByteArray,s4=.string A∧Hid (W.grownBy wx none∧wx.heap[W.heap.size]?=some (.cells #[.int .i64 k,.string s1,.int .i64 ur,.slice (some ⟨g,off,none⟩) vs.length cv,.slice xb bo.length cb,.int .i64 at1] 27)∧wx.heap[WS]?=some (.cells #[.string vn,.int .i64 ro,.int .i64 vk,.string vo,.int .i64 lo,.int .i64 ln,.int .i64 f,.int .i64 o,.int .i64 kd,.int .i64 n,.string nm2,.string pt,.int .i64 a,.slice ka ks.length kc,.int .i64 va] 54))∧Hid (A.data.toList++([59,10]++(shV ro (vs.drop (i+1))++RT))=T))
    case first=>
     as_aux_lemma=>
      by_cases hf:f=1
      · have j:(f==1)=true:=(by rw[hf];rfl);obtain⟨TI,hTI⟩:∃ P,yf_ kd n=P:=⟨_,rfl⟩;have HA1:Hid (A.data.toList++(([32,58,61,32]++TI)++([59,10]++(shV ro (vs.drop (i+1))++RT)))=T):=by
         have h:=HA.out;rw[if_pos hf,hTI] at h;show _=_
         simpa[List.append_assoc] using h
        have cI:Hid (∀ X,W.grownBy X none→Calls Tryz.prog 31 #[xV f o kd n nm2 pt a (.slice ka ks.length kc)] X (xv_ X (bs TI))):=xa_ fun X g=>by
         have:=HIN.out hf X g;rw[hTI] at this;exact this
        obtain⟨E,hE⟩:∃ P,bs TI=P:=⟨_,rfl⟩;have hEd:E.data.toList=TI:=(by rw[← hE]);have hEs:A.size+E.size≤100000000000:=by
         have h:=congrArg List.length HA1.out;simp only[List.length_append,← hEd,← qp_] at h;omega
        rw[hE] at cI;have z1:((⟨#[32,58,61,32]⟩:ByteArray)++E).size=4+E.size:=ByteArray.size_append;have q1:¬9223372036854775807<4+E.size:=(by omega);have q1':4+E.size≤9223372036854775807:=(by omega);have zt:(A++((⟨#[32,58,61,32]⟩:ByteArray)++E)).size=A.size+(4+E.size):=(by rw[ByteArray.size_append,z1]);have qt:¬9223372036854775807<A.size+(4+E.size):=(by omega);have qt2:A.size+(4+E.size)≤9223372036854775807:=(by omega);have HE2:Hid ((A++((⟨#[32,58,61,32]⟩:ByteArray)++E)).data.toList++([59,10]++(shV ro (vs.drop (i+1))++RT))=T):=by
         show _=_
         rw[← HA1.out];simp[ByteArray.data_append,hEd]
        clear hf hTI hE HA HA1;go_wp2_with fail
        refine(cI.out _ GX.out).mono ?_;rintro e w6 ⟨rfl,g⟩;dsimp only;have A6:=xa_ (kept g AX.out);have B6:=xa_ (kept g BX.out);have G6:=xa_ (gtn GX.out g);clear g;go_wp2_with fail
        go_meet
        case rel=>exact⟨_,rfl,xa_ ⟨G6.out,A6.out,B6.out⟩,HE2⟩
      · have j:(f==1)=false:=(by rw[beq_eq_false_iff_ne];exact hf);have HE2:Hid (A.data.toList++([59,10]++(shV ro (vs.drop (i+1))++RT))=T):=by
         have h:=HA.out;rw[if_neg hf] at h;exact h
        clear hf HA;go_wp2_with fail
        go_meet
        case rel=>exact⟨A,rfl,xa_ ⟨GX.out,AX.out,BX.out⟩,HE2⟩
    case rest=>as_aux_lemma=>
    clear AX BX GX HA hAs p1 p2 p3 p4 p5 p6 q1 q2 q3 q4 q5 q6;obtain⟨A,rfl,HX,HA⟩:=hcut;have GX:=xa_ HX.out.1;have AX:=xa_ HX.out.2.1;have BX:=xa_ HX.out.2.2;clear HX;have hAs:A.size≤100000000000:=by
     have h:=congrArg List.length HA.out;rw[List.length_append] at h;rw[qp_];omega
    obtain⟨p1,p2,p3,p4,p5,p6⟩:=xb_ AX.out;obtain⟨q1,q2,q3,q4,q5,q6⟩:=xb_ BX.out;have zt:(A++(⟨#[59,10]⟩:ByteArray)).size=A.size+2:=ByteArray.size_append;have qt:¬9223372036854775805<A.size:=(by omega);have qt2:A.size≤9223372036854775805:=(by omega);have HE2:Hid ((A++(⟨#[59,10]⟩:ByteArray)).data.toList++(shV ro (vs.drop (i+1))++RT)=T):=by
     show _=_
     rw[← HA.out];simp[ByteArray.data_append]
    clear HA;go_wp2_with fail
    go_roundg (vs.length+1 - (i+1))
    case measure=>omega
    case rel=>exact⟨i+1,_,ro,rfl,rfl,by simp,xa_ ⟨GX.out,AX.out⟩,HE2,xa_ ⟨by omega,by have:=HRO.out;omega⟩,xa_ ⟨by omega,rfl⟩⟩
 case rest=>as_aux_lemma=>
 clear AX GX p1 p2 p3 p4 p5 p6 HA0 wcX;obtain⟨A,rfl,HX,HA⟩:=hcut;have GX:=xa_ HX.out.1;have AX:=xa_ HX.out.2;clear HX;obtain⟨p1,p2,p3,p4,p5,p6⟩:=xb_ AX.out;have cB:=xa_ (fun X g=>HB.out X g);rw[show bs (sp 2)=⟨#[32,32]⟩ from rfl] at cB;obtain⟨BB,hBB⟩:∃ P,bs (shL 2 bo)=P:=⟨_,rfl⟩;have hBd:BB.data.toList=shL 2 bo:=(by rw[← hBB]);rw[hBB] at cB;have hsz:A.size+BB.size≤100000000000:=by
  have h:=congrArg List.length HA.out;rw[← HRT.out] at h;simp only[List.length_append,← hBd,← qp_] at h;omega
 clear hBB;by_cases h0:vs.length=0
 · have hn1:¬0<vs.length:=(by omega);have hn2:¬(0:Int)<(vs.length:Int):=(by omega);have z2_0:(A++BB).size=A.size+BB.size:=ByteArray.size_append;have qz2_0:¬9223372036854775807<A.size+BB.size:=(by omega);have uz2_0:A.size+BB.size≤9223372036854775807:=(by omega);have z2_1:(A++BB++(⟨#[69,78,68,95]⟩:ByteArray)).size=A.size+BB.size+4:=(by rw[ByteArray.size_append,z2_0];rfl);have qz2_1:¬9223372036854775807<A.size+BB.size+4:=(by omega);have uz2_1:A.size+BB.size+4≤9223372036854775807:=(by omega);have rz2_1:¬9223372036854775803<A.size+BB.size:=(by omega);have wz2_1:A.size+BB.size≤9223372036854775803:=(by omega);have z2_2:(A++BB++(⟨#[69,78,68,95]⟩:ByteArray)++WD).size=A.size+BB.size+4+WD.size:=(by rw[ByteArray.size_append,z2_1]);have qz2_2:¬9223372036854775807<A.size+BB.size+4+WD.size:=(by omega);have uz2_2:A.size+BB.size+4+WD.size≤9223372036854775807:=(by omega);have z2_3:(A++BB++(⟨#[69,78,68,95]⟩:ByteArray)++WD++(⟨#[10]⟩:ByteArray)).size=A.size+BB.size+4+WD.size+1:=(by rw[ByteArray.size_append,z2_2];rfl);have qz2_3:¬9223372036854775807<A.size+BB.size+4+WD.size+1:=(by omega);have uz2_3:A.size+BB.size+4+WD.size+1≤9223372036854775807:=(by omega);have rz2_3:¬9223372036854775806<A.size+BB.size+4+WD.size:=(by omega);have wz2_3:A.size+BB.size+4+WD.size≤9223372036854775806:=(by omega);have HE:Hid (bs T=A++BB++(⟨#[69,78,68,95]⟩:ByteArray)++WD++(⟨#[10]⟩:ByteArray)):=by
    show _=_
    rw[← HA.out,← HRT.out,if_pos h0];exact(yp_ (by simp[ByteArray.data_append,hDd,hBd])).symm
   clear h0 HA;go_wp2_with fail
   refine(cB.out _ GX.out).mono ?_;rintro e w4 ⟨rfl,g⟩;dsimp only;have G4:=xa_ (gtn GX.out g);clear g;go_wp2_with fail
   go_ret;exact⟨by first|(rw[HE.out];done)|(rw[HE.out];rfl),G4.out⟩
 · have hn1:0<vs.length:=(by omega);have hn2:(0:Int)<(vs.length:Int):=(by omega);have z3_0:(A++(⟨#[69,78,68,95,86,65,82,10]⟩:ByteArray)).size=A.size+8:=ByteArray.size_append;have qz3_0:¬9223372036854775807<A.size+8:=(by omega);have uz3_0:A.size+8≤9223372036854775807:=(by omega);have rz3_0:¬9223372036854775799<A.size:=(by omega);have wz3_0:A.size≤9223372036854775799:=(by omega);have z3_1:(A++(⟨#[69,78,68,95,86,65,82,10]⟩:ByteArray)++BB).size=A.size+8+BB.size:=(by rw[ByteArray.size_append,z3_0]);have qz3_1:¬9223372036854775807<A.size+8+BB.size:=(by omega);have uz3_1:A.size+8+BB.size≤9223372036854775807:=(by omega);have z3_2:(A++(⟨#[69,78,68,95,86,65,82,10]⟩:ByteArray)++BB++(⟨#[69,78,68,95]⟩:ByteArray)).size=A.size+8+BB.size+4:=(by rw[ByteArray.size_append,z3_1];rfl);have qz3_2:¬9223372036854775807<A.size+8+BB.size+4:=(by omega);have uz3_2:A.size+8+BB.size+4≤9223372036854775807:=(by omega);have rz3_2:¬9223372036854775803<A.size+8+BB.size:=(by omega);have wz3_2:A.size+8+BB.size≤9223372036854775803:=(by omega);have z3_3:(A++(⟨#[69,78,68,95,86,65,82,10]⟩:ByteArray)++BB++(⟨#[69,78,68,95]⟩:ByteArray)++WD).size=A.size+8+BB.size+4+WD.size:=(by rw[ByteArray.size_append,z3_2]);have qz3_3:¬9223372036854775807<A.size+8+BB.size+4+WD.size:=(by omega);have uz3_3:A.size+8+BB.size+4+WD.size≤9223372036854775807:=(by omega);have z3_4:(A++(⟨#[69,78,68,95,86,65,82,10]⟩:ByteArray)++BB++(⟨#[69,78,68,95]⟩:ByteArray)++WD++(⟨#[10]⟩:ByteArray)).size=A.size+8+BB.size+4+WD.size+1:=(by rw[ByteArray.size_append,z3_3];rfl);have qz3_4:¬9223372036854775807<A.size+8+BB.size+4+WD.size+1:=(by omega)
   have uz3_4:A.size+8+BB.size+4+WD.size+1≤9223372036854775807:=(by omega);have rz3_4:¬9223372036854775806<A.size+8+BB.size+4+WD.size:=(by omega);have wz3_4:A.size+8+BB.size+4+WD.size≤9223372036854775806:=(by omega);have HE:Hid (bs T=A++(⟨#[69,78,68,95,86,65,82,10]⟩:ByteArray)++BB++(⟨#[69,78,68,95]⟩:ByteArray)++WD++(⟨#[10]⟩:ByteArray)):=by
    show _=_
    rw[← HA.out,← HRT.out,if_neg h0];exact(yp_ (by simp[ByteArray.data_append,hDd,hBd,y3_])).symm
   clear h0 HA;go_wp2_with fail
   refine(cB.out _ GX.out).mono ?_;rintro e w4 ⟨rfl,g⟩;dsimp only;have G4:=xa_ (gtn GX.out g);clear g;go_wp2_with fail
   go_ret;exact⟨by first|(rw[HE.out];done)|(rw[HE.out];rfl),G4.out⟩
end Go.Proofs.YtcoglmaiahpooaaGreatDoor
