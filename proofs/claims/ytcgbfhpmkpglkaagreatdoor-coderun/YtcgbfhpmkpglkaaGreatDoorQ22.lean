/- Texts put together: N9, Na, Nb, Nc, Ne, X0, X1, Nd, Nf, P3, Ng, Nh, Ni. -/
import Derived.Test.YtcgbfhpmkpglkaaGreatDoorQ21
import Derived.Test.YtcgbfhpmkpglkaaGreatDoorQ11
set_option linter.unusedVariables false
set_option linter.unusedSimpArgs false
set_option maxHeartbeats 8000000
namespace Go.Proofs.YtcgbfhpmkpglkaaGreatDoor
open Go.RowKit
attribute [local go_sem ↓] Go.wp_at_zero Go.wp_at_succ
variable {c w : World} {B M F off n fc : Nat} {ar : List Int} {pv : Value} {now : Int} {sa : Option Addr} {sc : Nat} {sp fl : Int} {tb o : Nat}
theorem Ctx.row {st:List Int} (h:Ctx c w B M F off n fc ar pv now sa sc st sp fl):∀ y,(sb sa)=some y→c.heap.size≤y∧F<y:=fun y hy=>by have:=(h.ma.row y hy).1;have:=h.cB;have:=h.fb;omega
set_option maxRecDepth 10000 in
theorem aqi_ {r:List Int} (v:Int) (j:Nat) (hj:j<n) (h:Ctx c w B M F off n fc ar pv now sa sc (r++[v]) sp fl) (hx:InsAt c tb o ⟨3,(j:Int),0,0⟩) :
 Calls Tryz.prog 32 #[.pointer (some ⟨M,0,none⟩),.pointer (some ⟨tb,o,none⟩),.slice (some ⟨F,off,none⟩) n fc] w (DoP w B M F pv now (sb sa) r (ar.set (off+j) v) sp fl):=by
 have HH:=hd_ h;have HX:=hd_ hx;obtain⟨q0,q1,q2,q3⟩:=hx.grown h.cw;dsimp only at q0 q1 q2 q3;have hrow:=h.row;have htb:tb≠F:=(by have:=ap9_ hx;have:=h.cF;omega);have i1:(0:Int)≤(j:Int):=(by omega);have i2:(j:Int)<(n:Int):=(by omega);clear h hx q2 q3;go_enter Tryz.func32,Tryz.ntmps32;go_wp2_with fail
 go_region_held3 (fun w'=>w'.cell? ⟨tb,o+1,none⟩=some (.int .i64 (j:Int))) (first|(go_keep;done)|exact HK1.out|exact ade_ htb HK1.out) (first
  | (go_at_call 31
     refine(vg_ HH.out.ma (by have:=HH.out.sl;simp at this;omega) _ (xf_ gz_)).mono ?_;rintro e w1 ⟨rfl,hm,hc,hn⟩;have HP:Hid (StP w B M none pv now (sb sa) r sp fl w1):=⟨sa,sc,hm,hc,hn⟩;have HM1:=hd_ hm;have HC1:=hd_ hc;have hcw1:c.grownBy w1 none:=y4_ HH.out.cw hc HH.out.cM (fun y hy=>by simp at hy) (fun y hy=>(hrow y hy).1);have HK1:Hid (w1.cell? ⟨tb,o+1,none⟩=some (.int .i64 (j:Int))):=(HX.out.grown hcw1).a;have HF1:Hid (FrAt w1 F ar):=HH.out.frame HP.out;have q5:=HF1.out.get (off+j) (by have:=HH.out.hn;omega);have f5:=xc_ HF1.out (off+j);generalize ar.getD (off+j) 0=y at q5;clear hm hc hn))
 go_wp2;all_goals first|go_end0|((try simp only[Exit.inBlock,Exit.then]);refine bodyPost_ret (results_none rfl _ _ _) rfl ?_)
 all_goals exact⟨rfl,⟨sa,sc,HM1.out.other HH.out.fm HH.out.fb _ _,(HC1.out.wide).trans (Nx.refl _ _) (acq_ M F _ _ w1 _),Nx.refl _ _⟩,HF1.out.set (off+j) v⟩
set_option maxRecDepth 10000 in
theorem atf_ {r:List Int} (a k tz:Int) (h:Ctx c w B M F off n fc ar pv now sa sc (r++[a]) sp fl) (hx:InsAt c tb o ⟨7,k,tz,0⟩) :
 Calls Tryz.prog 32 #[.pointer (some ⟨M,0,none⟩),.pointer (some ⟨tb,o,none⟩),.slice (some ⟨F,off,none⟩) n fc] w (DoP w B M F pv now (sb sa) (r++[Ce.convK k tz a]) ar sp fl):=by
 have HH:=hd_ h;have HX:=hd_ hx;obtain⟨q0,q1,q2,q3⟩:=hx.grown h.cw;dsimp only at q0 q1 q2 q3;have hrow:=h.row;clear h hx q3;go_enter Tryz.func32,Tryz.ntmps32;go_wp2_with fail
 go_region_held3 (fun w'=>w'.cell? ⟨tb,o+1,none⟩=some (.int .i64 k)∧w'.cell? ⟨tb,o+2,none⟩=some (.int .i64 tz)) (first|(go_keep;done)|exact HK1.out|exact HK2.out) (first
  | (go_at_call 31
     refine(vg_ HH.out.ma (by have:=HH.out.sl;simp at this;omega) _ (xf_ gz_)).mono ?_;rintro e w1 ⟨rfl,hm,hc,hn⟩;have HM1:=hd_ hm;have HC1:=hd_ hc;have hcw1:c.grownBy w1 none:=y4_ HH.out.cw hc HH.out.cM (fun y hy=>by simp at hy) (fun y hy=>(hrow y hy).1);have HK1:Hid (w1.cell? ⟨tb,o+1,none⟩=some (.int .i64 k)∧w1.cell? ⟨tb,o+2,none⟩=some (.int .i64 tz)):=⟨(HX.out.grown hcw1).a,(HX.out.grown hcw1).b⟩;clear hm hc hn)
  | (go_at_call 52
     refine(awa_ _ _ _ _).mono ?_;rintro e w' ⟨rfl,rfl⟩)
  | (go_at_call 48
     refine(js_ _ HM1.out (by have:=HH.out.sl;simp at this;omega) (by have:=HC1.out.size;have:=HH.out.bw;omega) _ gz_).mono ?_;rintro e w2 ⟨rfl,sa',sc',hm,hc,hn⟩;have HP:Hid (StP w B M none pv now (sb sa) (r++[Ce.convK k tz a]) sp fl w2):=⟨sa',sc',hm,HC1.out.trans (Nx.refl _ _) hc,Nx.trans HC1.out.size (Nx.refl _ _) hn⟩;have hcw2:c.grownBy w2 none:=y4_ hcw1 hc HH.out.cM (fun y hy=>by simp at hy) (fun y hy=>(hrow y hy).1);have HK2:Hid (w2.cell? ⟨tb,o+1,none⟩=some (.int .i64 k)∧w2.cell? ⟨tb,o+2,none⟩=some (.int .i64 tz)):=⟨(HX.out.grown hcw2).a,(HX.out.grown hcw2).b⟩;clear hm hc hn))
 go_wp2;all_goals first|go_end0|((try simp only[Exit.inBlock,Exit.then]);refine bodyPost_ret (results_none rfl _ _ _) rfl ?_)
 all_goals exact⟨rfl,HP.out.wide,HH.out.frame HP.out⟩
set_option maxRecDepth 10000 in
theorem avt_ {r:List Int} (a:Int) (h:Ctx c w B M F off n fc ar pv now sa sc (r++[a]) sp fl) (hx:InsAt c tb o ⟨9,0,0,0⟩) :
 Calls Tryz.prog 32 #[.pointer (some ⟨M,0,none⟩),.pointer (some ⟨tb,o,none⟩),.slice (some ⟨F,off,none⟩) n fc] w (DoP w B M F pv now (sb sa) (r++[a]++[a]) ar sp fl):=by
 have HH:=hd_ h;have HX:=hd_ hx;obtain⟨q0,q1,q2,q3⟩:=hx.grown h.cw;dsimp only at q0 q1 q2 q3;obtain⟨g,hsa⟩:∃ g,sa=some ⟨g,0,none⟩:=by
  obtain⟨_,⟨e,e2⟩|⟨g,cc,cur,e,_⟩⟩:=h.ma.own
  ·simp at e2
  ·simp at e;exact⟨g,e.1⟩
 subst hsa;have q:w.cell? ⟨g,r.length,none⟩=some (.int .i64 a):=by
  have:=World.ownsRow.cells h.ma.own rfl r.length (.int .i64 a) (by simp);rw[jc_,Nat.zero_add] at this;exact this
 have d2:=xa_ h.ma.blk 2;simp at d2;have hl:=h.sl;simp at hl;obtain⟨m,hm⟩:∃ m,r.length=m:=⟨_,rfl⟩;rw[hm] at q d2 hl;have i1:(0:Int)≤(m:Int):=(by omega);have i2:(m:Int)<(m:Int)+1:=(by omega);have i3:IntKind.i64.wrap ((m:Int)+1 - 1)=(m:Int):=(by rw[show(m:Int)+1 - 1=(m:Int) by omega];exact IntWalk.i64_in _ (by omega));have i4:IntKind.i64.wrap (m:Int)=(m:Int):=IntWalk.i64_in _ (by omega);have i5:m<m+1:=(by omega);clear h hx q1 q2 q3 hm;go_enter Tryz.func32,Tryz.ntmps32;go_wp2_with fail
 go_region_with (first
  | (go_at_call 48
     refine(js_ a HH.out.ma (by have:=HH.out.sl;omega) HH.out.bw _ (xf_ gz_)).mono ?_;rintro e w1 ⟨rfl,sa',sc',hm,hc,hn⟩;have HP:Hid (StP w B M none pv now (sb (some ⟨g,0,none⟩)) (r++[a]++[a]) sp fl w1):=⟨sa',sc',hm,hc,hn⟩;clear hm hc hn))
 all_goals go_wp2
 all_goals first|go_end0|((try simp only[Exit.inBlock,Exit.then]);refine bodyPost_ret (results_none rfl _ _ _) rfl ?_)
 all_goals exact⟨rfl,HP.out.wide,HH.out.frame HP.out⟩
set_option maxRecDepth 10000 in
theorem atg_ {st:List Int} (j k:Nat) (v:Int) (hk:1≤k) (hjk:j+k≤n) (h:Ctx c w B M F off n fc ar pv now sa sc st sp fl) (hx:InsAt c tb o ⟨16,(j:Int),(k:Int),v⟩) :
 Calls Tryz.prog 32 #[.pointer (some ⟨M,0,none⟩),.pointer (some ⟨tb,o,none⟩),.slice (some ⟨F,off,none⟩) n fc] w (DoP w B M F pv now (sb sa) st (zz_ ar (off+j) k v) (sp+((k:Int) - 1)) fl):=by
 have HH:=hd_ h;have HX:=hd_ hx;obtain⟨q0,q1,q2,q3⟩:=hx.grown h.cw;dsimp only at q0 q1 q2 q3;have cF:∀ W cc,w.grownBy W none→Calls Tryz.prog 54 #[.pointer (some ⟨M,0,none⟩),.slice (some ⟨F,off+j,none⟩) k cc,.int .i64 v] W fun e w'=>e=.returned (.tuple #[])∧StP w B M (some F) pv now (sb sa) st (sp+((k:Int) - 1)) fl w'∧FrAt w' F (zz_ ar (off+j) k v):=fun W cc hW=>
  (aqa_ W B M F (off+j) k cc ar pv now sa sc st v sp fl (h.ma.kept hW) (h.fr.grown hW) h.fm h.fb (by have:=h.hn;omega) (by have:=h.n2;omega) h.s0 h.s1).mono fun e w' ⟨g1,⟨a1,a2,g2,g3,g4⟩,g5⟩=>⟨g1,⟨a1,a2,g2,(Chg.of_none hW).trans (Nx.refl _ _) g3,Nx.trans hW.size (Nx.refl _ _) g4⟩,g5⟩
 have s1:((j:Int)+(k:Int)).toNat - j=k:=(by omega);have cG:∀ W cc,w.grownBy W none→Calls Tryz.prog 54 #[.pointer (some ⟨M,0,none⟩),.slice (some ⟨F,off+j,none⟩) (((j:Int)+(k:Int)).toNat - j) cc,.int .i64 v] W fun e w'=>e=.returned (.tuple #[])∧StP w B M (some F) pv now (sb sa) st (sp+((k:Int) - 1)) fl w'∧FrAt w' F (zz_ ar (off+j) k v):=(by rw[s1];exact cF);have e1:IntKind.i64.wrap ((j:Int)+(k:Int))=(j:Int)+(k:Int):=IntWalk.i64_in _ (by have:=h.n2;omega);have hnc:=h.nc;have hrow:=h.row;have n1:¬fc=j:=(by omega);have i0:(0:Int)≤(j:Int):=(by omega);have i1:(j:Int)≤(j:Int)+(k:Int):=(by omega);have i2:(j:Int)+(k:Int)≤(fc:Int):=(by omega);have i3:(0:Int)≤(j:Int)+(k:Int):=(by omega);have i4:(0:Int)≤(k:Int):=(by omega);clear h hx cF s1;go_enter Tryz.func32,Tryz.ntmps32;go_wp2_with fail
 go_region_held3 (fun w'=>w'.cell? ⟨tb,o+1,none⟩=some (.int .i64 (j:Int))∧w'.cell? ⟨tb,o+2,none⟩=some (.int .i64 (k:Int))∧w'.cell? ⟨tb,o+3,none⟩=some (.int .i64 v)) (first|(go_keep;done)|exact HK1.out) (first
  | (go_at_call 54
     refine(cG _ _ (xf_ gz_)).mono ?_;rintro e w1 ⟨rfl,hp,hf⟩;have HP:=hd_ hp;have HF:=hd_ hf;obtain⟨a1,a2,_,hcc,_⟩:=hp;have hcw1:c.grownBy w1 none:=y4_ HH.out.cw hcc HH.out.cM (fun y hy=>by simp at hy;have:=HH.out.cF;omega) (fun y hy=>(hrow y hy).1);have HK1:Hid (w1.cell? ⟨tb,o+1,none⟩=some (.int .i64 (j:Int))∧w1.cell? ⟨tb,o+2,none⟩=some (.int .i64 (k:Int))∧w1.cell? ⟨tb,o+3,none⟩=some (.int .i64 v)):=⟨(HX.out.grown hcw1).a,(HX.out.grown hcw1).b,(HX.out.grown hcw1).c⟩;clear hf hcc))
 go_wp2;all_goals first|go_end0|((try simp only[Exit.inBlock,Exit.then]);refine bodyPost_ret (results_none rfl _ _ _) rfl ?_)
 all_goals exact⟨rfl,HP.out,HF.out⟩
set_option maxRecDepth 10000 in
theorem avu_ {st:List Int} (num:Int) (j:Nat) (h1:1≤num) (h2:num≤12) (hj:(j:Int)+yk_ num≤n) (hS:Stds c) (h:Ctx c w B M F off n fc ar pv now sa sc st sp fl) (hx:InsAt c tb o ⟨18,num,(j:Int),0⟩) :
 Calls Tryz.prog 32 #[.pointer (some ⟨M,0,none⟩),.pointer (some ⟨tb,o,none⟩),.slice (some ⟨F,off,none⟩) n fc] w fun e w'=>DoP w B M F pv now (sb sa) st (q0_ num now ar (off+j)) sp fl e w'∧(q0_ num now ar (off+j)).length=ar.length:=by
 have HH:=hd_ h;have HX:=hd_ hx;obtain⟨q0,q1,q2,q3⟩:=hx.grown h.cw;dsimp only at q0 q1 q2 q3;have hsw:3≤yk_ num:=(by unfold yk_;repeat' split;all_goals omega);have cF:∀ W cc,w.grownBy W none→n - j≤cc→Calls Tryz.prog 55 #[.pointer (some ⟨M,0,none⟩),.int .i64 num,.slice (some ⟨F,off+j,none⟩) (n - j) cc] W fun e w'=>e=.returned (.tuple #[])∧StP w B M (some F) pv now (sb sa) st sp fl w'∧FrAt w' F (q0_ num now ar (off+j))∧(q0_ num now ar (off+j)).length=ar.length:=fun W cc hW hcc=>
  (agm_ num h1 h2 W B M F (off+j) (n - j) cc ar pv now sa sc st sp fl (h.ma.kept hW) (h.fr.grown hW) h.fm h.fb (by have:=h.bw;have:=hW.size;omega) (by omega) hcc (by have:=h.hn;omega) (hS.grown (h.cw.trans hW))).mono fun e w' ⟨g1,⟨a1,a2,g2,g3,g4⟩,g5,g6⟩=>⟨g1,⟨a1,a2,g2,(Chg.of_none hW).trans (Nx.refl _ _) g3,Nx.trans hW.size (Nx.refl _ _) g4⟩,g5,g6⟩
 have hnc:=h.nc;have hrow:=h.row;have n1:¬fc=j:=(by omega);have i0:(0:Int)≤(j:Int):=(by omega);have i1:(j:Int)≤(n:Int):=(by omega);have i2:(n:Int)≤(fc:Int):=(by omega);have i3:j≤n:=(by omega);have HNJ:=hd_ (by omega:n - j≤fc - j);clear h hx hS;go_enter Tryz.func32,Tryz.ntmps32;go_wp2_with fail
 go_region_held3 (fun w'=>w'.cell? ⟨tb,o+1,none⟩=some (.int .i64 num)∧w'.cell? ⟨tb,o+2,none⟩=some (.int .i64 (j:Int))) (first|(go_keep;done)|exact HK1.out) (first
  | (go_at_call 55
     refine(cF _ _ (xf_ gz_) HNJ.out).mono ?_;rintro e w1 ⟨rfl,hp,hf,hl⟩;have HP:=hd_ hp;have HF:=hd_ hf;have HL:=hd_ hl;obtain⟨a1,a2,_,hcc,_⟩:=hp;have hcw1:c.grownBy w1 none:=y4_ HH.out.cw hcc HH.out.cM (fun y hy=>by simp at hy;have:=HH.out.cF;omega) (fun y hy=>(hrow y hy).1);have HK1:Hid (w1.cell? ⟨tb,o+1,none⟩=some (.int .i64 num)∧w1.cell? ⟨tb,o+2,none⟩=some (.int .i64 (j:Int))):=⟨(HX.out.grown hcw1).a,(HX.out.grown hcw1).b⟩;clear hf hcc hl))
 go_wp2;all_goals first|go_end0|((try simp only[Exit.inBlock,Exit.then]);refine bodyPost_ret (results_none rfl _ _ _) rfl ?_)
 all_goals exact⟨⟨rfl,HP.out,HF.out⟩,HL.out⟩
end Go.Proofs.YtcgbfhpmkpglkaaGreatDoor
namespace Go.Proofs.YtcgbfhpmkpglkaaGreatDoor
open Go.RowKit
theorem vb_ {st:List Int} (h:1≤st.length):∃ r a,st=r++[a]:=⟨st.dropLast,st.getLast (by intro e;rw[e] at h;simp at h),(List.dropLast_concat_getLast _).symm⟩
theorem aiw_ {st:List Int} (h:2≤st.length):∃ r a b,st=r++[a]++[b]:=by
 obtain⟨r,b,rfl⟩:=vb_ (by omega:1≤st.length);obtain⟨r',a,rfl⟩:=vb_ (st:=r) (by simp at h;omega);exact⟨r',a,b,rfl⟩
theorem at9_ {st:List Int} (h:3≤st.length):∃ r g a b,st=r++[g]++[a]++[b]:=by
 obtain⟨r,a,b,rfl⟩:=aiw_ (by omega:2≤st.length);obtain⟨r',g,rfl⟩:=vb_ (st:=r) (by simp at h;omega);exact⟨r',g,a,b,rfl⟩
def Nxt (t:List Ins) (s:Nat→Int) (c:Int→Int) (i p:Nat) (c':Int→Int):Prop:=
 s i+phi t s c' p≤phi t s c i∧Cn t c' p∧Lc t p∧Hh t p=Hh t i - tkN t i+gvN t i∧0≤Hh t p∧p≤t.length∧Hh t p≤1000
theorem v0_ {t:List Ins} {i:Nat} {h:Int} (h1:tkN t i≤h):0≤h - tkN t i+gvN t i:=by
 have:=agp_ t i;omega
theorem aix_ {t:List Ins} {s:Nat→Int} {l:List (Int×Nat)} {kd:Int} {fn:Nat} (hP:ProgOk l kd fn t) (hs:∀ k,k<t.length→0≤s k) {c:Int→Int} {i:Nat} (hi:i<t.length) (hc:Cn t c i) (hl:Lc t i) (hh:Hh t i≠-1) (he:isE t i=false) (hr:isR t i=false) (hw:i+1∈x9_ t i):Nxt t s c i (i+1) c:=by
 have L:=abd_ hP;obtain⟨a1,a2⟩:=aqn_ (s:=s) L hs hi hc he hr;have h:=abc_ hP.stack hi hh;have e:=h.2.2.1 (i+1) hw (by omega) (by omega);exact⟨a1,a2,fun f hf=>hl f (by rw[ui_ L.rds he hr f];exact hf),e,by rw[e];exact v0_ h.1,by omega,by rw[e];exact h.2.1⟩
theorem alq_ {t:List Ins} {s:Nat→Int} {l:List (Int×Nat)} {kd:Int} {fn:Nat} (hP:ProgOk l kd fn t) (hs:∀ k,k<t.length→0≤s k) {c:Int→Int} {i:Nat} (hi:i<t.length) (hc:Cn t c i) (hl:Lc t i) (hh:Hh t i≠-1) (hd:(nth t i).d=11∨(nth t i).d=12):Nxt t s c i (nth t i).a.toNat c∧((nth t i).a.toNat:Int)=(nth t i).a:=by
 have L:=abd_ hP;obtain⟨a1,a2⟩:=aqp_ (s:=s) L hs hi hc hd;obtain⟨h1,h2⟩:=L.fwd i hi hd;have h:=abc_ hP.stack hi hh;have e:=h.2.2.1 (nth t i).a.toNat (by rcases hd with hd|hd <;> simp[x9_,hd]) (by omega) (by omega);refine⟨⟨a1,a2,fun g hg=>hl g ?_,e,by rw[e];exact v0_ h.1,by omega,by rw[e];exact h.2.1⟩,by omega⟩;have h3:=xu_.1 hg;have:=L.jdoc i hi hd (g - 1) h3.2.2.1 (by rw[show g - 1+1=g by omega];exact hg);rw[show g - 1+1=g by omega] at this;exact this
theorem aqt_ {t:List Ins} {s:Nat→Int} {l:List (Int×Nat)} {kd:Int} {fn:Nat} (hP:ProgOk l kd fn t) (hs:∀ k,k<t.length→0≤s k) {c:Int→Int} {i:Nat} (hi:i<t.length) (hc:Cn t c i) (hl:Lc t i) (hh:Hh t i≠-1) (he:isE t i=true) (hw:i+1∈x9_ t i):Nxt t s c i (i+1) (upd c (nth t i).a (nth t i).b):=by
 have L:=abd_ hP;obtain⟨a1,a2⟩:=anl_ (s:=s) L hs hi hc he;have h:=abc_ hP.stack hi hh;have e:=h.2.2.1 (i+1) hw (by omega) (by omega);refine⟨a1,a2,fun f hf=>?_,e,by rw[e];exact v0_ h.1,by omega,by rw[e];exact h.2.1⟩;by_cases h1:f≤i
 ·exact hl f (by rw[aay_ L.rds (adi_ he) h1];exact hf)
 ·have:f=i+1:=(by have:=(xu_.1 hf).2.1;omega);subst this;rw[e];have:=v0_ h.1;omega
theorem atl_ {t:List Ins} {s:Nat→Int} {l:List (Int×Nat)} {kd:Int} {fn:Nat} (hP:ProgOk l kd fn t) (hs:∀ k,k<t.length→0≤s k) {c:Int→Int} {i:Nat} (hi:i<t.length) (hc:Cn t c i) (hl:Lc t i) (hh:Hh t i≠-1) (hr:isR t i=true) (hx:0<c (nth t i).a - 1) (hw:(nth t i).b.toNat∈x9_ t i):Nxt t s c i (nth t i).b.toNat (upd c (nth t i).a (c (nth t i).a - 1))∧((nth t i).b.toNat:Int)=(nth t i).b:=by
 have L:=abd_ hP;obtain⟨a1,a2⟩:=aqo_ (s:=s) L hs hi hc hr hx;obtain⟨hf,hfr,ha,hb⟩:=v8_ L.rds hr;have h:=abc_ hP.stack hi hh;have hle:=(xu_.1 hf).2.1;have e:=h.2.2.2 (nth t i).b.toNat hw hle (hl _ hf);refine⟨⟨a1,a2,fun g hg=>?_,e,by rw[e];exact v0_ h.1,by omega,by rw[e];exact h.2.1⟩,hb⟩;rcases Nat.lt_trichotomy g (nth t i).b.toNat with h1|h1|h1
 ·exact hl g (by rw[(j3_ L hf hfr g h1).1];exact hg)
 ·rw[h1];exact hl _ hf
 ·have:=(xu_.1 hg).2.1;omega
theorem aqu_ {t:List Ins} {s:Nat→Int} {l:List (Int×Nat)} {kd:Int} {fn:Nat} (hP:ProgOk l kd fn t) (hs:∀ k,k<t.length→0≤s k) {c:Int→Int} {i:Nat} (hi:i<t.length) (hc:Cn t c i) (hl:Lc t i) (hh:Hh t i≠-1) (hr:isR t i=true) (hx:¬0<c (nth t i).a - 1) (hw:i+1∈x9_ t i):Nxt t s c i (i+1) (upd c (nth t i).a (c (nth t i).a - 1)):=by
 have L:=abd_ hP;obtain⟨a1,a2⟩:=anm_ (s:=s) L hs hi hc hr hx;obtain⟨hf,hfr,ha,hb⟩:=v8_ L.rds hr;have h:=abc_ hP.stack hi hh;have e:=h.2.2.1 (i+1) hw (by omega) (by omega);refine⟨a1,a2,fun g hg=>?_,e,by rw[e];exact v0_ h.1,by omega,by rw[e];exact h.2.1⟩;rcases Nat.lt_trichotomy g (nth t i).b.toNat with h2|h2|h2
 ·exact hl g (by rw[(j3_ L hf hfr g h2).2];exact hg)
 ·have:=(xu_.1 hg).2.2.2;rw[h2] at this;omega
 ·rw[(va_ L hf hfr g h2).2] at hg;simp at hg
end Go.Proofs.YtcgbfhpmkpglkaaGreatDoor
namespace Go.Proofs.YtcgbfhpmkpglkaaGreatDoor
structure Ms where
 st:List Int
 ar:List Int
 sp:Int
 fl:Int
def top (l:List Int):Int:=l.getLastD 0
def Ms.tick (m:Ms):Ms:={ m with sp:=m.sp+1 }
def doX (now:Int) (off:Nat) (x:Ins) (m:Ms):Ms:=
 if x.d=1 then { m with st:=m.st++[x.a] } else
 if x.d=2 then { m with st:=m.st++[m.ar.getD (off+x.a.toNat) 0] } else
 if x.d=3 then { m with st:=m.st.dropLast,ar:=m.ar.set (off+x.a.toNat) (top m.st) } else
 if x.d=4 then { m with st:=m.st.dropLast++[if isW (top m.st) x.c (x.c+x.b - 1)=true then m.ar.getD (off+(x.a+top m.st - x.c).toNat) 0 else 0],fl:=if isW (top m.st) x.c (x.c+x.b - 1)=true then m.fl else m.fl+1 } else
 if x.d=5 then { m with st:=m.st.dropLast.dropLast,ar:=if isW (top m.st.dropLast) x.c (x.c+x.b - 1)=true then m.ar.set (off+(x.a+top m.st.dropLast - x.c).toNat) (top m.st) else m.ar,fl:=if isW (top m.st.dropLast) x.c (x.c+x.b - 1)=true then m.fl else m.fl+1 } else
 if x.d=6 then(if zy_ x=2 then { m with st:=m.st.dropLast.dropLast++[Ce.doN x.a x.b (top m.st.dropLast) (top m.st)],fl:=if Ce.doZ x.a x.b (top m.st)=true then m.fl+1 else m.fl }
  else { m with st:=m.st.dropLast++[Ce.doN x.a x.b (top m.st) 0],fl:=if Ce.doZ x.a x.b 0=true then m.fl+1 else m.fl }) else
 if x.d=7 then { m with st:=m.st.dropLast++[Ce.convK x.a x.b (top m.st)] } else
 if x.d=8 then { m with st:=m.st.dropLast.dropLast.dropLast++[if top m.st.dropLast.dropLast=0 then top m.st.dropLast else top m.st] } else
 if x.d=9 then { m with st:=m.st++[top m.st] } else
 if x.d=10 then { m with st:=m.st.dropLast } else
 if x.d=15 then { m with fl:=m.fl+1 } else
 if x.d=16 then { m with ar:=zz_ m.ar (off+x.a.toNat) x.b.toNat x.c,sp:=m.sp+(x.b - 1) } else
 if x.d=18 then { m with ar:=q0_ x.a now m.ar (off+x.b.toNat) } else
 m
def Gd (x:Ins) (m:Ms):Prop:=tkS x≤m.st.length∧m.st.length≤20000∧0≤m.sp∧m.sp≤1000000000∧0≤m.fl∧m.fl≤1000000000
def j4_:List Int:=List.replicate 40 0
def txt (ps:List Pr) (u:Nat):List Ins:=(ps.getD u pr0).tx
inductive Ex (ps:List Pr) (now:Int):Nat→Nat→Nat→Nat→List Int→Ms→Ms→Prop
 | fin {u off i:Nat} {cs:List Int} {m:Ms}:i=(txt ps u).length→Ex ps now 0 u off i cs m m
 | plain {k u off i:Nat} {cs:List Int} {m m':Ms} (x:Ins):i<(txt ps u).length→nth (txt ps u) i=x→x.d≠11→x.d≠12→x.d≠13→x.d≠14→x.d≠17→Gd x m→Ex ps now k u off (i+1) cs (doX now off x m.tick) m'→Ex ps now (k+1) u off i cs m m'
 | jump {k u off i:Nat} {cs:List Int} {m m':Ms} (x:Ins):i<(txt ps u).length→nth (txt ps u) i=x→x.d=11→Gd x m→0≤x.a→x.a.toNat≤(txt ps u).length→Ex ps now k u off x.a.toNat cs m.tick m'→Ex ps now (k+1) u off i cs m m'
 | fall {k u off i:Nat} {cs:List Int} {m m':Ms} (x:Ins):i<(txt ps u).length→nth (txt ps u) i=x→x.d=12→Gd x m→0≤x.a→x.a.toNat≤(txt ps u).length→Ex ps now k u off (if top m.st=0 then x.a.toNat else i+1) cs { m.tick with st:=m.st.dropLast } m'→Ex ps now (k+1) u off i cs m m'
 | enter {k u off i:Nat} {cs:List Int} {m m':Ms} (x:Ins):i<(txt ps u).length→nth (txt ps u) i=x→x.d=13→Gd x m→0≤x.a→x.a<40→Ex ps now k u off (i+1) (cs.set x.a.toNat x.b) m.tick m'→Ex ps now (k+1) u off i cs m m'
 | round {k u off i:Nat} {cs:List Int} {m m':Ms} (x:Ins):i<(txt ps u).length→nth (txt ps u) i=x→x.d=14→Gd x m→0≤x.a→x.a<40→1≤cs.getD x.a.toNat 0→cs.getD x.a.toNat 0≤10000→0≤x.b→x.b.toNat≤(txt ps u).length→Ex ps now k u off (if 0<cs.getD x.a.toNat 0 - 1 then x.b.toNat else i+1) (cs.set x.a.toNat (cs.getD x.a.toNat 0 - 1)) m.tick m'→Ex ps now (k+1) u off i cs m m'
 | call {k k1 u off i:Nat} {cs:List Int} {m m1 m':Ms} (x:Ins):i<(txt ps u).length→nth (txt ps u) i=x→x.d=17→Gd x m→Ex ps now k1 x.a.toNat (off+x.b.toNat) 0 j4_ m.tick m1→Ex ps now k u off (i+1) cs m1 m'→Ex ps now (k+1) u off i cs m m'
theorem Ex.one {ps:List Pr} {now:Int} {k u off i:Nat} {cs:List Int} {m m':Ms} (h:Ex ps now k u off i cs m m'):∀ {k2:Nat} {m2:Ms},Ex ps now k2 u off i cs m m2→m2=m':=by
 induction h with
 | fin h0=>
  intro k2 m2 g;cases g <;> first|rfl|(exfalso;omega)
 | plain x h0 h1 h2 h3 h4 h5 h6 h7 h8 ih=>
  intro k2 m2 g;cases g with
  | fin g0=>exfalso;omega
  | plain y g0 g1 g2 g3 g4 g5 g6 g7 g8=>have e:=h1.symm.trans g1;subst e;exact ih g8
  | jump y g0 g1 g2=>have e:=h1.symm.trans g1;subst e;exact absurd g2 h2
  | fall y g0 g1 g2=>have e:=h1.symm.trans g1;subst e;exact absurd g2 h3
  | enter y g0 g1 g2=>have e:=h1.symm.trans g1;subst e;exact absurd g2 h4
  | round y g0 g1 g2=>have e:=h1.symm.trans g1;subst e;exact absurd g2 h5
  | call y g0 g1 g2=>have e:=h1.symm.trans g1;subst e;exact absurd g2 h6
 | jump x h0 h1 h2 h3 h4 h5 h6 ih=>
  intro k2 m2 g;cases g with
  | fin g0=>exfalso;omega
  | plain y g0 g1 g2=>have e:=h1.symm.trans g1;subst e;exact absurd h2 g2
  | jump y g0 g1 g2 g3 g4 g5 g6=>have e:=h1.symm.trans g1;subst e;exact ih g6
  | fall y g0 g1 g2=>have e:=h1.symm.trans g1;subst e;omega
  | enter y g0 g1 g2=>have e:=h1.symm.trans g1;subst e;omega
  | round y g0 g1 g2=>have e:=h1.symm.trans g1;subst e;omega
  | call y g0 g1 g2=>have e:=h1.symm.trans g1;subst e;omega
 | fall x h0 h1 h2 h3 h4 h5 h6 ih=>
  intro k2 m2 g;cases g with
  | fin g0=>exfalso;omega
  | plain y g0 g1 g2 g3=>have e:=h1.symm.trans g1;subst e;exact absurd h2 g3
  | jump y g0 g1 g2=>have e:=h1.symm.trans g1;subst e;omega
  | fall y g0 g1 g2 g3 g4 g5 g6=>have e:=h1.symm.trans g1;subst e;exact ih g6
  | enter y g0 g1 g2=>have e:=h1.symm.trans g1;subst e;omega
  | round y g0 g1 g2=>have e:=h1.symm.trans g1;subst e;omega
  | call y g0 g1 g2=>have e:=h1.symm.trans g1;subst e;omega
 | enter x h0 h1 h2 h3 h4 h5 h6 ih=>
  intro k2 m2 g;cases g with
  | fin g0=>exfalso;omega
  | plain y g0 g1 g2 g3 g4=>have e:=h1.symm.trans g1;subst e;exact absurd h2 g4
  | jump y g0 g1 g2=>have e:=h1.symm.trans g1;subst e;omega
  | fall y g0 g1 g2=>have e:=h1.symm.trans g1;subst e;omega
  | enter y g0 g1 g2 g3 g4 g5 g6=>have e:=h1.symm.trans g1;subst e;exact ih g6
  | round y g0 g1 g2=>have e:=h1.symm.trans g1;subst e;omega
  | call y g0 g1 g2=>have e:=h1.symm.trans g1;subst e;omega
 | round x h0 h1 h2 h3 h4 h5 h6 h7 h8 h9 h10 ih=>
  intro k2 m2 g;cases g with
  | fin g0=>exfalso;omega
  | plain y g0 g1 g2 g3 g4 g5=>have e:=h1.symm.trans g1;subst e;exact absurd h2 g5
  | jump y g0 g1 g2=>have e:=h1.symm.trans g1;subst e;omega
  | fall y g0 g1 g2=>have e:=h1.symm.trans g1;subst e;omega
  | enter y g0 g1 g2=>have e:=h1.symm.trans g1;subst e;omega
  | round y g0 g1 g2 g3 g4 g5 g6 g7 g8 g9 g10=>have e:=h1.symm.trans g1;subst e;exact ih g10
  | call y g0 g1 g2=>have e:=h1.symm.trans g1;subst e;omega
 | call x h0 h1 h2 h3 h4 h5 ih1 ih2=>
  intro k2 m2 g;cases g with
  | fin g0=>exfalso;omega
  | plain y g0 g1 g2 g3 g4 g5 g6=>have e:=h1.symm.trans g1;subst e;exact absurd h2 g6
  | jump y g0 g1 g2=>have e:=h1.symm.trans g1;subst e;omega
  | fall y g0 g1 g2=>have e:=h1.symm.trans g1;subst e;omega
  | enter y g0 g1 g2=>have e:=h1.symm.trans g1;subst e;omega
  | round y g0 g1 g2=>have e:=h1.symm.trans g1;subst e;omega
  | call y g0 g1 g2 g3 g4 g5=>
   have e:=h1.symm.trans g1;subst e;have e2:=ih1 g4;subst e2;exact ih2 g5
end Go.Proofs.YtcgbfhpmkpglkaaGreatDoor
namespace Go.Proofs.YtcgbfhpmkpglkaaGreatDoor
open Go.RowKit
attribute [local go_sem ↓] Go.wp_at_zero Go.wp_at_succ
def ac5_ (ps:List Pr):Prop:=∀ u,u<ps.length→ProgOk (ahd ps u) (ps.getD u pr0).k (ps.getD u pr0).fs.length (txt ps u)
theorem alr_ {ps:List Pr}:∀(m k:Nat) (b bds:List Int) (e:Int),kx_ (Classical.propDecidable,()) ps m k b=(bds,0,e)→∀ u,k≤u→u<k+m→ProgOk (ahd ps u) (ps.getD u pr0).k (ps.getD u pr0).fs.length (txt ps u):=by
 intro m;induction m with
 | zero=>intro k b bds e hv u h1 h2;omega
 | succ m ih=>
  intro k b bds e hv u h1 h2;simp only[kx_] at hv;by_cases h0:(kh_ (Classical.propDecidable,()) ps k b).2=0
  · rw[if_pos h0] at hv;by_cases hu:u=k
    · subst hu;unfold kh_ q5_ at h0;split at h0
      ·rename_i hP;exact hP
      ·simp at h0
    ·exact ih (k+1) _ bds e hv u om_ om_
  ·rw[if_neg h0] at hv;simp at hv;exact absurd hv.2.1 h0
theorem Ex.any_off {ps:List Pr} {now:Int} (HP:ac5_ ps) {k u off i:Nat} {cs:List Int} {m m':Ms} (h:Ex ps now k u off i cs m m'):u<ps.length→(ps.getD u pr0).fs.length=0→∀ off',Ex ps now k u off' i cs m m':=by
 induction h with
 | fin h0=>intro hu hz off';exact .fin h0
 | plain x h0 h1 h2 h3 h4 h5 h6 h7 h8 ih=>
  rename_i k u off i cs m m';intro hu hz off';refine .plain x h0 h1 h2 h3 h4 h5 h6 h7 ?_;have hm:=(HP u hu).may i h0;rw[h1,hz] at hm;obtain⟨d,a,b,c⟩:=x;dsimp only at h2 h3 h4 h5 h6;have e:doX now off' ⟨d,a,b,c⟩ m.tick=doX now off ⟨d,a,b,c⟩ m.tick:=by
   simp only[ug_,Bool.and_eq_true] at hm;have hf:=hm.2;by_cases e2:d=2
   ·subst e2;simp[xv_,y3_,isW] at hf
   by_cases e3:d=3
   ·subst e3;simp[xv_,y3_,isW] at hf
   by_cases e4:d=4
   ·subst e4;simp[xv_,y3_,isW] at hf;omega
   by_cases e5:d=5
   ·subst e5;simp[xv_,y3_,isW] at hf;omega
   by_cases e16:d=16
   ·subst e16;simp[xv_,y3_,isW] at hf;omega
   by_cases e18:d=18
   ·subst e18;simp[xv_,y3_,isW] at hf;have hs:3≤yk_ a:=(by unfold yk_;repeat' split;all_goals omega);omega
   simp[doX,e2,e3,e4,e5,e16,e18]
  rw[e];exact ih hu hz off'
 | jump x h0 h1 h2 h3 h4 h5 h6 ih=>intro hu hz off';exact .jump x h0 h1 h2 h3 h4 h5 (ih hu hz off')
 | fall x h0 h1 h2 h3 h4 h5 h6 ih=>intro hu hz off';exact .fall x h0 h1 h2 h3 h4 h5 (ih hu hz off')
 | enter x h0 h1 h2 h3 h4 h5 h6 ih=>intro hu hz off';exact .enter x h0 h1 h2 h3 h4 h5 (ih hu hz off')
 | round x h0 h1 h2 h3 h4 h5 h6 h7 h8 h9 h10 ih=>intro hu hz off';exact .round x h0 h1 h2 h3 h4 h5 h6 h7 h8 h9 (ih hu hz off')
 | call x h0 h1 h2 h3 h4 h5 ih1 ih2=>
  rename_i k k1 u off i cs m m1 m';intro hu hz off';have hm:=(HP u hu).may i h0;rw[h1,hz] at hm;obtain⟨d,a,b,c⟩:=x;dsimp only at h2 h4 ih1;subst h2;simp only[ug_,Bool.and_eq_true] at hm;have hf:=hm.2;simp[xv_,z3_,y3_,isW] at hf;have hlen:=ji_ ps u om_;have hau:a.toNat<u:=om_;have hg:=v9_ ps u a.toNat hau om_;have hg2:((ahd ps u)[a.toNat]?.getD (0,0)).2=(ps.getD a.toNat pr0).fs.length:=by
   have:=congrArg Prod.snd hg;simpa[List.getD] using this
  rw[hg2] at hf;exact .call _ h0 h1 rfl h3 (ih1 om_ om_ _) (ih2 hu hz off')
variable {c w:World} {B M F off n fc:Nat} {ar:List Int} {now:Int} {sa:Option Addr} {sc:Nat} {sp fl:Int} {tb o:Nat}
set_option maxRecDepth 10000 in
theorem atm_ {st:List Int} {pb po np pcap:Nat} (u j fnu ffc:Nat) (fa:Option Addr) (Q:World→Prop) (hu:u<np) (hjn:j+fnu≤n) (h:Ctx c w B M F off n fc ar (.slice (some ⟨pb,po,none⟩) np pcap) now sa sc st sp fl) (hx:InsAt c tb o ⟨17,(u:Int),(j:Int),0⟩) (hfst:c.cell? ⟨pb,po+u*5+2,none⟩=some (.slice fa fnu ffc))
 (hR:∀ W off' cc,w.grownBy W none→(off'=off+j∨fnu=0)→off'+fnu≤ar.length→fnu≤cc→Calls Tryz.prog 18 #[.pointer (some ⟨M,0,none⟩),.pointer (some ⟨pb,po+u*5,none⟩),.slice (some ⟨F,off',none⟩) fnu cc] W fun e w'=>e=.returned (.tuple #[])∧Q w'∧c.grownBy w' none) :
 Calls Tryz.prog 32 #[.pointer (some ⟨M,0,none⟩),.pointer (some ⟨tb,o,none⟩),.slice (some ⟨F,off,none⟩) n fc] w fun e w'=>e=.returned (.tuple #[])∧Q w':=by
 have HX:=hd_ hx;obtain⟨q0,q1,q2,q3⟩:=hx.grown h.cw;dsimp only at q0 q1 q2 q3;have m0:=xa_ h.ma.blk 0;simp at m0;have q4:=h.cw.cell hfst (by simp);have HFS:=hd_ hfst;have s1:((j:Int)+(fnu:Int)).toNat - j=fnu:=om_;have hnc:=h.nc;have hn2:=h.n2;have hhn:=h.hn;have HR:Hid (∀ W off' cc,w.grownBy W none→(off'=off+j∨fnu=0)→off'+fnu≤ar.length→fnu≤cc→Calls Tryz.prog 18 #[.pointer (some ⟨M,0,none⟩),.pointer (some ⟨pb,po+u*5,none⟩),.slice (some ⟨F,off',none⟩) (((j:Int)+(fnu:Int)).toNat - j) cc] W fun e w'=>e=.returned (.tuple #[])∧Q w'∧c.grownBy w' none):=(by rw[s1];exact hR);have e1:IntKind.i64.wrap ((j:Int)+(fnu:Int))=(j:Int)+(fnu:Int):=IntWalk.i64_in _ om_;have i0:(0:Int)≤(j:Int):=om_;have i1:(j:Int)≤(j:Int)+(fnu:Int):=om_;have i2:(j:Int)+(fnu:Int)≤(fc:Int):=om_;have i3:(0:Int)≤(j:Int)+(fnu:Int):=om_;have i4:(0:Int)≤(fnu:Int):=om_;have i5:(0:Int)≤(u:Int):=om_;have i6:(u:Int)<(np:Int):=om_;clear hR hfst hx q3 h s1;by_cases hfj:fc=j
 · have hf0:fnu=0:=om_;subst hf0;subst hfj;have HR0:Hid (∀ W off' cc,w.grownBy W none→off'≤ar.length→Calls Tryz.prog 18 #[.pointer (some ⟨M,0,none⟩),.pointer (some ⟨pb,po+u*5,none⟩),.slice (some ⟨F,off',none⟩) 0 cc] W fun e w'=>e=.returned (.tuple #[])∧Q w'∧c.grownBy w' none):=fun W off' cc h1 h2=>by
    have h:=HR.out W off' cc h1 (.inr rfl) om_ om_;rw[show((fc:Int)+((0:Nat):Int)).toNat - fc=0 by omega] at h;exact h
   have e2:IntKind.i64.wrap (fc:Int)=(fc:Int):=IntWalk.i64_in _ om_;have e3:(fc:Int)≤(fc:Int):=om_;clear e1 i1 i2 i3 i4;go_enter Tryz.func32,Tryz.ntmps32;go_wp2_with fail
   go_region_held3 (fun w'=>w'.cell? ⟨M,0,none⟩=some (.slice (some ⟨pb,po,none⟩) np pcap)∧w'.cell? ⟨tb,o+1,none⟩=some (.int .i64 (u:Int))) (go_keep) (fail)
   go_wp2_with fail
   go_region_held3 (fun w'=>w'.cell? ⟨tb,o+2,none⟩=some (.int .i64 (fc:Int))∧w'.cell? ⟨pb,po+u*5+2,none⟩=some (.slice fa 0 ffc)) (first|(go_keep;done)|exact HK1.out) (first
    | (go_at_call 18
       refine(HR0.out _ _ _ (xf_ (xf_ gz_)) om_).mono ?_;rintro e w1 ⟨rfl,hp,hcw1⟩;have HK1:Hid (w1.cell? ⟨tb,o+2,none⟩=some (.int .i64 (fc:Int))∧w1.cell? ⟨pb,po+u*5+2,none⟩=some (.slice fa 0 ffc)):=⟨(HX.out.grown hcw1).b,hcw1.cell HFS.out (by simp)⟩;clear hcw1))
   go_wp2;all_goals first|go_end0|((try simp only[Exit.inBlock,Exit.then]);refine bodyPost_ret (results_none rfl _ _ _) rfl ?_)
   all_goals exact⟨rfl,hp⟩
 · go_enter Tryz.func32,Tryz.ntmps32;go_wp2_with fail
   go_region_held3 (fun w'=>w'.cell? ⟨M,0,none⟩=some (.slice (some ⟨pb,po,none⟩) np pcap)∧w'.cell? ⟨tb,o+1,none⟩=some (.int .i64 (u:Int))) (go_keep) (fail)
   go_wp2_with fail
   go_region_held3 (fun w'=>w'.cell? ⟨tb,o+2,none⟩=some (.int .i64 (j:Int))∧w'.cell? ⟨pb,po+u*5+2,none⟩=some (.slice fa fnu ffc)) (first|(go_keep;done)|exact HK1.out) (first
    | (go_at_call 18
       refine(HR.out _ _ _ (xf_ (xf_ gz_)) (.inl om_) om_ om_).mono ?_;rintro e w1 ⟨rfl,hp,hcw1⟩;have HK1:Hid (w1.cell? ⟨tb,o+2,none⟩=some (.int .i64 (j:Int))∧w1.cell? ⟨pb,po+u*5+2,none⟩=some (.slice fa fnu ffc)):=⟨(HX.out.grown hcw1).b,hcw1.cell HFS.out (by simp)⟩;clear hcw1))
   go_wp2;all_goals first|go_end0|((try simp only[Exit.inBlock,Exit.then]);refine bodyPost_ret (results_none rfl _ _ _) rfl ?_)
   all_goals exact⟨rfl,hp⟩
def WkX (w:World) (B M F:Nat) (pv:Value) (now:Int) (r0:Option Nat) (al sl:Nat) (sp fl bd X:Int) (m':Ms) (w':World):Prop:=
 ∃ sa' sc',MaC w' B M pv now sa' sc' m'.st m'.sp m'.fl∧FrAt w' F m'.ar∧m'.ar.length=al∧m'.st.length=sl∧sp≤m'.sp∧m'.sp≤sp+bd∧fl≤m'.fl∧m'.fl≤fl+X+(m'.sp - sp)∧Chg M (some F) r0 w w'∧Nx w r0 (sb sa')
def RunX (c:World) (pb po np pcap:Nat) (ps:List Pr) (u fnu:Nat) (bd now:Int):Prop:=
 ∀(w:World) (B M F off fc:Nat) (ar:List Int) (sa:Option Addr) (sc:Nat) (st:List Int) (sp fl:Int),Ctx c w B M F off fnu fc ar (.slice (some ⟨pb,po,none⟩) np pcap) now sa sc st sp fl→sp+bd≤1000000000→fl≤sp→st.length+1000*u≤16000→
  Calls Tryz.prog 18 #[.pointer (some ⟨M,0,none⟩),.pointer (some ⟨pb,po+u*5,none⟩),.slice (some ⟨F,off,none⟩) fnu fc] w fun e w'=>e=.returned (.tuple #[])∧∃ m',WkX w B M F (.slice (some ⟨pb,po,none⟩) np pcap) now (sb sa) ar.length st.length sp fl bd 0 m' w'∧∃ k,Ex ps now k u off 0 j4_ ⟨st,ar,sp,fl⟩ m'
def WhX (ps:List Pr) (now:Int) (off:Nat) (x:Ins) (m m':Ms):Prop:=(x.d≠17∧m'=doX now off x m)∨(x.d=17∧∃ k,Ex ps now k x.a.toNat (off+x.b.toNat) 0 j4_ m m')
theorem kk_ {w w':World} {B M F:Nat} {pv:Value} {now:Int} {r0:Option Nat} {st' ar':List Int} {sp' fl':Int} {e:Ending} {al sl:Nat} {sp fl bd:Int} {ps:List Pr} {off:Nat} {x:Ins} {m:Ms} (h:DoP w B M F pv now r0 st' ar' sp' fl' e w') (hm:doX now off x m=⟨st',ar',sp',fl'⟩) (h17:x.d≠17) (h1:ar'.length=al) (h2:st'.length=sl) (h3:sp≤sp') (h4:sp'≤sp+bd) (h5:fl≤fl') (h6:fl'≤fl+1+(sp' - sp)):e=.returned (.tuple #[])∧∃ m',WkX w B M F pv now r0 al sl sp fl bd 1 m' w'∧WhX ps now off x m m':=by
 obtain⟨a,⟨sa',sc',b1,b2,b3⟩,d⟩:=h;exact⟨a,⟨st',ar',sp',fl'⟩,⟨sa',sc',b1,d,h1,h2,h3,h4,h5,h6,b2,b3⟩,.inl ⟨h17,hm.symm⟩⟩
theorem do_x {ps:List Pr} {c w:World} {B M F off n fc:Nat} {ar:List Int} {pb po np pcap:Nat} {now:Int} {sa:Option Addr} {sc:Nat} {st:List Int} {sp fl:Int} {tb o:Nat} (l:List (Int×Nat)) (bds:List Int) (tl i:Nat) (x:Ins)
 (h:Ctx c w B M F off n fc ar (.slice (some ⟨pb,po,none⟩) np pcap) now sa sc st sp fl) (hx:InsAt c tb o x) (hm:ug_ l n tl i x=true) (hd:x.d≠11∧x.d≠12∧x.d≠13∧x.d≠14) (hS:Stds c)
 (htk:tkS x≤st.length) (hnp:l.length≤np) (hfst:∀ u,u<l.length→∃ fa ffc,c.cell? ⟨pb,po+u*5+2,none⟩=some (.slice fa (l.getD u (0,0)).2 ffc)) (hR:∀ u,u<l.length→RunX c pb po np pcap ps u (l.getD u (0,0)).2 (bds.getD u 0) now)
 (hok:ac5_ ps) (hlp:l.length≤ps.length) (hlg:∀ u,u<l.length→(l.getD u (0,0)).2=(ps.getD u pr0).fs.length) (hb0:∀ u,0≤bds.getD u 0) (hsp:sp+(yi_ bds x - 1)≤1000000000) (hfl:fl≤sp) (hst:st.length+1000*l.length≤17000) :
 Calls Tryz.prog 32 #[.pointer (some ⟨M,0,none⟩),.pointer (some ⟨tb,o,none⟩),.slice (some ⟨F,off,none⟩) n fc] w fun e w'=>e=.returned (.tuple #[])∧∃ m',WkX w B M F (.slice (some ⟨pb,po,none⟩) np pcap) now (sb sa) ar.length ((st.length:Int) - tkS x+gvS x).toNat sp fl (yi_ bds x - 1) 1 m' w'∧WhX ps now off x ⟨st,ar,sp,fl⟩ m':=by
 obtain⟨d,a,b,cc⟩:=x;simp only[ug_,Bool.and_eq_true] at hm;obtain⟨hu,hf⟩:=hm;dsimp only at hd;rcases dos d with rfl|rfl|rfl|rfl|rfl|rfl|rfl|rfl|rfl|rfl|rfl|rfl|rfl|rfl|rfl|rfl|rfl|rfl|hdd
 ·simp[yg_] at hu;obtain⟨rfl,rfl⟩:=hu;exact(ata_ a h hx).mono fun e w' hp=>kk_ hp (by first|rfl|(simp[doX,top];done)|(simp[doX,top,h2];done)|(simp[doX,top,h1];done)) (by simp) rfl (by first|(simp[tkS,gvS];done)|(simp[tkS,gvS];omega)) om_ (by simp[yi_]) om_ om_
 ·simp[yg_] at hu;obtain⟨rfl,rfl⟩:=hu;simp[xv_,y3_,isW] at hf;obtain⟨j,rfl⟩:=Int.eq_ofNat_of_zero_le (show 0≤a by omega);exact(atb_ j om_ h hx).mono fun e w' hp=>kk_ hp (by first|rfl|(simp[doX,top];done)|(simp[doX,top,h2];done)|(simp[doX,top,h1];done)) (by simp) rfl (by first|(simp[tkS,gvS];done)|(simp[tkS,gvS];omega)) om_ (by simp[yi_]) om_ om_
 ·simp[yg_] at hu;obtain⟨rfl,rfl⟩:=hu;simp[xv_,y3_,isW] at hf;simp[tkS] at htk;obtain⟨r,v,rfl⟩:=vb_ (st:=st) om_;obtain⟨j,rfl⟩:=Int.eq_ofNat_of_zero_le (show 0≤a by omega);exact(aqi_ v j om_ h hx).mono fun e w' hp=>kk_ hp (by first|rfl|(simp[doX,top];done)|(simp[doX,top,h2];done)|(simp[doX,top,h1];done)) (by simp) (by simp) (by simp[tkS,gvS]) om_ (by simp[yi_]) om_ om_
 ·simp[xv_,y3_,isW] at hf;simp[tkS] at htk;obtain⟨r,v,rfl⟩:=vb_ (st:=st) om_;exact(ank_ v a b cc om_ om_ om_ om_ om_ h hx).mono fun e w' hp=>kk_ hp (by first|rfl|(simp[doX,top];done)|(simp[doX,top,h2];done)|(simp[doX,top,h1];done)) (by simp) rfl (by simp[tkS,gvS]) om_ (by simp[yi_]) (by split <;> omega) (by split <;> omega)
 ·simp[xv_,y3_,isW] at hf;simp[tkS] at htk;obtain⟨r,i',v,rfl⟩:=aiw_ (st:=st) om_;exact(akl_ i' v a b cc om_ om_ om_ om_ om_ h hx).mono fun e w' hp=>kk_ hp (by first|rfl|(simp[doX,top];done)|(simp[doX,top,h2];done)|(simp[doX,top,h1];done)) (by simp) (by split <;> simp) (by first|(simp[tkS,gvS];done)|(simp[tkS,gvS];omega)) om_ (by simp[yi_]) (by split <;> omega) (by split <;> omega)
 · simp[yg_] at hu;subst hu;have ho:=ad6_ ⟨6,a,b,0⟩;simp[tkS] at htk;by_cases h2:zy_ ⟨6,a,b,0⟩=2
   ·obtain⟨r,v1,v2,rfl⟩:=aiw_ (st:=st) om_;exact(air_ a b v1 v2 h2 h hx).mono fun e w' hp=>kk_ hp (by first|rfl|(simp[doX,top];done)|(simp[doX,top,h2];done)|(simp[doX,top,h1];done)) (by simp) rfl (by first|(simp[tkS,gvS,h2];done)|(simp[tkS,gvS,h2];omega)) om_ (by simp[yi_]) (by split <;> omega) (by split <;> omega)
   ·have h1:zy_ ⟨6,a,b,0⟩=1:=om_;obtain⟨r,v1,rfl⟩:=vb_ (st:=st) om_;exact(ais_ a b v1 h1 h hx).mono fun e w' hp=>kk_ hp (by first|rfl|(simp[doX,top];done)|(simp[doX,top,h2];done)|(simp[doX,top,h1];done)) (by simp) rfl (by simp[tkS,gvS,h1]) om_ (by simp[yi_]) (by split <;> omega) (by split <;> omega)
 ·simp[yg_] at hu;subst hu;simp[tkS] at htk;obtain⟨r,v,rfl⟩:=vb_ (st:=st) om_;exact(atf_ v a b h hx).mono fun e w' hp=>kk_ hp (by first|rfl|(simp[doX,top];done)|(simp[doX,top,h2];done)|(simp[doX,top,h1];done)) (by simp) rfl (by simp[tkS,gvS]) om_ (by simp[yi_]) om_ om_
 ·simp[yg_] at hu;obtain⟨⟨rfl,rfl⟩,rfl⟩:=hu;simp[tkS] at htk;obtain⟨r,g,v1,v2,rfl⟩:=at9_ (st:=st) om_;exact(atc_ g v1 v2 h hx).mono fun e w' hp=>kk_ hp (by first|rfl|(simp[doX,top];done)|(simp[doX,top,h2];done)|(simp[doX,top,h1];done)) (by simp) rfl (by first|(simp[tkS,gvS];done)|(simp[tkS,gvS];omega)) om_ (by simp[yi_]) om_ om_
 ·simp[yg_] at hu;obtain⟨⟨rfl,rfl⟩,rfl⟩:=hu;simp[tkS] at htk;obtain⟨r,v,rfl⟩:=vb_ (st:=st) om_;exact(avt_ v h hx).mono fun e w' hp=>kk_ hp (by first|rfl|(simp[doX,top];done)|(simp[doX,top,h2];done)|(simp[doX,top,h1];done)) (by simp) rfl (by first|(simp[tkS,gvS];done)|(simp[tkS,gvS];omega)) om_ (by simp[yi_]) om_ om_
 ·simp[yg_] at hu;obtain⟨⟨rfl,rfl⟩,rfl⟩:=hu;simp[tkS] at htk;obtain⟨r,v,rfl⟩:=vb_ (st:=st) om_;exact(atd_ v h hx).mono fun e w' hp=>kk_ hp (by first|rfl|(simp[doX,top];done)|(simp[doX,top,h2];done)|(simp[doX,top,h1];done)) (by simp) rfl (by simp[tkS,gvS]) om_ (by simp[yi_]) om_ om_
 ·exact absurd rfl hd.1
 ·exact absurd rfl hd.2.1
 ·exact absurd rfl hd.2.2.1
 ·exact absurd rfl hd.2.2.2
 ·simp[yg_] at hu;obtain⟨⟨rfl,rfl⟩,rfl⟩:=hu;exact(ate_ h hx).mono fun e w' hp=>kk_ hp (by first|rfl|(simp[doX,top];done)|(simp[doX,top,h2];done)|(simp[doX,top,h1];done)) (by simp) rfl (by simp[tkS,gvS]) om_ (by simp[yi_]) om_ om_
 ·simp[xv_,y3_,isW] at hf;obtain⟨j,rfl⟩:=Int.eq_ofNat_of_zero_le (show 0≤a by omega);obtain⟨k,rfl⟩:=Int.eq_ofNat_of_zero_le (show 0≤b by omega);exact(atg_ j k cc om_ om_ h hx).mono fun e w' hp=>kk_ hp (by first|rfl|(simp[doX,top];done)|(simp[doX,top,h2];done)|(simp[doX,top,h1];done)) (by simp) (v7_ _ _ _ _) (by simp[tkS,gvS]) om_ (by simp[yi_]) om_ om_
 · simp[yg_] at hu;subst hu;simp[xv_,z3_,y3_,isW] at hf;obtain⟨u,rfl⟩:=Int.eq_ofNat_of_zero_le (show 0≤a by omega);obtain⟨j,rfl⟩:=Int.eq_ofNat_of_zero_le (show 0≤b by omega);have hul:u<l.length:=om_;have hgd:(l.getD u (0,0)).2=(l[u]?.getD (0,0)).2:=rfl;obtain⟨fa,ffc,hc⟩:=hfst u hul;have hstep:yi_ bds ⟨17,(u:Int),(j:Int),0⟩=1+bds.getD u 0:=(by simp[yi_]);rw[hstep] at hsp ⊢;refine(atm_ u j (l.getD u (0,0)).2 ffc fa (fun w'=>∃ m',WkX w B M F (.slice (some ⟨pb,po,none⟩) np pcap) now (sb sa) ar.length ((st.length:Int) - tkS ⟨17,(u:Int),(j:Int),0⟩+gvS ⟨17,(u:Int),(j:Int),0⟩).toNat sp fl (1+bds.getD u 0 - 1) 1 m' w'∧WhX ps now off ⟨17,(u:Int),(j:Int),0⟩ ⟨st,ar,sp,fl⟩ m') om_ (by simp at hf ⊢;omega) h hx hc ?_);intro W off' cc' hW hoff ho' hc';refine(hR u hul W B M F off' cc' ar sa sc st sp fl ⟨h.ma.kept hW,h.fr.grown hW,h.fm,h.fb,h.cw.trans hW,h.cM,h.cB,h.cF,by have:=h.bw;have:=hW.size;omega,ho',hc',by have:=h.n2;simp at hf;omega,h.sl,h.f0,h.f1,h.s0,h.s1⟩ om_ hfl om_).mono ?_;rintro e w' ⟨g0,m1,⟨sa',sc',g1,g2,g3,g4,g5,g6,g7,g8,g9,g10⟩,k,hex⟩;refine⟨g0,⟨m1,⟨sa',sc',g1,g2,g3,?_,g5,by omega,g7,by omega,(Chg.of_none hW).trans (Nx.refl _ _) g9,Nx.trans hW.size (Nx.refl _ _) g10⟩,.inr ⟨rfl,k,?_⟩⟩,?_⟩
   ·rw[g4];simp[tkS,gvS]
   · have hex2:Ex ps now k u (off+j) 0 j4_ ⟨st,ar,sp,fl⟩ m1:=by
      rcases hoff with rfl|hz
      ·exact hex
      ·exact hex.any_off hok om_ ((hlg u hul).symm.trans hz) _
     simpa using hex2
   ·exact y4_ (h.cw.trans hW) g9 h.cM (fun y hy=>by simp at hy;have:=h.cF;omega) (fun y hy=>by have:=(h.ma.row y hy).1;have:=h.cB;omega)
 ·simp[yg_] at hu;subst hu;simp[xv_,y3_,isW] at hf;obtain⟨j,rfl⟩:=Int.eq_ofNat_of_zero_le (show 0≤b by have:=hf.2;omega);refine(avu_ a j om_ om_ om_ hS h hx).mono fun e w' hp=>kk_ hp.1 (by first|rfl|(simp[doX,top];done)|(simp[doX,top,h2];done)|(simp[doX,top,h1];done)) (by simp) hp.2 (by simp[tkS,gvS]) om_ (by simp[yi_]) om_ om_
 ·simp[yg_,show ¬d=4 by omega,show ¬d=5 by omega,show ¬d=16 by omega,show ¬d=6 by omega,show ¬d=7 by omega,show ¬d=13 by omega,show ¬d=14 by omega,show ¬d=17 by omega,show ¬d=18 by omega,show ¬d=1 by omega,show ¬d=2 by omega,show ¬d=3 by omega,show ¬d=11 by omega,show ¬d=12 by omega,show ¬d=8 by omega,show ¬d=9 by omega,show ¬d=10 by omega,show ¬d=15 by omega] at hu
theorem Ctx.step {c w:World} {B M F off n fc:Nat} {ar:List Int} {pv:Value} {now:Int} {sa:Option Addr} {sc:Nat} {st:List Int} {sp fl:Int} (h:Ctx c w B M F off n fc ar pv now sa sc st sp fl) (h1:sp+1≤1000000000000):Ctx c (w.setCell ⟨M,3,none⟩ (.int .i64 (sp+1))) B M F off n fc ar pv now sa sc st (sp+1) fl:=by
 have hc:Chg M none (sb sa) w (w.setCell ⟨M,3,none⟩ (.int .i64 (sp+1))):=q4_ M 3 _ _ w _;exact⟨h.ma.setS (sp+1),h.fr.chg hc h.fm rfl (fun y hy=>by have:=(h.ma.row y hy).1;have:=h.fb;omega),h.fm,h.fb,y4_ h.cw hc h.cM (fun y hy=>by simp at hy) (fun y hy=>by have:=(h.ma.row y hy).1;have:=h.cB;omega),h.cM,h.cB,h.cF,by have:=h.bw;simpa using this,h.hn,h.nc,h.n2,h.sl,h.f0,h.f1,by have:=h.s0;omega,h1⟩
theorem _root_.Go.World.grownBy.trans2 {c w:World} {C:Nat} (h:c.grownBy w none) (hC:c.heap.size≤C) (k:Nat) (v:Value):c.grownBy (w.setCell ⟨C,k,none⟩ v) none:=
 ⟨h.os,h.tape,h.output,by simpa using h.size,fun x hx h1=>by rw[Below.heap_setCell _ _ _ _ (by simp;omega)];exact h.block x hx h1⟩
theorem FrAt.getC {w:World} {C:Nat} {cs:List Int} (h:w.heap[C]?=some (.cells (xi_ cs) 82)) (k:Nat) (hk:k<cs.length):w.cell? ⟨C,k,none⟩=some (.int .i64 (cs.getD k 0)):=by
 have:=xa_ h k;rw[this];simp[xi_,hk]
theorem aqx_ {c:World} {tb o:Nat} {x:Ins} (h:InsAt c tb o x):tb<c.heap.size:=by
 cases hl:c.heap[tb]? with
 | none=>have:=h.d;simp[World.cell?,hl] at this
 | some o'=>exact xg_ hl
theorem MaC.else {w:World} {B M C:Nat} {pv:Value} {now:Int} {sa:Option Addr} {sc:Nat} {st:List Int} {sp fl:Int} (h:MaC w B M pv now sa sc st sp fl) (hM:C≠M) (hr:some C≠sb sa) (k:Nat) (v:Value):MaC (w.setCell ⟨C,k,none⟩ v) B M pv now sa sc st sp fl:=by
 refine⟨by rw[Below.heap_setCell _ _ _ _ (by simpa using Ne.symm hM)];exact h.blk,?_,h.lo⟩;exact World.ownsRow.kept h.own (x3_ (World.grownBy.refl w (some C)) _ _) (.inr fun e=>by rw[jl_] at e;exact hr e.symm)
theorem Ctx.else {c w:World} {B M F off n fc C:Nat} {ar:List Int} {pv:Value} {now:Int} {sa:Option Addr} {sc:Nat} {st:List Int} {sp fl:Int} (h:Ctx c w B M F off n fc ar pv now sa sc st sp fl) (hC:B≤C) (hr:some C≠sb sa) (k:Nat) (v:Value):Ctx c (w.setCell ⟨C,k,none⟩ v) B M F off n fc ar pv now sa sc st sp fl:=
 ⟨h.ma.else (by have:=h.ma.lo;omega) hr k v,by unfold FrAt;rw[Below.heap_setCell _ _ _ _ (by have:=h.fb;simp;omega)];exact h.fr,h.fm,h.fb,h.cw.trans2 (by have:=h.cB;omega) k v,h.cM,h.cB,h.cF,by have:=h.bw;simpa using this,h.hn,h.nc,h.n2,h.sl,h.f0,h.f1,h.s0,h.s1⟩
theorem aiz_ {M C:Nat} {F r:Option Nat} {w w':World} (h:Chg M F r w w') (hC:w.heap.size≤C) (k:Nat) (v:Value):Chg M F r w (w'.setCell ⟨C,k,none⟩ v):=
 ⟨h.os,h.tape,h.output,by simpa using h.size,fun x hx h1 h2 h3=>by rw[Below.heap_setCell _ _ _ _ (by simp;omega)];exact h.block x hx h1 h2 h3⟩
theorem akn_ {cs:List Int} (h:cs.length=40∧∀ x,x∈cs→x≤10000) (k:Nat) {v:Int} (hv:v≤10000):(cs.set k v).length=40∧∀ x,x∈cs.set k v→x≤10000:=
 ⟨by simpa using h.1,fun x hx=>by
  rcases List.mem_or_eq_of_mem_set hx with h1|h1
  ·exact h.2 x h1
  ·omega⟩
theorem Ctx.kept {c w w':World} {B M F off n fc:Nat} {ar:List Int} {pv:Value} {now:Int} {sa:Option Addr} {sc:Nat} {st:List Int} {sp fl:Int} (h:Ctx c w B M F off n fc ar pv now sa sc st sp fl) (hg:w.grownBy w' none):Ctx c w' B M F off n fc ar pv now sa sc st sp fl:=
 ⟨h.ma.kept hg,h.fr.grown hg,h.fm,h.fb,h.cw.trans hg,h.cM,h.cB,h.cF,by have:=h.bw;have:=hg.size;omega,h.hn,h.nc,h.n2,h.sl,h.f0,h.f1,h.s0,h.s1⟩
theorem avy_ {t:List Ins} {s:Nat→Int} (L:Lk t) (hs:∀ k,k<t.length→0≤s k) {c:Int→Int} {i:Nat} (hi:i<t.length) (hc:Cn t c i):s i≤phi t s c i:=by
 have hr:∀ k,0≤rR t c i k:=fun k=>by
  unfold rR;refine Int.mul_nonneg (by have:=ki_ L.bs i k (dn t.length);omega) ?_;have:=agn_ L.bs hc k (dn t.length);split <;> omega
 have h1:1≤rR t c i i:=by
  unfold rR;rw[if_pos (Nat.le_refl _)];have h2:=ki_ L.bs i i (dn t.length);have h3:=agn_ L.bs hc i (dn t.length);exact(z7_ h2 (by omega)).1
 unfold phi;rw[← aef_ s i t.length hi];refine ago_ _ (fun k hk=>?_);by_cases e:k=i
 ·subst e;rw[if_pos rfl];have:=Int.mul_le_mul_of_nonneg_left h1 (hs k hk);omega
 ·rw[if_neg e];exact Int.mul_nonneg (hs k hk) (hr k)
theorem aag_ {t:List Ins} {s:Nat→Int} {i p:Nat} {c c':Int→Int} {gk:Nat} (L:Lk t) (hs:∀ k,k<t.length→0≤s k) (hN:Nxt t s c i p c') (h1:1≤s i) (hg:gk=(phi t s c i).toNat):(phi t s c' p).toNat<gk:=by
 obtain⟨n1,n2,n3,n4,n5,n6,n7⟩:=hN;have:=abp_ (s:=s) L.bs hs n2;omega
structure TxtC (c:World) (pb q tb to' tn tc:Nat) (t:List Ins):Prop where
 cell:c.cell? ⟨pb,q+4,none⟩=some (.slice (some ⟨tb,to',none⟩) tn tc)
 len:t.length=tn
 ins:∀ i,i<tn→InsAt c tb (to'+i*4) (nth t i)
def adc_ (w:World) (R:List Int×Int×Int) (e:Ending) (w':World):Prop:=
 ∃ v,e=.returned (.tuple #[v,.agg #[.int .i64 R.2.1,.int .i64 R.2.2,.int .i64 0]])∧OwnV w.heap.size w' v R.1∧w.grownBy w' none
set_option maxRecDepth 10000 in
theorem aj4_ (cv:Value) (ps:List Pr) (w:World) (hC:CdP w cv ps) (hS:Stds w) (hl:ps.length≤1000000000000000) :
 Calls Tryz.prog 14 #[.agg #[cv]] w (adc_ w (jx_ (Classical.propDecidable,()) ps)):=by
 obtain⟨ca,cap,rfl,hcap,hc⟩:=hC;have HC:=hd_ hc;have HS:=hd_ hS;clear hc hS;obtain⟨n,hn⟩:∃ n,ps.length=n:=⟨_,rfl⟩;have HN:=hd_ hn;rw[hn] at hl hcap ⊢;clear hn;by_cases h16:16<n
 ·have HR:=hd_ (by unfold jx_;rw[if_pos (by rw[HN.out];exact h16)]:jx_ (Classical.propDecidable,()) ps=([],12,0));have h16':(16:Int)<(n:Int):=(by omega);go_enter Tryz.func14,Tryz.ntmps14;go_wp2;refine bodyPost_ret (v:=.tuple #[.slice none 0 0,.agg #[.int .i64 12,.int .i64 0,.int .i64 0]]) (by simp[results,Tryz.results14,go_sem]) rfl ?_;rw[HR.out];exact⟨_,rfl,OwnV.nil _ _,xb_ (gr1 _ _) _⟩
 · have h16':¬((16:Int)<(n:Int)):=(by omega);obtain⟨H,hH⟩:∃ H,w.heap.size=H:=⟨_,rfl⟩;go_enter Tryz.func14,Tryz.ntmps14;go_wp2;have HR:=hd_ (by unfold jx_;rw[if_neg (by rw[HN.out];exact h16),HN.out]:jx_ (Classical.propDecidable,()) ps=kx_ (Classical.propDecidable,()) ps n 0 []);go_loopg [4,16] n (fun gk s4 s16 wx=>∃(k:Nat) (b:List Int) (bv:Value),bv=s4∧s16=.int .i64 k∧k≤n∧gk=n - k∧kx_ (Classical.propDecidable,()) ps (n - k) k b=kx_ (Classical.propDecidable,()) ps n 0 []∧b.length=k∧(∀ x,x∈b→0≤x∧x≤1000000000)∧OwnV (H+2) wx bv b∧wx.heap[H]?=some (.cells #[.slice ca n cap] 24)∧wx.heap[H+1]?=some (.cells #[.int .i64 0,.int .i64 0,.int .i64 0] 46)∧w.grownBy wx none∧H+2≤wx.heap.size)
   case atStart=>
    refine⟨0,[],_,rfl,rfl,Nat.zero_le _,by omega,rfl,rfl,by simp,OwnV.nil _ _,?_,?_,xb_ (gr1 _ _) _,by simp[hH]⟩
    ·rw[xh_ (by simp[hH]),xj_ hH.symm]
    ·rw[xj_ (by simp[hH])]
   case round=>
    obtain⟨k,b,bv,hs4,rfl,hk,hgk,hver,hbl,hbd,hown,hb0,hb1,hgr,hsz⟩:=hrel;subst hs4;have HG:=hd_ hgk;have HV:=hd_ hver;have HBL:=hd_ hbl;have HBD:=hd_ hbd;have HO:=hd_ hown;have HB0:=hd_ hb0;have HB1:=hd_ hb1;clear hgk hver hbl hbd hown hb0 hb1;by_cases hlt:k<n
    · have hkl:k<ps.length:=(by rw[HN.out];exact hlt);rcases HC.out with h|⟨b',off,rfl,hc⟩
      ·subst h;simp at hkl
      obtain⟨fv,sv,tv,hp⟩:=hc k hkl;have z0:=xa_ HB0.out 0;simp at z0;have hg0:=hgr;have cL:∀ w',wr.grownBy w' none→Calls Tryz.prog 19 #[.slice (some ⟨b',off,none⟩) k cap,bv,.pointer (some ⟨b',off+k*5,none⟩)] w' fun e w2=>e=.returned (.tuple #[.int .i64 (kh_ (Classical.propDecidable,()) ps k b).1,.int .i64 (kh_ (Classical.propDecidable,()) ps k b).2])∧w'.grownBy w2 none:=fun w' hw'=>by
       have hgw:=hgr.trans hw';have hpw:=hp.grown hgw;obtain⟨fa,fc,hfv,_⟩:=hpw.first
       refine aga_ (ahd ps k) b (ps.getD k pr0).k (ps.getD k pr0).fs.length (ps.getD k pr0).tx _ bv b' (off+k*5) tv w' ⟨ape_ (cap:=cap) (fun i hi=>?_) k (by omega),hpw.kind,⟨fa,fc,by rw[← hfv];exact hpw.fcell⟩,hpw.tcell,hpw.text,Nat.le_refl _⟩ (HS.out.grown hgw) (by rw[ji_ ps k (by omega)];omega) (HO.out.keptN hw').rd (by rw[ji_ ps k (by omega)];exact HBL.out) HBD.out;obtain⟨f1,s1,t1,h1⟩:=hc i hi;exact⟨f1,s1,t1,h1.grown hgw⟩
      clear hc hp;obtain⟨u,hu⟩:∃ u,kh_ (Classical.propDecidable,()) ps k b=u:=⟨_,rfl⟩;have HU:=hd_ hu;rw[hu] at cL;obtain⟨bd,cd⟩:=u;dsimp only at cL;have i1:(0:Int)≤(k:Int):=(by omega);have i2:(k:Int)<(n:Int):=(by omega);have i3:(k:Int)≤(cap:Int):=(by omega);have i4:k≤cap:=(by omega);have i5:k<n:=(by omega);clear hu;go_wp2;go_region_held3 (fun w'=>w'.cell? ⟨H,0,none⟩=some (.slice (some ⟨b',off,none⟩) n cap)) (first|(go_keep;done)|exact hg1.cell (by first|assumption|(go_keep;done)) (by simp)) (first|(go_at_call 19;refine(cL _ (xf_ gz_)).mono ?_;rintro e w1 ⟨rfl,hg1⟩))
      have hgw1:wr.grownBy w1 none:=(xf_ gz_).trans hg1;have HO1:Hid (OwnV (H+2) w1 bv b):=HO.out.keptN hgw1;have e1:=kept hgw1 HB1.out;have HE1:=hd_ e1;have z1:=xa_ e1 0;have z2:=xa_ e1 1;have z3:=xa_ e1 2;simp at z1 z2 z3;have f1:=xc_ e1 0;have f2:=xc_ e1 1;have f3:=xc_ e1 2;have hsz1:=hgw1.size;have HVN:=hd_ (by
       rw[show n - k=(n - (k+1))+1 by omega];simp only[kx_,HU.out]:kx_ (Classical.propDecidable,()) ps (n - k) k b=if cd=0 then kx_ (Classical.propDecidable,()) ps (n - (k+1)) (k+1) (b++[bd]) else([],cd,(k:Int)))
      clear e1 cL hg1;by_cases hcd:cd=0
      · subst hcd;have hb2:=aea_ HBD.out (by rw[ji_ ps k (by omega)];exact HBL.out) (show(kh_ (Classical.propDecidable,()) ps k b).2=0 by rw[HU.out]);have HB2:=hd_ (by
         have h:=hb2;rw[show q5_ (Classical.propDecidable,()) (ahd ps k) b (ps.getD k pr0).k (ps.getD k pr0).fs.length (ps.getD k pr0).tx=(bd,0) from HU.out] at h;exact h:0≤bd∧bd≤1000000000)
        obtain⟨v',w2,hrun,hown2,hg2⟩:=(HO1.out.keptN (gr1 w1 (.cells #[.int .i64 bd] 3))).more bd w1.heap.size (heap_alloc_new _ _) (by rw[HBL.out];omega) (by simp;omega);have HRUN:Hid (_=_):=hrun;have HO2:=hd_ hown2;have hrow:=HO1.out.row;have HG2:Hid (w.grownBy w2 none∧w2.heap[H]?=some (.cells #[.slice (some ⟨b',off,none⟩) n cap] 24)∧w2.heap[H+1]?=some (.cells #[.int .i64 0,.int .i64 0,.int .i64 0] 46)∧H+2≤w2.heap.size):=by
         refine⟨x6_ (xb_ (hgr.trans hgw1) _) hg2 (.inr fun x hx=>by have:=hrow x hx;omega),?_,?_,?_⟩
         ·rw[hg2.block H (by simp;omega) (fun e=>by have:=hrow H e.symm;omega),xh_ (by omega)];exact kept hgw1 HB0.out
         ·rw[hg2.block (H+1) (by simp;omega) (fun e=>by have:=hrow (H+1) e.symm;omega),xh_ (by omega)];exact HE1.out
         ·have:=hg2.size;simp at this;omega
        clear hrun hown2 hg2 hb2 hrow z1 z2 z3 f1 f2 f3;go_wp2_with (first|(at_builtin;refine x0_ rfl _ _ 25 rfl _ _ _ w2 rfl rfl HRUN.out ?_))
        have hgl:=HG.out;go_roundg (n - (k+1))
        all_goals first|omega|exact⟨k+1,b++[bd],v',rfl,by go_num,by omega,by omega,by rw[← HV.out,HVN.out];simp,by simp[HBL.out],(fun x hx=>by
         rcases List.mem_append.1 hx with h|h
         ·exact HBD.out x h
         ·simp at h;subst h;exact HB2.out),HO2.out,HG2.out.2.1,HG2.out.2.2.1,HG2.out.1,HG2.out.2.2.2⟩
      ·have ec:(cd==0)=false:=(by simpa using hcd);have ec2:(cd != 0)=true:=(by simpa using hcd);have HRR:=hd_ (by rw[HR.out,← HV.out,HVN.out,if_neg hcd]:jx_ (Classical.propDecidable,()) ps=([],cd,(k:Int)));go_wp2;refine bodyPost_ret (v:=.tuple #[.slice none 0 0,.agg #[.int .i64 cd,.int .i64 k,.int .i64 0]]) (by simp[results,Tryz.results14,go_sem,z1,z2,z3]) rfl ?_;rw[HRR.out];exact⟨_,rfl,OwnV.nil _ _,by first|exact yc_ (yc_ (yc_ (hgr.trans hgw1) (by omega) _ _) (by omega) _ _) (by omega) _ _⟩
    · have hkn:k=n:=(by omega);subst hkn;have hk':¬((k:Int)<(k:Int)):=(by omega);have HRR:=hd_ (by rw[HR.out,← HV.out];simp[kx_]:jx_ (Classical.propDecidable,()) ps=(b,0,0));have z1:=xa_ HB1.out 0;have z2:=xa_ HB1.out 1;have z3:=xa_ HB1.out 2;simp at z1 z2 z3;have f1:=xc_ HB1.out 0;have f2:=xc_ HB1.out 1;have f3:=xc_ HB1.out 2;clear HG;go_wp2;refine bodyPost_ret (v:=.tuple #[bv,.agg #[.int .i64 0,.int .i64 0,.int .i64 0]]) (by simp[results,Tryz.results14,go_sem,z1,z2,z3]) rfl ?_;rw[HRR.out];have g1:wr.grownBy (((wr.setCell ⟨H+1,0,none⟩ (.int .i64 0)).setCell ⟨H+1,1,none⟩ (.int .i64 0)).setCell ⟨H+1,2,none⟩ (.int .i64 0)) (some (H+1)):=x3_ (x3_ (x3_ gz_ _ _) _ _) _ _;refine⟨_,rfl,?_,yc_ (yc_ (yc_ hgr (by omega) _ _) (by omega) _ _) (by omega) _ _⟩;have h1:=HO.out.kept g1 (.inr fun e=>by have:=HO.out.row _ e;omega);obtain⟨a1,a2⟩:=h1;refine⟨a1,?_⟩;rcases a2 with a2|⟨g,c,cur,q1,q2,q3⟩
      ·exact .inl a2
      ·exact .inr ⟨g,c,cur,q1,by omega,q3⟩
def vs_ (D:(∀ p:Prop,Decidable p)×Unit) (ps:List Pr) (unit:Int) (fl:Nat):Int:=
 if (jx_ D ps).2.1≠0 then 12 else if unit<0∨(ps.length:Int)≤unit then 6 else if fl≠(ps.getD unit.toNat pr0).fs.length then 4 else 0
theorem ako_ (cv:Value) (ps:List Pr) (unit:Int) (fa:Option Addr) (fl fc:Nat) (w:World) (hC:CdP w cv ps) (hS:Stds w) (hl:ps.length≤1000000000000000) :
 Calls Tryz.prog 17 #[.agg #[cv],.int .i64 unit,.slice fa fl fc] w fun e w'=>e=.returned (.int .i64 (vs_ (Classical.propDecidable,()) ps unit fl))∧w.grownBy w' none:=by
 obtain⟨ca,cap,rfl,hcap,hc⟩:=hC;have HC:Hid (CdP w (.slice ca ps.length cap) ps):=⟨ca,cap,rfl,hcap,hc⟩;have HCC:=hd_ hc;have HS:=hd_ hS;obtain⟨n,hn⟩:∃ n,ps.length=n:=⟨_,rfl⟩;have HN:=hd_ hn;rw[hn] at hl hcap HC;obtain⟨l,cd,un,hR⟩:∃ l cd un,jx_ (Classical.propDecidable,()) ps=(l,cd,un):=⟨_,_,_,rfl⟩;have HR:=hd_ hR;have cV:∀ W,w.grownBy W none→Calls Tryz.prog 14 #[.agg #[.slice ca n cap]] W (adc_ W (l,cd,un)):=fun W hW=>by
  rw[← hR];exact aj4_ _ ps W (HC.out.grown hW) (HS.out.grown hW) (by omega)
 have HRV:Hid (vs_ (Classical.propDecidable,()) ps unit fl=if cd≠0 then 12 else if unit<0∨(n:Int)≤unit then 6 else if fl≠(ps.getD unit.toNat pr0).fs.length then 4 else 0):=by
  unfold vs_;rw[hR,hn];exact rfl
 rw[hn];generalize vs_ (Classical.propDecidable,()) ps unit fl=R at HRV ⊢;clear hc hS hR hn hcap;obtain⟨H,hH⟩:∃ H,w.heap.size=H:=⟨_,rfl⟩;go_enter Tryz.func17,Tryz.ntmps17;go_wp2_with fail
 refine(cV _ (gr1 _ _)).mono ?_;rintro e w1 ⟨v,rfl,hown,hg⟩;have HG:Hid (w.grownBy w1 none):=(gr1 _ _).trans hg;have z1:=xa_ (kept hg (xj_ hH.symm (.cells #[.slice ca n cap] 24))) 0;simp at z1;have z1a:∀ o:Obj,(w1.alloc o).cell? ⟨H,0,none⟩=some (.slice ca n cap):=fun o=>(gr1 w1 o).cell z1 (by simp);obtain⟨H1,hH1⟩:∃ H1,w1.heap.size=H1:=⟨_,rfl⟩;clear hown hg cV;by_cases h1:cd=0
 · subst h1;by_cases h2:unit<0
   ·have g2:decide (unit<0)=true:=(by simpa using h2);have e:R=6:=(by rw[HRV.out,if_neg (by simp),if_pos (.inl h2)]);subst e;clear HRV;go_wp2;go_ret;exact⟨rfl,xb_ HG.out _⟩
   · have g2:decide (unit<0)=false:=(by simpa using h2);obtain⟨k,rfl⟩:=Int.eq_ofNat_of_zero_le (show 0≤unit by omega);by_cases h3:k<n
     · have g3:decide ((n:Int)≤(k:Int))=false:=(by simp;omega);obtain⟨b,off,rfl,hcc⟩:∃ b off,ca=some ⟨b,off,none⟩∧∀ i,i<ps.length→∃ fv sv tv,PrAt w b (off+i*5) (ps.getD i pr0) fv sv tv:=by
        rcases HCC.out with h|h
        ·have:=HN.out;rw[h] at this;simp at this;omega
        ·exact h
       obtain⟨fv,sv,tv,hp⟩:=hcc k (by rw[HN.out];exact h3);obtain⟨fa',fc',rfl,_⟩:=hp.first
       have hq:=HG.out.cell hp.fcell (by simp);have e0:R=if fl≠(ps.getD k pr0).fs.length then 4 else 0:=by rw[HRV.out,if_neg (by simp),if_neg (by omega)];rfl
       clear HRV HCC HC;generalize hm:(ps.getD k pr0).fs.length=m at hq e0;have hqa:∀ o:Obj,(w1.alloc o).cell? ⟨b,off+k*5+2,none⟩=some (.slice fa' m fc'):=fun o=>(gr1 w1 o).cell hq (by simp);have i1:(0:Int)≤(k:Int):=(by omega);have i2:(k:Int)<(n:Int):=(by omega);clear hcc hp hm;by_cases h4:fl=m
       ·subst h4;have e:R=0:=(by rw[e0,if_neg (by simp)]);clear e0;subst e;go_wp2;go_ret;exact⟨rfl,xb_ HG.out _⟩
       ·have g4:((fl:Int)==(m:Int))=false:=(by simp;omega);have g5:((fl:Int) != (m:Int))=true:=(by simp;omega);have e:R=4:=(by rw[e0,if_pos h4]);clear e0;subst e;go_wp2;go_ret;exact⟨rfl,xb_ HG.out _⟩
     ·have g3:decide ((n:Int)≤(k:Int))=true:=(by simp;omega);have e:R=6:=(by rw[HRV.out,if_neg (by simp),if_pos (.inr (by omega))]);subst e;clear HRV;go_wp2;go_ret;exact⟨rfl,xb_ HG.out _⟩
 ·have g1:(cd != 0)=true:=(by simpa using h1);have e:R=12:=(by rw[HRV.out,if_pos h1]);subst e;clear HRV;go_wp2;go_ret;exact⟨rfl,xb_ HG.out _⟩
end Go.Proofs.YtcgbfhpmkpglkaaGreatDoor
namespace Go.Proofs.YtcgbfhpmkpglkaaGreatDoor
open Go.RowKit
theorem aah_ (W:World) (b:Nat) (cs:Array Value) (hs:cs.size=4) (hg:W.heap[b]?=some (.cells cs 28)):(((asAddr (.pointer (some ⟨b,0,none⟩))).run Tryz.prog W).andThen fun a w'=>(loadVar 28 a).run Tryz.prog w')=.ok (.agg cs) W:=by
 have hi:(Tryz.prog.info? 28).map (·.size)=some 4:=(by kernel_rfl);have h:=run_loadVar_row (P:=Tryz.prog) W b 28 28 cs (0,0) _ hg Tryz.underlying28 rfl (by rw[hs];exact hi);simp[asAddr,h,Result.andThen]
theorem acr_ {ps:List Pr} {unit:Int} {m:Nat} (h:vs_ (Classical.propDecidable,()) ps unit m=0):∃(k:Nat) (bds:List Int) (e:Int),unit=(k:Int)∧k<ps.length∧jx_ (Classical.propDecidable,()) ps=(bds,0,e)∧m=(ps.getD k pr0).fs.length:=by
 unfold vs_ at h;split at h
 ·simp at h
 · rename_i h1;split at h
   ·simp at h
   · rename_i h2;split at h
     ·simp at h
     ·rename_i h3;obtain⟨k,rfl⟩:=Int.eq_ofNat_of_zero_le (show 0≤unit by omega);obtain⟨bds,cd,e,hR⟩:∃ bds cd e,jx_ (Classical.propDecidable,()) ps=(bds,cd,e):=⟨_,_,_,rfl⟩;rw[hR] at h1;refine⟨k,bds,e,rfl,by omega,?_,by simpa using h3⟩;rw[hR];simp at h1;rw[h1]
theorem atn_ {w:World} {F m fc:Nat} {fa:Option Addr} {fr:List Int} (hF:FrAt w F (List.replicate m 0)) (hr:rd w (.slice fa m fc) fr) (hm:fr.length=m) :
 ∃ w',(Builtin.copy_ #[25,25] 3 #[.slice (some ⟨F,0,none⟩) m m,.slice fa m fc]).run Tryz.prog w=.ok (.int .i64 m) w'∧FrAt w' F fr∧(∀ k,k≠F→w'.heap[k]?=w.heap[k]?)∧w'.heap.size=w.heap.size∧w'.os=w.os∧w'.tape=w.tape∧w'.output=w.output:=by
 have hs:(Tryz.prog.info? 3).map (·.size)=some 1:=(by kernel_rfl);obtain⟨a,cap,e,h⟩:=hr;rcases h with rfl|⟨b,off,rfl,hc⟩
 ·simp at hm;subst hm;refine⟨w,?_,by simpa using hF,fun _ _=>rfl,rfl,rfl,rfl,rfl⟩;exact run_copy_none (P:=Tryz.prog) w 25 25 3 3 (some ⟨F,0,none⟩) fa 0 0 0 fc Tryz.underlying25 hs (by simp)
 · injection e with e1 e2 e3;subst e1;have hr:=run_copy_row (P:=Tryz.prog) w 25 25 3 3 F 0 m m ⟨b,off,none⟩ m fc (xi_ (List.replicate m 0)) 3 (fr.map (Value.int .i64)) Tryz.underlying25 hs hF (by rw[List.length_map,hm];simp)
    (fun j v hj=>by
      rw[jc_];have hj':j<fr.length:=by
       rcases Nat.lt_or_ge j fr.length with h|h
       ·exact h
       ·simp[List.getElem?_eq_none,h] at hj
      rw[hc j hj'];simp[List.getD,hj'] at hj ⊢;exact hj)
    (by simp[xi_,hm]) (by simp[Value.oneCell'])
   rw[List.length_map,hm] at hr;refine⟨_,hr,?_,fun k hk=>setRow_other _ _ _ _ hk,by simp[World.setRow],rfl,rfl,rfl⟩;unfold FrAt;rw[setRow_heap _ _ _ _ 3 _ hF];simp[xi_]
end Go.Proofs.YtcgbfhpmkpglkaaGreatDoor
namespace Go.Proofs.YtcgbfhpmkpglkaaGreatDoor
open Go.RowKit
attribute [local go_sem ↓] Go.wp_at_zero Go.wp_at_succ
theorem abr_ {ps:List Pr}:∀(m k:Nat) (b bds:List Int) (e:Int),kx_ (Classical.propDecidable,()) ps m k b=(bds,0,e)→∀ u,k≤u→u<k+m→(ps.getD u pr0).fs.length≤20000:=by
 intro m;induction m with
 | zero=>intro k b bds e hv u h1 h2;omega
 | succ m ih=>
  intro k b bds e hv u h1 h2;simp only[kx_] at hv;by_cases h0:(kh_ (Classical.propDecidable,()) ps k b).2=0
  · rw[if_pos h0] at hv;by_cases hu:u=k
    · subst hu;unfold kh_ q5_ at h0;split at h0
      ·rename_i hP;exact hP.frame
      ·simp at h0
    ·exact ih (k+1) _ bds e hv u (by omega) (by omega)
  ·rw[if_neg h0] at hv;simp at hv;exact absurd hv.2.1 h0
end Go.Proofs.YtcgbfhpmkpglkaaGreatDoor
