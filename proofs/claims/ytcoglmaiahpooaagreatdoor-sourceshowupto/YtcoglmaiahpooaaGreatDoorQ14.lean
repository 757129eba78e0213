/- Texts put together: Fa, Fb, Fe, Fh, Fi, Fj, Da, Na, Nb, Dk. -/
import Derived.Test.YtcoglmaiahpooaaGreatDoorQ10
import Derived.Laws.CopyRow
import Derived.Test.YtcoglmaiahpooaaGreatDoorQ12
import Derived.Lib.ConvBytes
set_option linter.unusedVariables false
set_option linter.unusedSimpArgs false
set_option maxHeartbeats 8000000
namespace Go.Proofs.YtcoglmaiahpooaaGreatDoor
open Go.RowKit
attribute [local go_sem ↓] Go.wp_at_zero Go.wp_at_succ
theorem vg_ {P:Program} (w:World) (dT sT ty elem:TypeId) (g o dLen dCap:Nat) (a:Addr) (sLen sCap n s:Nat) (cur:Array Value) (t:TypeId) (cs:List Value)
 (hu:P.underlying dT=some (.slice elem)) (hs:(P.info? elem).map (·.size)=some s)
 (hg:w.heap[g]?=some (.cells cur t (0,0))) (hn:Nat.min sLen dLen=n) (hcs:cs.length=n*s)
 (hsrc:∀ j v,cs[j]?=some v→w.cell? (a.add j)=some v) (hfit:o+cs.length≤cur.size) (h1:∀ v∈cs,v.oneCell'=true) :
 (Builtin.copy_ #[dT,sT] ty #[.slice (some ⟨g,o,none⟩) dLen dCap,.slice (some a) sLen sCap]).run P w =
  .ok (goInt n) (w.setRow g (cur.toList.take o++cs++cur.toList.drop (o+cs.length)).toArray):=by
 have hl:=run_loadCells_list (P:=P) w a cs hsrc;have hst:=run_storeCells_at P g o t cs 0 cur w hg (by simpa using hfit) h1;cases hq:P.info? elem with
 | none=>simp[hq] at hs
 | some i=>
  have hi:i.size=s:=(by simpa[hq] using hs);rw[hcs] at hl;simp[Builtin.copy_,run_underlying hu,Builtin.lenOf,Builtin.firstCells,sizeOf,typeInfo,hq,hi,hn,hl,hst]
theorem ko_ {P:Program} (w:World) (dT sT ty elem:TypeId) (d x:Option Addr) (dLen dCap sCap s:Nat) (hu:P.underlying dT=some (.slice elem)) (hs:(P.info? elem).map (·.size)=some s) :
 (Builtin.copy_ #[dT,sT] ty #[.slice d dLen dCap,.slice x 0 sCap]).run P w=.ok (goInt 0) w:=by
 cases hq:P.info? elem with
 | none=>simp[hq] at hs
 | some i=>
  have hi:i.size=s:=(by simpa[hq] using hs);cases x <;> cases d <;> simp[Builtin.copy_,run_underlying hu,Builtin.lenOf,Builtin.firstCells,sizeOf,typeInfo,hq,hi,storeCells,loadCells,loadCellsFrom]
inductive CXs (w:World) (B:Nat):Value→List PE→Prop
 | mk (v:Value) (l:List PE) (ks:List Value) (g:Nat) (sp:List Value) (hv:v=.slice (some ⟨g,0,none⟩) l.length (l.length+2)) (hl:ks.length=l.length) (hB:B≤g) (hn:l.length≤4000000)
  (hr:w.heap[g]?=some (.cells ((l.zip ks).flatMap (fun p=>xC p.1 p.2)++sp).toArray 50)) (hs:sp.length=16) (h9:sp[6]?=some (.int .i64 (-9))) (hk:∀ p,p∈l.zip ks→CXs w B p.2 p.1.kids):CXs w B v l
theorem CXs.kept {w w':World} {B:Nat} (hk:∀ b,B≤b→b<w.heap.size→w'.heap[b]?=w.heap[b]?) {v:Value} {l:List PE} (h:CXs w B v l):CXs w' B v l:=by
 induction h with
 | mk v l ks g sp hv hl hB hn hr hs h9 _ ih=>exact .mk v l ks g sp hv hl hB hn ((hk g hB (x6_ hr)).trans hr) hs h9 ih
theorem CXs.gw {w w':World} {B:Nat} {v:Value} {l:List PE} (h:CXs w B v l) (hg:w.grownBy w' none):CXs w' B v l:=h.kept fun b _ hl=>hg.block b hl (by simp)
theorem CXs.mono {w:World} {B B':Nat} (hb:B'≤B) {v:Value} {l:List PE} (h:CXs w B v l):CXs w B' v l:=by
 induction h with
 | mk v l ks g sp hv hl hB hn hr hs h9 _ ih=>exact .mk v l ks g sp hv hl (by omega) hn hr hs h9 ih
theorem ze_ (L:List (PE×Value)):(L.flatMap fun p=>xC p.1 p.2).length=L.length*8:=by
 induction L with
 | nil=>rfl
 | cons x L ih=>rw[List.flatMap_cons,List.length_append,ih,z8_,List.length_cons];omega
theorem CXs.xs {w:World} {B:Nat} {v:Value} {l:List PE} (h:CXs w B v l):Xs w (fun b=>B≤b) v l:=by
 induction h with
 | mk v l ks g sp hv hl hB hn hr hs h9 _ ih=>
  refine .mk v l ks hl ⟨_,_,hv,hn,Or.inr ⟨g,0,rfl,hB,x6_ hr,fun k hk=>?_⟩⟩ ih;rw[Nat.zero_add,xn_ hr];simp only[List.getElem?_toArray];rw[List.getElem?_append_left hk]
theorem CXs.at {w:World} {B:Nat} {v:Value} {l:List PE} (h:CXs w B v l) (i:Nat) (hi:i<l.length):∃ g a m c,v=.slice (some ⟨g,0,none⟩) l.length (l.length+2)∧CXs w B (.slice a m c) l[i].kids∧∀ W',w.grownBy W' none→W'.cell? ⟨g,i*8+7,none⟩=some (.slice a m c):=by
 cases h with
 | mk _ _ ks g sp hv hl hB hn hr hs h9 hk=>
  have hz:(l.zip ks).length=l.length:=(by simp;omega);have hzi:(l.zip ks)[i]'(by omega)=(l[i],ks[i]'(by omega)):=(by simp);have hki:=hk _ (List.getElem_mem (l:=l.zip ks) (n:=i) (by omega));rw[hzi] at hki;have hf:=zp_ (fun p:PE×Value=>xC p.1 p.2) 8 (l.zip ks) (fun x _=>z8_ _ _) i 7 (by omega) (by omega);rw[hzi] at hf;obtain⟨a,m,c,e⟩:∃ a m c,ks[i]'(by omega)=.slice a m c:=by
   cases hki with
   | mk _ _ _ g2 _ hv2=>exact⟨_,_,_,hv2⟩
  rw[e] at hki;refine⟨g,a,m,c,hv,hki,fun W' hg=>?_⟩;rw[xn_ (_root_.Go.Proofs.YtcoglmaiahpooaaGreatDoor.kept hg hr)];simp only[List.getElem?_toArray];have hlen:=ze_ (l.zip ks);rw[List.getElem?_append_left (by rw[hlen];omega),hf,← e];generalize l[i]=E;obtain⟨_,_,_,_,_,_,_,_⟩:=E;rfl
theorem CXs.nine {w:World} {B:Nat} {v:Value} {l:List PE} (h:CXs w B v l):∃ g,v=.slice (some ⟨g,0,none⟩) l.length (l.length+2)∧∀ W',w.grownBy W' none→W'.cell? ⟨g,l.length*8+6,none⟩=some (.int .i64 (-9)):=by
 cases h with
 | mk _ _ ks g sp hv hl hB hn hr hs h9 hk=>
  refine⟨g,hv,fun W' hg=>?_⟩;rw[xn_ (_root_.Go.Proofs.YtcoglmaiahpooaaGreatDoor.kept hg hr)];simp only[List.getElem?_toArray];have hlen:=ze_ (l.zip ks);have hz:(l.zip ks).length=l.length:=(by simp;omega);rw[hz] at hlen;rw[List.getElem?_append_right (by rw[hlen];omega),hlen,show l.length*8+6 - l.length*8=6 by omega,h9]
theorem CXs.le {w:World} {B:Nat} {v:Value} {l:List PE} (h:CXs w B v l):l.length≤4000000:=by
 cases h with
 | mk _ _ ks g sp hv hl hB hn=>exact hn
theorem acb_ {B:Nat}:∀(m:Nat) (l:List PE),SizeOf.sizeOf l<m→∀(W:World) (v:Value),CXs W B v l→∀ W',W.grownBy W' none→Calls Tryz.prog 69 #[v] W' (xs_ W' true):=by
 intro m;induction m with
 | zero=>intro l h;omega
 | succ m ih=>
  intro l hsz W v hx W0 hg0;have hle:=hx.le;obtain⟨g,hv,h9⟩:=hx.nine;have HX:=xa_ hx;have H9:=xa_ h9;have HG0:=xa_ hg0;have HI:=xa_ (fun (i:Nat) (hi:i<l.length) (X:World) (a:Option Addr) (n c:Nat) (hc:CXs W B (.slice a n c) l[i].kids) (hX:W.grownBy X none)=>ih l[i].kids (by
   have s1:SizeOf.sizeOf l[i]<SizeOf.sizeOf l:=List.sizeOf_lt_of_mem (List.getElem_mem hi);generalize l[i]=E at s1 ⊢;obtain⟨_,_,_,_,_,_,_,ks⟩:=E;simp at s1;show SizeOf.sizeOf ks<m
   omega) W _ hc X hX)
  subst hv;clear hx h9 hg0;go_enter Tryz.func69,Tryz.ntmps69;go_wp2_with fail
  go_loopg [3] (l.length+1) (fun gk s3 wx=>∃ i:Nat,s3=.int .i64 (i:Int)∧Hid (W0.grownBy wx none)∧Hid (i≤l.length∧gk=l.length+1 - i))
  case atStart=>exact⟨0,rfl,gr0 _,xa_ ⟨by omega,rfl⟩⟩
  case round=>
   obtain⟨i,rfl,GX,HB⟩:=hrel;obtain⟨hi1,hgk⟩:=HB.out;clear HB;by_cases hi:i<l.length;rotate_left
   · have hlt:¬((i:Int)<(l.length:Int)):=(by omega);have c9:=H9.out wr (gtn HG0.out GX.out);have w1:IntKind.i64.wrap ((l.length:Int)+1)=l.length+1:=IntWalk.i64_in _ (by omega);have k1:(0:Int)≤(l.length:Int)+1:=(by omega);have k2:(l.length:Int)+1≤((l.length+2:Nat):Int):=(by omega);have k3:(l.length:Int)<(l.length:Int)+1:=(by omega);clear HX HI;go_wp2_with fail
     go_ret;exact⟨rfl,GX.out⟩
   have hlt:((i:Int)<(l.length:Int)):=(by omega);have hwi:IntKind.i64.wrap ((i:Int)+1)=i+1:=IntWalk.i64_in _ (by omega);obtain⟨g',a,n,c,hv,hk,hc⟩:=HX.out.at i hi;injection hv with e1 _ _;injection e1 with e1;injection e1 with e1;subst e1;have y7:=hc wr (gtn HG0.out GX.out);have cK:=xa_ (HI.out i hi wr a n c hk (gtn HG0.out GX.out));clear hc hk;go_wp2_with fail
   refine cK.out.mono ?_;rintro e w2 ⟨rfl,g2⟩;dsimp only;have G2:=xa_ (gtn GX.out g2);clear g2 cK y7;go_wp2_with fail
   go_roundg (l.length+1 - (i+1))
   case measure=>omega
   case rel=>exact⟨i+1,by simp,G2,xa_ ⟨by omega,rfl⟩⟩
inductive CSs (w:World) (B:Nat):Value→List PS ⊕ List PArm→Prop
 | stmts (v:Value) (l:List PS) (qs:List Sq) (g:Nat) (sp:List Value) (hv:v=.slice (some ⟨g,0,none⟩) l.length (l.length+2)) (hl:qs.length=l.length) (hB:B≤g) (hn:l.length≤4000000)
  (hr:w.heap[g]?=some (.cells ((l.zip qs).flatMap (fun p=>sC p.1 p.2)++sp).toArray 99)) (hs:sp.length=26) (h9:sp[1]?=some (.int .i64 (-9)))
  (h1:∀ p,p∈l.zip qs→CXs w B p.2.es p.1.es∧Li kdA 101 w (fun b=>B≤b) p.2.args p.1.args)
  (h2:∀ p,p∈l.zip qs→CSs w B p.2.arms (.inr p.1.arms)) (h3:∀ p,p∈l.zip qs→CSs w B p.2.els (.inl p.1.els)) (h4:∀ p,p∈l.zip qs→CSs w B p.2.body (.inl p.1.body)):CSs w B v (.inl l)
 | ways (v:Value) (l:List PArm) (qs:List (Value×Value×Value)) (hl:qs.length=l.length) (hr:Row w (fun b=>B≤b) 104 v l.length ((l.zip qs).flatMap fun p=>mC p.1 p.2))
  (h1:∀ p,p∈l.zip qs→Xs w (fun b=>B≤b) p.2.1 p.1.e.kids∧Li kdL 126 w (fun b=>B≤b) p.2.2.1 p.1.labels) (h2:∀ p,p∈l.zip qs→CSs w B p.2.2.2 (.inl p.1.body)):CSs w B v (.inr l)
theorem CSs.kept {w w':World} {B:Nat} (hk:∀ b,B≤b→b<w.heap.size→w'.heap[b]?=w.heap[b]?) (hz:w.heap.size≤w'.heap.size) {v:Value} {l:List PS ⊕ List PArm} (h:CSs w B v l):CSs w' B v l:=by
 induction h with
 | stmts v l qs g sp hv hl hB hn hr hs h9 h1 _ _ _ i2 i3 i4=>exact .stmts v l qs g sp hv hl hB hn ((hk g hB (x6_ hr)).trans hr) hs h9 (fun p hp=>⟨(h1 p hp).1.kept hk,(h1 p hp).2.kept hk hz⟩) i2 i3 i4
 | ways v l qs hl hr h1 _ i2=>exact .ways v l qs hl (hr.kept hk hz) (fun p hp=>⟨(h1 p hp).1.kept hk hz,(h1 p hp).2.kept hk hz⟩) i2
theorem CSs.gw {w w':World} {B:Nat} {v:Value} {l:List PS ⊕ List PArm} (h:CSs w B v l) (hg:w.grownBy w' none):CSs w' B v l:=h.kept (fun b _ hl=>hg.block b hl (by simp)) hg.size
theorem CSs.mono {w:World} {B B':Nat} (hb:B'≤B) {v:Value} {l:List PS ⊕ List PArm} (h:CSs w B v l):CSs w B' v l:=by
 induction h with
 | stmts v l qs g sp hv hl hB hn hr hs h9 h1 _ _ _ i2 i3 i4=>exact .stmts v l qs g sp hv hl (by omega) hn hr hs h9 (fun p hp=>⟨(h1 p hp).1.mono hb,(h1 p hp).2.imp fun b _ h=>Nat.le_trans hb h⟩) i2 i3 i4
 | ways v l qs hl hr h1 _ i2=>exact .ways v l qs hl (hr.imp fun b _ h=>Nat.le_trans hb h) (fun p hp=>⟨(h1 p hp).1.imp fun b _ h=>Nat.le_trans hb h,(h1 p hp).2.imp fun b _ h=>Nat.le_trans hb h⟩) i2
theorem ky_ (L:List (PS×Sq)):(L.flatMap fun p=>sC p.1 p.2).length=L.length*13:=by
 induction L with
 | nil=>rfl
 | cons x L ih=>rw[List.flatMap_cons,List.length_append,ih,y1_,List.length_cons];omega
theorem CSs.sm {w:World} {B:Nat} {v:Value} {l:List PS ⊕ List PArm} (h:CSs w B v l):Sm w (fun b=>B≤b) v l:=by
 induction h with
 | stmts v l qs g sp hv hl hB hn hr hs h9 h1 _ _ _ i2 i3 i4=>
  refine .stmts v l qs hl ⟨_,_,hv,hn,Or.inr ⟨g,0,rfl,hB,x6_ hr,fun k hk=>?_⟩⟩ (fun p hp=>⟨(h1 p hp).1.xs,(h1 p hp).2⟩) i2 i3 i4;rw[Nat.zero_add,xn_ hr];simp only[List.getElem?_toArray];rw[List.getElem?_append_left hk]
 | ways v l qs hl hr h1 _ i2=>exact .ways v l qs hl hr h1 i2
def cS (w:World) (B:Nat) (p:PS) (q:Sq):Prop:=(CXs w B q.es p.es∧Li kdA 101 w (fun b=>B≤b) q.args p.args)∧CSs w B q.arms (.inr p.arms)∧CSs w B q.els (.inl p.els)∧CSs w B q.body (.inl p.body)
theorem CSs.at {w:World} {B:Nat} {v:Value} {l:List PS} (h:CSs w B v (.inl l)) (i:Nat) (hi:i<l.length):∃ g q,v=.slice (some ⟨g,0,none⟩) l.length (l.length+2)∧cS w B l[i] q∧∀ W',w.grownBy W' none→∀ j,j<13→W'.cell? ⟨g,i*13+j,none⟩=(sC l[i] q)[j]?:=by
 cases h with
 | stmts _ _ qs g sp hv hl hB hn hr hs h9 h1 h2 h3 h4=>
  have hz:(l.zip qs).length=l.length:=(by simp;omega);have hzi:(l.zip qs)[i]'(by omega)=(l[i],qs[i]'(by omega)):=(by simp);have hm:=List.getElem_mem (l:=l.zip qs) (n:=i) (by omega);have k1:=h1 _ hm;have k2:=h2 _ hm;have k3:=h3 _ hm;have k4:=h4 _ hm;rw[hzi] at k1 k2 k3 k4;refine⟨g,qs[i]'(by omega),hv,⟨k1,k2,k3,k4⟩,fun W' hg j hj=>?_⟩;have hf:=zp_ (fun p:PS×Sq=>sC p.1 p.2) 13 (l.zip qs) (fun x _=>y1_ _ _) i j (by omega) hj;rw[hzi] at hf;rw[xn_ (_root_.Go.Proofs.YtcoglmaiahpooaaGreatDoor.kept hg hr)];simp only[List.getElem?_toArray];have hlen:=ky_ (l.zip qs);rw[List.getElem?_append_left (by rw[hlen];omega),hf]
theorem CSs.nine {w:World} {B:Nat} {v:Value} {l:List PS} (h:CSs w B v (.inl l)):∃ g,v=.slice (some ⟨g,0,none⟩) l.length (l.length+2)∧∀ W',w.grownBy W' none→W'.cell? ⟨g,l.length*13+1,none⟩=some (.int .i64 (-9)):=by
 cases h with
 | stmts _ _ qs g sp hv hl hB hn hr hs h9 h1 h2 h3 h4=>
  refine⟨g,hv,fun W' hg=>?_⟩;rw[xn_ (_root_.Go.Proofs.YtcoglmaiahpooaaGreatDoor.kept hg hr)];simp only[List.getElem?_toArray];have hlen:=ky_ (l.zip qs);have hz:(l.zip qs).length=l.length:=(by simp;omega);rw[hz] at hlen;rw[List.getElem?_append_right (by rw[hlen];omega),hlen,show l.length*13+1 - l.length*13=1 by omega,h9]
theorem CSs.le {w:World} {B:Nat} {v:Value} {l:List PS} (h:CSs w B v (.inl l)):l.length≤4000000:=by
 cases h with
 | stmts _ _ qs g sp hv hl hB hn=>exact hn
theorem CSs.way {w:World} {B:Nat} {v:Value} {l:List PArm} (h:CSs w B v (.inr l)) (i:Nat) (hi:i<l.length):∃ g off c q,v=.slice (some ⟨g,off,none⟩) l.length c∧l.length≤4000000∧g<w.heap.size∧CSs w B q.2.2 (.inl l[i].body)∧∀ j,j<10→w.cell? ⟨g,off+(i*10+j),none⟩=(mC l[i] q)[j]?:=by
 cases h with
 | ways _ _ qs hl hr h1 h2=>
  have L:Li (⟨mC,fun _ _ p q=>CSs w B q.2.2 (.inl p.body),fun h _ _=>h,fun h _=>h⟩:Kd PArm (Value×Value×Value)) 104 w (fun b=>B≤b) v l:=⟨qs,hl,hr,h2⟩;exact L.pick zb_ (by omega) i hi
theorem CSs.sl {w:World} {B:Nat} {v:Value} {l:List PArm} (h:CSs w B v (.inr l)):∃ a c,v=.slice a l.length c∧l.length≤4000000:=by
 cases h with
 | ways _ _ qs hl hr h1 h2=>obtain⟨a,c,hv,hn,_⟩:=hr;exact⟨a,c,hv,hn⟩
theorem ad2_ {t e size bytes:Nat} {z:Value} {i:TypeInfo} (ht:Tryz.prog.underlying t=some (.slice e)) (hi:Tryz.prog.info? e=some i) (hz:i.zero=some z) (hs:i.size=size) (hb:i.bytes=bytes) (hzs:z.cells.size=size) (hpos:0<size) (hb64:bytes≤1000)
 {W W0:World} {ok:Nat→Prop} {x:Option Addr} {n c:Nat} {cs:List Value} (hr:Row W ok e (.slice x n c) n cs) (hlen:cs.length=n*size) (h1:∀ u∈cs,u.oneCell'=true) (hg:W.grownBy W0 none) :
 ∃ v' w',(Builtin.append_ #[t,t] t #[.slice none 0 0,.slice x n c]).run Tryz.prog W0=.ok v' w'∧w'.ownsRow W0.heap.size e size v' n cs∧W0.grownBy w' none:=by
 obtain⟨a,cap,hv,hn,hrow⟩:=hr;injection hv with e1 _ e3;subst e1 e3;have hnil:W0.ownsRow W0.heap.size e size (.slice none 0 0) 0 []:=⟨by simp,Or.inl ⟨rfl,rfl⟩⟩;have some_case:∀ a:Addr,(∀ j u,cs[j]?=some u→W0.cell? (a.add j)=some u)→∃ v' w',(Builtin.append_ #[t,t] t #[.slice none 0 0,.slice (some a) n c]).run Tryz.prog W0=.ok v' w'∧w'.ownsRow W0.heap.size e size v' n cs∧W0.grownBy w' none:=by
  intro a hc;obtain⟨v',w',r1,r2,r3,r4,r5⟩:=run_append_own_at (P:=Tryz.prog) W0 W0.heap.size t t e i z size bytes ht hi hz hs hb hzs hpos _ _ _ hnil a n c cs hlen hc h1 (by unfold maxLen;omega) (by
   have:n*bytes≤4000000*1000:=Nat.mul_le_mul hn hb64
   rw[Nat.zero_add];omega) (Nat.le_refl _)
  rw[Nat.zero_add,List.nil_append] at r2;exact⟨v',w',r1,r2,r3⟩
 rcases hrow with⟨h0,hnl⟩|⟨b,off,rfl,_,hbl,hc⟩
 · subst h0 hnl;cases x with
   | some a=>exact some_case a (by simp)
   | none=>
    refine⟨.slice none 0 0,W0,?_,hnil,gr0 _⟩;simp[Builtin.append_,run_underlying ht,Builtin.lenOf,Builtin.firstCells,sizeOf,typeInfo,hi,storeCells,loadCells,loadCellsFrom]
 · refine some_case _ fun j u hj=>?_;have hjl:j<cs.length:=by
    rcases Nat.lt_or_ge j cs.length with h|h
    ·exact h
    ·rw[List.getElem?_eq_none h] at hj;cases hj
   rw[vu_];exact(World.cell?_of_block (hg.block b hbl (by simp))).trans ((hc j hjl).trans hj)
theorem v2_ {t e size bytes n:Nat} {z:Value} {i:TypeInfo} (ht:Tryz.prog.underlying t=some (.slice e)) (hi:Tryz.prog.info? e=some i) (hz:i.zero=some z) (hs:i.size=size) (hb:i.bytes=bytes) (hb64:bytes≤1000) (hn:n≤4000000) :
 ∃ cur:List Value,cur.length=n*size+2*size∧∀ w:World,(Instr.makeSlice t (.int .i64 ((n:Int)+2)) (.int .i64 ((n:Int)+2))).run Tryz.prog w=.ok (.slice (some ⟨w.heap.size,0,none⟩) (n+2) (n+2)) (w.alloc (.cells cur.toArray e)):=by
 refine⟨(madeCells z.cells ((n+2)*size)).toList,by simp[size_madeCells,Nat.add_mul],fun w=>?_⟩;have h:=run_make (P:=Tryz.prog) w t e i z ht hi hz .i64 .i64 ((n:Int)+2) ((n:Int)+2) (by omega) (by omega) (by
  have h1:bytes*(n+2)≤1000*4000002:=Nat.mul_le_mul hb64 (by omega);have h2:((bytes*(n+2):Nat):Int)=(i.bytes:Int)*((n:Int)+2):=(by rw[hb];push_cast;rfl);omega) (by omega)
 have e1:((n:Int)+2).toNat=n+2:=(by omega);rw[e1,hs] at h;rw[Array.toArray_toList];exact h
theorem acc_ {T n:Nat} (h:((Tryz.prog.info? T).bind fun i=>i.zero.map fun z=>(i.size,decide (i.bytes≤1000),z.cells.size))=some (n,true,n)):∃ i z,Tryz.prog.info? T=some i∧i.zero=some z∧i.size=n∧i.bytes≤1000∧z.cells.size=n:=by
 cases hi:Tryz.prog.info? T with
 | none=>rw[hi] at h;cases h
 | some i=>
  rw[hi] at h;cases hz:i.zero with
  | none=>simp[hz] at h
  | some z=>
   simp[hz] at h;exact⟨i,z,rfl,hz,h.1,h.2.1,h.2.2⟩
theorem in27:((Tryz.prog.info? 27).bind fun i=>i.zero.map fun z=>(i.size,decide (i.bytes≤1000),z.cells.size))=some (6,true,6):=by kernel_rfl
theorem in54:((Tryz.prog.info? 54).bind fun i=>i.zero.map fun z=>(i.size,decide (i.bytes≤1000),z.cells.size))=some (15,true,15):=by kernel_rfl
theorem in99:((Tryz.prog.info? 99).bind fun i=>i.zero.map fun z=>(i.size,decide (i.bytes≤1000),z.cells.size))=some (13,true,13):=by kernel_rfl
theorem aip_:((Tryz.prog.info? 101).bind fun i=>i.zero.map fun z=>(i.size,decide (i.bytes≤1000),z.cells.size))=some (12,true,12):=by kernel_rfl
theorem aiq_:((Tryz.prog.info? 104).bind fun i=>i.zero.map fun z=>(i.size,decide (i.bytes≤1000),z.cells.size))=some (10,true,10):=by kernel_rfl
theorem air_:((Tryz.prog.info? 126).bind fun i=>i.zero.map fun z=>(i.size,decide (i.bytes≤1000),z.cells.size))=some (2,true,2):=by kernel_rfl
theorem acd_ (n:Int) (W:World):Calls Tryz.prog 23 #[.int .i64 n] W (xs_ W (xu_ n)):=by
 by_cases h1 : -4294967295≤n
 ·by_cases h2:n≤4294967295;all_goals(go_enter Tryz.func23,Tryz.ntmps23;go_wp2;go_ret;exact⟨xw_ (by simp[xu_,h1,h2]),gr0 _⟩)
 ·go_enter Tryz.func23,Tryz.ntmps23;go_wp2;go_ret;exact⟨xw_ (by simp[xu_];omega),gr0 _⟩
theorem v3_ (n:Int) (W:World):Calls Tryz.prog 22 #[.int .i64 n] W (xs_ W (kdB n)):=by
 by_cases h1:1≤n
 ·by_cases h2:n≤5;all_goals(go_enter Tryz.func22,Tryz.ntmps22;go_wp2;go_ret;exact⟨xw_ (by simp[kdB,h1,h2]),gr0 _⟩)
 ·go_enter Tryz.func22,Tryz.ntmps22;go_wp2;go_ret;exact⟨xw_ (by simp[kdB];omega),gr0 _⟩
theorem aa4_ (n:Int) (W:World):Calls Tryz.prog 52 #[.int .i64 1,.int .i64 n] W (xs_ W (decide (0≤n) && decide (n≤1))):=by
 by_cases h1:0≤n
 ·by_cases h2:n≤1;all_goals(go_enter Tryz.func52,Tryz.ntmps52;go_wp2_with (go_at_call 91;go_must (refine(zx_ 1 2 0 (.inl ⟨rfl,rfl,rfl⟩) _).mono ?_;rintro e w' ⟨rfl,rfl⟩));go_ret;exact⟨xw_ (by simp[h1,h2]),gr0 _⟩)
 · go_enter Tryz.func52,Tryz.ntmps52;go_wp2_with (go_at_call 91;go_must (refine(zx_ 1 2 0 (.inl ⟨rfl,rfl,rfl⟩) _).mono ?_;rintro e w' ⟨rfl,rfl⟩))
   go_ret;exact⟨xw_ (by simp;omega),gr0 _⟩
theorem aa5_ (n:Int) (W:World):Calls Tryz.prog 52 #[.int .i64 5,.int .i64 n] W (xs_ W (decide (0≤n) && decide (n≤4294967295))):=by
 by_cases h1:0≤n
 ·by_cases h2:n≤4294967295;all_goals(go_enter Tryz.func52,Tryz.ntmps52;go_wp2_with (go_at_call 91;go_must (refine(zx_ 5 4294967296 0 (.inr ⟨rfl,rfl,rfl⟩) _).mono ?_;rintro e w' ⟨rfl,rfl⟩));go_ret;exact⟨xw_ (by simp[h1,h2]),gr0 _⟩)
 · go_enter Tryz.func52,Tryz.ntmps52;go_wp2_with (go_at_call 91;go_must (refine(zx_ 5 4294967296 0 (.inr ⟨rfl,rfl,rfl⟩) _).mono ?_;rintro e w' ⟨rfl,rfl⟩))
   go_ret;exact⟨xw_ (by simp;omega),gr0 _⟩
theorem kb_ (f o kd n:Int) (nm pt:ByteArray) (a:Int) (ks:List PE) (x:Option Addr) (c:Nat) (W:World) :
 Calls Tryz.prog 24 #[xV f o kd n nm pt a (.slice x ks.length c)] W (xs_ W (xz_ (.mk f o kd n nm pt a ks))):=by
 rw[xz_];have key:∀ b1 b2 b3 b4 b5 b6 b7,(f==0)=b1→(o==0)=b2→(kd==0)=b3→(n==0)=b4→(nm.toList==[])=b5→(pt.toList==[])=b6→((ks.length:Int)==0)=b7→
  Calls Tryz.prog 24 #[xV f o kd n nm pt a (.slice x ks.length c)] W (xs_ W (b1 && b2 && b3 && b4 && b5 && b6 && b7)):=by
  intro b1 b2 b3 b4 b5 b6 b7 h1 h2 h3 h4 h5 h6 h7;cases b1 with
  | false=>
   clear h2 h3 h4 h5 h6 h7;go_enter Tryz.func24,Tryz.ntmps24;go_wp2;go_ret;exact⟨rfl,gr1 _ _⟩
  | true=>
  cases b2 with
  | false=>
   clear h3 h4 h5 h6 h7;go_enter Tryz.func24,Tryz.ntmps24;go_wp2;go_ret;exact⟨rfl,gr1 _ _⟩
  | true=>
  cases b3 with
  | false=>
   clear h4 h5 h6 h7;go_enter Tryz.func24,Tryz.ntmps24;go_wp2;go_ret;exact⟨rfl,gr1 _ _⟩
  | true=>
  cases b4 with
  | false=>
   clear h5 h6 h7;go_enter Tryz.func24,Tryz.ntmps24;go_wp2;go_ret;exact⟨rfl,gr1 _ _⟩
  | true=>
  cases b5 with
  | false=>
   clear h6 h7;go_enter Tryz.func24,Tryz.ntmps24;go_wp2;go_ret;exact⟨rfl,gr1 _ _⟩
  | true=>
  cases b6 with
  | false=>
   clear h7;go_enter Tryz.func24,Tryz.ntmps24;go_wp2;go_ret;exact⟨rfl,gr1 _ _⟩
  | true=>
  cases b7 with
  | false=>
   go_enter Tryz.func24,Tryz.ntmps24;go_wp2;go_ret;exact⟨rfl,gr1 _ _⟩
  | true=>
  go_enter Tryz.func24,Tryz.ntmps24;go_wp2;go_ret;exact⟨rfl,gr1 _ _⟩
 have h7:((ks.length:Int)==0)=decide (ks.length=0):=by
  rw[Bool.eq_iff_iff];simp
 have hi:∀ z:Int,(z==0)=decide (z=0):=fun z=>rfl;exact key _ _ _ _ _ _ _ (hi f) (hi o) (hi kd) (hi n) (eqN nm) (eqN pt) h7
theorem aad_ {W:World} {q:Nat} {y0 y1 y2 y3 y4 y5 y6 y7 y8 y9 y10 y11 y12 y13 y14 x0 x1 x2 x3 x4 x5 x6 x7 x8 x9 x10 x11 x12 x13 x14:Value} {T:TypeId} (h:W.heap[q]?=some (.cells #[y0,y1,y2,y3,y4,y5,y6,y7,y8,y9,y10,y11,y12,y13,y14] T)):(((((((((((((((W.setCell ⟨q,0,none⟩ x0).setCell ⟨q,1,none⟩ x1).setCell ⟨q,2,none⟩ x2).setCell ⟨q,3,none⟩ x3).setCell ⟨q,4,none⟩ x4).setCell ⟨q,5,none⟩ x5).setCell ⟨q,6,none⟩ x6).setCell ⟨q,7,none⟩ x7).setCell ⟨q,8,none⟩ x8).setCell ⟨q,9,none⟩ x9).setCell ⟨q,10,none⟩ x10).setCell ⟨q,11,none⟩ x11).setCell ⟨q,12,none⟩ x12).setCell ⟨q,13,none⟩ x13).setCell ⟨q,14,none⟩ x14).heap[q]?=some (.cells #[x0,x1,x2,x3,x4,x5,x6,x7,x8,x9,x10,x11,x12,x13,x14] T):=by
 have:=(xj_ (xj_ (xj_ (xj_ (xj_ (xj_ (xj_ (xj_ (xj_ (xj_ (xj_ (xj_ (xj_ (xj_ (xj_ h 0 x0) 1 x1) 2 x2) 3 x3) 4 x4) 5 x5) 6 x6) 7 x7) 8 x8) 9 x9) 10 x10) 11 x11) 12 x12) 13 x13) 14 x14);simpa using this
theorem box6 {W:World} {q:Nat} {y0 y1 y2 y3 y4 y5 x0 x1 x2 x3 x4 x5:Value} {T:TypeId} (h:W.heap[q]?=some (.cells #[y0,y1,y2,y3,y4,y5] T)):((((((W.setCell ⟨q,0,none⟩ x0).setCell ⟨q,1,none⟩ x1).setCell ⟨q,2,none⟩ x2).setCell ⟨q,3,none⟩ x3).setCell ⟨q,4,none⟩ x4).setCell ⟨q,5,none⟩ x5).heap[q]?=some (.cells #[x0,x1,x2,x3,x4,x5] T):=by
 have:=(xj_ (xj_ (xj_ (xj_ (xj_ (xj_ h 0 x0) 1 x1) 2 x2) 3 x3) 4 x4) 5 x5);simpa using this
theorem gr15 {w W:World} {q:Nat} {x0 x1 x2 x3 x4 x5 x6 x7 x8 x9 x10 x11 x12 x13 x14:Value} (h:w.grownBy W (some q)):w.grownBy (((((((((((((((W.setCell ⟨q,0,none⟩ x0).setCell ⟨q,1,none⟩ x1).setCell ⟨q,2,none⟩ x2).setCell ⟨q,3,none⟩ x3).setCell ⟨q,4,none⟩ x4).setCell ⟨q,5,none⟩ x5).setCell ⟨q,6,none⟩ x6).setCell ⟨q,7,none⟩ x7).setCell ⟨q,8,none⟩ x8).setCell ⟨q,9,none⟩ x9).setCell ⟨q,10,none⟩ x10).setCell ⟨q,11,none⟩ x11).setCell ⟨q,12,none⟩ x12).setCell ⟨q,13,none⟩ x13).setCell ⟨q,14,none⟩ x14) (some q):=(xp_ (xp_ (xp_ (xp_ (xp_ (xp_ (xp_ (xp_ (xp_ (xp_ (xp_ (xp_ (xp_ (xp_ (xp_ h _ _) _ _) _ _) _ _) _ _) _ _) _ _) _ _) _ _) _ _) _ _) _ _) _ _) _ _) _ _)
theorem aae_ {w W:World} {q:Nat} {x0 x1 x2 x3 x4 x5 x6 x7 x8 x9 x10 x11 x12 x13 x14:Value} (h:w.grownBy W none) (hq:w.heap.size≤q):w.grownBy (((((((((((((((W.setCell ⟨q,0,none⟩ x0).setCell ⟨q,1,none⟩ x1).setCell ⟨q,2,none⟩ x2).setCell ⟨q,3,none⟩ x3).setCell ⟨q,4,none⟩ x4).setCell ⟨q,5,none⟩ x5).setCell ⟨q,6,none⟩ x6).setCell ⟨q,7,none⟩ x7).setCell ⟨q,8,none⟩ x8).setCell ⟨q,9,none⟩ x9).setCell ⟨q,10,none⟩ x10).setCell ⟨q,11,none⟩ x11).setCell ⟨q,12,none⟩ x12).setCell ⟨q,13,none⟩ x13).setCell ⟨q,14,none⟩ x14) none:=(xd_ (xd_ (xd_ (xd_ (xd_ (xd_ (xd_ (xd_ (xd_ (xd_ (xd_ (xd_ (xd_ (xd_ (xd_ h hq _ _) hq _ _) hq _ _) hq _ _) hq _ _) hq _ _) hq _ _) hq _ _) hq _ _) hq _ _) hq _ _) hq _ _) hq _ _) hq _ _) hq _ _)
theorem gr6 {w W:World} {q:Nat} {x0 x1 x2 x3 x4 x5:Value} (h:w.grownBy W (some q)):w.grownBy ((((((W.setCell ⟨q,0,none⟩ x0).setCell ⟨q,1,none⟩ x1).setCell ⟨q,2,none⟩ x2).setCell ⟨q,3,none⟩ x3).setCell ⟨q,4,none⟩ x4).setCell ⟨q,5,none⟩ x5) (some q):=(xp_ (xp_ (xp_ (xp_ (xp_ (xp_ h _ _) _ _) _ _) _ _) _ _) _ _)
theorem gr6n {w W:World} {q:Nat} {x0 x1 x2 x3 x4 x5:Value} (h:w.grownBy W none) (hq:w.heap.size≤q):w.grownBy ((((((W.setCell ⟨q,0,none⟩ x0).setCell ⟨q,1,none⟩ x1).setCell ⟨q,2,none⟩ x2).setCell ⟨q,3,none⟩ x3).setCell ⟨q,4,none⟩ x4).setCell ⟨q,5,none⟩ x5) none:=(xd_ (xd_ (xd_ (xd_ (xd_ (xd_ h hq _ _) hq _ _) hq _ _) hq _ _) hq _ _) hq _ _)
abbrev qj_ (W:World):Ending→World→Prop:=fun e w'=>e=.returned (.bool true)∧W.grownBy w' none
theorem vh_ (W:World) (f o kd n:Int) (nm pt:ByteArray) (a:Int) (ax bx:Option Addr) (an bn ac bc:Nat) (hK:∀ W',W.grownBy W' none→Calls Tryz.prog 68 #[.slice ax an ac,.slice bx bn bc] W' (qj_ W')) :
 Calls Tryz.prog 67 #[.agg #[.int .i64 f,.int .i64 o,.int .i64 kd,.int .i64 n,.string nm,.string pt,.int .i64 a,.slice ax an ac],.agg #[.int .i64 f,.int .i64 o,.int .i64 kd,.int .i64 n,.string nm,.string pt,.int .i64 a,.slice bx bn bc]] W (qj_ W):=by
 have c:=xa_ (hK _ (xf_ (gr1 W (.cells #[.int .i64 f,.int .i64 o,.int .i64 kd,.int .i64 n,.string nm,.string pt,.int .i64 a,.slice ax an ac] 50)) (.cells #[.int .i64 f,.int .i64 o,.int .i64 kd,.int .i64 n,.string nm,.string pt,.int .i64 a,.slice bx bn bc] 50)));clear hK;go_enter Tryz.func67,Tryz.ntmps67;go_wp2_with fail
 refine c.out.mono ?_;rintro e w1 ⟨rfl,g1⟩;go_wp2_with fail
 go_ret;exact⟨rfl,gtn (xf_ (gr1 _ _) _) g1⟩
def SmE (W:World) (va:Value) (l:List PE):Prop:=∀(W':World),W.grownBy W' none→∀(ok:Nat→Prop) (vb:Value),Xs W' ok vb l→Calls Tryz.prog 68 #[va,vb] W' (qj_ W')
def EsL (W:World) (n:Nat) (gk:Nat) (s5:Value) (wx:World):Prop:=∃ i:Nat,s5=.int .i64 (i:Int)∧(i≤n∧gk=n+1 - i)∧W.grownBy wx none
set_option maxRecDepth 10000 in
theorem uu_ {W:World} {ok:Nat→Prop} {va:Value} {l:List PE} (hx:Xs W ok va l) (hI:∀(i:Nat) (hi:i<l.length) (k:Value),Xs W ok k l[i].kids→SmE W k l[i].kids):SmE W va l:=by
 intro W' hg' okb vb hb;obtain⟨ax,ac,rfl⟩:=hx.sl;obtain⟨bx,bc,rfl⟩:=hb.sl;have HI:=xa_ hI;have HA:=xa_ hx;have HB:=xa_ hb;have HG:=xa_ hg';have hne:((l.length:Int) != (l.length:Int))=false:=(by simp);clear hI hx hb hg';go_enter Tryz.func68,Tryz.ntmps68;go_wp2_with fail
 have LS:Hid (EsL W' l.length (l.length+1) (.int .i64 0) W'):=⟨0,rfl,⟨Nat.zero_le _,rfl⟩,gz_⟩;go_loopg [5] (l.length+1) (fun gk s5 wx=>EsL W' l.length gk s5 wx)
 case atStart=>exact LS.out
 case round=>
  obtain⟨i,rfl,⟨hi1,hgk⟩,hg⟩:=hrel;by_cases hi:i<l.length;rotate_left
  · have hlt:¬((i:Int)<(l.length:Int)):=(by omega);have HH:=xa_ hg;clear hg;go_wp2_with fail
    go_ret;exact⟨rfl,HH.out⟩
  have hlt:((i:Int)<(l.length:Int)):=(by omega);obtain⟨ga,oa,ca,ka,ea,hn,hga,hka,hca⟩:=HA.out.pick i hi;obtain⟨gb,ob,cb,kb,eb,_,hgb,hkb,hcb⟩:=HB.out.pick i hi;injection ea with ea1 ea2 ea3;injection eb with eb1 eb2 eb3;subst ea1 eb1 ea3 eb3;obtain⟨ka1,ka2,rfl⟩:=hka.sl;obtain⟨kb1,kb2,rfl⟩:=hkb.sl;have cK:Hid (∀ W2,W'.grownBy W2 none→Calls Tryz.prog 68 #[.slice ka1 l[i].kids.length ka2,.slice kb1 l[i].kids.length kb2] W2 (qj_ W2)):=fun W2 hW2=>HI.out i hi _ hka W2 (gtn HG.out hW2) okb _ (hkb.kept (fun b _ hl=>hW2.block b hl (by simp)) hW2.size);generalize hE:l[i]=E at cK hca hcb;obtain⟨f1,o1,kd1,n1,nm1,pt1,a1,ks1⟩:=E;simp only[PE.kids] at cK hca hcb;have hgD:=xi_ hg;have HGD:=xa_ hgD;have cga0:wr.drew.cell? ⟨ga,oa+i*8,none⟩=some (.int .i64 f1):=by
   have h:=hca 0 (by omega);rw[show oa+(i*8+0)=oa+i*8 by omega] at h;exact(World.cell?_of_block (hg.block ga (by have:=HG.out.size;omega) (by simp))).trans ((World.cell?_of_block (HG.out.block ga (by omega) (by simp))).trans h)
  have cga1:wr.drew.cell? ⟨ga,oa+i*8+1,none⟩=some (.int .i64 o1):=by
   have h:=hca 1 (by omega);rw[show oa+(i*8+1)=oa+i*8+1 by omega] at h;exact(World.cell?_of_block (hg.block ga (by have:=HG.out.size;omega) (by simp))).trans ((World.cell?_of_block (HG.out.block ga (by omega) (by simp))).trans h)
  have cga2:wr.drew.cell? ⟨ga,oa+i*8+2,none⟩=some (.int .i64 kd1):=by
   have h:=hca 2 (by omega);rw[show oa+(i*8+2)=oa+i*8+2 by omega] at h;exact(World.cell?_of_block (hg.block ga (by have:=HG.out.size;omega) (by simp))).trans ((World.cell?_of_block (HG.out.block ga (by omega) (by simp))).trans h)
  have cga3:wr.drew.cell? ⟨ga,oa+i*8+3,none⟩=some (.int .i64 n1):=by
   have h:=hca 3 (by omega);rw[show oa+(i*8+3)=oa+i*8+3 by omega] at h;exact(World.cell?_of_block (hg.block ga (by have:=HG.out.size;omega) (by simp))).trans ((World.cell?_of_block (HG.out.block ga (by omega) (by simp))).trans h)
  have cga4:wr.drew.cell? ⟨ga,oa+i*8+4,none⟩=some (.string nm1):=by
   have h:=hca 4 (by omega);rw[show oa+(i*8+4)=oa+i*8+4 by omega] at h;exact(World.cell?_of_block (hg.block ga (by have:=HG.out.size;omega) (by simp))).trans ((World.cell?_of_block (HG.out.block ga (by omega) (by simp))).trans h)
  have cga5:wr.drew.cell? ⟨ga,oa+i*8+5,none⟩=some (.string pt1):=by
   have h:=hca 5 (by omega);rw[show oa+(i*8+5)=oa+i*8+5 by omega] at h;exact(World.cell?_of_block (hg.block ga (by have:=HG.out.size;omega) (by simp))).trans ((World.cell?_of_block (HG.out.block ga (by omega) (by simp))).trans h)
  have cga6:wr.drew.cell? ⟨ga,oa+i*8+6,none⟩=some (.int .i64 a1):=by
   have h:=hca 6 (by omega);rw[show oa+(i*8+6)=oa+i*8+6 by omega] at h;exact(World.cell?_of_block (hg.block ga (by have:=HG.out.size;omega) (by simp))).trans ((World.cell?_of_block (HG.out.block ga (by omega) (by simp))).trans h)
  have cga7:wr.drew.cell? ⟨ga,oa+i*8+7,none⟩=some (.slice ka1 ks1.length ka2):=by
   have h:=hca 7 (by omega);rw[show oa+(i*8+7)=oa+i*8+7 by omega] at h;exact(World.cell?_of_block (hg.block ga (by have:=HG.out.size;omega) (by simp))).trans ((World.cell?_of_block (HG.out.block ga (by omega) (by simp))).trans h)
  have cgb0:wr.drew.cell? ⟨gb,ob+i*8,none⟩=some (.int .i64 f1):=by
   have h:=hcb 0 (by omega);rw[show ob+(i*8+0)=ob+i*8 by omega] at h;exact(World.cell?_of_block (hg.block gb (by omega) (by simp))).trans h
  have cgb1:wr.drew.cell? ⟨gb,ob+i*8+1,none⟩=some (.int .i64 o1):=by
   have h:=hcb 1 (by omega);rw[show ob+(i*8+1)=ob+i*8+1 by omega] at h;exact(World.cell?_of_block (hg.block gb (by omega) (by simp))).trans h
  have cgb2:wr.drew.cell? ⟨gb,ob+i*8+2,none⟩=some (.int .i64 kd1):=by
   have h:=hcb 2 (by omega);rw[show ob+(i*8+2)=ob+i*8+2 by omega] at h;exact(World.cell?_of_block (hg.block gb (by omega) (by simp))).trans h
  have cgb3:wr.drew.cell? ⟨gb,ob+i*8+3,none⟩=some (.int .i64 n1):=by
   have h:=hcb 3 (by omega);rw[show ob+(i*8+3)=ob+i*8+3 by omega] at h;exact(World.cell?_of_block (hg.block gb (by omega) (by simp))).trans h
  have cgb4:wr.drew.cell? ⟨gb,ob+i*8+4,none⟩=some (.string nm1):=by
   have h:=hcb 4 (by omega);rw[show ob+(i*8+4)=ob+i*8+4 by omega] at h;exact(World.cell?_of_block (hg.block gb (by omega) (by simp))).trans h
  have cgb5:wr.drew.cell? ⟨gb,ob+i*8+5,none⟩=some (.string pt1):=by
   have h:=hcb 5 (by omega);rw[show ob+(i*8+5)=ob+i*8+5 by omega] at h;exact(World.cell?_of_block (hg.block gb (by omega) (by simp))).trans h
  have cgb6:wr.drew.cell? ⟨gb,ob+i*8+6,none⟩=some (.int .i64 a1):=by
   have h:=hcb 6 (by omega);rw[show ob+(i*8+6)=ob+i*8+6 by omega] at h;exact(World.cell?_of_block (hg.block gb (by omega) (by simp))).trans h
  have cgb7:wr.drew.cell? ⟨gb,ob+i*8+7,none⟩=some (.slice kb1 ks1.length kb2):=by
   have h:=hcb 7 (by omega);rw[show ob+(i*8+7)=ob+i*8+7 by omega] at h;exact(World.cell?_of_block (hg.block gb (by omega) (by simp))).trans h
  have hHeld:(fun w':World=>w'.cell? ⟨ga,oa+i*8,none⟩=some (.int .i64 f1)∧w'.cell? ⟨ga,oa+i*8+1,none⟩=some (.int .i64 o1)∧w'.cell? ⟨ga,oa+i*8+2,none⟩=some (.int .i64 kd1)∧w'.cell? ⟨ga,oa+i*8+3,none⟩=some (.int .i64 n1)∧w'.cell? ⟨ga,oa+i*8+4,none⟩=some (.string nm1)∧w'.cell? ⟨ga,oa+i*8+5,none⟩=some (.string pt1)∧w'.cell? ⟨ga,oa+i*8+6,none⟩=some (.int .i64 a1)∧w'.cell? ⟨ga,oa+i*8+7,none⟩=some (.slice ka1 ks1.length ka2)∧w'.cell? ⟨gb,ob+i*8,none⟩=some (.int .i64 f1)∧w'.cell? ⟨gb,ob+i*8+1,none⟩=some (.int .i64 o1)∧w'.cell? ⟨gb,ob+i*8+2,none⟩=some (.int .i64 kd1)∧w'.cell? ⟨gb,ob+i*8+3,none⟩=some (.int .i64 n1)∧w'.cell? ⟨gb,ob+i*8+4,none⟩=some (.string nm1)∧w'.cell? ⟨gb,ob+i*8+5,none⟩=some (.string pt1)∧w'.cell? ⟨gb,ob+i*8+6,none⟩=some (.int .i64 a1)∧w'.cell? ⟨gb,ob+i*8+7,none⟩=some (.slice kb1 ks1.length kb2)) wr.drew:=⟨cga0,cga1,cga2,cga3,cga4,cga5,cga6,cga7,cgb0,cgb1,cgb2,cgb3,cgb4,cgb5,cgb6,cgb7⟩;clear cga0 cga1 cga2 cga3 cga4 cga5 cga6 cga7 cgb0 cgb1 cgb2 cgb3 cgb4 cgb5 cgb6 cgb7;have cE:=xa_ (vh_ wr.drew f1 o1 kd1 n1 nm1 pt1 a1 ka1 kb1 ks1.length ks1.length ka2 kb2 (fun W2 hW2=>cK.out W2 (gtn HGD.out hW2)));have hwi:IntKind.i64.wrap ((i:Int)+1)=i+1:=IntWalk.i64_in _ (by omega);clear hg hgD hca hcb;go_wp2_with fail
  refine x8_ (L:=8) (S:=(fun w':World=>w'.cell? ⟨ga,oa+i*8,none⟩=some (.int .i64 f1)∧w'.cell? ⟨ga,oa+i*8+1,none⟩=some (.int .i64 o1)∧w'.cell? ⟨ga,oa+i*8+2,none⟩=some (.int .i64 kd1)∧w'.cell? ⟨ga,oa+i*8+3,none⟩=some (.int .i64 n1)∧w'.cell? ⟨ga,oa+i*8+4,none⟩=some (.string nm1)∧w'.cell? ⟨ga,oa+i*8+5,none⟩=some (.string pt1)∧w'.cell? ⟨ga,oa+i*8+6,none⟩=some (.int .i64 a1)∧w'.cell? ⟨ga,oa+i*8+7,none⟩=some (.slice ka1 ks1.length ka2)∧w'.cell? ⟨gb,ob+i*8,none⟩=some (.int .i64 f1)∧w'.cell? ⟨gb,ob+i*8+1,none⟩=some (.int .i64 o1)∧w'.cell? ⟨gb,ob+i*8+2,none⟩=some (.int .i64 kd1)∧w'.cell? ⟨gb,ob+i*8+3,none⟩=some (.int .i64 n1)∧w'.cell? ⟨gb,ob+i*8+4,none⟩=some (.string nm1)∧w'.cell? ⟨gb,ob+i*8+5,none⟩=some (.string pt1)∧w'.cell? ⟨gb,ob+i*8+6,none⟩=some (.int .i64 a1)∧w'.cell? ⟨gb,ob+i*8+7,none⟩=some (.slice kb1 ks1.length kb2))) (by kernel_rfl) ?_;refine xm_ (i:=0) (v:=?_) rfl (by kernel_rfl) (by kernel_rfl) (by kernel_rfl) (fun _ _ _ h=>h) (by decide) (Or.inl ⟨by rfl,?_⟩) (fun _=>hHeld) ?_;rotate_left
  ·intro w hSw;go_simp;(try with_reducible rfl)
  (try simp only[pu_]);refine xm_ (i:=1) (v:=?_) rfl (by kernel_rfl) (by kernel_rfl) (by kernel_rfl) (fun _ _ _ h=>h) (by decide) (Or.inl ⟨by rfl,?_⟩) (fun _=>hHeld) ?_;rotate_left
  ·intro w hSw;go_simp;(try with_reducible rfl)
  (try simp only[pu_]);refine xm_ (i:=2) (v:=?_) rfl (by kernel_rfl) (by kernel_rfl) (by kernel_rfl) (fun _ _ _ h=>h) (by decide) (Or.inl ⟨by rfl,?_⟩) (fun _=>hHeld) ?_;rotate_left
  ·intro w hSw;go_simp;(try with_reducible rfl)
  (try simp only[pu_]);refine xh_ (i:=3) (v:=?_) rfl (by kernel_rfl) (by kernel_rfl) (by kernel_rfl) (fun _ _ _ h=>h) (by kernel_rfl) (by kernel_rfl) (Or.inl ⟨by rfl,?_⟩) hHeld ?_;rotate_left
  ·intro w hSw;(try dsimp only at hSw);go_simp;(try with_reducible rfl)
  (try simp only[pu_]);refine xm_ (i:=4) (v:=?_) rfl (by kernel_rfl) (by kernel_rfl) (by kernel_rfl) (fun _ _ _ h=>h) (by decide) (Or.inl ⟨by rfl,?_⟩) (fun _=>hHeld) ?_;rotate_left
  ·intro w hSw;go_simp;(try with_reducible rfl)
  (try simp only[pu_]);refine xm_ (i:=5) (v:=?_) rfl (by kernel_rfl) (by kernel_rfl) (by kernel_rfl) (fun _ _ _ h=>h) (by decide) (Or.inl ⟨by rfl,?_⟩) (fun _=>hHeld) ?_;rotate_left
  ·intro w hSw;go_simp;(try with_reducible rfl)
  (try simp only[pu_]);refine xm_ (i:=6) (v:=?_) rfl (by kernel_rfl) (by kernel_rfl) (by kernel_rfl) (fun _ _ _ h=>h) (by decide) (Or.inl ⟨by rfl,?_⟩) (fun _=>hHeld) ?_;rotate_left
  ·intro w hSw;go_simp;(try with_reducible rfl)
  (try simp only[pu_]);refine xh_ (i:=7) (v:=?_) rfl (by kernel_rfl) (by kernel_rfl) (by kernel_rfl) (fun _ _ _ h=>h) (by kernel_rfl) (by kernel_rfl) (Or.inl ⟨by rfl,?_⟩) hHeld ?_;rotate_left
  ·intro w hSw;(try dsimp only at hSw);go_simp;(try with_reducible rfl)
  (try simp only[pu_]);refine xk_ (j:=8) (by kernel_rfl) rfl (fun K hK=>?_);go_simp;refine cE.out.mono ?_;rintro e w2 ⟨rfl,g2⟩;have G2:=xa_ (gtn HGD.out g2);go_wp2_with fail
  refine hK.out _ _ (fun h=>absurd rfl h) ?_;clear hK K;(try simp only[pu_]);refine xm_ (i:=9) (v:=?_) rfl (by kernel_rfl) (by kernel_rfl) (by kernel_rfl) (fun _ _ _ h=>h) (by decide) (Or.inl ⟨by rfl,?_⟩) (fun h=>absurd h (by decide)) ?_;rotate_left
  ·intro w hSw;go_simp;(try with_reducible rfl)
  (try simp only[pu_]);refine xy_ (by kernel_rfl) ?_ _;go_wp2_with fail
  go_roundg (l.length+1 - (i+1))
  case measure=>omega
  case rel=>
   exact⟨i+1,by simp,⟨by omega,rfl⟩,G2.out⟩
theorem jz_ {W:World} {ok:Nat→Prop} {va:Value} {l:List PE} (hx:Xs W ok va l):SmE W va l:=by
 have key:∀(n:Nat) (l:List PE),SizeOf.sizeOf l<n→∀ va,Xs W ok va l→SmE W va l:=by
  intro n;induction n with
  | zero=>intro l h;omega
  | succ n ih=>
   intro l h va hx;refine uu_ hx (fun i hi k hk=>ih _ ?_ k hk);have h1:SizeOf.sizeOf l[i]<SizeOf.sizeOf l:=List.sizeOf_lt_of_mem (List.getElem_mem hi);have h2:SizeOf.sizeOf l[i].kids<SizeOf.sizeOf l[i]:=by
    obtain⟨_,_,_,_,_,_,_,_⟩:=l[i];simp[PE.kids];omega
   omega
 exact key _ l (Nat.lt_succ_self _) va hx
def upB (c:UInt8):UInt8:=if 97≤c.toNat∧c.toNat≤122 then c - 32 else c
def upL (l:List UInt8):List UInt8:=l.map upB
def kc_ (l:List UInt8) (pos j:Nat):UInt8:=if j<pos then upB (l.getD j 0) else l.getD j 0
structure RowAt (N Z:Nat) (s:ByteArray) (pos:Nat) (w:World):Prop where
 row:∃ A:Array Value,w.heap[N]?=some (.cells A 5 (Z,Z+1))∧A.size=Z∧s.size≤Z∧∀ j,j<s.size→A[j]?=some (.int .u8 (kc_ s.data.toList pos j).toNat)
theorem RowAt.cell {N Z:Nat} {s:ByteArray} {pos:Nat} {w:World} (h:RowAt N Z s pos w) (j:Nat) (hj:j<s.size):w.cell? ⟨N,j,none⟩=some (.int .u8 (kc_ s.data.toList pos j).toNat)∧w.frozen? ⟨N,j,none⟩=false:=by
 obtain⟨A,h1,h2,h3,h4⟩:=h.row;constructor
 · unfold World.cell?;show(match w.heap[N]? with|some (.cells c _ _)=>c[j]?|_=>none)=_
   rw[h1];exact h4 j hj
 ·simp[World.frozen?,h1];omega
theorem RowAt.set {N Z:Nat} {s:ByteArray} {pos:Nat} {w:World} (h:RowAt N Z s pos w) (hp:pos<s.size):RowAt N Z s (pos+1) (w.setCell ⟨N,pos,none⟩ (.int .u8 (upB (s.data.toList.getD pos 0)).toNat)):=by
 obtain⟨A,h1,h2,h3,h4⟩:=h.row;refine⟨A.setIfInBounds pos (.int .u8 (upB (s.data.toList.getD pos 0)).toNat),?_,by simpa using h2,h3,fun j hj=>?_⟩
 ·unfold World.setCell;simp[Array.getElem?_modify,h1]
 · by_cases hjp:pos=j
   ·subst hjp;rw[Array.getElem?_setIfInBounds_self_of_lt (by omega)];unfold kc_;rw[if_pos (by omega)]
   · rw[Array.getElem?_setIfInBounds_ne hjp,h4 j hj];unfold kc_;by_cases h:j<pos
     ·rw[if_pos h,if_pos (by omega)]
     ·rw[if_neg h,if_neg (by omega)]
theorem v4_ (w:World) (e:TypeId) (s:ByteArray):Below w.heap.size w (Lib.bytesWorld w e s):=
 ⟨rfl,rfl,rfl,by rw[Lib.bytesWorld_size];omega,fun k hk=>Lib.bytesWorld_at_old w e s k hk⟩
theorem aa7_ (w:World) (s:ByteArray):RowAt w.heap.size (Lib.bytesCells w 5 s).size s 0 (Lib.bytesWorld w 5 s):=by
 refine⟨Lib.bytesCells w 5 s,Lib.bytesWorld_at_new w 5 s,rfl,?_,fun j hj=>?_⟩
 · unfold Lib.bytesCells;rw[Array.size_append,Array.size_map];show s.size≤s.size+_
   omega
 ·have h:=Lib.bytesWorld_cell w 5 s j hj;have h1:=Lib.bytesWorld_at_new w 5 s;unfold World.cell? at h;rw[h1] at h;rw[show kc_ s.data.toList 0 j=s.data.toList.getD j 0 by unfold kc_;rw[if_neg (by omega)]];exact h
theorem ace_ {N Z cap:Nat} {s:ByteArray} {w:World} (h:RowAt N Z s s.size w):(convert 63 9 (.slice (some ⟨N,0,none⟩) s.size cap)).run Tryz.prog w=.ok (.string ⟨(upL s.data.toList).toArray⟩) w:=by
 have hl:s.data.toList.length=s.size:=(by rw[Array.length_toList];rfl);have hlow:(upL s.data.toList).length=s.size:=(by rw[upL,List.length_map,hl]);have:=run_convert_bytes_arg w 63 5 Tryz.underlying63 Tryz.underlying5 N 0 s.size cap ((upL s.data.toList).map fun b=>(b.toNat:Int)) (by rw[List.length_map,hlow]) (fun i hi=>by
  rw[Nat.zero_add,(h.cell i hi).1];have h1:i<s.data.toList.length:=(by omega);have h2:i<(upL s.data.toList).length:=(by omega);have e1:kc_ s.data.toList s.size i=upB (s.data.toList[i]'h1):=by
   unfold kc_;rw[if_pos hi,List.getD,List.getElem?_eq_getElem h1];rfl
  have e2:((upL s.data.toList).map fun b=>(b.toNat:Int)).getD i 0=((upB (s.data.toList[i]'h1)).toNat:Int):=by
   rw[List.getD,List.getElem?_map,List.getElem?_eq_getElem h2];simp[upL]
  rw[e1,e2]) 9 Tryz.underlying9
 rw[this];have e3:strOfNums ((upL s.data.toList).map fun b=>(b.toNat:Int))=⟨(upL s.data.toList).toArray⟩:=by
  unfold strOfNums;have h0:((fun n:Int=>UInt8.ofNat n.toNat) ∘ fun b:UInt8=>(b.toNat:Int))=id:=by
   funext b;simp
  have h1:((upL s.data.toList).map fun b=>(b.toNat:Int)).map (fun n=>UInt8.ofNat n.toNat)=upL s.data.toList:=by
   rw[List.map_map,h0,List.map_id]
  rw[h1]
 rw[e3]
theorem ad5_ {c:UInt8} (h1:(97:Int)≤c.toNat) (h2:(c.toNat:Int)≤122):IntKind.u8.wrap ((c.toNat:Int) - 32)=((upB c).toNat:Int):=by
 rw[upB,if_pos (by omega),q8_ _ (by omega) (by omega)];have:(c - 32).toNat=c.toNat - 32:=by
  rw[UInt8.toNat_sub_of_le]
  ·rfl
  ·rw[UInt8.le_iff_toNat_le];show 32≤_;omega
 omega
theorem acf_ {c:UInt8} (h:¬((97:Int)≤c.toNat∧(c.toNat:Int)≤122)):upB c=c:=by
 rw[upB,if_neg (by omega)]
theorem RowAt.skip {N Z:Nat} {s:ByteArray} {pos:Nat} {w:World} (h:RowAt N Z s pos w) (hp:pos<s.size) (he:upB (s.data.toList.getD pos 0)=s.data.toList.getD pos 0):RowAt N Z s (pos+1) w:=by
 obtain⟨A,h1,h2,h3,h4⟩:=h.row;refine⟨A,h1,h2,h3,fun j hj=>?_⟩;rw[h4 j hj];unfold kc_;by_cases hjp:j=pos
 ·subst hjp;rw[if_neg (by omega),if_pos (by omega),he]
 · by_cases h:j<pos
   ·rw[if_pos h,if_pos (by omega)]
   ·rw[if_neg h,if_neg (by omega)]
set_option maxRecDepth 100000 in
theorem aa8_ (s:ByteArray) (w:World) (hsz:s.size≤40) :
 Calls Tryz.prog 65 #[.string s] w fun e w'=>e=.returned (.string ⟨(upL s.data.toList).toArray⟩)∧w.grownBy w' none:=by
 have hcv:=Lib.run_convert_string_bytes (P:=Tryz.prog) w 9 63 5 s Tryz.underlying9 Tryz.underlying63 Tryz.underlying5;have hst:=aa7_ w s;have hbl:=v4_ w 5 s;obtain⟨W,hW⟩:∃ W,Lib.bytesWorld w 5 s=W:=⟨_,rfl⟩;obtain⟨cap,hcap⟩:∃ cap,grownCap w s.size 0 5=cap:=⟨_,rfl⟩;obtain⟨Z,hZ⟩:∃ Z,(Lib.bytesCells w 5 s).size=Z:=⟨_,rfl⟩;rw[hW,hcap] at hcv;rw[hW,hZ] at hst;rw[hW] at hbl;have hge:s.size≤cap:=hcap▸grownCap_ge w s.size 0 5;clear hW hcap hZ;go_enter Tryz.func65,Tryz.ntmps65;go_wp2_with fail
 go_loopg [4] s.size (fun gk s4 wx=>∃ pos:Nat,s4=.int .i64 pos∧Hid (RowAt w.heap.size Z s pos wx)∧Hid (Below w.heap.size w wx)∧s.size≤pos+gk∧pos≤s.size)
 case atStart=>exact⟨0,rfl,hst,hbl,by omega,by omega⟩
 case round=>
  obtain⟨pos,rfl,hr0,hb0,hfu,hps⟩:=hrel;have hr:=hr0.out;have HB:=hb0;clear hst hbl hcv hr0 hb0;by_cases hlt:pos<s.size
  · obtain⟨g',rfl⟩:∃ g',gk=g'+1:=⟨gk - 1,by omega⟩;obtain⟨c1,f1⟩:=hr.cell pos hlt;rw[show kc_ s.data.toList pos pos=s.data.toList.getD pos 0 by unfold kc_;rw[if_neg (by omega)]] at c1;have hset:=hr.set hlt;have hskip:=hr.skip hlt;obtain⟨B,hB⟩:∃ B,s.data.toList.getD pos 0=B:=⟨_,rfl⟩;rw[hB] at c1 hset hskip;have HR:=hd_ hset;have HS:=hd_ hskip;have hwp:IntKind.i64.wrap ((pos:Int)+1)=pos+1:=IntWalk.i64_in _ (by omega);clear hr hset hB hskip;by_cases g1:(97:Int)≤B.toNat;rotate_left
    · have HE:=xa_ (acf_ (c:=B) (by omega));go_wp2_with fail
      go_roundg g'
      case measure=>omega
      case rel=>exact⟨pos+1,by simp,HS.out HE.out,HB,by omega,by omega⟩
    by_cases g2:(B.toNat:Int)≤122;rotate_left
    · have HE:=xa_ (acf_ (c:=B) (by omega));go_wp2_with fail
      go_roundg g'
      case measure=>omega
      case rel=>exact⟨pos+1,by simp,HS.out HE.out,HB,by omega,by omega⟩
    have hw:=ad5_ g1 g2;obtain⟨U,hU⟩:∃ U:UInt8,upB B=U:=⟨_,rfl⟩;rw[hU] at hw HR;clear hU HS;go_wp2_with fail
    go_roundg g'
    case measure=>omega
    case rel=>exact⟨pos+1,by simp,HR,HB.out.setCell (Nat.le_refl _) _,by omega,by omega⟩
  · obtain rfl:pos=s.size:=(by omega);have hdone:=fun cap=>ace_ (cap:=cap) hr;clear hr;go_wp2_with fail
    go_ret;exact⟨rfl,zh_ HB.out⟩
end Go.Proofs.YtcoglmaiahpooaaGreatDoor
