/- Texts put together: V0, V1, V2, V4, V5, L2a, V7, V8. -/
import Derived.Test.YtcgbfhpmkpglkaaGreatDoorQ01
import Derived.WalkSmall
set_option linter.unusedVariables false
set_option linter.unusedSimpArgs false
set_option maxHeartbeats 8000000
namespace Go.Proofs.YtcgbfhpmkpglkaaGreatDoor
structure Ins where
 d:Int
 a:Int
 b:Int
 c:Int
def nth (t:List Ins) (i:Nat):Ins:=(t[i]?).getD ⟨0,0,0,0⟩
def isE (t:List Ins) (i:Nat):Bool:=(nth t i).d==13
def isR (t:List Ins) (i:Nat):Bool:=(nth t i).d==14
def goes (f:Int) (x:Ins):Bool:=x.d==14 && x.b==f
def rnd (t:List Ins) (f:Nat):Nat:=t.findIdx (goes f)
def cnt (t:List Ins) (k:Nat) (f:Nat):Nat:=(t.take k).countP (goes f)
theorem aa1_ {t:List Ins} {i:Nat} (h:i<t.length):nth t i=t[i]:=by simp[nth,h]
theorem acj_ {t:List Ins} {i:Nat} (h:t.length≤i):nth t i=⟨0,0,0,0⟩:=by simp[nth,h]
theorem aal_ {t:List Ins} {i:Nat} (h:isR t i=true):i<t.length:=by
 apply Classical.byContradiction;intro hn;rw[isR,acj_ (by omega)] at h;simp at h
theorem aam_ {t:List Ins} {i:Nat} (h:isE t i=true):i<t.length:=by
 apply Classical.byContradiction;intro hn;rw[isE,acj_ (by omega)] at h;simp at h
theorem adi_ {t:List Ins} {i:Nat} (h:isE t i=true):isR t i=false:=by
 simp[isE,isR] at h ⊢;omega
theorem j8_ {t:List Ins} {i:Nat} {f:Int}:goes f (nth t i)=true↔isR t i=true∧(nth t i).b=f:=by
 simp[goes,isR]
structure RdOk (t:List Ins):Prop where
 rounds:∀ i,isR t i=true→1≤(nth t i).b∧(nth t i).b≤i∧isE t ((nth t i).b - 1).toNat=true∧(nth t ((nth t i).b - 1).toNat).a=(nth t i).a
 enters:∀ i,isE t i=true→cnt t t.length (i+1)=1
structure LpOk (t:List Ins):Prop where
 enters:∀ i,isE t i=true→rnd t (i+1)<t.length∧i+1≤rnd t (i+1)∧(nth t (rnd t (i+1))).a=(nth t i).a
 same:t.countP (fun x=>x.d==14)=t.countP (fun x=>x.d==13)
theorem at7_ (t:List Ins) (f:Nat):rnd t f≤t.length:=List.findIdx_le_length
theorem jp_ {t:List Ins} {f:Nat} (h:rnd t f<t.length):isR t (rnd t f)=true∧(nth t (rnd t f)).b=f:=by
 rw[← j8_,aa1_ h];exact List.findIdx_getElem (w:=h)
theorem an5_ {t:List Ins} {f i:Nat} (h:i<rnd t f):¬(isR t i=true∧(nth t i).b=f):=by
 rw[← j8_,aa1_ (Nat.lt_of_lt_of_le h (at7_ t f))];have:=List.not_of_lt_findIdx h;simpa using this
theorem an6_ {t:List Ins} {f i:Nat} (h:isR t i=true) (hb:(nth t i).b=f):rnd t f≤i:=by
 apply Classical.byContradiction;intro hn;exact an5_ (by omega) ⟨h,hb⟩
theorem ul_ (t:List Ins) (k f:Nat) (hk:k<t.length):cnt t (k+1) f=cnt t k f+(if goes f (nth t k) then 1 else 0):=by
 unfold cnt;rw[List.take_add_one,List.countP_append,aa1_ hk];simp[hk,List.countP_cons]
theorem adj_ (t:List Ins) (f k m:Nat) (h:k≤m):cnt t k f≤cnt t m f:=by
 unfold cnt;exact List.Sublist.countP_le (List.take_sublist_take_left h)
theorem an7_ (t:List Ins) (f:Nat):cnt t t.length f=t.countP (goes f):=by simp[cnt]
theorem alb_ {t:List Ins} {f i j:Nat} (h:cnt t t.length f=1) (hi:isR t i=true∧(nth t i).b=f) (hj:isR t j=true∧(nth t j).b=f):i=j:=by
 have key:∀ i j,i<j→isR t i=true∧(nth t i).b=f→isR t j=true∧(nth t j).b=f→False:=by
  intro i j hij hi hj;have a1:=ul_ t i f (aal_ hi.1);have a2:=ul_ t j f (aal_ hj.1);rw[if_pos (j8_.2 hi)] at a1;rw[if_pos (j8_.2 hj)] at a2;have b1:=adj_ t f (i+1) j (by omega);have b2:=adj_ t f (j+1) t.length (aal_ hj.1);omega
 rcases Nat.lt_trichotomy i j with h1|h1|h1
 ·exact(key i j h1 hi hj).elim
 ·exact h1
 ·exact(key j i h1 hj hi).elim
theorem afq_ {t:List Ins} {f:Nat}:0<cnt t t.length f↔rnd t f<t.length:=by
 rw[an7_,List.countP_pos_iff,rnd,List.findIdx_lt_length]
def qn_ (g:Nat→Nat):Nat→Nat
 | 0=>0
 | n+1=>qn_ g n+g n
theorem al2_ (g h:Nat→Nat) (n:Nat):qn_ (fun i=>g i+h i) n=qn_ g n+qn_ h n:=by
 induction n with
 | zero=>rfl
 | succ n ih=>simp only[qn_,ih];omega
theorem al3_ (n j:Nat) (h:j<n):qn_ (fun i=>if j=i then 1 else 0) n=1:=by
 have z:∀ m,m≤j→qn_ (fun i=>if j=i then 1 else 0) m=0:=by
  intro m;induction m with
  | zero=>intro _;rfl
  | succ m ih=>intro hm;simp only[qn_];rw[ih (by omega),if_neg (by omega)]
 induction n with
 | zero=>omega
 | succ n ih=>
  simp only[qn_];by_cases hj:j=n
  ·rw[z n (by omega),if_pos hj]
  ·rw[ih (by omega),if_neg hj]
theorem an8_ {g h:Nat→Nat} (n:Nat) (hl:∀ i,i<n→g i≤h i):qn_ g n≤qn_ h n:=by
 induction n with
 | zero=>exact Nat.le_refl _
 | succ n ih=>simp only[qn_];have:=ih (fun i hi=>hl i (by omega));have:=hl n (by omega);omega
theorem an9_ {g h:Nat→Nat} (n:Nat) (hl:∀ i,i<n→g i≤h i) (he:qn_ g n=qn_ h n):∀ i,i<n→g i=h i:=by
 induction n with
 | zero=>intro i hi;omega
 | succ n ih=>
  simp only[qn_] at he;have h1:=an8_ (g:=g) (h:=h) n (fun i hi=>hl i (by omega));have h2:=hl n (by omega);intro i hi;by_cases hn:i=n
  ·subst hn;omega
  ·exact ih (fun i hi=>hl i (by omega)) (by omega) i (by omega)
theorem aan_ {g h:Nat→Nat} (n:Nat) (hl:∀ i,i<n→g i=h i):qn_ g n=qn_ h n:=by
 induction n with
 | zero=>rfl
 | succ n ih=>simp only[qn_];rw[ih (fun i hi=>hl i (by omega)),hl n (by omega)]
theorem u4_ (t:List Ins) (p:Ins→Bool) (k:Nat) (hk:k<t.length):(t.take (k+1)).countP p=(t.take k).countP p+(if p (nth t k) then 1 else 0):=by
 rw[List.take_add_one,List.countP_append,aa1_ hk];simp[hk,List.countP_cons]
theorem abt_ (t:List Ins):t.countP (fun x=>x.d==13)=qn_ (fun i=>if isE t i then 1 else 0) t.length:=by
 have key:∀ k,k≤t.length→(t.take k).countP (fun x=>x.d==13)=qn_ (fun i=>if isE t i then 1 else 0) k:=by
  intro k;induction k with
  | zero=>intro _;simp[qn_]
  | succ k ih=>
   intro hk;rw[u4_ t _ k (by omega),ih (by omega)];rfl
 have:=key t.length (Nat.le_refl _);simpa using this
theorem abu_ (t:List Ins) (H:∀ i,isR t i=true→1≤(nth t i).b∧(nth t i).b≤i) :
 t.countP (fun x=>x.d==14)=qn_ (fun i=>cnt t t.length (i+1)) t.length:=by
 have key:∀ k,k≤t.length→(t.take k).countP (fun x=>x.d==14)=qn_ (fun i=>cnt t k (i+1)) t.length:=by
  intro k;induction k with
  | zero=>
   intro _;have:∀ n,qn_ (fun _=>0) n=0:=(by intro n;induction n with|zero=>rfl|succ n ih=>simp[qn_,ih]);simp[cnt,this]
  | succ k ih=>
   intro hk;rw[u4_ t _ k (by omega),ih (by omega)];rw[aan_ (g:=fun i=>cnt t (k+1) (i+1)) t.length (fun i _=>ul_ t k (i+1) (by omega)),al2_];congr 1;by_cases hr:isR t k=true
   · have hb:=H k hr;rw[aan_ (h:=fun i=>if (((nth t k).b - 1).toNat)=i then 1 else 0)]
     ·rw[al3_ _ _ (by omega),if_pos (by simpa[isR] using hr)]
     · intro i hi;by_cases he:((nth t k).b - 1).toNat=i
       ·rw[if_pos he,if_pos (j8_.2 ⟨hr,by omega⟩)]
       ·rw[if_neg he,if_neg];intro hg;have:=(j8_.1 hg).2;omega
   · rw[if_neg (by simpa[isR] using hr)];have:∀ n,qn_ (fun i=>if goes ((i+1:Nat):Int) (nth t k)=true then 1 else 0) n=0:=by
      intro n;induction n with
      | zero=>rfl
      | succ n ih=>
       simp only[qn_,ih];rw[if_neg];intro hg;exact hr (j8_.1 hg).1
     exact(this _).symm
 have:=key t.length (Nat.le_refl _);simpa using this
theorem aoa_ (t:List Ins):((∀ i,isR t i=true→1≤(nth t i).b∧(nth t i).b≤i)∧LpOk t)↔RdOk t:=by
 constructor
 · rintro⟨H,h⟩;have hs:=h.same;rw[abu_ t H,abt_ t] at hs;have hle:∀ i,i<t.length→(if isE t i then 1 else 0)≤cnt t t.length (i+1):=by
    intro i hi;by_cases he:isE t i=true
    ·rw[if_pos he];exact afq_.2 (h.enters i he).1
    ·rw[if_neg he];omega
   have heq:=an9_ t.length hle hs.symm;have hen:∀ i,isE t i=true→cnt t t.length (i+1)=1:=by
    intro i he;have:=heq i (aam_ he);rw[if_pos he] at this;exact this.symm
   refine⟨fun i hi=>?_,hen⟩;obtain⟨b1,b2⟩:=H i hi;obtain⟨f,hf⟩:∃ f:Nat,(nth t i).b=((f+1:Nat):Int):=⟨((nth t i).b - 1).toNat,by omega⟩;have hfi:((nth t i).b - 1).toNat=f:=(by omega);rw[hfi];have hlt:=aal_ hi;have hpos:0<cnt t t.length (f+1):=by
    have a1:=ul_ t i (f+1) hlt;rw[if_pos (j8_.2 ⟨hi,hf⟩)] at a1;have:=adj_ t (f+1) (i+1) t.length hlt;omega
   have he:isE t f=true:=by
    apply Classical.byContradiction;intro hn;have:=heq f (by omega);rw[if_neg hn] at this;omega
   refine⟨b1,b2,he,?_⟩;have hr:=jp_ (h.enters f he).1;have:=alb_ (hen f he) hr ⟨hi,hf⟩;rw[← this];exact(h.enters f he).2.2.symm
 · intro h;have H:∀ i,isR t i=true→1≤(nth t i).b∧(nth t i).b≤i:=fun i hi=>⟨(h.rounds i hi).1,(h.rounds i hi).2.1⟩;refine⟨H,?_,?_⟩
   ·intro i he;have h1:rnd t (i+1)<t.length:=afq_.1 (by rw[h.enters i he];omega);obtain⟨r1,r2⟩:=jp_ h1;obtain⟨c1,c2,c3,c4⟩:=h.rounds _ r1;rw[r2] at c2 c4;refine⟨h1,by omega,?_⟩;have:((((i+1:Nat):Int)) - 1).toNat=i:=(by omega);rw[this] at c4;exact c4.symm
   · rw[abu_ t H,abt_ t];apply aan_;intro i hi;by_cases he:isE t i=true
     ·rw[if_pos he,h.enters i he]
     ·rw[if_neg he];apply Classical.byContradiction;intro hn;have h1:rnd t (i+1)<t.length:=afq_.1 (by omega);obtain⟨r1,r2⟩:=jp_ h1;obtain⟨c1,c2,c3,c4⟩:=h.rounds _ r1;rw[r2] at c3;have:((((i+1:Nat):Int)) - 1).toNat=i:=(by omega);rw[this] at c3;exact he c3
def inL (t:List Ins) (f i:Nat):Bool:=decide (1≤f) && decide (f≤i) && isE t (f - 1) && decide (i≤rnd t f)
def inn (t:List Ins) (m i:Nat):List Nat:=(List.range m).reverse.filter (fun f=>inL t f i)
theorem xu_ {t:List Ins} {f i:Nat}:inL t f i=true↔1≤f∧f≤i∧isE t (f - 1)=true∧i≤rnd t f:=by
 simp[inL,and_assoc]
theorem jq_ {t:List Ins} {m i f:Nat}:f∈inn t m i↔f<m∧inL t f i=true:=by
 simp[inn]
theorem abv_ (t:List Ins) (m i:Nat):inn t (m+1) i=if inL t m i then m::inn t m i else inn t m i:=by
 unfold inn;rw[List.range_succ,List.reverse_append];simp only[List.reverse_cons,List.reverse_nil,List.nil_append,List.cons_append,List.filter_cons]
theorem u5_ (t:List Ins) (m i:Nat):(inn t m i).Pairwise (· > ·):=by
 unfold inn;apply List.Pairwise.filter;rw[List.pairwise_reverse];exact List.pairwise_lt_range
def qw_ (t:List Ins):Prop:=∀ i j,i<j→isE t i=true→isE t j=true→rnd t (i+1)<j+1∨(rnd t (j+1)<rnd t (i+1)∧(nth t i).a≠(nth t j).a)
def yx_:Int:=1000000001
def stk (t:List Ins):List Nat→List (Nat×Int)
 | []=>[(0,1)]
 | f::l=>(f,min (((stk t l).headD (0,1)).2*(nth t (f - 1)).b) yx_)::stk t l
theorem abw_ (t:List Ins) (l:List Nat):((stk t l).headD (0,1)).1=l.headD 0:=by
 cases l <;> rfl
def um_ (t:List Ins) (st:List (Nat×Int)) (a:Int):Bool:=st.any (fun p=>decide (0<p.1) && (nth t (p.1 - 1)).a==a)
def un_ (t:List Ins) (i:Nat):Bool:=decide (0<i) && isE t (i - 1)
def qo_ (t:List Ins) (i:Nat) (st:List (Nat×Int)):List (Nat×Int):=
 if un_ t i then(i,min ((st.headD (0,1)).2*(nth t (i - 1)).b) yx_)::st else st
def j9_ (t:List Ins) (i:Nat) (st:List (Nat×Int)):Option (List (Nat×Int)):=
 if un_ t i && um_ t st (nth t (i - 1)).a then none
 else if isR t i then(if (((qo_ t i st).headD (0,1)).1:Int)=(nth t i).b then some (qo_ t i st).tail else none)
 else some (qo_ t i st)
def nst (t:List Ins):Nat→Option (List (Nat×Int))
 | 0=>some [(0,1)]
 | i+1=>(nst t i).bind (j9_ t i)
theorem aob_ {t:List Ins} (h:RdOk t) {i f:Nat} (hr:isR t i=true) (hb:(nth t i).b=f):rnd t f=i:=by
 obtain⟨c1,c2,c3,c4⟩:=h.rounds i hr;have h1:rnd t f≤i:=an6_ hr hb;have h2:rnd t f<t.length:=Nat.lt_of_le_of_lt h1 (aal_ hr);obtain⟨g,hg⟩:∃ g:Nat,f=g+1:=⟨f - 1,by omega⟩;subst hg;have:((nth t i).b - 1).toNat=g:=(by omega);rw[this] at c3;exact alb_ (h.enters g c3) (jp_ h2) ⟨hr,hb⟩
theorem adk_ {t:List Ins} (h:RdOk t) {i:Nat} (he:isE t i=true):i+1≤rnd t (i+1)∧rnd t (i+1)<t.length:=by
 have:=((aoa_ t).2 h).2.enters i he;exact⟨this.2.1,this.1⟩
theorem vt_ {t:List Ins} {i:Nat}:un_ t i=true↔0<i∧isE t (i - 1)=true:=by simp[un_]
theorem aoc_ {t:List Ins} (h:RdOk t) {i:Nat} (hb:un_ t i=true):inL t i i=true:=by
 obtain⟨h0,he⟩:=vt_.1 hb;have:=(adk_ h he).1;rw[xu_];refine⟨h0,Nat.le_refl _,he,?_⟩;have e:i - 1+1=i:=(by omega);rw[e] at this;omega
theorem aod_ {t:List Ins} {i:Nat} (hb:inL t i i=true):un_ t i=true:=by
 rw[xu_] at hb;exact vt_.2 ⟨hb.1,hb.2.2.1⟩
theorem u6_ {t:List Ins} (h:RdOk t) (i:Nat):qo_ t i (stk t (inn t i i))=stk t (inn t (i+1) i):=by
 rw[abv_];unfold qo_;by_cases hb:un_ t i=true
 ·rw[if_pos hb,if_pos (aoc_ h hb)];rfl
 ·rw[if_neg hb,if_neg (fun hi=>hb (aod_ hi))]
theorem aej_ {t:List Ins} (h:RdOk t) (i:Nat) (hr:isR t i=false):inn t (i+1) (i+1)=inn t (i+1) i:=by
 unfold inn;apply List.filter_congr;intro f hf;have hf':f<i+1:=(by simpa using hf);by_cases h1:inL t f i=true
 · rw[h1];rw[xu_] at h1 ⊢;refine⟨h1.1,by omega,h1.2.2.1,?_⟩;rcases Nat.lt_or_ge i (rnd t f) with h2|h2
   ·exact h2
   ·have e:rnd t f=i:=(by omega);have e2:f - 1+1=f:=(by omega);have hl:=(adk_ h h1.2.2.1).2;rw[e2] at hl;have:=(jp_ hl).1;rw[e,hr] at this;simp at this
 ·rw[Bool.eq_false_iff.2 h1,Bool.eq_false_iff];intro h2;apply h1;rw[xu_] at h2 ⊢;exact⟨h2.1,by omega,h2.2.2.1,by omega⟩
theorem ag9_ (l:List Nat) (f:Nat) (p:Nat→Bool) (hs:(f::l).Pairwise (· > ·)) (hp:∀ g,g∈f::l→(p g=true↔g≠f)):(f::l).filter p=l:=by
 rw[List.filter_cons,if_neg]
 ·rw[List.filter_eq_self];intro g hg;rw[hp g (by simp[hg])];have:=(List.pairwise_cons.1 hs).1 g hg;omega
 ·rw[hp f (by simp)];simp
theorem adl_ {t:List Ins} (h:RdOk t) (i f:Nat) (l:List Nat) (hr:isR t i=true) (hb:(nth t i).b=f) (hl:inn t (i+1) i=f::l):inn t (i+1) (i+1)=l:=by
 have e1:inn t (i+1) (i+1)=(inn t (i+1) i).filter (fun g=>inL t g (i+1)):=by
  unfold inn;rw[List.filter_filter];apply List.filter_congr;intro g hg;have hg':g<i+1:=(by simpa using hg);by_cases h1:inL t g (i+1)=true
  · have:inL t g i=true:=by
     rw[xu_] at h1 ⊢;exact⟨h1.1,by omega,h1.2.2.1,by omega⟩
    rw[h1,this];rfl
  ·rw[Bool.eq_false_iff.2 h1];simp
 rw[e1,hl];have hs:=u5_ t (i+1) i;rw[hl] at hs;apply ag9_ l f _ hs;intro g hg;have hm:g∈inn t (i+1) i:=(by rw[hl];exact hg);obtain⟨m1,m2⟩:=jq_.1 hm;rw[xu_] at m2;rw[xu_];have hf:rnd t f=i:=aob_ h hr hb;constructor
 ·rintro⟨_,_,_,h4⟩ rfl;omega
 · intro hne;refine⟨m2.1,by omega,m2.2.2.1,?_⟩;rcases Nat.lt_or_ge i (rnd t g) with h2|h2
   ·exact h2
   ·have e:rnd t g=i:=(by omega);have hlt:rnd t g<t.length:=(by rw[e];exact aal_ hr);have:=(jp_ hlt).2;rw[e,hb] at this;exact absurd (by omega) hne
theorem adm_ {t:List Ins} (h:RdOk t) (i:Nat) (st:List (Nat×Int)) (hn:nst t i=some st):st=stk t (inn t i i):=by
 induction i generalizing st with
 | zero=>simp only[nst,Option.some.injEq] at hn;rw[← hn];rfl
 | succ i ih=>
  simp only[nst] at hn;cases h1:nst t i with
  | none=>rw[h1] at hn;simp at hn
  | some s=>
   rw[h1] at hn;simp only[Option.bind_some] at hn;have hs:=ih s h1;unfold j9_ at hn;split at hn
   ·simp at hn
   · rw[hs,u6_ h] at hn;split at hn
     · rename_i hr;split at hn
       · rename_i hh;simp only[Option.some.injEq] at hn;rw[abw_] at hh;cases hl:inn t (i+1) i with
         | nil=>
          rw[hl] at hh;have:=(h.rounds i hr).1;simp at hh;omega
         | cons f l=>
          rw[hl] at hh hn;rw[adl_ h i f l hr (by simpa using hh.symm) hl,← hn];rfl
       ·simp at hn
     ·rename_i hr;simp only[Option.some.injEq] at hn;rw[aej_ h i (by simpa using hr),← hn]
theorem aha_ {t:List Ins} {l:List Nat} {a:Int} (hl:∀ f,f∈l→0<f):um_ t (stk t l) a=true↔∃ f,f∈l∧(nth t (f - 1)).a=a:=by
 unfold um_;induction l with
 | nil=>simp[stk]
 | cons f l ih=>
  simp only[stk,List.any_cons,Bool.or_eq_true,ih (fun g hg=>hl g (by simp[hg]))];have:=hl f (by simp);simp[this]
theorem alc_ {t:List Ins} {m i f:Nat} (h:f∈inn t m i):0<f:=by
 have:=(xu_.1 (jq_.1 h).2).1;omega
theorem aoe_ {t:List Ins} (h:RdOk t) (hp:qw_ t) (i:Nat):nst t i=some (stk t (inn t i i)):=by
 have key:∀ i,nst t i≠none:=by
  intro i;induction i with
  | zero=>simp[nst]
  | succ i ih=>
   cases h1:nst t i with
   | none=>exact absurd h1 ih
   | some s=>
    have hs:=adm_ h i s h1;simp only[nst,h1,Option.bind_some];unfold j9_;rw[hs,u6_ h];have hu:(un_ t i && um_ t (stk t (inn t i i)) (nth t (i - 1)).a)=false:=by
     rw[Bool.eq_false_iff];intro hb;simp only[Bool.and_eq_true] at hb;obtain⟨hb1,hb2⟩:=hb;obtain⟨f,hf,ha⟩:=(aha_ (fun f hf=>alc_ hf)).1 hb2;obtain⟨m1,m2⟩:=jq_.1 hf;rw[xu_] at m2;obtain⟨b1,b2⟩:=vt_.1 hb1;have:=hp (f - 1) (i - 1) (by omega) m2.2.2.1 b2;have e1:f - 1+1=f:=(by omega);have e2:i - 1+1=i:=(by omega);rw[e1,e2] at this;rcases this with h2|⟨h2,h3⟩
     ·omega
     ·exact h3 ha
    rw[hu];simp only[Bool.false_eq_true,if_false];split
    · rename_i hr;obtain⟨c1,c2,c3,c4⟩:=h.rounds i hr;obtain⟨f,hf⟩:∃ f:Nat,(nth t i).b=f:=⟨(nth t i).b.toNat,by omega⟩;have hfr:=aob_ h hr hf;have hfm:f∈inn t (i+1) i:=by
       rw[jq_,xu_];have e:((nth t i).b - 1).toNat=f - 1:=(by omega);rw[e] at c3;exact⟨by omega,by omega,by omega,c3,by omega⟩
      cases hl:inn t (i+1) i with
      | nil=>rw[hl] at hfm;simp at hfm
      | cons g l=>
       have hgf:g=f:=by
        rw[hl] at hfm;rcases List.mem_cons.1 hfm with h2|h2
        ·exact h2.symm
        ·have hs2:=u5_ t (i+1) i;rw[hl] at hs2;have hgt:=(List.pairwise_cons.1 hs2).1 f h2;have hgm:g∈inn t (i+1) i:=(by rw[hl];simp);obtain⟨m1,m2⟩:=jq_.1 hgm;rw[xu_] at m2;have hff:=(jq_.1 (show f∈inn t (i+1) i by rw[hl];exact hfm)).2;rw[xu_] at hff;have:=hp (f - 1) (g - 1) (by omega) hff.2.2.1 m2.2.2.1;have e1:f - 1+1=f:=(by omega);have e2:g - 1+1=g:=(by omega);rw[e1,e2] at this;omega
       rw[abw_];simp only[List.headD_cons,hgf,hf,if_true];simp
    ·simp
 cases h1:nst t i with
 | none=>exact absurd h1 (key i)
 | some s=>rw[adm_ h i s h1]
theorem ahb_ {t:List Ins} (i k:Nat) (h:nst t (i+k)≠none):nst t i≠none:=by
 induction k with
 | zero=>exact h
 | succ k ih=>
  apply ih;intro hn;apply h;show nst t (i+k+1)=none
  simp[nst,hn]
theorem ahc_ {t:List Ins} (h:RdOk t) (hn:nst t t.length≠none):qw_ t:=by
 have hk:∀ i,i≤t.length→nst t i=some (stk t (inn t i i)):=by
  intro i hi;cases h1:nst t i with
  | none=>
   exfalso;apply ahb_ (t:=t) i (t.length - i) _ h1;have:i+(t.length - i)=t.length:=(by omega);rw[this];exact hn
  | some s=>rw[adm_ h i s h1]
 have hstep:∀ i,i<t.length→j9_ t i (stk t (inn t i i))≠none:=by
  intro i hi hx;have:=hk (i+1) hi;simp only[nst,hk i (by omega),Option.bind_some,hx] at this;simp at this
 intro i j hij hei hej;rcases Nat.lt_or_ge (rnd t (i+1)) (j+1) with h1|h1
 ·exact Or.inl h1
 · right;have hri:=adk_ h hei;have hrj:=adk_ h hej;constructor
   · -- else the one that began first ends first
     apply Classical.byContradiction;intro hc;have hne:rnd t (j+1)≠rnd t (i+1):=by
      intro he;have a1:=(jp_ hri.2).2;have a2:=(jp_ hrj.2).2;rw[he,a1] at a2;omega
     have hlt:rnd t (i+1)<rnd t (j+1):=(by omega);have:=hstep (rnd t (i+1)) hri.2;unfold j9_ at this;rw[u6_ h] at this;obtain⟨r1,r2⟩:=jp_ hri.2;split at this
     ·exact this rfl
     · rw[abw_] at this;have hjm:j+1∈inn t (rnd t (i+1)+1) (rnd t (i+1)):=by
        rw[jq_,xu_];exact⟨by omega,by omega,by omega,by simpa using hej,by omega⟩
       cases hl:inn t (rnd t (i+1)+1) (rnd t (i+1)) with
       | nil=>rw[hl] at hjm;simp at hjm
       | cons g l=>
        rw[hl] at this hjm;have hs2:=u5_ t (rnd t (i+1)+1) (rnd t (i+1));rw[hl] at hs2;have hgj:j+1≤g:=by
         rcases List.mem_cons.1 hjm with h2|h2
         ·omega
         ·have:=(List.pairwise_cons.1 hs2).1 _ h2;omega
        rw[if_neg (by rw[r2];simp;omega)] at this;exact this rfl
   · -- the counters
     intro ha;have hjl:j+1<t.length:=(by omega);have:=hstep (j+1) hjl;unfold j9_ at this;rw[if_pos] at this
     ·exact this rfl
     ·simp only[Bool.and_eq_true];refine⟨vt_.2 ⟨by omega,by simpa using hej⟩,(aha_ (fun f hf=>alc_ hf)).2 ⟨i+1,?_,by simpa using ha⟩⟩;rw[jq_,xu_];exact⟨by omega,by omega,by omega,by simpa using hei,by omega⟩
def prd (t:List Ins) (l:List Nat):Int:=((stk t l).headD (0,1)).2
def pr (t:List Ins):List Nat→Int
 | []=>1
 | f::l=>pr t l*(nth t (f - 1)).b
theorem z7_ {a b:Int} (ha:1≤a) (hb:1≤b):1≤a*b∧a≤a*b:=by
 obtain⟨n,rfl⟩:=Int.eq_ofNat_of_zero_le (show 0≤a by omega);obtain⟨m,rfl⟩:=Int.eq_ofNat_of_zero_le (show 0≤b by omega);have h1:n*1≤n*m:=Nat.mul_le_mul_left n (by omega);have h2:((n:Int)*(m:Int))=((n*m:Nat):Int):=(by simp);rw[h2];omega
theorem abx_ {x b T:Int} (hx:1≤x) (hb:1≤b) (hT:1≤T):min (min x T*b) T=min (x*b) T:=by
 by_cases h:x≤T
 ·rw[Int.min_eq_left h]
 ·have h1:min x T=T:=Int.min_eq_right (by omega);rw[h1];have h2:=(z7_ hT hb).2;have h3:=(z7_ hx hb).2;rw[Int.min_eq_right h2,Int.min_eq_right (by omega)]
def Bs (t:List Ins):Prop:=∀ i,isE t i=true→1≤(nth t i).b∧(nth t i).b≤10000
theorem ack_ {t:List Ins} (hB:Bs t) (l:List Nat) (hl:∀ f,f∈l→isE t (f - 1)=true):1≤pr t l:=by
 induction l with
 | nil=>simp[pr]
 | cons f l ih=>exact(z7_ (ih (fun g hg=>hl g (by simp[hg]))) (hB _ (hl f (by simp))).1).1
theorem afr_ {t:List Ins} (hB:Bs t) (l:List Nat) (hl:∀ f,f∈l→isE t (f - 1)=true):prd t l=min (pr t l) yx_:=by
 induction l with
 | nil=>simp only[prd,pr,stk,yx_,List.headD_cons];omega
 | cons f l ih=>
  have h1:=ih (fun g hg=>hl g (by simp[hg]));unfold prd at h1 ⊢;simp only[stk,List.headD_cons,h1,pr];exact abx_ (ack_ hB l (fun g hg=>hl g (by simp[hg]))) (hB _ (hl f (by simp))).1 (by simp[yx_])
theorem je_ {t:List Ins} {m i:Nat}:∀ f,f∈inn t m i→isE t (f - 1)=true:=fun f hf=>(xu_.1 (jq_.1 hf).2).2.2.1
theorem adn_ {t:List Ins} (hB:Bs t) (m i:Nat):1≤prd t (inn t m i)∧prd t (inn t m i)≤yx_:=by
 rw[afr_ hB _ je_];have:=ack_ hB (inn t m i) je_;have h2:(1:Int)≤yx_:=(by simp[yx_]);omega
def z4_ (t:List Ins) (s:Nat→Int):Nat→Int
 | 0=>0
 | k+1=>min (z4_ t s k+min (s k*prd t (inn t (k+1) k)) yx_) yx_
def mulR (t:List Ins) (k:Nat) (n:Int) (e:Nat):Int:=if inL t (e+1) k && decide (n≤1000000000) then n*(nth t e).b else n
def v2_ (t:List Ins) (k:Nat) (n:Int) (m:Nat):Int:=((List.range m).filter (isE t)).foldl (mulR t k) n
theorem aeq_ (t:List Ins) (k:Nat) (n:Int) (m:Nat):v2_ t k n (m+1)=if isE t m then mulR t k (v2_ t k n m) m else v2_ t k n m:=by
 unfold v2_;rw[List.range_succ,List.filter_append,List.foldl_append];by_cases h:isE t m=true
 ·simp[h]
 ·simp[h]
theorem ald_ {t:List Ins} (hB:Bs t) (k:Nat) (n:Int) (hn:1≤n) (hn2:n≤1000000001) (m:Nat):1≤v2_ t k n m∧v2_ t k n m≤10000000000000:=by
 induction m with
 | zero=>simp[v2_];omega
 | succ m ih=>
  rw[aeq_];split
  · rename_i he;unfold mulR;split
    ·rename_i hc;simp only[Bool.and_eq_true,decide_eq_true_eq] at hc;have hb:=hB m he;refine⟨(z7_ ih.1 hb.1).1,?_⟩;have h1:v2_ t k n m*(nth t m).b≤1000000000*(nth t m).b:=Int.mul_le_mul_of_nonneg_right hc.2 (by omega);have h2:(1000000000:Int)*(nth t m).b≤1000000000*10000:=Int.mul_le_mul_of_nonneg_left hb.2 (by omega);omega
    ·exact ih
  ·exact ih
theorem arp_ {t:List Ins} (hB:Bs t) (k:Nat) (n:Int) (hn:1≤n) (hn2:n≤1000000001) (m:Nat):min (v2_ t k n m) yx_=min (n*pr t (inn t (m+1) k)) yx_:=by
 induction m with
 | zero=>
  have:inn t 1 k=[]:=by
   rw[abv_,if_neg]
   ·rfl
   ·simp[inL]
  rw[Nat.zero_add,this];simp[v2_,pr]
 | succ m ih=>
  rw[aeq_,abv_];have hpos:=(ald_ hB k n hn hn2 m).1;have hpp:=ack_ hB (inn t (m+1) k) je_;by_cases he:isE t m=true
  · rw[if_pos he];unfold mulR;by_cases hi:inL t (m+1) k=true
    · rw[if_pos hi];have hb:=hB m he;simp only[pr,Nat.add_sub_cancel];rw[← Int.mul_assoc,← abx_ (z7_ hn hpp).1 hb.1 (by simp[yx_]),← ih];by_cases hc:v2_ t k n m≤1000000000
      ·rw[if_pos (by simp[hi,hc]),abx_ hpos hb.1 (by simp[yx_])]
      ·rw[if_neg (by simp[hc]),abx_ hpos hb.1 (by simp[yx_])];have:=(z7_ hpos hb.1).2;rw[Int.min_eq_right (by simp[yx_];omega),Int.min_eq_right (by simp[yx_];omega)]
    ·rw[if_neg hi,if_neg (by simp[hi])];exact ih
  · rw[if_neg he,if_neg]
    ·exact ih
    ·intro hi;exact he (xu_.1 hi).2.2.1
theorem ahd_ (t:List Ins) (k m:Nat):inn t (k+1+m) k=inn t (k+1) k:=by
 induction m with
 | zero=>rfl
 | succ m ih=>
  rw[show k+1+(m+1)=(k+1+m)+1 by omega,abv_,if_neg]
  ·exact ih
  ·intro hi;have:=(xu_.1 hi).2.1;omega
theorem aof_ {t:List Ins} (hB:Bs t) (k:Nat) (hk:k<t.length) (n:Int) (hn:1≤n) (hn2:n≤1000000001):min (v2_ t k n t.length) yx_=min (n*prd t (inn t (k+1) k)) yx_:=by
 rw[arp_ hB k n hn hn2];obtain⟨m,hm⟩:∃ m,t.length+1=k+1+m:=⟨t.length - k,by omega⟩;rw[hm,ahd_,afr_ hB _ je_,Int.mul_comm n (min _ _),abx_ (ack_ hB _ je_) hn (by simp[yx_]),Int.mul_comm]
theorem aer_ {t:List Ins} (hB:Bs t) (s:Nat→Int) (k:Nat) (hk:k<t.length) (hs:1≤s k) (hs2:s k≤1000000001) (h0:0≤z4_ t s k) (h1:z4_ t s k≤1000000000) :
 z4_ t s (k+1)=if z4_ t s k+v2_ t k (s k) t.length≤1000000000 then z4_ t s k+v2_ t k (s k) t.length else yx_:=by
 simp only[z4_];rw[← aof_ hB k hk (s k) hs hs2];have:=(ald_ hB k (s k) hs hs2 t.length).1;generalize v2_ t k (s k) t.length=r at *;simp only[yx_];split <;> omega
theorem afs_ {t:List Ins} (hB:Bs t) (s:Nat→Int) (hs:∀ k,1≤s k) (k:Nat):0≤z4_ t s k∧z4_ t s k≤yx_:=by
 induction k with
 | zero=>simp[z4_,yx_]
 | succ k ih=>
  simp only[z4_];have:=(z7_ (hs k) (adn_ hB (k+1) k).1).1;simp only[yx_] at *;omega
theorem aog_ {t:List Ins} (hB:Bs t) (s:Nat→Int) (hs:∀ k,1≤s k) (k m:Nat) (h:z4_ t s k=yx_):z4_ t s (k+m)=yx_:=by
 induction m with
 | zero=>exact h
 | succ m ih=>
  show z4_ t s (k+m+1)=yx_
  simp only[z4_];rw[ih];have:=(z7_ (hs (k+m)) (adn_ hB (k+m+1) (k+m)).1).1;simp only[yx_] at *;omega
theorem ale_ {t:List Ins} (i a:Nat) (hia:i<a):(∃ e,inL t (e+1) a=true∧inL t (e+1) i=false)↔i<(inn t (a+1) a).headD 0:=by
 constructor
 · rintro⟨e,h1,h2⟩;have hm:e+1∈inn t (a+1) a:=jq_.2 ⟨by have:=(xu_.1 h1).2.1;omega,h1⟩;have hgt:i<e+1:=by
    apply Classical.byContradiction;intro hn;rw[Bool.eq_false_iff] at h2;apply h2;rw[xu_] at h1 ⊢;exact⟨h1.1,by omega,h1.2.2.1,by omega⟩
   cases hl:inn t (a+1) a with
   | nil=>rw[hl] at hm;simp at hm
   | cons g l=>
    rw[hl] at hm;have hs:=u5_ t (a+1) a;rw[hl] at hs;simp only[List.headD_cons];rcases List.mem_cons.1 hm with h3|h3
    ·omega
    ·have:=(List.pairwise_cons.1 hs).1 _ h3;omega
 · intro h;cases hl:inn t (a+1) a with
   | nil=>rw[hl] at h;simp at h
   | cons g l=>
    rw[hl] at h;simp only[List.headD_cons] at h;have hg:=(jq_.1 (show g∈inn t (a+1) a by rw[hl];simp)).2;have h1:=(xu_.1 hg).1;refine⟨g - 1,?_,?_⟩
    ·rw[show g - 1+1=g by omega];exact hg
    ·rw[show g - 1+1=g by omega,Bool.eq_false_iff];intro h2;have:=(xu_.1 h2).2.1;omega
theorem arq_ {t:List Ins} (h:RdOk t):inn t (t.length+1) t.length=[]:=by
 cases hl:inn t (t.length+1) t.length with
 | nil=>rfl
 | cons g l=>
  have hg:=xu_.1 (jq_.1 (show g∈inn t (t.length+1) t.length by rw[hl];simp)).2;have:=(adk_ h hg.2.2.1).2;rw[show g - 1+1=g by omega] at this;omega
def x9_ (t:List Ins) (i:Nat):List Nat:=
 if (nth t i).d=11 then [(nth t i).a.toNat] else if (nth t i).d=12 then [i+1,(nth t i).a.toNat] else if (nth t i).d=14 then [i+1,(nth t i).b.toNat] else [i+1]
def y1_ (h:Int):List Nat→List Int→Option (List Int)
 | [],hs=>some hs
 | p::ps,hs=>if (hs[p]?).getD 0 = -1 then y1_ h ps (hs.set p h) else if (hs[p]?).getD 0=h then y1_ h ps hs else none
def hgt (t:List Ins) (tk gv:Nat→Int):Nat→Option (List Int)
 | 0=>some (0::List.replicate t.length (-1))
 | i+1=>(hgt t tk gv i).bind fun hs=>
  if (hs[i]?).getD 0 = -1 then some hs
  else if (hs[i]?).getD 0<tk i∨1000<(hs[i]?).getD 0 - tk i+gv i then none
  else y1_ ((hs[i]?).getD 0 - tk i+gv i) (x9_ t i) hs
theorem aoh_ {h:Int} {ps:List Nat} {hs hs':List Int} (he:y1_ h ps hs=some hs'):hs'.length=hs.length:=by
 induction ps generalizing hs with
 | nil=>simp only[y1_,Option.some.injEq] at he;rw[he]
 | cons p ps ih=>
  simp only[y1_] at he;split at he
  ·rw[ih he];simp
  · split at he
    ·exact ih he
    ·simp at he
theorem ac9_ {t:List Ins} {tk gv:Nat→Int} {i:Nat} {hs:List Int} (he:hgt t tk gv i=some hs):hs.length=t.length+1:=by
 induction i generalizing hs with
 | zero=>simp only[hgt,Option.some.injEq] at he;rw[← he];simp
 | succ i ih=>
  simp only[hgt] at he;cases h1:hgt t tk gv i with
  | none=>rw[h1] at he;simp at he
  | some hs1=>
   rw[h1] at he;simp only[Option.bind_some] at he;split at he
   ·rw[← Option.some.inj he];exact ih h1
   · split at he
     ·simp at he
     ·rw[aoh_ he];exact ih h1
theorem aa2_ {h:Int} (h0:0≤h) {ps:List Nat} {hs hs':List Int} (hge:∀ p:Nat,-1≤(hs[p]?).getD 0) (he:y1_ h ps hs=some hs') :
 (∀ p:Nat,-1≤(hs'[p]?).getD 0)∧(∀ p:Nat,(hs[p]?).getD 0≠-1→(hs'[p]?).getD 0=(hs[p]?).getD 0)∧(∀ p:Nat,p∈ps→(hs'[p]?).getD 0=h∨hs.length≤p):=by
 induction ps generalizing hs with
 | nil=>
  simp only[y1_,Option.some.injEq] at he;subst he;exact⟨hge,fun p _=>rfl,fun p hp=>by simp at hp⟩
 | cons q ps ih=>
  simp only[y1_] at he;split at he
  · rename_i hq;have hlt:q<hs.length:=by
     apply Classical.byContradiction;intro hn;rw[List.getElem?_eq_none (by omega)] at hq;simp at hq
    have hset:∀ p,((hs.set q h)[p]?).getD 0=if p=q then h else(hs[p]?).getD 0:=by
     intro p;by_cases hpq:p=q
     ·subst hpq;simp[hlt]
     ·rw[if_neg hpq,List.getElem?_set_ne (fun e=>hpq e.symm)]
    obtain⟨a1,a2,a3⟩:=ih (hs:=hs.set q h) (fun p=>by rw[hset];split;omega;exact hge p) he;refine⟨a1,fun p hp=>?_,fun p hp=>?_⟩
    ·have hpq:p≠q:=fun e=>hp (by rw[e];exact hq);rw[a2 p (by rw[hset,if_neg hpq];exact hp),hset,if_neg hpq]
    · rcases List.mem_cons.1 hp with rfl|hp
      ·left;rw[a2 p (by rw[hset,if_pos rfl];omega),hset,if_pos rfl]
      · rcases a3 p hp with h1|h1
        ·exact Or.inl h1
        ·right;simpa using h1
  · split at he
    · rename_i hn hq;obtain⟨a1,a2,a3⟩:=ih hge he;refine⟨a1,a2,fun p hp=>?_⟩;rcases List.mem_cons.1 hp with rfl|hp
      ·left;rw[a2 p (by omega)];exact hq
      ·exact a3 p hp
    ·simp at he
theorem ud_ {t:List Ins} {tk gv:Nat→Int} (hg:∀ i,0≤gv i) {i:Nat} {hs:List Int} (he:hgt t tk gv i=some hs):∀ p:Nat,-1≤(hs[p]?).getD 0:=by
 induction i generalizing hs with
 | zero=>
  simp only[hgt,Option.some.injEq] at he;subst he;intro p;cases p with
  | zero=>simp
  | succ p=>
   simp only[List.getElem?_cons_succ,List.getElem?_replicate];split <;> simp
 | succ i ih=>
  simp only[hgt] at he;cases h1:hgt t tk gv i with
  | none=>rw[h1] at he;simp at he
  | some hs1=>
   rw[h1] at he;simp only[Option.bind_some] at he;split at he
   ·rw[← Option.some.inj he];exact ih h1
   · split at he
     ·simp at he
     ·rename_i hc;have:=hg i;exact(aa2_ (by omega) (ih h1) he).1
theorem arr_ {t:List Ins} {tk gv:Nat→Int} (hg:∀ i,0≤gv i) (hj:∀ i,i<t.length→(nth t i).d=11→(i:Int)<(nth t i).a∧(nth t i).a≤t.length) {hs:List Int} (he:hgt t tk gv t.length=some hs):0≤(hs[t.length]?).getD 0:=by
 have key:∀ i hs,i≤t.length→hgt t tk gv i=some hs→∃ p:Nat,i≤p∧p≤t.length∧0≤(hs[p]?).getD 0:=by
  intro i;induction i with
  | zero=>
   intro hs _ he;simp only[hgt,Option.some.injEq] at he;subst he;exact⟨0,Nat.le_refl _,Nat.zero_le _,by simp⟩
  | succ i ih=>
   intro hs hi he;simp only[hgt] at he;cases h1:hgt t tk gv i with
   | none=>rw[h1] at he;simp at he
   | some hs1=>
    rw[h1] at he;simp only[Option.bind_some] at he;obtain⟨p,p1,p2,p3⟩:=ih hs1 (by omega) h1;split at he
    · rename_i hu;rw[← Option.some.inj he];refine⟨p,?_,p2,p3⟩;rcases Nat.lt_or_ge i p with h2|h2
      ·exact h2
      ·have:p=i:=(by omega);subst this;omega
    · split at he
      ·simp at he
      · rename_i hc;have hgi:=hg i;obtain⟨a1,a2,a3⟩:=aa2_ (by omega) (ud_ hg h1) he;have hl:=ac9_ h1;have hw:∃ q,q∈x9_ t i∧i<q∧q≤t.length:=by
         unfold x9_;by_cases h11:(nth t i).d=11
         ·rw[if_pos h11];have:=hj i (by omega) h11;exact⟨(nth t i).a.toNat,by simp,by omega,by omega⟩
         · rw[if_neg h11];refine⟨i+1,?_,by omega,by omega⟩;split
           ·simp
           ·split <;> simp
        obtain⟨q,q1,q2,q3⟩:=hw;rcases a3 q q1 with h2|h2
        ·exact⟨q,q2,q3,by rw[h2];omega⟩
        ·omega
 obtain⟨p,p1,p2,p3⟩:=key t.length hs (Nat.le_refl _) he;have:p=t.length:=(by omega);subst this;exact p3
def yh_ (t:List Ins) (m:Nat):List Nat:=(List.range m).filter (isE t)
theorem acl_ (t:List Ins) (m:Nat):yh_ t (m+1)=if isE t m then yh_ t m++[m] else yh_ t m:=by
 unfold yh_;rw[List.range_succ,List.filter_append];by_cases h:isE t m=true
 ·simp[h]
 ·simp[h]
theorem jm_ {t:List Ins} {m e:Nat}:e∈yh_ t m↔e<m∧isE t e=true:=by simp[yh_]
theorem act_ (t:List Ins) (m:Nat):(yh_ t m).Pairwise (·<·):=by
 unfold yh_;exact List.Pairwise.filter _ List.pairwise_lt_range
theorem aao_ (t:List Ins) (m:Nat):(yh_ t m).length≤m:=by
 unfold yh_;have:=List.length_filter_le (isE t) (List.range m);simpa using this
theorem ajg_ (t:List Ins):(yh_ t t.length).length=t.countP (fun x=>x.d==13):=by
 have key:∀ k,k≤t.length→(yh_ t k).length=(t.take k).countP (fun x=>x.d==13):=by
  intro k;induction k with
  | zero=>intro _;simp[yh_]
  | succ k ih=>
   intro hk;rw[u4_ t _ k (by omega),acl_,← ih (by omega)];by_cases h:isE t k=true
   ·rw[if_pos h,if_pos (by simpa[isE] using h)];simp
   ·rw[if_neg h,if_neg (by simpa[isE] using h)];simp
 have:=key t.length (Nat.le_refl _);simpa using this
def ue_ (t:List Ins) (i j:Nat):Prop:=rnd t (i+1)<j+1∨(rnd t (j+1)<rnd t (i+1)∧(nth t i).a≠(nth t j).a)
theorem al4_ (t:List Ins):qw_ t↔∀ p q,p<q→∀ hq:q<(yh_ t t.length).length,∀ hp:p<(yh_ t t.length).length,ue_ t (yh_ t t.length)[p] (yh_ t t.length)[q]:=by
 constructor
 ·intro h p q hpq hq hp;have h1:=(List.pairwise_iff_getElem.1 (act_ t t.length)) p q hp hq hpq;exact h _ _ h1 (jm_.1 (List.getElem_mem hp)).2 (jm_.1 (List.getElem_mem hq)).2
 · intro h i j hij hi hj;obtain⟨p,hp,rfl⟩:=List.getElem_of_mem (jm_.2 ⟨aam_ hi,hi⟩);obtain⟨q,hq,rfl⟩:=List.getElem_of_mem (jm_.2 ⟨aam_ hj,hj⟩);have hpq:p<q:=by
    apply Classical.byContradiction;intro hn;rcases Nat.lt_or_ge q p with h1|h1
    ·have:=(List.pairwise_iff_getElem.1 (act_ t t.length)) q p hq hp h1;omega
    ·have:p=q:=(by omega);subst this;omega
   exact h p q hpq hq hp
def begA (t:List Ins) (k:Nat):Int:=(((inn t (k+1) k).headD 0:Nat):Int)
def v3_ (t:List Ins) (k:Nat):List Int:=(List.range (t.length+1)).map (fun i=>if i<k then begA t i else 0)
def yo_ (t:List Ins) (k:Nat):List Int:=(List.range t.length).map (fun i=>if i<k then prd t (inn t (i+1) i) else 0)
theorem aap_ (t:List Ins) (k:Nat):(v3_ t k).length=t.length+1:=by simp[v3_]
theorem aaq_ (t:List Ins) (k:Nat):(yo_ t k).length=t.length:=by simp[yo_]
theorem al5_ (t:List Ins):v3_ t 0=List.replicate (t.length+1) 0:=by
 apply List.ext_getElem
 ·simp[v3_]
 ·intro i h1 h2;simp[v3_]
theorem al6_ (t:List Ins):yo_ t 0=List.replicate t.length 0:=by
 apply List.ext_getElem
 ·simp[yo_]
 ·intro i h1 h2;simp[yo_]
theorem aoi_ (t:List Ins) (k:Nat):(v3_ t k).set k (begA t k)=v3_ t (k+1):=by
 apply List.ext_getElem
 ·simp[v3_]
 · intro i h1 h2;rw[List.getElem_set];simp only[v3_,List.getElem_map,List.getElem_range];by_cases e:k=i
   ·subst e;simp
   · rw[if_neg e];by_cases h:i<k
     ·rw[if_pos h,if_pos (by omega)]
     ·rw[if_neg h,if_neg (by omega)]
theorem aoj_ (t:List Ins) (k:Nat):(yo_ t k).set k (prd t (inn t (k+1) k))=yo_ t (k+1):=by
 apply List.ext_getElem
 ·simp[yo_]
 · intro i h1 h2;rw[List.getElem_set];simp only[yo_,List.getElem_map,List.getElem_range];by_cases e:k=i
   ·subst e;simp
   · rw[if_neg e];by_cases h:i<k
     ·rw[if_pos h,if_pos (by omega)]
     ·rw[if_neg h,if_neg (by omega)]
theorem ahe_ (t:List Ins) (h:RdOk t) (i:Nat) (hi:i≤t.length):(v3_ t t.length).getD i 0=begA t i:=by
 have hl:i<(v3_ t t.length).length:=(by rw[aap_];omega);rw[List.getD,List.getElem?_eq_getElem hl,Option.getD_some];simp only[v3_,List.getElem_map,List.getElem_range];by_cases e:i<t.length
 ·rw[if_pos e]
 ·have:i=t.length:=(by omega);subst this;rw[if_neg (by omega)];simp[begA,arq_ h]
theorem aok_ (t:List Ins) (i:Nat) (hi:i<t.length):(yo_ t t.length).getD i 0=prd t (inn t (i+1) i):=by
 have hl:i<(yo_ t t.length).length:=(by rw[aaq_];omega);rw[List.getD,List.getElem?_eq_getElem hl,Option.getD_some];simp only[yo_,List.getElem_map,List.getElem_range];rw[if_pos hi]
def Fwd (t:List Ins):Prop:=∀ i,i<t.length→((nth t i).d=11∨(nth t i).d=12)→(i:Int)<(nth t i).a∧(nth t i).a≤t.length
def JDoc (t:List Ins):Prop:=∀ i,i<t.length→((nth t i).d=11∨(nth t i).d=12)→∀ e,isE t e=true→inL t (e+1) (nth t i).a.toNat=true→inL t (e+1) i=true
theorem abl_ {t:List Ins} (h:RdOk t) (hf:Fwd t):JDoc t↔∀ i,i<t.length→((nth t i).d=11∨(nth t i).d=12)→(v3_ t t.length).getD (nth t i).a.toNat 0≤(i:Int):=by
 constructor
 ·intro hj i hi hd;obtain⟨f1,f2⟩:=hf i hi hd;rw[ahe_ t h _ (by omega)];unfold begA;apply Classical.byContradiction;intro hn;obtain⟨e,e1,e2⟩:=(ale_ (t:=t) i (nth t i).a.toNat (by omega)).2 (by omega);have:=hj i hi hd e (by have:=(xu_.1 e1).2.2.1;simpa using this) e1;rw[this] at e2;simp at e2
 ·intro hj i hi hd e he h1;obtain⟨f1,f2⟩:=hf i hi hd;have:=hj i hi hd;rw[ahe_ t h _ (by omega)] at this;unfold begA at this;apply Classical.byContradiction;intro hn;have:=(ale_ (t:=t) i (nth t i).a.toNat (by omega)).1 ⟨e,h1,by simpa using hn⟩;omega
theorem ado_ {t:List Ins} {tk gv:Nat→Int} (hg:∀ i,0≤gv i) (hf:Fwd t):(∃ hs,hgt t tk gv t.length=some hs∧hs.getD t.length 0≤0)↔∃ hs,hgt t tk gv t.length=some hs∧hs.getD t.length 0=0:=by
 constructor
 ·rintro⟨hs,h1,h2⟩;have:=arr_ hg (fun i hi hd=>hf i hi (.inl hd)) h1;refine⟨hs,h1,?_⟩;change 0≤hs.getD t.length 0 at this;omega
 ·rintro⟨hs,h1,h2⟩;exact⟨hs,h1,by omega⟩
theorem abm_ {t:List Ins} (hB:∀ i,isR t i=true→1≤(nth t i).b∧(nth t i).b≤i):(LpOk t∧qw_ t)↔(RdOk t∧nst t t.length≠none):=by
 constructor
 ·rintro⟨h1,h2⟩;have hr:=(aoa_ t).1 ⟨hB,h1⟩;refine⟨hr,?_⟩;rw[aoe_ hr h2];simp
 ·rintro⟨h1,h2⟩;exact⟨((aoa_ t).2 h1).2,ahc_ h1 h2⟩
def opL (st:List (Nat×Int)):List Int:=(st.map (fun p=>((p.1:Nat):Int))).reverse
def tmL (st:List (Nat×Int)):List Int:=(st.map Prod.snd).reverse
theorem jf_ (st:List (Nat×Int)):(opL st).length=st.length:=by simp[opL]
theorem jg_ (st:List (Nat×Int)):(tmL st).length=st.length:=by simp[tmL]
theorem adp_ (p:Nat×Int) (st:List (Nat×Int)):opL (p::st)=opL st++[((p.1:Nat):Int)]:=by simp[opL]
theorem adq_ (p:Nat×Int) (st:List (Nat×Int)):tmL (p::st)=tmL st++[p.2]:=by simp[tmL]
theorem uo_ (p:Nat×Int) (st:List (Nat×Int)):(opL (p::st)).getD st.length 0=((p.1:Nat):Int):=by
 rw[adp_,List.getD,List.getElem?_append_right (by rw[jf_];omega)];simp[jf_]
theorem aby_ (p:Nat×Int) (st:List (Nat×Int)):(tmL (p::st)).getD st.length 0=p.2:=by
 rw[adq_,List.getD,List.getElem?_append_right (by rw[jg_];omega)];simp[jg_]
def Dis (t:List Ins) (st:List (Nat×Int)):Prop:=st.Pairwise (fun p q=>0<p.1→0<q.1→(nth t (p.1 - 1)).a≠(nth t (q.1 - 1)).a)
theorem aes_ (t:List Ins) (p:Nat×Int) (st:List (Nat×Int)) (a:Int):um_ t (p::st) a=((decide (0<p.1) && (nth t (p.1 - 1)).a==a) ||um_ t st a):=by simp[um_]
theorem adr_ {t:List Ins} {st:List (Nat×Int)} {a:Int}:um_ t st a=false↔∀ q,q∈st→0<q.1→(nth t (q.1 - 1)).a≠a:=by
 simp only[um_,List.any_eq_false,Bool.and_eq_true,decide_eq_true_eq,beq_iff_eq,not_and]
theorem ahg_ {t:List Ins} {st:List (Nat×Int)} {p:Nat×Int} (h:Dis t st) (hu:0<p.1→um_ t st (nth t (p.1 - 1)).a=false):Dis t (p::st):=by
 refine List.pairwise_cons.2 ⟨fun q hq h1 h2=>?_,h⟩;have:=adr_.1 (hu h1) q hq h2;exact fun e=>this e.symm
theorem ars_ {t:List Ins} {st:List (Nat×Int)} {p:Nat×Int} (h:Dis t (p::st)) (hp:0<p.1):um_ t st (nth t (p.1 - 1)).a=false∧Dis t st:=by
 obtain⟨h1,h2⟩:=List.pairwise_cons.1 h;exact⟨adr_.2 fun q hq h0 e=>h1 q hq hp h0 e.symm,h2⟩
def cuL (t:List Ins) (st:List (Nat×Int)):List Bool:=(List.range 40).map (fun (a:Nat)=>um_ t st (a:Int))
theorem abz_ (t:List Ins) (st:List (Nat×Int)):(cuL t st).length=40:=by simp[cuL]
theorem art_ (t:List Ins) (st:List (Nat×Int)) (a:Nat) (h:a<40):(cuL t st).getD a false=um_ t st (a:Int):=by
 have hl:a<(cuL t st).length:=(by rw[abz_];exact h);rw[List.getD,List.getElem?_eq_getElem hl,Option.getD_some];simp[cuL]
theorem aol_ (t:List Ins):cuL t [(0,1)]=List.replicate 40 false:=by
 apply List.ext_getElem
 ·simp[cuL]
 ·intro i h1 h2;rw[List.getElem_replicate];simp only[cuL,List.getElem_map];rfl
theorem aom_ {t:List Ins} {st:List (Nat×Int)} {p:Nat×Int} (hp:0<p.1) (a:Nat) (ha:(nth t (p.1 - 1)).a=(a:Int)):(cuL t st).set a true=cuL t (p::st):=by
 apply List.ext_getElem
 ·simp[cuL]
 · intro i h1 h2;rw[List.getElem_set];simp only[cuL,List.getElem_map,List.getElem_range,aes_,ha];by_cases e:a=i
   ·subst e;simp[hp]
   ·rw[if_neg e];have:((a:Int)==(i:Int))=false:=(by simp;omega);simp[this]
theorem aft_ {t:List Ins} {st:List (Nat×Int)} {p:Nat×Int} (h:Dis t (p::st)) (hp:0<p.1) (a:Nat) (ha:(nth t (p.1 - 1)).a=(a:Int)):(cuL t (p::st)).set a false=cuL t st:=by
 have hu:=(ars_ h hp).1;rw[ha] at hu;apply List.ext_getElem
 ·simp[cuL]
 · intro i h1 h2;rw[List.getElem_set];simp only[cuL,List.getElem_map,List.getElem_range,aes_,ha];by_cases e:a=i
   ·subst e;simp[hu]
   ·rw[if_neg e];have:((a:Int)==(i:Int))=false:=(by simp;omega);simp[this]
theorem alf_ {t:List Ins} (hB:Bs t) (l:List Nat) (hl:∀ f,f∈l→isE t (f - 1)=true):∀ p,p∈stk t l→1≤p.2∧p.2≤yx_:=by
 induction l with
 | nil=>intro p hp;simp[stk] at hp;subst hp;simp[yx_]
 | cons f l ih=>
  intro p hp;have hl':∀ g,g∈l→isE t (g - 1)=true:=fun g hg=>hl g (by simp[hg]);simp only[stk,List.mem_cons] at hp;rcases hp with rfl|hp
  ·have h1:=afr_ hB (f::l) hl;have h2:=ack_ hB (f::l) hl;have h3:(1:Int)≤yx_:=(by simp[yx_]);have h4:prd t (f::l)=min (((stk t l).headD (0,1)).2*(nth t (f - 1)).b) yx_:=rfl;rw[← h4,h1];omega
  ·exact ih hl' p hp
theorem alg_ (t:List Ins) (l:List Nat):(stk t l).length=l.length+1:=by
 induction l with
 | nil=>rfl
 | cons f l ih=>simp[stk,ih]
theorem alh_ (t:List Ins) (m i:Nat):(inn t m i).length≤m:=by
 unfold inn;have:=List.length_filter_le (fun f=>inL t f i) (List.range m).reverse;simpa using this
structure StOk (t:List Ins) (k:Nat) (st:List (Nat×Int)):Prop where
 is:nst t k=some st
 ne:∃ p r,st=p::r
 len:st.length≤k+1
 times:∀ p,p∈st→1≤p.2∧p.2≤yx_
 dis:Dis t st
 eq:st=stk t (inn t k k)
theorem abn_ {t:List Ins} (k:Nat) (st:List (Nat×Int)) (h:nst t k=some st):Dis t st:=by
 induction k generalizing st with
 | zero=>simp only[nst,Option.some.injEq] at h;subst h;simp[Dis]
 | succ k ih=>
  simp only[nst] at h;cases h1:nst t k with
  | none=>rw[h1] at h;simp at h
  | some s=>
   rw[h1] at h;simp only[Option.bind_some] at h;have hd:=ih s h1;unfold j9_ at h;split at h
   ·simp at h
   · rename_i hu;have hpd:Dis t (qo_ t k s):=by
      unfold qo_;split
      ·rename_i hb;apply ahg_ hd;intro _;simp only[hb,Bool.true_and] at hu;simpa using hu
      ·exact hd
     split at h
     · split at h
       ·rw[← Option.some.inj h];exact List.Pairwise.sublist (List.tail_sublist _) hpd
       ·simp at h
     ·rw[← Option.some.inj h];exact hpd
theorem ada_ {t:List Ins} (hR:RdOk t) (hB:Bs t) (k:Nat) (st:List (Nat×Int)) (h:nst t k=some st):StOk t k st:=by
 have e:=adm_ hR k st h;refine⟨h,?_,?_,?_,abn_ k st h,e⟩
 ·rw[e];cases inn t k k <;> exact⟨_,_,rfl⟩
 ·rw[e,alg_];have:=alh_ t k k;omega
 ·rw[e];exact alf_ hB _ je_
theorem aet_ {t:List Ins} (hR:RdOk t) (hB:Bs t) (k:Nat) (st:List (Nat×Int)) (h:nst t k=some st) :
 qo_ t k st=stk t (inn t (k+1) k)∧(∀ p,p∈qo_ t k st→1≤p.2∧p.2≤yx_)∧(qo_ t k st).length≤k+2∧((((qo_ t k st).headD (0,1)).1:Nat):Int)=begA t k∧((qo_ t k st).headD (0,1)).2=prd t (inn t (k+1) k):=by
 have e:=adm_ hR k st h;have e2:qo_ t k st=stk t (inn t (k+1) k):=(by rw[e,u6_ hR]);refine⟨e2,?_,?_,?_,?_⟩
 ·rw[e2];exact alf_ hB _ je_
 ·rw[e2,alg_];have:=alh_ t (k+1) k;omega
 ·rw[e2,abw_];rfl
 ·rw[e2];rfl
end Go.Proofs.YtcgbfhpmkpglkaaGreatDoor
namespace Go.Proofs.YtcgbfhpmkpglkaaGreatDoor
open Go.RowKit
attribute [local go_sem ↓] Go.wp_at_zero Go.wp_at_succ
def kr_ (l:List Bool):Array Value:=(l.map Value.bool).toArray
theorem ads_ (l:List Bool) (k:Nat) (x:Bool):(kr_ l).setIfInBounds k (.bool x)=kr_ (l.set k x):=by
 unfold kr_;simp[List.map_set]
theorem aa3_ {w:World} {c T:Nat} {l:List Bool} (h:w.heap[c]?=some (.cells (kr_ l) T)) (i:Nat) (hi:i<l.length):w.cell? ⟨c,i,none⟩=some (.bool (l.getD i false)):=by
 rw[xa_ h];simp[kr_,hi]
def OwnI (B:Nat) (w:World) (g cap:Nat) (l:List Int):Prop:=w.ownsRow B 3 1 (.slice (some ⟨g,0,none⟩) l.length cap) l.length (l.map (Value.int .i64))
theorem OwnI.get {B:Nat} {w:World} {g cap:Nat} {l:List Int} (h:OwnI B w g cap l) (i:Nat) (hi:i<l.length):w.cell? ⟨g,i,none⟩=some (.int .i64 (l.getD i 0)):=by
 rw[World.ownsRow.cellAt h i (by omega)];simp[hi]
theorem OwnI.lt {B:Nat} {w:World} {g cap:Nat} {l:List Int} (h:OwnI B w g cap l):B≤g∧g<w.heap.size:=World.ownsRow.lt h g rfl
theorem OwnI.kept {B:Nat} {w w':World} {g cap:Nat} {l:List Int} (h:OwnI B w g cap l) {row:Option Nat} (hg:w.grownBy w' row) (hne:row≠some g):OwnI B w' g cap l:=World.ownsRow.kept h hg (.inr fun e=>hne e.symm)
theorem OwnI.first {B:Nat} (w:World) (l:List Int) (hb:B≤w.heap.size) (hl:l.length≤1000000):OwnI B (w.alloc (.cells (xi_ l) 3)) w.heap.size l.length l:=by
 have:=World.ownsRow_lit (base:=B) (e:=3) (size:=1) w (xi_ l) l.length hb (by unfold maxLen;omega) (by simp[xi_]);simpa[OwnI,xi_] using this
theorem OwnI.pop {B:Nat} {w:World} {g cap:Nat} {l:List Int} {x:Int} (h:OwnI B w g cap (l++[x])):OwnI B w g cap l:=by
 unfold OwnI at h ⊢;rw[List.length_append] at h;simp only[List.length_cons,List.length_nil,List.map_append,List.map_cons,List.map_nil] at h;exact ownsRow_pop (by simp) h
theorem OwnI.more {B:Nat} {w:World} {g cap:Nat} {l:List Int} (h:OwnI B w g cap l) (x:Int) (hl:l.length≤1000000) (hB:B≤w.heap.size) :
 ∃ g' cap' w',(Builtin.append_ #[25,25] 25 #[.slice (some ⟨g,0,none⟩) l.length cap,.slice (some ⟨w.heap.size,0,none⟩) 1 1]).run Tryz.prog (w.alloc (.cells #[.int .i64 x] 3))=.ok (.slice (some ⟨g',0,none⟩) (l.length+1) cap') w'∧
  OwnI B w' g' cap' (l++[x])∧w.grownBy w' (some g)∧(g'=g∨w.heap.size≤g'):=by
 obtain⟨i0,hi,hz0,hz1,hz2⟩:=yt_ v1_;obtain⟨v',w',r1,r2,r3,r4,r5⟩:=run_append_own_at (P:=Tryz.prog) (w.alloc (.cells #[.int .i64 x] 3)) B 25 25 3 i0 (.int .i64 0) 1 8 Tryz.underlying25 hi hz0 hz1 hz2 rfl (by omega) _ _ _ (World.ownsRow.alloc h _) ⟨w.heap.size,0,none⟩ 1 1 [.int .i64 x] rfl
  (fun j u hj=>by
    rw[jc_,xa_ (heap_alloc_new w _) (0+j)];simpa using hj)
  (by simp[Value.oneCell']) (by unfold maxLen;omega) (by omega) (by simp;omega)
 have r2':=r2;obtain⟨_,hx|⟨g',cap',cur,rfl,_⟩⟩:=r2'
 ·exfalso;have:=(r4.1 hx.1).1;simp at this
 · refine⟨g',cap',w',r1,?_,?_,?_⟩
   ·unfold OwnI;simpa using r2
   ·exact x6_ (xb_ gz_ _) r3 (.inl rfl)
   · rcases r5 with h5|h5
     ·left;simpa[Value.ownBlock] using h5
     ·right;simp[Value.ownBlock] at h5;omega
theorem OwnI.moreAt {B:Nat} {W:World} {g cap:Nat} {l:List Int} (h:OwnI B W g cap l) (x:Int) (xb:Nat) (hx:W.heap[xb]?=some (.cells #[.int .i64 x] 3)) (hl:l.length≤1000000) (hB:B≤W.heap.size) :
 ∃ g' cap' w',(Builtin.append_ #[25,25] 25 #[.slice (some ⟨g,0,none⟩) l.length cap,.slice (some ⟨xb,0,none⟩) 1 1]).run Tryz.prog W=.ok (.slice (some ⟨g',0,none⟩) (l.length+1) cap') w'∧
  OwnI B w' g' cap' (l++[x])∧W.grownBy w' (some g)∧(g'=g∨(W.heap.size≤g'∧W.grownBy w' none)):=by
 obtain⟨i0,hi,hz0,hz1,hz2⟩:=yt_ v1_;have hnews:∀(j:Nat) (u:Value),[Value.int .i64 x][j]?=some u→W.cell? ((⟨xb,0,none⟩:Addr).add j)=some u:=fun j u hj=>by
  rw[jc_,xa_ hx (0+j)];simpa using hj
 by_cases hroom:l.length+1≤cap
 ·obtain⟨w',r1,r2,r3⟩:=run_append_fits (P:=Tryz.prog) W B 25 25 3 i0 1 Tryz.underlying25 hi hz1 g l.length cap _ h ⟨xb,0,none⟩ 1 1 [.int .i64 x] rfl hnews (by simp[Value.oneCell']) hroom;refine⟨g,cap,w',r1,?_,r3,.inl rfl⟩;unfold OwnI;simpa using r2
 · obtain⟨v',w',r1,r2,r3,r4,r5⟩:=run_append_own_at (P:=Tryz.prog) W B 25 25 3 i0 (.int .i64 0) 1 8 Tryz.underlying25 hi hz0 hz1 hz2 rfl (by omega) _ _ _ h ⟨xb,0,none⟩ 1 1 [.int .i64 x] rfl
    hnews (by simp[Value.oneCell']) (by unfold maxLen;omega) (by omega) hB
   have hcap:=nextslicecap_le (need:=l.length+1) (old:=cap) (by omega);have hgrow:=run_append_grow (P:=Tryz.prog) W 25 25 3 i0 (.int .i64 0) Tryz.underlying25 hi hz0 ⟨g,0,none⟩ l.length cap (l.map (Value.int .i64)) (by simp[hz1]) (fun j v hj=>World.ownsRow.cells h rfl j v hj) ⟨xb,0,none⟩ 1 1 [.int .i64 x] (by simp[hz1]) hnews (by omega) (by omega) (by rw[hz2];omega);rw[hgrow] at r1;injection r1 with e1 e2;subst e1 e2;refine⟨W.heap.size,_,_,hgrow,?_,r3,.inr ⟨Nat.le_refl _,xb_ (xf_ gz_) _⟩⟩;unfold OwnI;simpa using r2
theorem y7_ {P:Program} {w:World} {ops:Array Oper} {o:Oper} {a:Act} {K:Act→World→Prop} {Q:Exit→Act→World→Prop} {E:Prop} (hgd:o.guard=none) (s x:Operand) (t:TypeId)
 (ho:o.op=.call { callee:=.builtin .append,args:=#[s,x],argTypes:=#[t,t] })
 (v u v':Value) (w':World) (hs:a.eval s=v) (hx:a.eval x=u) (hrun:(Builtin.append_ #[t,t] o.type #[v,u]).run P w=.ok v' w')
 (h:K (a.put o.dst v') w'):if Region.wanted o (yielded ops a.tmps)=true then Oper.wp P o a w K Q else E:=by
 have hw:Region.wanted o (yielded ops a.tmps)=true:=(by simp[Region.wanted,hgd]);rw[if_pos hw];unfold Oper.wp;simp[execOp,ho,resolve,invoke,builtin,hs,hx,hrun,Result.andThen];exact h
end Go.Proofs.YtcgbfhpmkpglkaaGreatDoor
namespace Go.Proofs.YtcgbfhpmkpglkaaGreatDoor
def aOf (t:List Ins) (f:Nat):Int:=(nth t (f - 1)).a
def bOf (t:List Ins) (f:Nat):Int:=(nth t (f - 1)).b
def mM (t:List Ins) (i k:Nat):List Nat→Int
 | []=>1
 | f::l=>(if inL t f k=true∧inL t f i=false then bOf t f else 1)*mM t i k l
def qQ (t:List Ins) (c:Int→Int) (i k:Nat):List Nat→Int
 | []=>0
 | f::l=>if inL t f k=true∧inL t f i=true then(c (aOf t f) - 1)+bOf t f*qQ t c i k l else qQ t c i k l
def dn:Nat→List Nat
 | 0=>[0]
 | n+1=>(n+1)::dn n
def rR (t:List Ins) (c:Int→Int) (i k:Nat):Int:=mM t i k (dn t.length)*((if i≤k then 1 else 0)+qQ t c i k (dn t.length))
def Cn (t:List Ins) (c:Int→Int) (i:Nat):Prop:=∀ f,inL t f i=true→1≤c (aOf t f)
theorem aqj_:∀(n f:Nat),f∈dn n→f≤n
 | 0,f,h=>by simp[dn] at h;omega
 | n+1,f,h=>by
  simp[dn] at h;rcases h with h|h
  ·omega
  ·have:=aqj_ n f h;omega
theorem ace_:∀(n f:Nat),f≤n→∃ A B,dn n=A++f::B∧(∀ g,g∈A→f<g)∧(∀ g,g∈B→g<f)
 | 0,f,h=>⟨[],[],by simp[dn];omega,by simp,by simp⟩
 | n+1,f,h=>by
  by_cases e:f=n+1
  ·exact⟨[],dn n,by simp[dn,e],by simp,fun g hg=>by have:=aqj_ n g hg;omega⟩
  · obtain⟨A,B,h1,h2,h3⟩:=ace_ n f (by omega);refine⟨(n+1)::A,B,by simp[dn,h1],fun g hg=>?_,h3⟩;rcases List.mem_cons.1 hg with h|h
    ·omega
    ·exact h2 g h
theorem afk_:∀ n,(dn n).Pairwise (· > ·)
 | 0=>by simp[dn]
 | n+1=>by
  simp only[dn,List.pairwise_cons];exact⟨fun g hg=>by have:=aqj_ n g hg;omega,afk_ n⟩
section
variable {t:List Ins}
theorem aqk_ (hB:Bs t) {f k:Nat} (h:inL t f k=true):1≤bOf t f:=(hB _ (xu_.1 h).2.2.1).1
theorem ki_ (hB:Bs t) (i k:Nat):∀ l,1≤mM t i k l
 | []=>by simp[mM]
 | f::l=>by
  simp only[mM];have:=ki_ hB i k l;split
  ·rename_i h;exact(z7_ (aqk_ hB h.1) this).1
  ·simpa using this
theorem agn_ (hB:Bs t) {c:Int→Int} {i:Nat} (hc:Cn t c i) (k:Nat):∀ l,0≤qQ t c i k l
 | []=>by simp[qQ]
 | f::l=>by
  simp only[qQ];have ih:=agn_ hB hc k l;split
  ·rename_i h;have h1:=hc f h.2;have h2:=aqk_ hB h.1;have h3:0≤bOf t f*qQ t c i k l:=Int.mul_nonneg (by omega) ih;omega
  ·exact ih
theorem aaf_ (i k:Nat):∀ A B,mM t i k (A++B)=mM t i k A*mM t i k B
 | [],B=>by simp[mM]
 | f::A,B=>by simp only[List.cons_append,mM,aaf_ i k A B,Int.mul_assoc]
theorem vr_ (c:Int→Int) (i k:Nat):∀ A B,(∀ f,f∈A→inL t f i=false)→qQ t c i k (A++B)=qQ t c i k B
 | [],B,_=>rfl
 | f::A,B,h=>by
  simp only[List.cons_append,qQ];rw[if_neg (by simp[h f (by simp)])];exact vr_ c i k A B (fun g hg=>h g (by simp[hg]))
theorem kj_ (i j k:Nat):∀ l,(∀ f,f∈l→inL t f i=inL t f j)→mM t i k l=mM t j k l
 | [],_=>rfl
 | f::l,h=>by
  simp only[mM];rw[h f (by simp),kj_ i j k l (fun g hg=>h g (by simp[hg]))]
theorem uw_ (c c':Int→Int) (i j k:Nat):∀ l,(∀ f,f∈l→inL t f i=inL t f j)→(∀ f,f∈l→inL t f i=true→c (aOf t f)=c' (aOf t f))→qQ t c i k l=qQ t c' j k l
 | [],_,_=>rfl
 | f::l,h,hc=>by
  simp only[qQ];rw[← h f (by simp),uw_ c c' i j k l (fun g hg=>h g (by simp[hg])) (fun g hg=>hc g (by simp[hg]))];by_cases e:inL t f i=true
  ·rw[hc f (by simp) e]
  ·simp[e]
theorem ath_ (hB:Bs t) (c:Int→Int) (i k:Nat) (h:∀ f,inL t f i=inL t f (i+1)):(if k=i then 1 else 0)+rR t c (i+1) k≤rR t c i k:=by
 unfold rR;rw[kj_ i (i+1) k _ (fun f _=>h f),uw_ c c i (i+1) k _ (fun f _=>h f) (fun _ _ _=>rfl)];have hM:=ki_ hB (i+1) k (dn t.length);generalize mM t (i+1) k (dn t.length)=M at *;generalize qQ t c (i+1) k (dn t.length)=q at *;by_cases e:k=i
 ·subst e;rw[if_pos rfl,if_pos (Nat.le_refl _),if_neg (by omega)];simp only[Int.mul_add,Int.mul_one,Int.mul_zero];omega
 · rw[if_neg e];by_cases e2:i≤k
   ·rw[if_pos e2,if_pos (show i+1≤k by omega)];omega
   ·rw[if_neg e2,if_neg (show ¬i+1≤k by omega)];omega
theorem ati_ (hB:Bs t) (c c':Int→Int) (i k:Nat) (hi:i<t.length) (hf:inL t (i+1) (i+1)=true) (hs:∀ g,g≤i→inL t g i=inL t g (i+1)) (hc:c' (aOf t (i+1))=bOf t (i+1)) (hc2:∀ g,g≤i→inL t g i=true→c (aOf t g)=c' (aOf t g)) :
 (if k=i then 1 else 0)+rR t c' (i+1) k≤rR t c i k:=by
 obtain⟨A,B,hd,hA,hBl⟩:=ace_ t.length (i+1) (by omega);unfold rR;rw[hd];have hA1:∀ g,g∈A→inL t g i=false:=fun g hg=>by
  have:=hA g hg;cases h:inL t g i with
  | false=>rfl
  | true=>have:=(xu_.1 h).2.1;omega
 have hA2:∀ g,g∈A→inL t g (i+1)=false:=fun g hg=>by
  have:=hA g hg;cases h:inL t g (i+1) with
  | false=>rfl
  | true=>have:=(xu_.1 h).2.1;omega
 have hf0:inL t (i+1) i=false:=by
  cases h:inL t (i+1) i with
  | false=>rfl
  | true=>have:=(xu_.1 h).2.1;omega
 have hb:∀ g,g∈B→inL t g i=inL t g (i+1):=fun g hg=>hs g (by have:=hBl g hg;omega);rw[aaf_,aaf_,vr_ c i k A _ hA1,vr_ c' (i+1) k A _ hA2,kj_ i (i+1) k A (fun g hg=>by rw[hA1 g hg,hA2 g hg])];simp only[mM,qQ,hf,hf0];rw[kj_ i (i+1) k B hb,uw_ c c' i (i+1) k B hb (fun g hg=>hc2 g (by have:=hBl g hg;omega)),hc];have hM:=(z7_ (ki_ hB (i+1) k A) (ki_ hB (i+1) k B)).1;generalize mM t (i+1) k A=MA at *;generalize mM t (i+1) k B=MB at *;generalize qQ t c' (i+1) k B=q at *;generalize bOf t (i+1)=b at *;by_cases hk:inL t (i+1) k=true
 · have hik:=(xu_.1 hk).2.1;simp only[hk];rw[if_neg (show ¬k=i by omega),if_pos hik,if_pos (show i≤k by omega)];simp only[and_self,and_false,if_true,if_false,Bool.true_eq_false,Bool.false_eq_true,Int.one_mul];have e:MA*MB*(1+(b - 1+b*q))=MA*(b*MB)*(1+q):=by
    simp only[Int.mul_add,Int.add_mul,Int.mul_sub,Int.mul_one,Int.mul_assoc,Int.mul_comm,Int.mul_left_comm];omega
   omega
 · simp only[hk,false_and,if_false,Int.one_mul,Bool.false_eq_true];by_cases e:k=i
   ·subst e;rw[if_pos rfl,if_pos (Nat.le_refl _),if_neg (by omega)];simp only[Int.mul_add,Int.mul_one,Int.mul_zero];omega
   · rw[if_neg e];by_cases e2:i≤k
     ·rw[if_pos e2,if_pos (show i+1≤k by omega)];omega
     ·rw[if_neg e2,if_neg (show ¬i+1≤k by omega)];omega
theorem avv_ (hB:Bs t) (c c':Int→Int) (f i k:Nat) (hi:i<t.length) (hf:inL t f i=true) (hfr:rnd t f=i) (hA1:∀ g,f<g→inL t g i=false) (hs:∀ g,g<f→inL t g i=inL t g f) (hc:c' (aOf t f)=c (aOf t f) - 1) (hc2:∀ g,g<f→inL t g i=true→c (aOf t g)=c' (aOf t g)) :
 (if k=i then 1 else 0)+rR t c' f k≤rR t c i k:=by
 have hfi:=(xu_.1 hf).2.1;obtain⟨A,B,hd,hA,hBl⟩:=ace_ t.length f (by omega);unfold rR;rw[hd];have hA1':∀ g,g∈A→inL t g i=false:=fun g hg=>hA1 g (hA g hg);have hA2:∀ g,g∈A→inL t g f=false:=fun g hg=>by
  have:=hA g hg;cases h:inL t g f with
  | false=>rfl
  | true=>have:=(xu_.1 h).2.1;omega
 have hff:inL t f f=true:=xu_.2 ⟨(xu_.1 hf).1,Nat.le_refl _,(xu_.1 hf).2.2.1,by omega⟩;have hb:∀ g,g∈B→inL t g i=inL t g f:=fun g hg=>hs g (hBl g hg);rw[aaf_,aaf_,vr_ c i k A _ hA1',vr_ c' f k A _ hA2,kj_ i f k A (fun g hg=>by rw[hA1' g hg,hA2 g hg])];simp only[mM,qQ,hf,hff];rw[kj_ i f k B hb,uw_ c c' i f k B hb (fun g hg=>hc2 g (hBl g hg)),hc];have hM:=(z7_ (ki_ hB f k A) (ki_ hB f k B)).1;generalize mM t f k A=MA at *;generalize mM t f k B=MB at *;generalize qQ t c' f k B=q at *;generalize bOf t f=b at *;generalize c (aOf t f)=x at *;simp only[Bool.true_eq_false,and_false,if_false,Int.one_mul,and_true];by_cases hk:inL t f k=true
 · have h1:=(xu_.1 hk).2.1;have h2:=(xu_.1 hk).2.2.2;rw[if_pos hk,if_pos hk,if_pos h1];have e:MA*MB*(1+(x - 1 - 1+b*q))=MA*MB*(x - 1+b*q):=(by congr 1;omega);rw[e];by_cases e2:k=i
   ·subst e2;rw[if_pos rfl,if_pos (Nat.le_refl _),Int.mul_add _ 1,Int.mul_one];omega
   ·rw[if_neg e2,if_neg (show ¬i≤k by omega),Int.zero_add,Int.zero_add];exact Int.le_refl _
 · rw[if_neg hk,if_neg hk];have hki:k≠i:=fun e=>hk (e▸hf);rw[if_neg hki,Int.zero_add];have hcase:k<f∨i<k:=by
    rcases Nat.lt_or_ge k f with h|h
    ·exact .inl h
    ·right;apply Classical.byContradiction;intro hn;exact hk (xu_.2 ⟨(xu_.1 hf).1,h,(xu_.1 hf).2.2.1,by omega⟩)
   rcases hcase with h|h
   ·rw[if_neg (show ¬f≤k by omega),if_neg (show ¬i≤k by omega)];exact Int.le_refl _
   ·rw[if_pos (show f≤k by omega),if_pos (show i≤k by omega)];exact Int.le_refl _
theorem atj_ (hB:Bs t) (c c':Int→Int) (f i k:Nat) (hi:i<t.length) (hf:inL t f i=true) (hfr:rnd t f=i) (hA1:∀ g,f<g→inL t g i=false) (hA2:∀ g,f<g→inL t g (i+1)=false) (hs:∀ g,g<f→inL t g i=inL t g (i+1)) (hc:c (aOf t f)=1) (hc2:∀ g,g<f→inL t g i=true→c (aOf t g)=c' (aOf t g)) :
 (if k=i then 1 else 0)+rR t c' (i+1) k≤rR t c i k:=by
 have hfi:=(xu_.1 hf).2.1;obtain⟨A,B,hd,hA,hBl⟩:=ace_ t.length f (by omega);unfold rR;rw[hd];have hA1':∀ g,g∈A→inL t g i=false:=fun g hg=>hA1 g (hA g hg);have hA2':∀ g,g∈A→inL t g (i+1)=false:=fun g hg=>hA2 g (hA g hg);have hff:inL t f (i+1)=false:=by
  cases h:inL t f (i+1) with
  | false=>rfl
  | true=>have:=(xu_.1 h).2.2.2;omega
 have hb:∀ g,g∈B→inL t g i=inL t g (i+1):=fun g hg=>hs g (hBl g hg);rw[aaf_,aaf_,vr_ c i k A _ hA1',vr_ c' (i+1) k A _ hA2',kj_ i (i+1) k A (fun g hg=>by rw[hA1' g hg,hA2' g hg])];simp only[mM,qQ,hf,hff];rw[kj_ i (i+1) k B hb,uw_ c c' i (i+1) k B hb (fun g hg=>hc2 g (hBl g hg)),hc];have hM:=(z7_ (ki_ hB (i+1) k A) (ki_ hB (i+1) k B)).1;generalize mM t (i+1) k A=MA at *;generalize mM t (i+1) k B=MB at *;generalize qQ t c' (i+1) k B=q at *;generalize bOf t f=b at *;simp only[Bool.true_eq_false,Bool.false_eq_true,and_false,if_false,Int.one_mul,and_true];by_cases hk:inL t f k=true
 · have h2:=(xu_.1 hk).2.2.2;rw[if_pos hk,if_pos hk,if_neg (show ¬i+1≤k by omega)];have e:MA*(b*MB)*(0+q)=MA*MB*(b*q):=by
    simp only[Int.zero_add,Int.mul_assoc,Int.mul_comm,Int.mul_left_comm]
   rw[e,show(1:Int) - 1+b*q=b*q by omega];by_cases e2:k=i
   ·subst e2;rw[if_pos rfl,if_pos (Nat.le_refl _),Int.mul_add _ 1,Int.mul_one];omega
   ·rw[if_neg e2,if_neg (show ¬i≤k by omega),Int.zero_add,Int.zero_add];exact Int.le_refl _
 · rw[if_neg hk,if_neg hk];have hki:k≠i:=fun e=>hk (e▸hf);rw[if_neg hki,Int.zero_add,Int.one_mul];by_cases e2:i≤k
   ·rw[if_pos e2,if_pos (show i+1≤k by omega)];exact Int.le_refl _
   ·rw[if_neg e2,if_neg (show ¬i+1≤k by omega)];exact Int.le_refl _
theorem aee_ (a:Nat):∀ l:List Nat,l.Pairwise (· > ·)→∃ A B,l=A++B∧(∀ g,g∈A→inL t g a=false)∧(B=[]∨∃ f B',B=f::B'∧inL t f a=true∧∀ g,g∈B'→g<f)
 | [],_=>⟨[],[],rfl,by simp,.inl rfl⟩
 | f::l,h=>by
  rw[List.pairwise_cons] at h;cases hf:inL t f a with
  | true=>exact⟨[],f::l,rfl,by simp,.inr ⟨f,l,rfl,hf,fun g hg=>h.1 g hg⟩⟩
  | false=>
   obtain⟨A,B,h1,h2,h3⟩:=aee_ a l h.2;refine⟨f::A,B,by rw[h1];rfl,fun g hg=>?_,h3⟩;rcases List.mem_cons.1 hg with e|e
   ·rw[e];exact hf
   ·exact h2 g e
theorem aql_ (hB:Bs t) (c:Int→Int) (i a k:Nat) (hc:Cn t c i) (B:List Nat):∀ A,(∀ g,g∈A→inL t g a=false)→mM t a k A*qQ t c i k B≤mM t i k A*qQ t c i k (A++B)
 | [],_=>by simp[mM]
 | f::A,h=>by
  have ih:=aql_ hB c i a k hc B A (fun g hg=>h g (by simp[hg]));simp only[mM,qQ,List.cons_append,h f (by simp),and_true];by_cases hk:inL t f k=true
  · have hb:=aqk_ hB hk;simp only[hk,true_and,if_true];cases hi:inL t f i with
    | false=>
     simp only[if_true,Bool.false_eq_true,if_false];rw[Int.mul_assoc,Int.mul_assoc];exact Int.mul_le_mul_of_nonneg_left ih (by omega)
    | true=>
     simp only[Bool.true_eq_false,if_false,if_true,Int.one_mul];have h1:=hc f hi;have h2:0≤mM t i k A*(c (aOf t f) - 1):=Int.mul_nonneg (by have:=ki_ hB i k A;omega) (by omega);have h3:=Int.mul_le_mul_of_nonneg_left ih (show 0≤bOf t f by omega);have e1:bOf t f*mM t a k A*qQ t c i k B=bOf t f*(mM t a k A*qQ t c i k B):=Int.mul_assoc _ _ _;have e2:mM t i k A*(c (aOf t f) - 1+bOf t f*qQ t c i k (A++B))=mM t i k A*(c (aOf t f) - 1)+bOf t f*(mM t i k A*qQ t c i k (A++B)):=by
      rw[Int.mul_add,Int.mul_left_comm (mM t i k A) (bOf t f)]
     rw[e1,e2];omega
  ·simp only[hk,false_and,if_false,Int.one_mul,Bool.false_eq_true];exact ih
theorem aqm_ (i a k:Nat):∀ A,(∀ g,g∈A→inL t g a=false)→(∀ g,g∈A→inL t g k=true→inL t g i=false)→mM t a k A=mM t i k A
 | [],_,_=>rfl
 | f::A,h,h2=>by
  simp only[mM];rw[aqm_ i a k A (fun g hg=>h g (by simp[hg])) (fun g hg=>h2 g (by simp[hg])),h f (by simp)];by_cases hk:inL t f k=true
  ·rw[h2 f (by simp) hk]
  ·simp[hk]
theorem avw_ (hB:Bs t) (hP:qw_ t) (c:Int→Int) (i a k:Nat) (hc:Cn t c i) (hia:i<a) (ha:∀ g,inL t g a=true→inL t g i=true) :
 (if k=i then 1 else 0)+rR t c a k≤rR t c i k:=by
 obtain⟨A,B,hd,hA,hBl⟩:=aee_ (t:=t) a (dn t.length) (afk_ _);have hb:∀ g,g∈B→inL t g i=inL t g a:=by
  rcases hBl with rfl|⟨f,B',rfl,hf,hl⟩
  ·simp
  · have key:∀ g,g≤f→inL t g i=true→inL t g a=true:=fun g hg hi=>by
     rcases Nat.lt_or_ge g f with hlt|hge
     · have h1:=xu_.1 hi;have h2:=xu_.1 (ha f hf);have h3:=xu_.1 hf;have h4:=hP (g - 1) (f - 1) (by omega) h1.2.2.1 h2.2.2.1;rw[show g - 1+1=g by omega,show f - 1+1=f by omega] at h4;refine xu_.2 ⟨h1.1,by omega,h1.2.2.1,?_⟩;rcases h4 with h4|h4
       ·omega
       ·have:=h3.2.2.2;omega
     ·have:g=f:=(by omega);subst this;exact hf
    intro g hg;have hgf:g≤f:=by
     rcases List.mem_cons.1 hg with e|e
     ·omega
     ·have:=hl g e;omega
    cases h:inL t g a with
    | true=>exact ha g h
    | false=>
     cases h2:inL t g i with
     | false=>rfl
     | true=>rw[key g hgf h2] at h;exact h
 unfold rR;rw[hd,aaf_,aaf_,vr_ c a k A B hA,kj_ a i k B (fun g hg=>(hb g hg).symm),← uw_ c c i a k B hb (fun _ _ _=>rfl)];have h1:=aql_ hB c i a k hc B A hA;have hMB:=ki_ hB i k B;have hMA:=ki_ hB i k A;have hM:=(z7_ hMA hMB).1;have h2:=Int.mul_le_mul_of_nonneg_left h1 (show 0≤mM t i k B by omega);have e1:mM t a k A*mM t i k B*((if a≤k then 1 else 0)+qQ t c i k B)=mM t a k A*mM t i k B*(if a≤k then 1 else 0)+mM t i k B*(mM t a k A*qQ t c i k B):=by
  rw[Int.mul_add,Int.mul_comm (mM t a k A) (mM t i k B),Int.mul_assoc (mM t i k B) (mM t a k A) (qQ t c i k B)]
 have e2:mM t i k A*mM t i k B*((if i≤k then 1 else 0)+qQ t c i k (A++B))=mM t i k A*mM t i k B*(if i≤k then 1 else 0)+mM t i k B*(mM t i k A*qQ t c i k (A++B)):=by
  rw[Int.mul_add,Int.mul_comm (mM t i k A) (mM t i k B),Int.mul_assoc (mM t i k B) (mM t i k A) (qQ t c i k (A++B))]
 rw[e1,e2];have h3:(if k=i then 1 else 0)+mM t a k A*mM t i k B*(if a≤k then 1 else 0)≤mM t i k A*mM t i k B*(if i≤k then 1 else 0):=by
  by_cases hak:a≤k
  · rw[aqm_ i a k A hA (fun g hg hk=>by
     cases h:inL t g i with
     | false=>rfl
     | true=>
      have g1:=xu_.1 h;have g2:=xu_.1 hk;have g3:inL t g a=true:=xu_.2 ⟨g1.1,by omega,g1.2.2.1,by omega⟩;rw[hA g hg] at g3;exact g3.symm)]
    rw[if_pos hak,if_pos (show i≤k by omega),if_neg (show ¬k=i by omega)];omega
  · rw[if_neg hak];by_cases e:k=i
    ·subst e;rw[if_pos rfl,if_pos (Nat.le_refl _)];omega
    · rw[if_neg e];by_cases e2:i≤k
      ·rw[if_pos e2];omega
      ·rw[if_neg e2];omega
 omega
end
def ux_ (g:Nat→Int):Nat→Int
 | 0=>0
 | n+1=>ux_ g n+g n
theorem ago_ {g h:Nat→Int}:∀ n,(∀ k,k<n→g k≤h k)→ux_ g n≤ux_ h n
 | 0,_=>Int.le_refl _
 | n+1,H=>by
  have h1:=ago_ n (fun k hk=>H k (by omega));have h2:=H n (by omega);simp only[ux_];omega
theorem ait_ (g h:Nat→Int):∀ n,ux_ (fun k=>g k+h k) n=ux_ g n+ux_ h n
 | 0=>rfl
 | n+1=>by simp only[ux_,ait_ g h n];omega
theorem afl_ {g:Nat→Int}:∀ n,(∀ k,k<n→g k=0)→ux_ g n=0
 | 0,_=>rfl
 | n+1,H=>by simp only[ux_];rw[afl_ n (fun k hk=>H k (by omega)),H n (by omega)];rfl
theorem aef_ (s:Nat→Int) (i:Nat):∀ n,i<n→ux_ (fun k=>if k=i then s i else 0) n=s i
 | 0,h=>by omega
 | n+1,h=>by
  simp only[ux_];by_cases e:n=i
  ·subst e;rw[afl_ n (fun k hk=>if_neg (by omega)),if_pos rfl];omega
  ·rw[aef_ s i n (by omega),if_neg e];omega
theorem ac4_ {g:Nat→Int}:∀ n,(∀ k,k<n→0≤g k)→0≤ux_ g n
 | 0,_=>Int.le_refl _
 | n+1,H=>by
  have h1:=ac4_ n (fun k hk=>H k (by omega));have h2:=H n (by omega);simp only[ux_];omega
def phi (t:List Ins) (s:Nat→Int) (c:Int→Int) (i:Nat):Int:=ux_ (fun k=>s k*rR t c i k) t.length
section
variable {t:List Ins} {s:Nat→Int}
theorem aax_ (hs:∀ k,k<t.length→0≤s k) {c c':Int→Int} {i j:Nat} (hi:i<t.length) (h:∀ k,(if k=i then 1 else 0)+rR t c' j k≤rR t c i k):s i+phi t s c' j≤phi t s c i:=by
 unfold phi;rw[← aef_ s i t.length hi,← ait_];refine ago_ _ (fun k hk=>?_);have h1:=Int.mul_le_mul_of_nonneg_left (h k) (hs k hk);rw[Int.mul_add] at h1;by_cases e:k=i
 ·subst e;rw[if_pos rfl] at h1 ⊢;omega
 ·rw[if_neg e] at h1 ⊢;omega
theorem abp_ (hB:Bs t) (hs:∀ k,k<t.length→0≤s k) {c:Int→Int} {i:Nat} (hc:Cn t c i):0≤phi t s c i:=by
 refine ac4_ _ (fun k hk=>Int.mul_nonneg (hs k hk) ?_);unfold rR;refine Int.mul_nonneg (by have:=ki_ hB i k (dn t.length);omega) ?_;have:=agn_ hB hc k (dn t.length);split <;> omega
structure Lk (t:List Ins):Prop where
 rds:RdOk t
 prs:qw_ t
 bs:Bs t
 fwd:Fwd t
 jdoc:JDoc t
theorem at8_ (h:RdOk t) {f i:Nat} (hi:inL t f i=true):isR t (rnd t f)=true∧rnd t f<t.length:=by
 obtain⟨h1,h2,h3,h4⟩:=xu_.1 hi;have:=adk_ h h3;rw[show f - 1+1=f by omega] at this;exact⟨(jp_ this.2).1,this.2⟩
theorem aay_ (h:RdOk t) {i:Nat} (hr:isR t i=false) {f:Nat} (hf:f≤i):inL t f i=inL t f (i+1):=by
 cases h1:inL t f i with
 | true=>
  have h2:=xu_.1 h1;have h3:=at8_ h h1;symm;refine xu_.2 ⟨h2.1,by omega,h2.2.2.1,?_⟩;have:rnd t f≠i:=fun e=>by rw[e,hr] at h3;simp at h3
  omega
 | false=>
  cases h2:inL t f (i+1) with
  | false=>rfl
  | true=>
   have h3:=xu_.1 h2;have:inL t f i=true:=xu_.2 ⟨h3.1,hf,h3.2.2.1,by omega⟩;rw[h1] at this;exact this
theorem ui_ (h:RdOk t) {i:Nat} (he:isE t i=false) (hr:isR t i=false) (f:Nat):inL t f i=inL t f (i+1):=by
 by_cases hf:f≤i
 ·exact aay_ h hr hf
 · have h1:inL t f i=false:=by
    cases h1:inL t f i with
    | false=>rfl
    | true=>have:=(xu_.1 h1).2.1;omega
   have h2:inL t f (i+1)=false:=by
    cases h2:inL t f (i+1) with
    | false=>rfl
    | true=>
     have h3:=xu_.1 h2;have:f=i+1:=(by omega);subst this;rw[show i+1 - 1=i by omega,he] at h3;simp at h3
   rw[h1,h2]
theorem akm_ (hP:qw_ t) {f g i:Nat} (hf:inL t f i=true) (hg:inL t g i=true) (hgf:g<f):aOf t g≠aOf t f:=by
 have h1:=xu_.1 hf;have h2:=xu_.1 hg;have h3:=hP (g - 1) (f - 1) (by omega) h2.2.2.1 h1.2.2.1;rw[show g - 1+1=g by omega,show f - 1+1=f by omega] at h3;rcases h3 with h3|h3
 ·omega
 ·exact h3.2
def upd (c:Int→Int) (a x:Int):Int→Int:=fun b=>if b=a then x else c b
theorem acf_ (c:Int→Int) (a x:Int):upd c a x a=x:=by simp[upd]
theorem uy_ (c:Int→Int) {a b:Int} (x:Int) (h:b≠a):upd c a x b=c b:=by simp[upd,h]
theorem aqn_ (L:Lk t) (hs:∀ k,k<t.length→0≤s k) {c:Int→Int} {i:Nat} (hi:i<t.length) (hc:Cn t c i) (he:isE t i=false) (hr:isR t i=false):s i+phi t s c (i+1)≤phi t s c i∧Cn t c (i+1):=
 ⟨aax_ hs hi (fun k=>ath_ L.bs c i k (ui_ L.rds he hr)),fun f hf=>hc f (by rw[ui_ L.rds he hr f];exact hf)⟩
theorem anl_ (L:Lk t) (hs:∀ k,k<t.length→0≤s k) {c:Int→Int} {i:Nat} (hi:i<t.length) (hc:Cn t c i) (he:isE t i=true) :
 s i+phi t s (upd c (nth t i).a (nth t i).b) (i+1)≤phi t s c i∧Cn t (upd c (nth t i).a (nth t i).b) (i+1):=by
 have hr:=adi_ he;have ha:aOf t (i+1)=(nth t i).a:=(by simp[aOf]);have hb:bOf t (i+1)=(nth t i).b:=(by simp[bOf]);have hf:inL t (i+1) (i+1)=true:=xu_.2 ⟨by omega,Nat.le_refl _,by simpa using he,(adk_ L.rds he).1⟩;have hne:∀ g,g≤i→inL t g i=true→aOf t g≠(nth t i).a:=fun g hg h=>by
  rw[← ha];exact akm_ L.prs hf (by rw[← aay_ L.rds hr hg];exact h) (by omega)
 refine⟨aax_ hs hi (fun k=>ati_ L.bs c _ i k hi hf (fun g hg=>aay_ L.rds hr hg) (by rw[ha,hb];exact acf_ _ _ _) (fun g hg h=>(uy_ c _ (hne g hg h)).symm)),fun f h=>?_⟩;by_cases e:f≤i
 ·have h':inL t f i=true:=(by rw[aay_ L.rds hr e];exact h);rw[uy_ c _ (hne f e h')];exact hc f h'
 ·have:f=i+1:=(by have:=(xu_.1 h).2.1;omega);subst this;rw[ha,acf_];exact(L.bs i he).1
theorem v8_ (h:RdOk t) {i:Nat} (hr:isR t i=true):inL t (nth t i).b.toNat i=true∧rnd t (nth t i).b.toNat=i∧aOf t (nth t i).b.toNat=(nth t i).a∧((nth t i).b.toNat:Int)=(nth t i).b:=by
 obtain⟨h1,h2,h3,h4⟩:=h.rounds i hr;have e:((nth t i).b.toNat:Int)=(nth t i).b:=(by omega);have hrd:=aob_ h hr e.symm;have e2:(nth t i).b.toNat - 1=((nth t i).b - 1).toNat:=(by omega);refine⟨xu_.2 ⟨by omega,by omega,by rw[e2];exact h3,by rw[hrd];exact Nat.le_refl _⟩,hrd,?_,e⟩;unfold aOf;rw[e2];exact h4
theorem va_ (L:Lk t) {i f:Nat} (hf:inL t f i=true) (hfr:rnd t f=i) (g:Nat) (hg:f<g):inL t g i=false∧inL t g (i+1)=false:=by
 have h1:=xu_.1 hf;have hR:=(at8_ L.rds hf).1;rw[hfr] at hR;have key:∀ j,(j=i∨j=i+1)→inL t g j=false:=fun j hj=>by
  cases h:inL t g j with
  | false=>rfl
  | true=>
   have h2:=xu_.1 h;have hgi:g≤i:=by
    rcases Nat.lt_or_ge i g with hlt|hge
    ·have:g=i+1:=(by omega);subst this;have:=adi_ h2.2.2.1;rw[show i+1 - 1=i by omega,hR] at this;exact absurd this (by simp)
    ·exact hge
   have h3:=L.prs (f - 1) (g - 1) (by omega) h1.2.2.1 h2.2.2.1;rw[show f - 1+1=f by omega,show g - 1+1=g by omega] at h3;rcases h3 with h3|h3 <;> omega
 exact⟨key i (.inl rfl),key (i+1) (.inr rfl)⟩
theorem j3_ (L:Lk t) {i f:Nat} (hf:inL t f i=true) (hfr:rnd t f=i) (g:Nat) (hg:g<f):inL t g i=inL t g f∧inL t g i=inL t g (i+1):=by
 have h1:=xu_.1 hf;have out:∀ j,f≤j→j≤i+1→inL t g j=true→f≤rnd t g→i<rnd t g:=fun j hj hj2 h hh=>by
  have h2:=xu_.1 h;have h3:=L.prs (g - 1) (f - 1) (by omega) h2.2.2.1 h1.2.2.1;rw[show f - 1+1=f by omega,show g - 1+1=g by omega] at h3;rcases h3 with h3|h3 <;> omega
 have mk:∀ j j',f≤j→j≤i+1→f≤j'→j'≤i+1→inL t g j=true→inL t g j'=true:=fun j j' h2 h3 h4 h5 h=>by
  have h6:=xu_.1 h;have h7:=out j h2 h3 h (by omega);exact xu_.2 ⟨h6.1,by omega,h6.2.2.1,by omega⟩
 have iff:∀ j j',f≤j→j≤i+1→f≤j'→j'≤i+1→inL t g j=inL t g j':=fun j j' h2 h3 h4 h5=>by
  cases h:inL t g j with
  | true=>exact(mk j j' h2 h3 h4 h5 h).symm
  | false=>
   cases h':inL t g j' with
   | false=>rfl
   | true=>rw[mk j' j h4 h5 h2 h3 h'] at h;exact h.symm
 exact⟨iff i f (by omega) (by omega) (Nat.le_refl _) (by omega),iff i (i+1) (by omega) (by omega) (by omega) (Nat.le_refl _)⟩
theorem aqo_ (L:Lk t) (hs:∀ k,k<t.length→0≤s k) {c:Int→Int} {i:Nat} (hi:i<t.length) (hc:Cn t c i) (hr:isR t i=true) (hx:0<c (nth t i).a - 1) :
 s i+phi t s (upd c (nth t i).a (c (nth t i).a - 1)) (nth t i).b.toNat≤phi t s c i∧Cn t (upd c (nth t i).a (c (nth t i).a - 1)) (nth t i).b.toNat:=by
 obtain⟨hf,hfr,ha,hb⟩:=v8_ L.rds hr;generalize(nth t i).b.toNat=f at *;have hne:∀ g,g<f→inL t g i=true→aOf t g≠(nth t i).a:=fun g hg h=>by rw[← ha];exact akm_ L.prs hf h hg
 refine⟨aax_ hs hi (fun k=>avv_ L.bs c _ f i k hi hf hfr (fun g hg=>(va_ L hf hfr g hg).1) (fun g hg=>(j3_ L hf hfr g hg).1) (by rw[ha,acf_]) (fun g hg h=>(uy_ c _ (hne g hg h)).symm)),fun g h=>?_⟩;rcases Nat.lt_trichotomy g f with h1|h1|h1
 ·have h':inL t g i=true:=(by rw[(j3_ L hf hfr g h1).1];exact h);rw[uy_ c _ (hne g h1 h')];exact hc g h'
 ·subst h1;rw[ha,acf_];omega
 ·have:=(xu_.1 h).2.1;omega
theorem anm_ (L:Lk t) (hs:∀ k,k<t.length→0≤s k) {c:Int→Int} {i:Nat} (hi:i<t.length) (hc:Cn t c i) (hr:isR t i=true) (hx:¬0<c (nth t i).a - 1) :
 s i+phi t s (upd c (nth t i).a (c (nth t i).a - 1)) (i+1)≤phi t s c i∧Cn t (upd c (nth t i).a (c (nth t i).a - 1)) (i+1):=by
 obtain⟨hf,hfr,ha,hb⟩:=v8_ L.rds hr;generalize(nth t i).b.toNat=f at *;have h1:=hc f hf;rw[ha] at h1;have hne:∀ g,g<f→inL t g i=true→aOf t g≠(nth t i).a:=fun g hg h=>by rw[← ha];exact akm_ L.prs hf h hg
 refine⟨aax_ hs hi (fun k=>atj_ L.bs c _ f i k hi hf hfr (fun g hg=>(va_ L hf hfr g hg).1) (fun g hg=>(va_ L hf hfr g hg).2) (fun g hg=>(j3_ L hf hfr g hg).2) (by rw[ha];omega) (fun g hg h=>(uy_ c _ (hne g hg h)).symm)),fun g h=>?_⟩;rcases Nat.lt_trichotomy g f with h2|h2|h2
 ·have h':inL t g i=true:=(by rw[(j3_ L hf hfr g h2).2];exact h);rw[uy_ c _ (hne g h2 h')];exact hc g h'
 ·subst h2;have:=(xu_.1 h).2.2.2;omega
 ·rw[(va_ L hf hfr g h2).2] at h;simp at h
theorem aqp_ (L:Lk t) (hs:∀ k,k<t.length→0≤s k) {c:Int→Int} {i:Nat} (hi:i<t.length) (hc:Cn t c i) (hd:(nth t i).d=11∨(nth t i).d=12) :
 s i+phi t s c (nth t i).a.toNat≤phi t s c i∧Cn t c (nth t i).a.toNat:=by
 obtain⟨h1,h2⟩:=L.fwd i hi hd;have key:∀ g,inL t g (nth t i).a.toNat=true→inL t g i=true:=fun g hg=>by
  have h3:=xu_.1 hg;have:=L.jdoc i hi hd (g - 1) h3.2.2.1 (by rw[show g - 1+1=g by omega];exact hg);rw[show g - 1+1=g by omega] at this;exact this
 exact⟨aax_ hs hi (fun k=>avw_ L.bs L.prs c i _ k hc (by omega) key),fun g hg=>hc g (key g hg)⟩
theorem aiu_ (k:Nat):∀ l,(∀ f,f∈l→inL t f 0=false)→mM t 0 k l=pr t (l.filter (fun f=>inL t f k))
 | [],_=>rfl
 | f::l,h=>by
  simp only[mM,List.filter_cons];rw[aiu_ k l (fun g hg=>h g (by simp[hg])),h f (by simp)];by_cases hk:inL t f k=true
  ·simp only[hk,and_self,if_true,pr,bOf];exact Int.mul_comm _ _
  ·simp[hk]
theorem aiv_:∀ n,dn n=(List.range (n+1)).reverse
 | 0=>rfl
 | n+1=>by
  rw[List.range_succ,List.reverse_append];simp[dn,aiv_ n]
theorem acg_ (f:Nat):inL t f 0=false:=by
 cases h:inL t f 0 with
 | false=>rfl
 | true=>have:=xu_.1 h;omega
theorem aqq_ (c:Int→Int) (k:Nat) (hk:k<t.length):rR t c 0 k=pr t (inn t (k+1) k):=by
 unfold rR;have hq:=vr_ (t:=t) c 0 k (dn t.length) [] (fun f _=>acg_ f);rw[List.append_nil] at hq;rw[hq,if_pos (Nat.zero_le _),aiu_ k _ (fun f _=>acg_ f),aiv_];obtain⟨m,hm⟩:∃ m,t.length+1=k+1+m:=⟨t.length - k,by omega⟩;have:(List.range (t.length+1)).reverse.filter (fun f=>inL t f k)=inn t (k+1) k:=by
  rw[hm,← ahd_ t k m];rfl
 rw[this];simp[qQ]
theorem aeg_ (hB:Bs t) (hs:∀ k,1≤s k):∀ n,z4_ t s n≤1000000000→z4_ t s n=ux_ (fun k=>s k*pr t (inn t (k+1) k)) n
 | 0,_=>rfl
 | n+1,h=>by
  have h0:=afs_ hB s hs n;have hp:=ack_ hB (inn t (n+1) n) je_;have hd:=afr_ hB (inn t (n+1) n) je_;have hpd:=adn_ hB (n+1) n;have hm:=z7_ (hs n) hpd.1;simp only[z4_,ux_,yx_] at *;have h1:s n*prd t (inn t (n+1) n)≤1000000000:=(by omega);have h2:prd t (inn t (n+1) n)≤1000000000:=by
   have:=z7_ hpd.1 (hs n);rw[Int.mul_comm] at this;omega
  have h3:prd t (inn t (n+1) n)=pr t (inn t (n+1) n):=(by omega);have ih:=aeg_ hB hs n (by omega);rw[h3] at h h1 hm ⊢;omega
theorem ann_ (hB:Bs t) (hs:∀ k,1≤s k) (c:Int→Int) (h:z4_ t s t.length≤1000000000):phi t s c 0=z4_ t s t.length:=by
 rw[aeg_ hB hs _ h];unfold phi;have:∀ n,n≤t.length→ux_ (fun k=>s k*rR t c 0 k) n=ux_ (fun k=>s k*pr t (inn t (k+1) k)) n:=by
  intro n;induction n with
  | zero=>intro _;rfl
  | succ n ih=>
   intro hn;simp only[ux_];rw[ih (by omega),aqq_ c n (by omega)]
 exact this _ (Nat.le_refl _)
theorem aqr_ (c:Int→Int):Cn t c 0:=fun f h=>by rw[acg_] at h;simp at h
end
end Go.Proofs.YtcgbfhpmkpglkaaGreatDoor
