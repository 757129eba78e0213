/- Texts put together: Xi, Xj, Pp, Ed5. -/
import Derived.Test.YtcoglmaiahpooaaGreatDoorQ43
import Derived.Shelf.Strings.BuilderK
import Derived.Test.YtcoglmaiahpooaaGreatDoorQ45
set_option linter.unusedVariables false
set_option linter.unusedSimpArgs false
set_option maxHeartbeats 8000000
namespace Go.Proofs.YtcoglmaiahpooaaGreatDoor
open Go.RowKit
attribute [local go_sem ↓] Go.wp_at_zero Go.wp_at_succ
set_option maxRecDepth 100000 in
theorem aey_ {B b:Nat} {l:List UInt8} {W:World} (h:WB B b l W) (h0:l≠[]):Calls Tryz.prog 28 #[.pointer (some ⟨b,0,none⟩)] W fun e w'=>e=.returned (.string (bs l))∧Below B W w':=by
 obtain⟨hB,p,v,hbk,hp,hown,hne⟩:=h;have hl0:l.length≠0:=(by simpa using h0);obtain⟨g,cap,cur,rfl,hbg,hg,hnc,hcm,hcs,htake⟩:∃ g cap cur,v=.slice (some ⟨g,0,none⟩) l.length cap∧B≤g∧W.heap[g]?=some (.cells cur 5)∧l.length≤cap∧cap≤maxLen∧cur.size=cap*1∧cur.toList.take (l.length*1)=Lib.byteCells l:=by
  rcases hown.2 with⟨_,hz⟩|⟨g,cap,cur,hv,r⟩
  ·exact absurd hz hl0
  ·exact⟨g,cap,cur,hv,r⟩
 have c1:W.drew.cell? ⟨b,1,none⟩=some (.slice (some ⟨g,0,none⟩) l.length cap):=by
  rw[xn_ (show W.drew.heap[b]?=_ from hbk)];rfl
 have hSD:(Builtin.unsafeSliceData_ #[63] 118 #[.slice (some ⟨g,0,none⟩) l.length cap]).run Tryz.prog W.drew=.ok (.pointer (some ⟨g,0,none⟩)) W.drew:=
  Lib.run_unsafeSliceData_row _ _ _ _ _ _ (by omega)
 have hUS:(Builtin.unsafeString_ #[118,3] 9 #[.pointer (some ⟨g,0,none⟩),.int .i64 l.length]).run Tryz.prog W.drew=.ok (.string ⟨l.toArray⟩) (W.drew.freeze ⟨g,0,none⟩ l.length):=by
  refine Lib.run_unsafeString_row W.drew 118 3 9 5 (by kernel_rfl) (by kernel_rfl) g cur.size (by have hg':W.drew.heap[g]?=some (.cells cur 5):=hg;simp[World.shape?,hg']) l h0 (by omega) (by unfold maxLen at hcm;omega) ?_;intro j x hx;have:=hown.cells (g:=g) rfl j (.int .u8 x.toNat) (by simp[Lib.byteCells,hx]);exact this
 clear hown hp;go_enter Tryz.func28,Tryz.ntmps28;go_wp2;go_region
 all_goals(go_wp2;go_ret;exact⟨rfl,Lib.below_freeze (Below.drew (Below.refl B W)) (p:=⟨g,0,none⟩) hbg _⟩)
theorem ah4_ (u:PU):shU u≠[]:=by simp[shU]
set_option maxRecDepth 100000 in
theorem ade_ {V W:World} (hT:Tabs V) (hP:TabP V) (hV:Vs V W) {ok:Nat→Prop} (u:PU) (q:Value×Value) (h:kdU.S W ok u q) (hc:ju_ u≤4000000) (hl:yx_ u=true→(shU u).length≤70368744177664) :
 Calls Tryz.prog 9 #[.agg (kdU.c u q).toArray] W (xv_ W (bs (if yx_ u=true then shU u else []))):=by
 have k1:=xa_ (fun W' (hg:W.grownBy W' none)=>v8_ hT (hV.gr hg) u q (kdU.keep h (fun b _ hl=>hg.block b hl (by simp)) hg.size) hc);have h13:13≤W.heap.size:=hV.1;have hU:yx_ u=true→Hid (∀ b W',W.grownBy W' none→WB W.heap.size b [] W'→Calls Tryz.prog 27 #[.pointer (some ⟨b,0,none⟩),.agg (kdU.c u q).toArray] W' (wrt W.heap.size b ([]++shU u) W')):=fun hm=>xa_ fun b W' hg hb=>by
  have hk:kdU.S W' (fun q=>q<W.heap.size) u q:=kdU.keep (kdU.imp h (fun b hb _=>hb)) (fun b hb hl=>hg.block b hl (by simp)) hg.size;exact ah1_ u q hb hg.size hT hP (hV.gr hg) h13 hk hm (by simpa using hl hm)
 have hne:=ah4_ u;generalize yx_ u=Z at k1 hU ⊢;generalize shU u=TU at hU hne ⊢;clear hT hP hV h hc hl;obtain⟨uk,s1,ur,vs,bo,at1⟩:=u;obtain⟨q1,q2⟩:=q;have ec:kdU.c ⟨uk,s1,ur,vs,bo,at1⟩ (q1,q2)=[.int .i64 uk,.string s1,.int .i64 ur,q1,q2,.int .i64 at1]:=rfl;rw[ec] at k1 hU ⊢;clear ec;cases Z with
 | false=>
  rw[if_neg (by decide)];clear hU hne;go_enter Tryz.func9,Tryz.ntmps9;go_wp2_with fail
  refine(k1.out _ (gr1 _ _)).mono ?_;rintro e W1 ⟨rfl,g⟩;have G1:=xa_ (gtn (gr1 _ _) g);clear g;go_wp2_with fail
  go_ret;exact⟨rfl,G1.out⟩
 | true=>
  rw[if_pos rfl];have cU:=hU rfl;clear hU;go_enter Tryz.func9,Tryz.ntmps9;go_wp2_with fail
  refine(k1.out _ (gr1 _ _)).mono ?_;rintro e W1 ⟨rfl,g⟩;have A1:Hid (W1.heap[W.heap.size]?=some (.cells #[.int .i64 uk,.string s1,.int .i64 ur,q1,q2,.int .i64 at1] 27)):=kept g (xe_ rfl _);have G1:=xa_ (gtn (gr1 _ _) g);clear g;obtain⟨a1,a2,a3,a4,a5,a6⟩:=xb_ A1.out;go_wp2_with fail
  refine(cU.out _ _ (xf_ G1.out _) ⟨by have:=G1.out.size;omega,.pointer none,.slice none 0 0,xe_ rfl _,Or.inl rfl,⟨rfl,Or.inl ⟨rfl,rfl⟩⟩,by simp[Value.ownBlock]⟩).mono ?_;rintro e W2 ⟨rfl,h,r⟩;have H2:=xa_ h;have R2:=xa_ r;clear h r a1 a2 a3 a4 a5 a6;go_wp2_with fail
  refine(aey_ H2.out (by simpa using hne)).mono ?_;rintro e W3 ⟨rfl,hb⟩;have HB:=xa_ hb;clear hb;go_wp2_with fail
  go_ret;have g2:=xf_ G1.out (.cells #[.pointer none,.slice none 0 0] 67);exact⟨rfl,HB.out.os.trans (R2.out.os.trans g2.os),HB.out.tape.trans (R2.out.tape.trans g2.tape),HB.out.output.trans (R2.out.output.trans g2.output),Nat.le_trans g2.size (Nat.le_trans R2.out.size HB.out.size),fun k hk hn=>(HB.out.block k hk).trans ((R2.out.low k hk).trans (g2.block k hk hn))⟩
theorem adf_ (v:PV) (h:yo_ v=true):(q3_ v).length≤200*zt_ v:=by
 obtain⟨s1,ro,vk,so,lo,ln,⟨f,o,kd,n,nm,pt,a,ks⟩,at1⟩:=v;have e1:s1.data.toList.length=s1.size:=(by simp);have e2:so.data.toList.length=so.size:=(by simp);have kk:=jf_ vk;simp only[yo_,Bool.and_eq_true] at h;obtain⟨⟨_,hi⟩,hk⟩:=h;have e:q3_ ⟨s1,ro,vk,so,lo,ln,.mk f o kd n nm pt a ks,at1⟩=[32,32]++(s1.data.toList++([32,58,32]++((if vk=0 then so.data.toList else if 0<ln then [65,82,82,65,89,91]++(Lib.itoa lo++([46,46]++(Lib.itoa (lo+ln - 1)++([93,32,79,70,32]++yc_ vk)))) else yc_ vk)++((if f=1 then [32,58,61,32]++yf_ kd n else [])++[59,10])))):=rfl;rw[e];have h1:(if f=1 then [32,58,61,32]++yf_ kd n else []:Tx).length≤80:=zf_ (fun hf=>by
  subst hf;have:yk_ kd n=true:=by
   simp only[km_,PE.form,if_true,xr_,Bool.and_eq_true] at hi;have:=hi.1.2;simp only[hdB,if_true,Bool.and_eq_true] at this;exact this.1
  have:=uc_ kd n this;simp only[List.length_append,List.length_cons,List.length_nil,xl_];omega) (fun _=>by simp)
 have h2:(if vk=0 then so.data.toList else if 0<ln then [65,82,82,65,89,91]++(Lib.itoa lo++([46,46]++(Lib.itoa (lo+ln - 1)++([93,32,79,70,32]++yc_ vk)))) else yc_ vk:Tx).length≤60+so.size:=zf_ (fun _=>by omega) (fun h0=>zf_ (fun hl=>by
  rw[if_neg h0] at hk;simp only[kdB,qh_,Bool.and_eq_true,decide_eq_true_eq] at hk;rw[if_neg (by omega:¬ln=0)] at hk;simp only[js_,xu_,Bool.and_eq_true,decide_eq_true_eq] at hk;have i1:=ym_ lo (by omega) (by omega);have i2:=ym_ (lo+ln - 1) (by omega) (by omega);simp only[List.length_append,List.length_cons,List.length_nil,xl_];omega) (fun _=>by omega))
 simp only[zt_];simp only[List.length_append,List.length_cons,List.length_nil,xl_];omega
theorem aao_:∀(l:List PV) (last:Int),(∀ v∈l,yo_ v=true)→(shV last l).length≤300*(l.map zt_).sum+10
 | [],last,h=>by
  rw[shV];have:(if last=0 then [] else y3_:Tx).length≤10:=zf_ (fun _=>by simp) (fun _=>by simp[y3_])
  omega
 | v::l,last,h=>by
  have h1:=adf_ v (h v (by simp));have h2:=aao_ l v.role (fun u hu=>h u (by simp[hu]));have h3:=ud_ v.role;have h4:(if last=0 then [] else y3_:Tx).length≤10:=zf_ (fun _=>by simp) (fun _=>by simp[y3_]);have h5:(if v.role=last then [] else(if last=0 then [] else y3_)++(ji_ v.role++[10]):Tx).length≤30:=zf_ (fun _=>by simp) (fun _=>by
   simp only[List.length_append,List.length_cons,List.length_nil,xl_];omega)
  have h6:1≤zt_ v:=(by unfold zt_;omega);rw[shV];simp only[List.length_append,List.map_cons,List.sum_cons];omega
theorem aap_ (u:PU) (h:yx_ u=true):(shU u).length≤2000*ju_ u:=by
 obtain⟨kd,nm,re,vs,bo,at1⟩:=u;simp only[yx_,Bool.and_eq_true] at h;have e1:nm.data.toList.length=nm.size:=(by simp);have hv:=aao_ vs 0 (List.all_eq_true.1 h.1.2);have hb:=zv_ bo 1 2 (by omega) h.2;have hu:=acy_ kd;have hk:=jf_ re;have h1:(if kd=2 then [32,58,32]++yc_ re else []:Tx).length≤10:=zf_ (fun _=>by
  simp only[List.length_append,List.length_cons,List.length_nil,xl_];omega) (fun _=>by simp)
 have e:shU ⟨kd,nm,re,vs,bo,at1⟩=zc_ kd++([32]++(nm.data.toList++((if kd=2 then [32,58,32]++yc_ re else [])++([10]++(shV 0 vs++(shL 2 bo++([69,78,68,95]++(zc_ kd++[10])))))))):=rfl;rw[e];simp only[ju_];simp only[List.length_append,List.length_cons,List.length_nil,xl_];omega
set_option maxRecDepth 100000 in
theorem ss_5 {W:World} {ok:Nat→Prop} (x1 x2 x3 x4 x5:Option Addr) (c1 c2 c3 c4 c5:Nat) (sa:Int) (nm:ByteArray) (it:Bool) (es:List PE) (ps:List PArg) (ms:List PArm) (el bo:List PS) (lo hi by1 ti:Int) (n:Nat) (hn:n≤1000) (hnm:nm.size≤4000000) (hb:SL W (.slice x5 bo.length c5) bo (n+2)) (hbl:(shL (n+2) bo).length≤100000000000) (hlo:xu_ lo=true) (hhi:xu_ hi=true) (hby:xu_ by1=true) :
 Calls Tryz.prog 66 #[sV 5 sa nm it (.slice x1 es.length c1) (.slice x2 ps.length c2) (.slice x3 ms.length c3) (.slice x4 el.length c4) (.slice x5 bo.length c5) lo hi by1 ti,.string (bs (sp n))] W (xv_ W (bs (shS n (.mk 5 sa nm it es ps ms el bo lo hi by1 ti)))):=by
 obtain⟨T,hT⟩:∃ T,shS n (.mk 5 sa nm it es ps ms el bo lo hi by1 ti)=T:=⟨_,rfl⟩;rw[hT];have HT:=xa_ hT;clear hT;obtain⟨PA,hPA⟩:∃ P,bs (sp n)=P:=⟨_,rfl⟩;have hPs:PA.size≤1000:=(by rw[← hPA,z2_];exact hn);have hPd:PA.data.toList=sp n:=(by rw[← hPA]);obtain⟨BB,hBB⟩:∃ P,bs (shL (n+2) bo)=P:=⟨_,rfl⟩;have hBs:BB.size≤100000000000:=(by rw[← hBB];exact hbl);have hBd:BB.data.toList=shL (n+2) bo:=(by rw[← hBB]);have cB:Hid (∀ X,W.grownBy X none→Calls Tryz.prog 32 #[.slice x5 bo.length c5,.string (PA++(⟨#[32,32]⟩:ByteArray))] X (xv_ X BB)):=xa_ fun X g=>by
  rw[← hPA,y8_ n 2 _ rfl,← hBB];exact hb X g
 rw[hPA];have zp:(PA++(⟨#[32,32]⟩:ByteArray)).size=PA.size+2:=ByteArray.size_append;have qp:PA.size≤9223372036854775805:=(by omega);obtain⟨D1,hD1⟩:∃ P,bs (Lib.itoa lo)=P:=⟨_,rfl⟩;have hDs1:D1.size≤11:=(by rw[← hD1];exact qf_ lo hlo);have hDd1:D1.data.toList=Lib.itoa lo:=(by rw[← hD1]);have cD1:Hid (∀ X,W.grownBy X none→Calls Tryz.prog 30 #[.int .i64 lo] X (xv_ X D1)):=xa_ fun X g=>by rw[← hD1];exact qz_ lo hlo X
 obtain⟨D2,hD2⟩:∃ P,bs (Lib.itoa hi)=P:=⟨_,rfl⟩;have hDs2:D2.size≤11:=(by rw[← hD2];exact qf_ hi hhi);have hDd2:D2.data.toList=Lib.itoa hi:=(by rw[← hD2]);have cD2:Hid (∀ X,W.grownBy X none→Calls Tryz.prog 30 #[.int .i64 hi] X (xv_ X D2)):=xa_ fun X g=>by rw[← hD2];exact qz_ hi hhi X
 obtain⟨D3,hD3⟩:∃ P,bs (Lib.itoa by1)=P:=⟨_,rfl⟩;have hDs3:D3.size≤11:=(by rw[← hD3];exact qf_ by1 hby);have hDd3:D3.data.toList=Lib.itoa by1:=(by rw[← hD3]);have cD3:Hid (∀ X,W.grownBy X none→Calls Tryz.prog 30 #[.int .i64 by1] X (xv_ X D3)):=xa_ fun X g=>by rw[← hD3];exact qz_ by1 hby X
 have z8_0:(PA++(⟨#[70,79,82,32]⟩:ByteArray)).size=PA.size+4:=ByteArray.size_append;have qz8_0:¬9223372036854775807<PA.size+4:=(by omega);have uz8_0:PA.size+4≤9223372036854775807:=(by omega);have rz8_0:¬9223372036854775803<PA.size:=(by omega);have wz8_0:PA.size≤9223372036854775803:=(by omega);have z8_1:(PA++(⟨#[70,79,82,32]⟩:ByteArray)++nm).size=PA.size+4+nm.size:=(by rw[ByteArray.size_append,z8_0]);have qz8_1:¬9223372036854775807<PA.size+4+nm.size:=(by omega);have uz8_1:PA.size+4+nm.size≤9223372036854775807:=(by omega);have z8_2:(PA++(⟨#[70,79,82,32]⟩:ByteArray)++nm++(⟨#[32,58,61,32]⟩:ByteArray)).size=PA.size+4+nm.size+4:=(by rw[ByteArray.size_append,z8_1];rfl);have qz8_2:¬9223372036854775807<PA.size+4+nm.size+4:=(by omega);have uz8_2:PA.size+4+nm.size+4≤9223372036854775807:=(by omega);have rz8_2:¬9223372036854775803<PA.size+4+nm.size:=(by omega);have wz8_2:PA.size+4+nm.size≤9223372036854775803:=(by omega);have z8_3:(PA++(⟨#[70,79,82,32]⟩:ByteArray)++nm++(⟨#[32,58,61,32]⟩:ByteArray)++D1).size=PA.size+4+nm.size+4+D1.size:=(by rw[ByteArray.size_append,z8_2]);have qz8_3:¬9223372036854775807<PA.size+4+nm.size+4+D1.size:=(by omega);have uz8_3:PA.size+4+nm.size+4+D1.size≤9223372036854775807:=(by omega);have z8_4:(PA++(⟨#[70,79,82,32]⟩:ByteArray)++nm++(⟨#[32,58,61,32]⟩:ByteArray)++D1++(⟨#[32,84,79,32]⟩:ByteArray)).size=PA.size+4+nm.size+4+D1.size+4:=(by rw[ByteArray.size_append,z8_3];rfl);have qz8_4:¬9223372036854775807<PA.size+4+nm.size+4+D1.size+4:=(by omega);have uz8_4:PA.size+4+nm.size+4+D1.size+4≤9223372036854775807:=(by omega)
 have rz8_4:¬9223372036854775803<PA.size+4+nm.size+4+D1.size:=(by omega);have wz8_4:PA.size+4+nm.size+4+D1.size≤9223372036854775803:=(by omega);have z8_5:(PA++(⟨#[70,79,82,32]⟩:ByteArray)++nm++(⟨#[32,58,61,32]⟩:ByteArray)++D1++(⟨#[32,84,79,32]⟩:ByteArray)++D2).size=PA.size+4+nm.size+4+D1.size+4+D2.size:=(by rw[ByteArray.size_append,z8_4]);have qz8_5:¬9223372036854775807<PA.size+4+nm.size+4+D1.size+4+D2.size:=(by omega);have uz8_5:PA.size+4+nm.size+4+D1.size+4+D2.size≤9223372036854775807:=(by omega);clear hb hbl hPA hBB hD1 hD2 hD3;go_enter Tryz.func66,Tryz.ntmps66;go_wp2_with fail
 refine(cB.out _ (gr1 _ _)).mono ?_;rintro e w2 ⟨rfl,g⟩;dsimp only;have AX:=xa_ (kept g (xe_ (by first|rfl|simp) _));have GX:=xa_ (gtn (gr1 _ _) g);clear g cB zp qp;obtain⟨p1,p2,p3,p4,p5,p6⟩:=xb_ AX.out;have cD12:Hid (∀ X,w2.grownBy X none→Calls Tryz.prog 30 #[.int .i64 lo] X (fun e w'=>e=.returned (.string D1)∧w2.grownBy w' none)):=xa_ fun X g=>(cD1.out X (gtn GX.out g)).mono fun e w' h=>⟨h.1,gtn g h.2⟩;clear cD1;have cD22:Hid (∀ X,w2.grownBy X none→Calls Tryz.prog 30 #[.int .i64 hi] X (fun e w'=>e=.returned (.string D2)∧w2.grownBy w' none)):=xa_ fun X g=>(cD2.out X (gtn GX.out g)).mono fun e w' h=>⟨h.1,gtn g h.2⟩;clear cD2;have HCC:Hid (∀ X,w2.grownBy X none→X.cell? ⟨W.heap.size,2,none⟩=some (.string nm)∧X.cell? ⟨W.heap.size,9,none⟩=some (.int .i64 lo)∧X.cell? ⟨W.heap.size,10,none⟩=some (.int .i64 hi)):=xa_ fun X g=>by
  have p:=xn_ (kept g AX.out);exact⟨(p 2).trans rfl,(p 9).trans rfl,(p 10).trans rfl⟩
 go_upto_region 47 with fail;go_cut [16] from 17 (fun s16 wx=>s16=.string (PA++(⟨#[70,79,82,32]⟩:ByteArray)++nm++(⟨#[32,58,61,32]⟩:ByteArray)++D1++(⟨#[32,84,79,32]⟩:ByteArray)++D2)∧Hid (w2.grownBy wx none))
 case first=>
  as_aux_lemma=>
   go_region_held3 (fun X=>X.cell? ⟨W.heap.size,2,none⟩=some (.string nm)∧X.cell? ⟨W.heap.size,9,none⟩=some (.int .i64 lo)∧X.cell? ⟨W.heap.size,10,none⟩=some (.int .i64 hi)) (first|exact HCC.out _ (by assumption)|exact HCC.out _ (xi_ (gr0 _))|exact HCC.out _ (gr0 _)) (first
    | (go_at_call 30;with_reducible refine(cD12.out _ (by first | assumption | exact xi_ (gr0 _) | exact gr0 _)).mono ?_;rintro e w5 ⟨rfl,g5⟩)
    | (go_at_call 30;with_reducible refine(cD22.out _ (by first | assumption | exact xi_ (gr0 _) | exact gr0 _)).mono ?_;rintro e w5 ⟨rfl,g5⟩))
   all_goals
    go_wp2_with fail
    go_meet
    case rel=>exact⟨rfl,xa_ (by assumption)⟩
 case rest=>
 obtain⟨rfl,g⟩:=hcut;have AX3:=xa_ (kept g.out AX.out);have GX3:=xa_ (gtn GX.out g.out);clear g p1 p2 p3 p4 p5 p6 HCC cD12 cD22 AX;obtain⟨p1,p2,p3,p4,p5,p6⟩:=xb_ AX3.out;have HAd:Hid ((PA++(⟨#[70,79,82,32]⟩:ByteArray)++nm++(⟨#[32,58,61,32]⟩:ByteArray)++D1++(⟨#[32,84,79,32]⟩:ByteArray)++D2).data.toList=sp n++([70,79,82,32]++(nm.data.toList++([32,58,61,32]++(Lib.itoa lo++([32,84,79,32]++Lib.itoa hi)))))):=by
  show _=_
  simp[ByteArray.data_append,hPd,hDd1,hDd2]
 have hAs:(PA++(⟨#[70,79,82,32]⟩:ByteArray)++nm++(⟨#[32,58,61,32]⟩:ByteArray)++D1++(⟨#[32,84,79,32]⟩:ByteArray)++D2).size≤5000000:=(by omega);generalize(PA++(⟨#[70,79,82,32]⟩:ByteArray)++nm++(⟨#[32,58,61,32]⟩:ByteArray)++D1++(⟨#[32,84,79,32]⟩:ByteArray)++D2)=AA at HAd hAs ⊢;by_cases hb1:by1=1
 · have HE:Hid (bs T=AA++(⟨#[32,68,79,10]⟩:ByteArray)++BB++PA++(⟨#[69,78,68,95,70,79,82,59,10]⟩:ByteArray)):=by
    show _=_
    have h:=HAd.out;rw[← HT.out,shS,if_neg (by decide),if_neg (by decide),if_neg (by decide),if_neg (by decide),if_pos rfl,if_pos hb1];exact(yp_ (by simp[ByteArray.data_append,hPd,hBd,h])).symm
   have j1:(by1==1)=true:=(by rw[hb1];rfl);have nj1:(by1 != 1)=false:=(by rw[bne,j1];rfl);have z9_0:(AA++(⟨#[32,68,79,10]⟩:ByteArray)).size=AA.size+4:=ByteArray.size_append;have qz9_0:¬9223372036854775807<AA.size+4:=(by omega);have uz9_0:AA.size+4≤9223372036854775807:=(by omega);have rz9_0:¬9223372036854775803<AA.size:=(by omega);have wz9_0:AA.size≤9223372036854775803:=(by omega);have z9_1:(AA++(⟨#[32,68,79,10]⟩:ByteArray)++BB).size=AA.size+4+BB.size:=(by rw[ByteArray.size_append,z9_0]);have qz9_1:¬9223372036854775807<AA.size+4+BB.size:=(by omega);have uz9_1:AA.size+4+BB.size≤9223372036854775807:=(by omega);have z9_2:(AA++(⟨#[32,68,79,10]⟩:ByteArray)++BB++PA).size=AA.size+4+BB.size+PA.size:=(by rw[ByteArray.size_append,z9_1]);have qz9_2:¬9223372036854775807<AA.size+4+BB.size+PA.size:=(by omega);have uz9_2:AA.size+4+BB.size+PA.size≤9223372036854775807:=(by omega);have z9_3:(AA++(⟨#[32,68,79,10]⟩:ByteArray)++BB++PA++(⟨#[69,78,68,95,70,79,82,59,10]⟩:ByteArray)).size=AA.size+4+BB.size+PA.size+9:=(by rw[ByteArray.size_append,z9_2];rfl);have qz9_3:¬9223372036854775807<AA.size+4+BB.size+PA.size+9:=(by omega);have uz9_3:AA.size+4+BB.size+PA.size+9≤9223372036854775807:=(by omega);have rz9_3:¬9223372036854775798<AA.size+4+BB.size+PA.size:=(by omega);have wz9_3:AA.size+4+BB.size+PA.size≤9223372036854775798:=(by omega);clear hb1;go_wp2_with fail
   go_ret;exact⟨by first|(rw[HE.out];done)|(rw[HE.out];rfl),GX3.out⟩
 · have HE:Hid (bs T=AA++((⟨#[32,66,89,32]⟩:ByteArray)++D3)++(⟨#[32,68,79,10]⟩:ByteArray)++BB++PA++(⟨#[69,78,68,95,70,79,82,59,10]⟩:ByteArray)):=by
    show _=_
    have h:=HAd.out;rw[← HT.out,shS,if_neg (by decide),if_neg (by decide),if_neg (by decide),if_neg (by decide),if_pos rfl,if_neg hb1];exact(yp_ (by simp[ByteArray.data_append,hPd,hBd,h,hDd3])).symm
   have j1:(by1==1)=false:=(by rw[beq_eq_false_iff_ne];exact hb1);have nj1:(by1 != 1)=true:=(by rw[bne,j1];rfl);have z10_0:((⟨#[32,66,89,32]⟩:ByteArray)++D3).size=4+D3.size:=ByteArray.size_append;have qz10_0:¬9223372036854775807<4+D3.size:=(by omega);have uz10_0:4+D3.size≤9223372036854775807:=(by omega);have z11_0:(AA++((⟨#[32,66,89,32]⟩:ByteArray)++D3)).size=AA.size+(4+D3.size):=(by rw[ByteArray.size_append,z10_0]);have qz11_0:¬9223372036854775807<AA.size+(4+D3.size):=(by omega);have uz11_0:AA.size+(4+D3.size)≤9223372036854775807:=(by omega);have z11_1:(AA++((⟨#[32,66,89,32]⟩:ByteArray)++D3)++(⟨#[32,68,79,10]⟩:ByteArray)).size=AA.size+(4+D3.size)+4:=(by rw[ByteArray.size_append,z11_0];rfl);have qz11_1:¬9223372036854775807<AA.size+(4+D3.size)+4:=(by omega);have uz11_1:AA.size+(4+D3.size)+4≤9223372036854775807:=(by omega);have rz11_1:¬9223372036854775803<AA.size+(4+D3.size):=(by omega);have wz11_1:AA.size+(4+D3.size)≤9223372036854775803:=(by omega);have z11_2:(AA++((⟨#[32,66,89,32]⟩:ByteArray)++D3)++(⟨#[32,68,79,10]⟩:ByteArray)++BB).size=AA.size+(4+D3.size)+4+BB.size:=(by rw[ByteArray.size_append,z11_1]);have qz11_2:¬9223372036854775807<AA.size+(4+D3.size)+4+BB.size:=(by omega);have uz11_2:AA.size+(4+D3.size)+4+BB.size≤9223372036854775807:=(by omega);have z11_3:(AA++((⟨#[32,66,89,32]⟩:ByteArray)++D3)++(⟨#[32,68,79,10]⟩:ByteArray)++BB++PA).size=AA.size+(4+D3.size)+4+BB.size+PA.size:=(by rw[ByteArray.size_append,z11_2]);have qz11_3:¬9223372036854775807<AA.size+(4+D3.size)+4+BB.size+PA.size:=(by omega)
   have uz11_3:AA.size+(4+D3.size)+4+BB.size+PA.size≤9223372036854775807:=(by omega);have z11_4:(AA++((⟨#[32,66,89,32]⟩:ByteArray)++D3)++(⟨#[32,68,79,10]⟩:ByteArray)++BB++PA++(⟨#[69,78,68,95,70,79,82,59,10]⟩:ByteArray)).size=AA.size+(4+D3.size)+4+BB.size+PA.size+9:=(by rw[ByteArray.size_append,z11_3];rfl);have qz11_4:¬9223372036854775807<AA.size+(4+D3.size)+4+BB.size+PA.size+9:=(by omega);have uz11_4:AA.size+(4+D3.size)+4+BB.size+PA.size+9≤9223372036854775807:=(by omega);have rz11_4:¬9223372036854775798<AA.size+(4+D3.size)+4+BB.size+PA.size:=(by omega);have wz11_4:AA.size+(4+D3.size)+4+BB.size+PA.size≤9223372036854775798:=(by omega);clear hb1;go_wp2_with fail
   refine(cD3.out _ GX3.out).mono ?_;rintro e w4 ⟨rfl,g⟩;dsimp only;have G4:=xa_ (gtn GX3.out g);clear g;go_wp2_with fail
   go_ret;exact⟨by first|(rw[HE.out];done)|(rw[HE.out];rfl),G4.out⟩
end Go.Proofs.YtcoglmaiahpooaaGreatDoor
