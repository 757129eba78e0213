/- Texts put together: Y3dup. -/
import Derived.Test.YtcgbfhpmkpglkaaGreatDoorQ25
set_option linter.unusedVariables false
set_option linter.unusedSimpArgs false
set_option maxHeartbeats 8000000
namespace Go.Proofs.YtcgbfhpmkpglkaaGreatDoor
open Go.RowKit
attribute [local go_sem ↓] Go.wp_at_zero Go.wp_at_succ
set_option maxRecDepth 1000000 in
theorem av1_ (c w wr:World) (B M C:Nat) (fv:Value) (n off al:Nat) (pb po np pcap:Nat) (now:Int) (r0:Option Nat) (sa:Option Addr) (sc:Nat) (st ar:List Int) (sp fl:Int) (cs:List Int) (u q tb to' tn tc i:Nat) (t:List Ins) (a b cc:Int) (K K0:Act→World→Prop) (Pst:Ending→World→Prop) (c3 c4 c5:Value)
 (hS:St c w B M C fv n off al (.slice (some ⟨pb,po,none⟩) np pcap) now r0 sa sc st ar sp fl cs wr) (hT:TxtC c pb q tb to' tn tc t) (hx:nth t i=⟨9,a,b,cc⟩) (hi:i<tn) (hn:tn≤100000) (hG:Gd ⟨9,a,b,cc⟩ ⟨st,ar,sp,fl⟩) (r:List Int) (v:Int) (hst:st=r++[v])
 (hN:∀ sa' sc' w' l,l.length=397→St c w B M C fv n off al (.slice (some ⟨pb,po,none⟩) np pcap) now r0 sa' sc' (r++[v]++[v]) ar (sp+1) fl cs w'→K (yr_ M u fv (.slice (some ⟨tb,to',none⟩) tn tc) (.slice (some ⟨C,0,none⟩) 40 40) c3 c4 c5 ((i:Int)+1) l) w')
 : Ap 397 fun l=>(zg_ Tryz.f16).wp Tryz.prog (Exit.then K (Exit.inBlock 0 (Exit.then K0 (bodyPost Tryz.prog Tryz.f16 Pst)))) (yr_ M u fv (.slice (some ⟨tb,to',none⟩) tn tc) (.slice (some ⟨C,0,none⟩) 40 40) c3 c4 c5 (i:Int) l) wr:=by
 iterate 397 intro _
 dsimp only[Ap];obtain⟨g1,g2,g3,g4,g5,g6⟩:=hG;dsimp only at g1 g2 g3 g4 g5 g6;have HS:=hd_ hS;obtain⟨X,hX⟩:∃ X,wr.heap.size=X:=⟨_,rfl⟩;have hq:=(hT.ins i hi).grown hS.rc.cw;rw[hx] at hq;obtain⟨q0,q1,q2,q3⟩:=hq;dsimp only at q0 q1 q2 q3;have HS1:Hid (St c w B M C fv n off al (.slice (some ⟨pb,po,none⟩) np pcap) now r0 sa sc st ar (sp+1) fl cs ((wr.setCell ⟨M,3,none⟩ (.int .i64 (sp+1))).alloc (.cells #[.int .i64 9,.int .i64 a,.int .i64 b,.int .i64 cc] 40))):=(hS.setS (sp+1)).kept (gr1 _ _);have hMX:M<X:=(by have:=hS.rc.ma.blk;have:=xg_ this;omega);have m3:=(gr1 wr (.cells #[.int .i64 9,.int .i64 a,.int .i64 b,.int .i64 cc] 40)).cell (xa_ hS.rc.ma.blk 3) (by simp);simp at m3;have f3:=xc_ (kept (gr1 wr (.cells #[.int .i64 9,.int .i64 a,.int .i64 b,.int .i64 cc] 40)) hS.rc.ma.blk) 3;have hw3:IntKind.i64.wrap (sp+1)=sp+1:=IntWalk.i64_in _ (by omega);have i1:(0:Int)≤(i:Int):=(by omega);have i2:(i:Int)<(tn:Int):=(by omega);have HXB:Hid (((wr.setCell ⟨M,3,none⟩ (.int .i64 (sp+1))).alloc (.cells #[.int .i64 9,.int .i64 a,.int .i64 b,.int .i64 cc] 40)).heap[X]?=some (.cells #[.int .i64 9,.int .i64 a,.int .i64 b,.int .i64 cc] 40)):=by
  exact xj_ (by simp[hX]) _
 have n1:¬M=X:=(by omega);have n2:¬X=M:=(by omega);have hwi:IntKind.i64.wrap ((i:Int)+1)=(i:Int)+1:=IntWalk.i64_in _ (by omega);clear hS hT hx;unfold yr_;conv=>arg 2;whnf
 go_upto_region 8 with fail;generalize hw2:(wr.setCell ⟨M,3,none⟩ (.int .i64 (sp+1))).alloc (.cells #[.int .i64 9,.int .i64 a,.int .i64 b,.int .i64 cc] 40)=w2 at HS1 HXB ⊢;have x0:=xa_ HXB.out 0;have x1:=xa_ HXB.out 1;have x2:=xa_ HXB.out 2;have x3:=xa_ HXB.out 3;simp at x0 x1 x2 x3;clear q0 q1 q2 q3 m3 f3 hw3 hw2;subst hst;obtain⟨sg,hsa⟩:∃ sg,sa=some ⟨sg,0,none⟩:=by
  obtain⟨_,⟨e,e2⟩|⟨sg,cc',cur,e,_⟩⟩:=HS1.out.rc.ma.own
  ·simp at e2
  ·simp at e;exact⟨sg,e.1⟩
 subst hsa;have sq:w2.cell? ⟨sg,r.length,none⟩=some (.int .i64 v):=by
  have:=World.ownsRow.cells HS1.out.rc.ma.own rfl r.length (.int .i64 v) (by simp);rw[jc_,Nat.zero_add] at this;exact this
 have hB2:=HS1.out.rc.bw;obtain⟨ga,gc,w3,hrun,hb3,hm3,hc3,hn3,_⟩:=z6_ (W:=(w2.alloc (.cells #[.int .i64 v] 3)).drew) (xb:=w2.heap.size) (x:=v) (HS1.out.rc.ma.kept (xf_ (gr1 _ _))) (by first|omega|(simp at g2 ⊢;omega)) (by have:=(xf_ (gr1 w2 (.cells #[.int .i64 v] 3))).size;omega) (kept (xf_ gz_) (heap_alloc_new w2 _));have HS2:Hid (St c w B M C fv n off al (.slice (some ⟨pb,po,none⟩) np pcap) now r0 ga gc ((r++[v])++[v]) ar (sp+1) fl cs (w3.setCell ⟨M,2,none⟩ (.slice ga ((r++[v]).length+1) gc))):=(HS1.out.kept (xf_ (gr1 _ _))).stack hm3 hc3 hn3;have d2:=xa_ HS1.out.rc.ma.blk 2;simp at d2;have d2a:∀ o:Obj,(w2.alloc o).cell? ⟨M,2,none⟩=some (.slice (some ⟨sg,0,none⟩) (r++[v]).length sc):=fun o=>(gr1 w2 o).cell (by simpa using d2) (by simp);have k2:=xa_ hb3 2;simp at k2;have f2:=xc_ hb3 2;have HRUN:Hid (_=_):=hrun;clear hrun hb3 hm3 hc3 hn3;have sqa:∀ o:Obj,(w2.alloc o).cell? ⟨sg,r.length,none⟩=some (.int .i64 v):=fun o=>(gr1 w2 o).cell sq (by simp);simp at g2;have hlen:(r++[v]).length=r.length+1:=(by simp);(try rw[hlen] at d2);(try rw[hlen] at d2a);(try rw[hlen] at HRUN);(try rw[hlen] at HS2);(try rw[hlen] at k2);obtain⟨m,hm⟩:∃ m,r.length=m:=⟨_,rfl⟩;(try rw[hm] at sq);(try rw[hm] at sqa);(try rw[hm] at d2);(try simp only[hm] at d2a);(try rw[hm] at HRUN);(try rw[hm] at HS2);(try rw[hm] at k2);(try rw[hm] at g2);have z1:(0:Int)≤(m:Int):=(by omega);have z2:(m:Int)<(m:Int)+1:=(by omega);have z3:IntKind.i64.wrap ((m:Int)+1 - 1)=(m:Int):=(by rw[show(m:Int)+1 - 1=(m:Int) by omega];exact IntWalk.i64_in _ (by omega))
 have z4:IntKind.i64.wrap (m:Int)=(m:Int):=IntWalk.i64_in _ (by omega);have z5:m<m+1:=(by omega);go_upto_region 46 with fail;go_region_law (first|(refine y7_ (by rfl) _ _ 25 (by rfl) _ _ _ w3 (by rfl) (by rfl) HRUN.out ?_))
 all_goals go_wp2
 all_goals first|exact hN _ _ _ _ rfl HS2.out|exact hN _ _ _ _ rfl (HS2.out.kept (xf_ gz_))
end Go.Proofs.YtcgbfhpmkpglkaaGreatDoor
