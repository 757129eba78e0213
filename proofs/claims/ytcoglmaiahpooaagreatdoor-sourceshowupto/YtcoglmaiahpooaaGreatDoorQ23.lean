/- Texts put together: Wi. -/
import Derived.Test.YtcoglmaiahpooaaGreatDoorQ22
set_option linter.unusedVariables false
set_option linter.unusedSimpArgs false
set_option maxHeartbeats 8000000
namespace Go.Proofs.YtcoglmaiahpooaaGreatDoor
open Go.RowKit
attribute [local go_sem ↓] Go.wp_at_zero Go.wp_at_succ
def opW (o:Int):ByteArray:=if o=1 then⟨#[43]⟩ else if o=2 then⟨#[45]⟩ else if o=3 then⟨#[42]⟩ else if o=4 then⟨#[47]⟩ else if o=5 then⟨#[109,111,100]⟩ else if o=6 then⟨#[97,110,100]⟩ else if o=7 then⟨#[111,114]⟩ else if o=8 then⟨#[120,111,114]⟩ else if o=9 then⟨#[61]⟩ else if o=10 then⟨#[60,62]⟩ else if o=11 then⟨#[60]⟩ else if o=12 then⟨#[60,61]⟩ else if o=13 then⟨#[62]⟩ else⟨#[62,61]⟩
theorem ai7_ {o:Int} (h:0<lvS o):1≤o∧o≤14:=by
 by_cases h1:1≤o∧o≤14
 ·exact h1
 · exfalso;have:lvS o=0:=by
    unfold lvS;repeat' (rw[if_neg (by omega)])
   omega
theorem op_c (o:Int) (h0:1≤o) (h1:o≤14):o=1∨o=2∨o=3∨o=4∨o=5∨o=6∨o=7∨o=8∨o=9∨o=10∨o=11∨o=12∨o=13∨o=14:=by omega
theorem aei_ {V W:World} (hT:Tabs V) (hV:Vs V W) (o:Int) (h0:1≤o) (h1:o≤14):W.cell? ⟨9,o.toNat,none⟩=some (.string (opW o)):=by
 rw[xn_ ((hV.2 9 (by decide)).trans hT.ow)];rcases op_c o h0 h1 with rfl|rfl|rfl|rfl|rfl|rfl|rfl|rfl|rfl|rfl|rfl|rfl|rfl|rfl
 all_goals rfl
theorem ai9_ (o:Int) (h0:1≤o) (h1:o≤14) (W:World):Calls Tryz.prog 56 #[.string (opW o)] W (xv_ W (bs (opT o))):=by
 rcases op_c o h0 h1 with rfl|rfl|rfl|rfl|rfl|rfl|rfl|rfl|rfl|rfl|rfl|rfl|rfl|rfl
 ·exact x2_ ⟨#[43]⟩ W (by decide) (by decide)
 ·exact x2_ ⟨#[45]⟩ W (by decide) (by decide)
 ·exact x2_ ⟨#[42]⟩ W (by decide) (by decide)
 ·exact x2_ ⟨#[47]⟩ W (by decide) (by decide)
 ·exact x2_ ⟨#[109,111,100]⟩ W (by decide) (by decide)
 ·exact x2_ ⟨#[97,110,100]⟩ W (by decide) (by decide)
 ·exact x2_ ⟨#[111,114]⟩ W (by decide) (by decide)
 ·exact x2_ ⟨#[120,111,114]⟩ W (by decide) (by decide)
 ·exact x2_ ⟨#[61]⟩ W (by decide) (by decide)
 ·exact x2_ ⟨#[60,62]⟩ W (by decide) (by decide)
 ·exact x2_ ⟨#[60]⟩ W (by decide) (by decide)
 ·exact x2_ ⟨#[60,61]⟩ W (by decide) (by decide)
 ·exact x2_ ⟨#[62]⟩ W (by decide) (by decide)
 ·exact x2_ ⟨#[62,61]⟩ W (by decide) (by decide)
set_option maxRecDepth 100000 in
theorem aja_ {V W:World} {B b:Nat} {l:List UInt8} (o kd n:Int) (nm pt:ByteArray) (a:Int) (ks:List PE) (x:Option Addr) (c:Nat) (h:WB B b l W) (hBW:B≤W.heap.size) (hn1:ks.length=2) (ho1:1≤o) (ho2:o≤14) (hT:Tabs V) (hV:Vs V W) (h13:13≤B) (hx:Xs W (fun q=>q<B) (.slice x ks.length c) ks) (hE':∀(i:Nat) (hi:i<ks.length) W',Wr B b W W'→∀ ka kc,Xs W' (fun q=>q<B) (.slice ka ks[i].kids.length kc) ks[i].kids→EW B b W' ks[i] (.slice ka ks[i].kids.length kc)) (hl:l.length+(opd 6 o 0 (ks[0]'(by omega))++((32:UInt8)::(opT o++(([32]:Tx)++opd 6 o 1 (ks[1]'(by omega)))))).length≤70368744177664) :
 Calls Tryz.prog 180 #[.pointer (some ⟨b,0,none⟩),xV 6 o kd n nm pt a (.slice x ks.length c)] W (wrt B b (l++(opd 6 o 0 (ks[0]'(by omega))++((32:UInt8)::(opT o++(([32]:Tx)++opd 6 o 1 (ks[1]'(by omega))))))) W):=by
 have cO0:Hid (∀ l' W',Wr B b W W'→WB B b l' W'→B≤W'.heap.size→l'.length+(opd 6 o 0 (ks[0]'(by omega))).length≤70368744177664→Calls Tryz.prog 212 #[.pointer (some ⟨b,0,none⟩),xV 6 o kd n nm pt a (.slice x ks.length c),.int .i64 ((0:Nat):Int)] W' (wrt B b (l'++opd 6 o 0 (ks[0]'(by omega))) W')):=xa_ fun l' W' r h2 hB2 hl2=>aag_ 6 o kd n nm pt a ks x c h2 hB2 0 (by omega) hT (hV.wr r h13) (hx.wr2 r) (fun ka kc hk=>hE' 0 (by omega) W' r ka kc hk) hl2;have cO1:Hid (∀ l' W',Wr B b W W'→WB B b l' W'→B≤W'.heap.size→l'.length+(opd 6 o 1 (ks[1]'(by omega))).length≤70368744177664→Calls Tryz.prog 212 #[.pointer (some ⟨b,0,none⟩),xV 6 o kd n nm pt a (.slice x ks.length c),.int .i64 ((1:Nat):Int)] W' (wrt B b (l'++opd 6 o 1 (ks[1]'(by omega))) W')):=xa_ fun l' W' r h2 hB2 hl2=>aag_ 6 o kd n nm pt a ks x c h2 hB2 1 (by omega) hT (hV.wr r h13) (hx.wr2 r) (fun ka kc hk=>hE' 1 (by omega) W' r ka kc hk) hl2;have hC:=xa_ (fun W' (r:Wr B b W W')=>aei_ hT (hV.wr r h13) o ho1 ho2);have cU:=xa_ (ai9_ o ho1 ho2);generalize hT1:opW o=OW at hC cU;generalize opT o=OT at cU hl ⊢;generalize opd 6 o 0 (ks[0]'(by omega))=T0 at cO0 hl ⊢;generalize opd 6 o 1 (ks[1]'(by omega))=T1 at cO1 hl ⊢;have H0:=xa_ h;have HB:=xa_ hBW;have Hb:=xa_ h.lt;have HL:=xa_ hl;clear h hBW hl hx hE' hT hV hn1 hT1;go_enter Tryz.func180,Tryz.ntmps180;go_wp2_with fail
 refine(cO0.out _ _ ((Wr.refl B b W).al HB.out _) (H0.out.gn (gr1 _ _)) (by have:=HB.out;first|omega|(simp;omega)) (by have:=HL.out;simp[cat] at this ⊢;omega)).mono ?_;rintro e W1 ⟨rfl,h,r⟩;have A1:Hid (W1.heap[W.heap.size]?=some (.cells #[.int .i64 6,.int .i64 o,.int .i64 kd,.int .i64 n,.string nm,.string pt,.int .i64 a,.slice x ks.length c] 50)):=r.box (xe_ (by first|rfl|simp) _) (by decide) (by have:=Hb.out;omega);have H1:=xa_ h;have R1:=xa_ (((Wr.refl B b W).al HB.out _).trans r);clear h r;obtain⟨a1a,a1b,a1c,a1d,a1e,a1f⟩:=xb_ A1.out;have y1:=hC.out _ R1.out;go_wp2_with fail
 refine(cU.out _).mono ?_;rintro e W2 ⟨rfl,g⟩;have A2:Hid (W2.heap[W.heap.size]?=some (.cells #[.int .i64 6,.int .i64 o,.int .i64 kd,.int .i64 n,.string nm,.string pt,.int .i64 a,.slice x ks.length c] 50)):=kept g A1.out;have H2:=xa_ (H1.out.gn g);have R2:=xa_ (R1.out.gn g HB.out);clear g a1a a1b a1c a1d a1e a1f y1;obtain⟨a2a,a2b,a2c,a2d,a2e,a2f⟩:=xb_ A2.out;go_wp2_with fail
 refine(xo_ (W:=W2) H2.out (by have:=R2.out.size;have:=HB.out;first|omega|(simp;omega)) [⟨#[32]⟩,bs OT,⟨#[32]⟩] 3 rfl 3 #[.string ⟨#[32]⟩,.string (bs OT),.string ⟨#[32]⟩] rfl _ (by first|rfl|simp) (by have:=HL.out;simp[cat] at this ⊢;omega) (by simp)).mono ?_;rintro e W3 ⟨rfl,h,r⟩;have A3:Hid (W3.heap[W.heap.size]?=some (.cells #[.int .i64 6,.int .i64 o,.int .i64 kd,.int .i64 n,.string nm,.string pt,.int .i64 a,.slice x ks.length c] 50)):=r.box A2.out (by decide) (by have:=Hb.out;have:=R1.out.size;have:=R2.out.size;omega);have H3:=xa_ h;have R3:=xa_ (R2.out.trans r);clear h r a2a a2b a2c a2d a2e a2f;obtain⟨a3a,a3b,a3c,a3d,a3e,a3f⟩:=xb_ A3.out;go_wp2_with fail
 refine(cO1.out _ _ R3.out H3.out (by have:=R3.out.size;have:=HB.out;first|omega|(simp;omega)) (by have:=HL.out;simp[cat] at this ⊢;omega)).mono ?_;rintro e W4 ⟨rfl,h,r⟩;have A4:Hid (W4.heap[W.heap.size]?=some (.cells #[.int .i64 6,.int .i64 o,.int .i64 kd,.int .i64 n,.string nm,.string pt,.int .i64 a,.slice x ks.length c] 50)):=r.box A3.out (by decide) (by have:=Hb.out;have:=R1.out.size;have:=R2.out.size;have:=R3.out.size;omega);have H4:=xa_ h;have R4:=xa_ (R3.out.trans r);clear h r a3a a3b a3c a3d a3e a3f;obtain⟨a4a,a4b,a4c,a4d,a4e,a4f⟩:=xb_ A4.out;go_wp2_with fail
 go_end0;refine⟨rfl,?_,R4.out⟩;have:=H4.out;simpa[cat,List.append_assoc] using this
end Go.Proofs.YtcoglmaiahpooaaGreatDoor
