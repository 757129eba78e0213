/- Texts put together: Mb. -/
import Derived.Test.YtcoglmaiahpooaaGreatDoorQ04
set_option linter.unusedVariables false
set_option linter.unusedSimpArgs false
set_option maxHeartbeats 8000000
namespace Go.Proofs.YtcoglmaiahpooaaGreatDoor
open Go.RowKit
attribute [local go_sem ↓] Go.wp_at_zero Go.wp_at_succ
set_option maxRecDepth 10000 in
theorem adr_ (x:ByteArray) (w:World):Calls Tryz.prog 84 #[.string x] w fun e w'=>e=.returned (.bool (x4_ x))∧w=w':=by
 obtain⟨r,hr⟩:∃ r,x4_ x=r:=⟨_,rfl⟩;rw[hr];have HR:=xa_ hr;clear hr;go_enter Tryz.func84,Tryz.ntmps84;by_cases h0:(x.toList==[112,114,111,103,114,97,109])=true
 · have e:r=true:=(by rw[← HR.out,x4_,List.contains_iff_mem.2];rw[eq_of_beq h0];decide);subst e;clear HR;go_wp2_with fail
   go_ret;exact⟨rfl,rfl⟩
 have g0:(x.toList==[112,114,111,103,114,97,109])=false:=(by simpa using h0);clear h0;by_cases h1:(x.toList==[101,110,100,95,112,114,111,103,114,97,109])=true
 · have e:r=true:=(by rw[← HR.out,x4_,List.contains_iff_mem.2];rw[eq_of_beq h1];decide);subst e;clear HR;go_wp2_with fail
   go_ret;exact⟨rfl,rfl⟩
 have g1:(x.toList==[101,110,100,95,112,114,111,103,114,97,109])=false:=(by simpa using h1);clear h1;by_cases h2:(x.toList==[102,117,110,99,116,105,111,110])=true
 · have e:r=true:=(by rw[← HR.out,x4_,List.contains_iff_mem.2];rw[eq_of_beq h2];decide);subst e;clear HR;go_wp2_with fail
   go_ret;exact⟨rfl,rfl⟩
 have g2:(x.toList==[102,117,110,99,116,105,111,110])=false:=(by simpa using h2);clear h2;by_cases h3:(x.toList==[101,110,100,95,102,117,110,99,116,105,111,110])=true
 · have e:r=true:=(by rw[← HR.out,x4_,List.contains_iff_mem.2];rw[eq_of_beq h3];decide);subst e;clear HR;go_wp2_with fail
   go_ret;exact⟨rfl,rfl⟩
 have g3:(x.toList==[101,110,100,95,102,117,110,99,116,105,111,110])=false:=(by simpa using h3);clear h3;by_cases h4:(x.toList==[102,117,110,99,116,105,111,110,95,98,108,111,99,107])=true
 · have e:r=true:=(by rw[← HR.out,x4_,List.contains_iff_mem.2];rw[eq_of_beq h4];decide);subst e;clear HR;go_wp2_with fail
   go_ret;exact⟨rfl,rfl⟩
 have g4:(x.toList==[102,117,110,99,116,105,111,110,95,98,108,111,99,107])=false:=(by simpa using h4);clear h4;by_cases h5:(x.toList==[101,110,100,95,102,117,110,99,116,105,111,110,95,98,108,111,99,107])=true
 · have e:r=true:=(by rw[← HR.out,x4_,List.contains_iff_mem.2];rw[eq_of_beq h5];decide);subst e;clear HR;go_wp2_with fail
   go_ret;exact⟨rfl,rfl⟩
 have g5:(x.toList==[101,110,100,95,102,117,110,99,116,105,111,110,95,98,108,111,99,107])=false:=(by simpa using h5);clear h5;by_cases h6:(x.toList==[118,97,114])=true
 · have e:r=true:=(by rw[← HR.out,x4_,List.contains_iff_mem.2];rw[eq_of_beq h6];decide);subst e;clear HR;go_wp2_with fail
   go_ret;exact⟨rfl,rfl⟩
 have g6:(x.toList==[118,97,114])=false:=(by simpa using h6);clear h6;by_cases h7:(x.toList==[118,97,114,95,105,110,112,117,116])=true
 · have e:r=true:=(by rw[← HR.out,x4_,List.contains_iff_mem.2];rw[eq_of_beq h7];decide);subst e;clear HR;go_wp2_with fail
   go_ret;exact⟨rfl,rfl⟩
 have g7:(x.toList==[118,97,114,95,105,110,112,117,116])=false:=(by simpa using h7);clear h7;by_cases h8:(x.toList==[118,97,114,95,111,117,116,112,117,116])=true
 · have e:r=true:=(by rw[← HR.out,x4_,List.contains_iff_mem.2];rw[eq_of_beq h8];decide);subst e;clear HR;go_wp2_with fail
   go_ret;exact⟨rfl,rfl⟩
 have g8:(x.toList==[118,97,114,95,111,117,116,112,117,116])=false:=(by simpa using h8);clear h8;by_cases h9:(x.toList==[118,97,114,95,101,120,116,101,114,110,97,108])=true
 · have e:r=true:=(by rw[← HR.out,x4_,List.contains_iff_mem.2];rw[eq_of_beq h9];decide);subst e;clear HR;go_wp2_with fail
   go_ret;exact⟨rfl,rfl⟩
 have g9:(x.toList==[118,97,114,95,101,120,116,101,114,110,97,108])=false:=(by simpa using h9);clear h9;by_cases h10:(x.toList==[114,101,116,97,105,110])=true
 · have e:r=true:=(by rw[← HR.out,x4_,List.contains_iff_mem.2];rw[eq_of_beq h10];decide);subst e;clear HR;go_wp2_with fail
   go_ret;exact⟨rfl,rfl⟩
 have g10:(x.toList==[114,101,116,97,105,110])=false:=(by simpa using h10);clear h10;by_cases h11:(x.toList==[101,110,100,95,118,97,114])=true
 · have e:r=true:=(by rw[← HR.out,x4_,List.contains_iff_mem.2];rw[eq_of_beq h11];decide);subst e;clear HR;go_wp2_with fail
   go_ret;exact⟨rfl,rfl⟩
 have g11:(x.toList==[101,110,100,95,118,97,114])=false:=(by simpa using h11);clear h11;by_cases h12:(x.toList==[97,114,114,97,121])=true
 · have e:r=true:=(by rw[← HR.out,x4_,List.contains_iff_mem.2];rw[eq_of_beq h12];decide);subst e;clear HR;go_wp2_with fail
   go_ret;exact⟨rfl,rfl⟩
 have g12:(x.toList==[97,114,114,97,121])=false:=(by simpa using h12);clear h12;by_cases h13:(x.toList==[111,102])=true
 · have e:r=true:=(by rw[← HR.out,x4_,List.contains_iff_mem.2];rw[eq_of_beq h13];decide);subst e;clear HR;go_wp2_with fail
   go_ret;exact⟨rfl,rfl⟩
 have g13:(x.toList==[111,102])=false:=(by simpa using h13);clear h13;by_cases h14:(x.toList==[98,111,111,108])=true
 · have e:r=true:=(by rw[← HR.out,x4_,List.contains_iff_mem.2];rw[eq_of_beq h14];decide);subst e;clear HR;go_wp2_with fail
   go_ret;exact⟨rfl,rfl⟩
 have g14:(x.toList==[98,111,111,108])=false:=(by simpa using h14);clear h14;by_cases h15:(x.toList==[105,110,116])=true
 · have e:r=true:=(by rw[← HR.out,x4_,List.contains_iff_mem.2];rw[eq_of_beq h15];decide);subst e;clear HR;go_wp2_with fail
   go_ret;exact⟨rfl,rfl⟩
 have g15:(x.toList==[105,110,116])=false:=(by simpa using h15);clear h15;by_cases h16:(x.toList==[100,105,110,116])=true
 · have e:r=true:=(by rw[← HR.out,x4_,List.contains_iff_mem.2];rw[eq_of_beq h16];decide);subst e;clear HR;go_wp2_with fail
   go_ret;exact⟨rfl,rfl⟩
 have g16:(x.toList==[100,105,110,116])=false:=(by simpa using h16);clear h16;by_cases h17:(x.toList==[119,111,114,100])=true
 · have e:r=true:=(by rw[← HR.out,x4_,List.contains_iff_mem.2];rw[eq_of_beq h17];decide);subst e;clear HR;go_wp2_with fail
   go_ret;exact⟨rfl,rfl⟩
 have g17:(x.toList==[119,111,114,100])=false:=(by simpa using h17);clear h17;by_cases h18:(x.toList==[116,105,109,101])=true
 · have e:r=true:=(by rw[← HR.out,x4_,List.contains_iff_mem.2];rw[eq_of_beq h18];decide);subst e;clear HR;go_wp2_with fail
   go_ret;exact⟨rfl,rfl⟩
 have g18:(x.toList==[116,105,109,101])=false:=(by simpa using h18);clear h18;by_cases h19:(x.toList==[105,102])=true
 · have e:r=true:=(by rw[← HR.out,x4_,List.contains_iff_mem.2];rw[eq_of_beq h19];decide);subst e;clear HR;go_wp2_with fail
   go_ret;exact⟨rfl,rfl⟩
 have g19:(x.toList==[105,102])=false:=(by simpa using h19);clear h19;by_cases h20:(x.toList==[116,104,101,110])=true
 · have e:r=true:=(by rw[← HR.out,x4_,List.contains_iff_mem.2];rw[eq_of_beq h20];decide);subst e;clear HR;go_wp2_with fail
   go_ret;exact⟨rfl,rfl⟩
 have g20:(x.toList==[116,104,101,110])=false:=(by simpa using h20);clear h20;by_cases h21:(x.toList==[101,108,115,105,102])=true
 · have e:r=true:=(by rw[← HR.out,x4_,List.contains_iff_mem.2];rw[eq_of_beq h21];decide);subst e;clear HR;go_wp2_with fail
   go_ret;exact⟨rfl,rfl⟩
 have g21:(x.toList==[101,108,115,105,102])=false:=(by simpa using h21);clear h21;by_cases h22:(x.toList==[101,108,115,101])=true
 · have e:r=true:=(by rw[← HR.out,x4_,List.contains_iff_mem.2];rw[eq_of_beq h22];decide);subst e;clear HR;go_wp2_with fail
   go_ret;exact⟨rfl,rfl⟩
 have g22:(x.toList==[101,108,115,101])=false:=(by simpa using h22);clear h22;by_cases h23:(x.toList==[101,110,100,95,105,102])=true
 · have e:r=true:=(by rw[← HR.out,x4_,List.contains_iff_mem.2];rw[eq_of_beq h23];decide);subst e;clear HR;go_wp2_with fail
   go_ret;exact⟨rfl,rfl⟩
 have g23:(x.toList==[101,110,100,95,105,102])=false:=(by simpa using h23);clear h23;by_cases h24:(x.toList==[99,97,115,101])=true
 · have e:r=true:=(by rw[← HR.out,x4_,List.contains_iff_mem.2];rw[eq_of_beq h24];decide);subst e;clear HR;go_wp2_with fail
   go_ret;exact⟨rfl,rfl⟩
 have g24:(x.toList==[99,97,115,101])=false:=(by simpa using h24);clear h24;by_cases h25:(x.toList==[101,110,100,95,99,97,115,101])=true
 · have e:r=true:=(by rw[← HR.out,x4_,List.contains_iff_mem.2];rw[eq_of_beq h25];decide);subst e;clear HR;go_wp2_with fail
   go_ret;exact⟨rfl,rfl⟩
 have g25:(x.toList==[101,110,100,95,99,97,115,101])=false:=(by simpa using h25);clear h25;by_cases h26:(x.toList==[102,111,114])=true
 · have e:r=true:=(by rw[← HR.out,x4_,List.contains_iff_mem.2];rw[eq_of_beq h26];decide);subst e;clear HR;go_wp2_with fail
   go_ret;exact⟨rfl,rfl⟩
 have g26:(x.toList==[102,111,114])=false:=(by simpa using h26);clear h26;by_cases h27:(x.toList==[116,111])=true
 · have e:r=true:=(by rw[← HR.out,x4_,List.contains_iff_mem.2];rw[eq_of_beq h27];decide);subst e;clear HR;go_wp2_with fail
   go_ret;exact⟨rfl,rfl⟩
 have g27:(x.toList==[116,111])=false:=(by simpa using h27);clear h27;by_cases h28:(x.toList==[98,121])=true
 · have e:r=true:=(by rw[← HR.out,x4_,List.contains_iff_mem.2];rw[eq_of_beq h28];decide);subst e;clear HR;go_wp2_with fail
   go_ret;exact⟨rfl,rfl⟩
 have g28:(x.toList==[98,121])=false:=(by simpa using h28);clear h28;by_cases h29:(x.toList==[100,111])=true
 · have e:r=true:=(by rw[← HR.out,x4_,List.contains_iff_mem.2];rw[eq_of_beq h29];decide);subst e;clear HR;go_wp2_with fail
   go_ret;exact⟨rfl,rfl⟩
 have g29:(x.toList==[100,111])=false:=(by simpa using h29);clear h29;by_cases h30:(x.toList==[101,110,100,95,102,111,114])=true
 · have e:r=true:=(by rw[← HR.out,x4_,List.contains_iff_mem.2];rw[eq_of_beq h30];decide);subst e;clear HR;go_wp2_with fail
   go_ret;exact⟨rfl,rfl⟩
 have g30:(x.toList==[101,110,100,95,102,111,114])=false:=(by simpa using h30);clear h30;by_cases h31:(x.toList==[119,104,105,108,101])=true
 · have e:r=true:=(by rw[← HR.out,x4_,List.contains_iff_mem.2];rw[eq_of_beq h31];decide);subst e;clear HR;go_wp2_with fail
   go_ret;exact⟨rfl,rfl⟩
 have g31:(x.toList==[119,104,105,108,101])=false:=(by simpa using h31);clear h31;by_cases h32:(x.toList==[109,97,120])=true
 · have e:r=true:=(by rw[← HR.out,x4_,List.contains_iff_mem.2];rw[eq_of_beq h32];decide);subst e;clear HR;go_wp2_with fail
   go_ret;exact⟨rfl,rfl⟩
 have g32:(x.toList==[109,97,120])=false:=(by simpa using h32);clear h32;by_cases h33:(x.toList==[101,110,100,95,119,104,105,108,101])=true
 · have e:r=true:=(by rw[← HR.out,x4_,List.contains_iff_mem.2];rw[eq_of_beq h33];decide);subst e;clear HR;go_wp2_with fail
   go_ret;exact⟨rfl,rfl⟩
 have g33:(x.toList==[101,110,100,95,119,104,105,108,101])=false:=(by simpa using h33);clear h33;by_cases h34:(x.toList==[114,101,112,101,97,116])=true
 · have e:r=true:=(by rw[← HR.out,x4_,List.contains_iff_mem.2];rw[eq_of_beq h34];decide);subst e;clear HR;go_wp2_with fail
   go_ret;exact⟨rfl,rfl⟩
 have g34:(x.toList==[114,101,112,101,97,116])=false:=(by simpa using h34);clear h34;by_cases h35:(x.toList==[117,110,116,105,108])=true
 · have e:r=true:=(by rw[← HR.out,x4_,List.contains_iff_mem.2];rw[eq_of_beq h35];decide);subst e;clear HR;go_wp2_with fail
   go_ret;exact⟨rfl,rfl⟩
 have g35:(x.toList==[117,110,116,105,108])=false:=(by simpa using h35);clear h35;by_cases h36:(x.toList==[101,110,100,95,114,101,112,101,97,116])=true
 · have e:r=true:=(by rw[← HR.out,x4_,List.contains_iff_mem.2];rw[eq_of_beq h36];decide);subst e;clear HR;go_wp2_with fail
   go_ret;exact⟨rfl,rfl⟩
 have g36:(x.toList==[101,110,100,95,114,101,112,101,97,116])=false:=(by simpa using h36);clear h36;by_cases h37:(x.toList==[101,120,105,116])=true
 · have e:r=true:=(by rw[← HR.out,x4_,List.contains_iff_mem.2];rw[eq_of_beq h37];decide);subst e;clear HR;go_wp2_with fail
   go_ret;exact⟨rfl,rfl⟩
 have g37:(x.toList==[101,120,105,116])=false:=(by simpa using h37);clear h37;by_cases h38:(x.toList==[99,111,110,116,105,110,117,101])=true
 · have e:r=true:=(by rw[← HR.out,x4_,List.contains_iff_mem.2];rw[eq_of_beq h38];decide);subst e;clear HR;go_wp2_with fail
   go_ret;exact⟨rfl,rfl⟩
 have g38:(x.toList==[99,111,110,116,105,110,117,101])=false:=(by simpa using h38);clear h38;by_cases h39:(x.toList==[114,101,116,117,114,110])=true
 · have e:r=true:=(by rw[← HR.out,x4_,List.contains_iff_mem.2];rw[eq_of_beq h39];decide);subst e;clear HR;go_wp2_with fail
   go_ret;exact⟨rfl,rfl⟩
 have g39:(x.toList==[114,101,116,117,114,110])=false:=(by simpa using h39);clear h39;by_cases h40:(x.toList==[111,114])=true
 · have e:r=true:=(by rw[← HR.out,x4_,List.contains_iff_mem.2];rw[eq_of_beq h40];decide);subst e;clear HR;go_wp2_with fail
   go_ret;exact⟨rfl,rfl⟩
 have g40:(x.toList==[111,114])=false:=(by simpa using h40);clear h40;by_cases h41:(x.toList==[120,111,114])=true
 · have e:r=true:=(by rw[← HR.out,x4_,List.contains_iff_mem.2];rw[eq_of_beq h41];decide);subst e;clear HR;go_wp2_with fail
   go_ret;exact⟨rfl,rfl⟩
 have g41:(x.toList==[120,111,114])=false:=(by simpa using h41);clear h41;by_cases h42:(x.toList==[97,110,100])=true
 · have e:r=true:=(by rw[← HR.out,x4_,List.contains_iff_mem.2];rw[eq_of_beq h42];decide);subst e;clear HR;go_wp2_with fail
   go_ret;exact⟨rfl,rfl⟩
 have g42:(x.toList==[97,110,100])=false:=(by simpa using h42);clear h42;by_cases h43:(x.toList==[109,111,100])=true
 · have e:r=true:=(by rw[← HR.out,x4_,List.contains_iff_mem.2];rw[eq_of_beq h43];decide);subst e;clear HR;go_wp2_with fail
   go_ret;exact⟨rfl,rfl⟩
 have g43:(x.toList==[109,111,100])=false:=(by simpa using h43);clear h43;by_cases h44:(x.toList==[110,111,116])=true
 · have e:r=true:=(by rw[← HR.out,x4_,List.contains_iff_mem.2];rw[eq_of_beq h44];decide);subst e;clear HR;go_wp2_with fail
   go_ret;exact⟨rfl,rfl⟩
 have g44:(x.toList==[110,111,116])=false:=(by simpa using h44);clear h44;by_cases h45:(x.toList==[116,114,117,101])=true
 · have e:r=true:=(by rw[← HR.out,x4_,List.contains_iff_mem.2];rw[eq_of_beq h45];decide);subst e;clear HR;go_wp2_with fail
   go_ret;exact⟨rfl,rfl⟩
 have g45:(x.toList==[116,114,117,101])=false:=(by simpa using h45);clear h45;by_cases h46:(x.toList==[102,97,108,115,101])=true
 · have e:r=true:=(by rw[← HR.out,x4_,List.contains_iff_mem.2];rw[eq_of_beq h46];decide);subst e;clear HR;go_wp2_with fail
   go_ret;exact⟨rfl,rfl⟩
 have g46:(x.toList==[102,97,108,115,101])=false:=(by simpa using h46);clear h46;by_cases h47:(x.toList==[108,97,100,100,101,114])=true
 · have e:r=true:=(by rw[← HR.out,x4_,List.contains_iff_mem.2];rw[eq_of_beq h47];decide);subst e;clear HR;go_wp2_with fail
   go_ret;exact⟨rfl,rfl⟩
 have g47:(x.toList==[108,97,100,100,101,114])=false:=(by simpa using h47);clear h47;by_cases h48:(x.toList==[101,110,100,95,108,97,100,100,101,114])=true
 · have e:r=true:=(by rw[← HR.out,x4_,List.contains_iff_mem.2];rw[eq_of_beq h48];decide);subst e;clear HR;go_wp2_with fail
   go_ret;exact⟨rfl,rfl⟩
 have g48:(x.toList==[101,110,100,95,108,97,100,100,101,114])=false:=(by simpa using h48);clear h48;by_cases h49:(x.toList==[114,117,110,103])=true
 · have e:r=true:=(by rw[← HR.out,x4_,List.contains_iff_mem.2];rw[eq_of_beq h49];decide);subst e;clear HR;go_wp2_with fail
   go_ret;exact⟨rfl,rfl⟩
 have g49:(x.toList==[114,117,110,103])=false:=(by simpa using h49);clear h49;by_cases h50:(x.toList==[100,105,97,103,114,97,109])=true
 · have e:r=true:=(by rw[← HR.out,x4_,List.contains_iff_mem.2];rw[eq_of_beq h50];decide);subst e;clear HR;go_wp2_with fail
   go_ret;exact⟨rfl,rfl⟩
 have g50:(x.toList==[100,105,97,103,114,97,109])=false:=(by simpa using h50);clear h50;by_cases h51:(x.toList==[101,110,100,95,100,105,97,103,114,97,109])=true
 · have e:r=true:=(by rw[← HR.out,x4_,List.contains_iff_mem.2];rw[eq_of_beq h51];decide);subst e;clear HR;go_wp2_with fail
   go_ret;exact⟨rfl,rfl⟩
 have g51:(x.toList==[101,110,100,95,100,105,97,103,114,97,109])=false:=(by simpa using h51);clear h51;by_cases h52:(x.toList==[112,114,101,118])=true
 · have e:r=true:=(by rw[← HR.out,x4_,List.contains_iff_mem.2];rw[eq_of_beq h52];decide);subst e;clear HR;go_wp2_with fail
   go_ret;exact⟨rfl,rfl⟩
 have g52:(x.toList==[112,114,101,118])=false:=(by simpa using h52);clear h52;have e:r=false:=by
  rw[← HR.out,x4_];simp only[resW,List.contains_cons,List.contains_nil,Bool.or_false,g0,g1,g2,g3,g4,g5,g6,g7,g8,g9,g10,g11,g12,g13,g14,g15,g16,g17,g18,g19,g20,g21,g22,g23,g24,g25,g26,g27,g28,g29,g30,g31,g32,g33,g34,g35,g36,g37,g38,g39,g40,g41,g42,g43,g44,g45,g46,g47,g48,g49,g50,g51,g52]
 subst e;clear HR;go_wp2_with fail
 go_ret;exact⟨rfl,rfl⟩
end Go.Proofs.YtcoglmaiahpooaaGreatDoor
