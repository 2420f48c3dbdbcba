import Derived.Test.YthkcloapiefggaaGreatDoorQBas
namespace Go.Proofs.YthkcloapiefggaaGreatDoor
open Go.ChangeShapes Go.WideShapes Go.RowKit
set_option linter.unusedVariables false
set_option linter.unusedSimpArgs false
def nF(n:Bool):Int:=if n=true then 4 else 0
theorem rU(r:Int)(w:World)(h0:0≤r)(h1:r < 65536):
  Calls Tryz.prog 78 #[.int .u16 r] w fun e w'=>e= .returned (.int .u16 (half r))∧w=w':=by
 by_cases c0:r=0
 ·subst c0
  go_enter Tryz.func78,Tryz.ntmps78
  go_wp2
  go_ret
  exact⟨rfl,rfl⟩
 ·by_cases c1:32768≤r
  all_goals
   go_enter Tryz.func78,Tryz.ntmps78
   go_wp2
   go_ret
   exact⟨by simp[half,c0,c1],rfl⟩
theorem gQ(f r:Int)(w:World)(f0:0≤f)(f1:f < 65536)(r0:0≤r)(r1:r < 65536):
  Calls Tryz.prog 50 #[.int .u16 f,.int .u16 r] w fun e w'=>e= .returned (.int .u16 (iD f r))∧w=w':=by
 have e1:=dX f 4 f0;have e2:=u16_in (f/4) (by omega) (by omega);have e3:=bu (f/4) 4 (by omega);have hf:=fH r;have e4:=u16_in (f/4%4*4) (by omega) (by omega);have e5:=u16_in (f/4%4*4+half r) (by omega) (by omega);clear hf;go_enter Tryz.func50,Tryz.ntmps50
 go_wp2_with (go_at_call 78;refine(rU _ _ r0 r1).mono ?_;rintro e w' ⟨rfl,rfl⟩)
 go_ret
 exact⟨rfl,rfl⟩
theorem jb(r:Int)(w:World)(h0:0≤r)(h1:r < 65536):
  Calls Tryz.prog 77 #[.int .u16 r] w fun e w'=>e= .returned (.int .i64 (sgn r))∧w=w':=by
 by_cases c:r < 32768
 ·go_enter Tryz.func77,Tryz.ntmps77
  go_wp2
  go_ret
  exact⟨by simp[sgn,c],rfl⟩
 ·go_enter Tryz.func77,Tryz.ntmps77
  go_wp2
  go_ret
  exact⟨eX (by rw[sgn,if_neg (by omega)]),rfl⟩
theorem oC(n:Bool)(v x:Int)(w:World):
  Calls Tryz.prog 76 #[.bool n,.int .i64 v,.int .i64 x] w fun e w'=>e= .returned (.tuple #[.int .u16 (v%65536),.int .u16 (half (v%65536)+nF n+ovf x)])∧w=w':=by
 have hv:IntKind.u16.wrap v=v%65536:=IntKind.wrap_u16 v;have hf:=fH (v%65536);have e1:=u16_in (half (v%65536)+4) (by omega) (by omega);have e2:=u16_in (half (v%65536)+8) (by omega) (by omega);have e3:=u16_in (half (v%65536)+4+8) (by omega) (by omega);clear hf;have hc:(x < -32768∧Hid (ovf x=8))∨(-32768≤x∧32767 < x∧Hid (ovf x=8))∨(-32768≤x∧x≤32767∧Hid (ovf x=0)):=by
  rcases(show x < -32768∨(-32768≤x∧32767 < x)∨(-32768≤x∧x≤32767) by omega) with c|⟨c,d⟩|⟨c,d⟩
  ·exact .inl ⟨c,Nc (by unfold ovf;rw[if_pos (by omega)])⟩
  ·exact .inr (.inl ⟨c,d,Nc (by unfold ovf;rw[if_pos (by omega)])⟩)
  ·exact .inr (.inr ⟨c,d,Nc (by unfold ovf;rw[if_neg (by omega)])⟩)
 cases n<;>rcases hc with⟨c,o⟩ | ⟨c,d,o⟩ | ⟨c,d,o⟩
 all_goals
  go_enter Tryz.func76,Tryz.ntmps76
  go_wp2_with (go_at_call 78;refine(rU _ _ (by omega) (by omega)).mono ?_;rintro e w' ⟨rfl,rfl⟩)
  go_ret2
  exact⟨zG rfl (by rw[o.out];simp[nF]),rfl⟩
theorem BO(a b:Int)(c:Bool)(w:World)(a0:0≤a)(a1:a < 65536)(b0:0≤b)(b1:b < 65536):
  Calls Tryz.prog 48 #[.int .u16 a,.int .u16 b,.bool c] w fun e w'=>e= .returned (.tuple #[.int .u16 (ou a b c),.int .u16 (qZ a b c)])∧w=w':=by
 obtain⟨A0,A1⟩:=jW a a0 a1;obtain⟨B0,B1⟩:=jW b b0 b1;cases c;all_goals
  go_enter Tryz.func48,Tryz.ntmps48
  go_wp2_with fail
  refine(jb _ _ a0 a1).mono ?_;rintro e w' ⟨rfl,rfl⟩;go_wp2_with fail
  refine(jb _ _ b0 b1).mono ?_;rintro e w' ⟨rfl,rfl⟩;go_wp2_with fail
  refine(oC _ _ _ _).mono ?_;rintro e w' ⟨rfl,rfl⟩;go_wp2_with fail
  go_ret2
  exact⟨zG (by simp[ou,cin]) (by simp[qZ,ou,cin,nF]),rfl⟩
theorem pW(a b:Int)(c:Bool)(w:World)(a0:0≤a)(a1:a < 65536)(b0:0≤b)(b1:b < 65536):
  Calls Tryz.prog 49 #[.int .u16 a,.int .u16 b,.bool c] w fun e w'=>e= .returned (.tuple #[.int .u16 (oJ a b c),.int .u16 (oK a b c)])∧w=w':=by
 obtain⟨A0,A1⟩:=jW a a0 a1;obtain⟨B0,B1⟩:=jW b b0 b1;cases c;all_goals
  go_enter Tryz.func49,Tryz.ntmps49
  go_wp2_with fail
  refine(jb _ _ a0 a1).mono ?_;rintro e w' ⟨rfl,rfl⟩;go_wp2_with fail
  refine(jb _ _ b0 b1).mono ?_;rintro e w' ⟨rfl,rfl⟩;go_wp2_with fail
  refine(oC _ _ _ _).mono ?_;rintro e w' ⟨rfl,rfl⟩;go_wp2_with fail
  go_ret2
  exact⟨zG (by simp[oJ,cin];omega) (by rw[oK,oJ];simp[cin,nF];exact congrArg half (by omega)),rfl⟩
theorem FK(cc f:Int)(w:World)(h0:0≤f)(h1:f < 65536)(hc:cc=0∨cc=1∨cc=2∨cc=3∨cc=4):
  Calls Tryz.prog 124 #[.int .i64 cc,.int .u16 f] w fun e w'=>e= .returned (.bool (dZ cc f))∧w=w':=by
 have t1:=bu f 2 h0;have d2:=dX f 2 h0;have d4:=dX f 4 h0;have d8:=dX f 8 h0;have u2:=u16_in (f/2) (by omega) (by omega);have u4:=u16_in (f/4) (by omega) (by omega);have u8:=u16_in (f/8) (by omega) (by omega);have t2:=bu (f/2) 2 (by omega);have t4:=bu (f/4) 2 (by omega);have t8:=bu (f/8) 2 (by omega);have z1:(f%2==1)=zB f:=rfl;have z2:(f/2%2==1)=nB f:=rfl;have z4:(f/4%2==1)=cB f:=rfl;have z8:(f/8%2==1)=vB f:=rfl;rcases hc with rfl|rfl|rfl|rfl|rfl;all_goals
  go_enter Tryz.func124,Tryz.ntmps124
  go_wp2_with fail
  go_ret
  exact⟨jm (by cases hn:nB f<;>cases hv:vB f<;>simp[dZ,hn,hv]),rfl⟩
theorem FI(cc f:Int)(w:World)(h0:0≤f)(h1:f < 65536)(hc:cc=5∨cc=6∨cc=7∨cc=10∨cc=11):
  Calls Tryz.prog 124 #[.int .i64 cc,.int .u16 f] w fun e w'=>e= .returned (.bool (dZ cc f))∧w=w':=by
 have t1:=bu f 2 h0;have d2:=dX f 2 h0;have d4:=dX f 4 h0;have d8:=dX f 8 h0;have u2:=u16_in (f/2) (by omega) (by omega);have u4:=u16_in (f/4) (by omega) (by omega);have u8:=u16_in (f/8) (by omega) (by omega);have t2:=bu (f/2) 2 (by omega);have t4:=bu (f/4) 2 (by omega);have t8:=bu (f/8) 2 (by omega);have z1:(f%2==1)=zB f:=rfl;have z2:(f/2%2==1)=nB f:=rfl;have z4:(f/4%2==1)=cB f:=rfl;have z8:(f/8%2==1)=vB f:=rfl;rcases hc with rfl|rfl|rfl|rfl|rfl;all_goals
  go_enter Tryz.func124,Tryz.ntmps124
  go_wp2_with fail
  go_ret
  exact⟨jm (by cases hn:nB f<;>cases hv:vB f<;>simp[dZ,hn,hv]),rfl⟩
theorem FH(cc f:Int)(w:World)(h0:0≤f)(h1:f < 65536)(hc:cc=8∨cc=9):
  Calls Tryz.prog 124 #[.int .i64 cc,.int .u16 f] w fun e w'=>e= .returned (.bool (dZ cc f))∧w=w':=by
 have t1:=bu f 2 h0;have d2:=dX f 2 h0;have d4:=dX f 4 h0;have d8:=dX f 8 h0;have u2:=u16_in (f/2) (by omega) (by omega);have u4:=u16_in (f/4) (by omega) (by omega);have u8:=u16_in (f/8) (by omega) (by omega);have t2:=bu (f/2) 2 (by omega);have t4:=bu (f/4) 2 (by omega);have t8:=bu (f/8) 2 (by omega);have z1:(f%2==1)=zB f:=rfl;have z2:(f/2%2==1)=nB f:=rfl;have z4:(f/4%2==1)=cB f:=rfl;have z8:(f/8%2==1)=vB f:=rfl;rcases Bool.eq_false_or_eq_true (cB f) with hb|hb;all_goals
  rw[hb] at z4;have Hb:=Nc hb;clear hb;rcases hc with rfl|rfl;all_goals
   go_enter Tryz.func124,Tryz.ntmps124
   go_wp2_with fail
   go_ret
   exact⟨jm (by cases hn:nB f<;>cases hv:vB f<;>simp[dZ,Hb.out,hn,hv]),rfl⟩
theorem FD(cc f:Int)(w:World)(h0:0≤f)(h1:f < 65536)(hc:cc=12∨cc=13):
  Calls Tryz.prog 124 #[.int .i64 cc,.int .u16 f] w fun e w'=>e= .returned (.bool (dZ cc f))∧w=w':=by
 have t1:=bu f 2 h0;have d2:=dX f 2 h0;have d4:=dX f 4 h0;have d8:=dX f 8 h0;have u2:=u16_in (f/2) (by omega) (by omega);have u4:=u16_in (f/4) (by omega) (by omega);have u8:=u16_in (f/8) (by omega) (by omega);have t2:=bu (f/2) 2 (by omega);have t4:=bu (f/4) 2 (by omega);have t8:=bu (f/8) 2 (by omega);have z1:(f%2==1)=zB f:=rfl;have z2:(f/2%2==1)=nB f:=rfl;have z4:(f/4%2==1)=cB f:=rfl;have z8:(f/8%2==1)=vB f:=rfl;rcases Bool.eq_false_or_eq_true (zB f) with hb|hb;all_goals
  rw[hb] at z1;have Hb:=Nc hb;clear hb;rcases hc with rfl|rfl;all_goals
   go_enter Tryz.func124,Tryz.ntmps124
   go_wp2_with fail
   go_ret
   exact⟨jm (by cases hn:nB f<;>cases hv:vB f<;>simp[dZ,Hb.out,hn,hv]),rfl⟩
theorem rX(cc f:Int)(w:World)(h0:0≤f)(h1:f < 65536):
  Calls Tryz.prog 124 #[.int .i64 cc,.int .u16 f] w fun e w'=>e= .returned (.bool (dZ cc f))∧w=w':=by
 by_cases hin:0≤cc∧cc < 14
 ·rcases(show(cc=0∨cc=1∨cc=2∨cc=3∨cc=4)∨(cc=5∨cc=6∨cc=7∨cc=10∨cc=11)∨(cc=8∨cc=9)∨(cc=12∨cc=13) by omega) with h|h|h|h
  ·exact FK cc f w h0 h1 h
  ·exact FI cc f w h0 h1 h
  ·exact FH cc f w h0 h1 h
  ·exact FD cc f w h0 h1 h
 ·go_enter Tryz.func124,Tryz.ntmps124
  go_wp2_with fail
  go_ret
  exact⟨jm (sU cc f (by omega)).symm,rfl⟩
def pI(kind top a:Int):Int:=if kind=0 then a*2%65536 else a/2+top
def dE(kind top:Int):Nat→Int→Int
 | 0,a=>a
 | k+1,a=>pI kind top (dE kind top k a)
theorem xe(kind a n:Int)(w:World)(h:kind < 0∨(0≤kind∧2 < kind))(a0:0≤a)(a1:a < 65536)(n0:0≤n)(n1:n < 65536):
  Calls Tryz.prog 51 #[.int .i64 kind,.int .u16 a,.int .u16 n] w fun e w'=>e= .returned (.int .u16 0)∧w=w':=by
 have k2:(kind==2)=false:=by simpa using(by omega:kind≠2)
 rcases h with h|⟨h,h'⟩;all_goals
  go_enter Tryz.func51,Tryz.ntmps51
  go_wp2_with fail
  go_ret
  exact⟨rfl,rfl⟩
theorem Bl(kind top a:Int)(ht:top=0∨top=32768)(a0:0≤a)(a1:a < 65536):0≤pI kind top a∧pI kind top a < 65536:=by
 unfold pI;split<;>omega
theorem kL(kind top a:Int)(ht:top=0∨top=32768)(a0:0≤a)(a1:a < 65536)(k:Nat):0≤dE kind top k a∧dE kind top k a < 65536:=by
 induction k with
 | zero=>exact⟨a0,a1⟩
 | succ k ih=>exact Bl kind top _ ht ih.1 ih.2
theorem Bz(a n:Int)(w:World)(a0:0≤a)(a1:a < 65536)(n0:0≤n)(n1:n < 65536):
  Calls Tryz.prog 51 #[.int .i64 0,.int .u16 a,.int .u16 n] w fun e w'=>e= .returned (.int .u16 (dE 0 0 (n%16).toNat a))∧w=w':=by
 have hm:=bu n 16 n0;go_enter Tryz.func51,Tryz.ntmps51
 go_wp2_with fail
 go_loop [1,8] (fun s i=>∃ k:Nat,(k:Int)≤n%16∧i= .int .u16 k∧s= .int .u16 (dE 0 0 k a)) (fun _ i=>(n%16-intOf i).toNat)
 case atStart=>exact⟨0,by omega,rfl,rfl⟩
 case round=>
  obtain⟨k,hk,rfl,rfl⟩:=hrel;obtain⟨s0,s1⟩:=kL 0 0 a (.inl rfl) a0 a1 k;have HS:Hid (dE 0 0 (k+1) a=IntKind.u16.wrap (dE 0 0 k a*2)):=Nc (by rw[IntKind.wrap_u16];rfl);by_cases hlt:(k:Int) < n%16
  ·go_wp2_with fail
   go_round
   case rel=>exact⟨k+1,by omega,by go_num,by rw[HS.out]⟩
   case measure=>simp[intOf];omega
  ·have hk':Hid ((n%16).toNat=k):=Nc (by omega)
   go_wp2_with fail
   go_ret
   exact⟨eX (by rw[hk'.out]),rfl⟩
theorem qc(kind a n top:Int)(w:World)(h:(kind=1∧top=0)∨(kind=2∧32768≤a∧top=32768)∨(kind=2∧a < 32768∧top=0))(a0:0≤a)(a1:a < 65536)(n0:0≤n)(n1:n < 65536):
  Calls Tryz.prog 51 #[.int .i64 kind,.int .u16 a,.int .u16 n] w fun e w'=>e= .returned (.int .u16 (dE kind top (n%16).toNat a))∧w=w':=by
 have hm:=bu n 16 n0;rcases h with⟨rfl,rfl⟩|⟨rfl,c,rfl⟩|⟨rfl,c,rfl⟩
 case' inl=>have hst:=fun k:Nat=>(show dE 1 0 (k+1) a=dE 1 0 k a/2+0 from rfl);have hbd:=kL 1 0 a (by simp) a0 a1;have h00:dE 1 0 0 a=a:=rfl;generalize dE 1 0=f at*
 case' inr.inl=>have hst:=fun k:Nat=>(show dE 2 32768 (k+1) a=dE 2 32768 k a/2+32768 from rfl);have hbd:=kL 2 32768 a (by simp) a0 a1;have h00:dE 2 32768 0 a=a:=rfl;generalize dE 2 32768=f at*
 case' inr.inr=>have hst:=fun k:Nat=>(show dE 2 0 (k+1) a=dE 2 0 k a/2+0 from rfl);have hbd:=kL 2 0 a (by simp) a0 a1;have h00:dE 2 0 0 a=a:=rfl;generalize dE 2 0=f at*
 all_goals
  have Hst:=Nc hst;have Hbd:=Nc hbd;have H00:=Nc h00;clear hst hbd h00;go_enter Tryz.func51,Tryz.ntmps51
  go_wp2_with fail
  go_loop [1,8] (fun s i=>∃ k:Nat,(k:Int)≤n%16∧i= .int .u16 k∧s= .int .u16 (f k a)) (fun _ i=>(n%16-intOf i).toNat)
  case atStart=>exact⟨0,by omega,rfl,by rw[H00.out]⟩
  case round=>
   obtain⟨k,hk,rfl,rfl⟩:=hrel;obtain⟨s0,s1⟩:=Hbd.out k;obtain⟨t0,t1⟩:=Hbd.out (k+1);have HS:=Nc (Hst.out k);rw[Hst.out k] at t0 t1;have hd:=dX (f k a) 2 s0;have hu:=u16_in (f k a/2) (by omega) (by omega);by_cases hlt:(k:Int) < n%16
   ·go_wp2_with fail
    go_round
    case rel=>exact⟨k+1,by omega,by go_num,by rw[HS.out]<;>simp⟩
    case measure=>simp[intOf];omega
   ·have hk':Hid ((n%16).toNat=k):=Nc (by omega)
    go_wp2_with fail
    go_ret
    exact⟨eX (by rw[hk'.out]),rfl⟩
theorem EY(a:Int)(a0:0≤a)(a1:a < 65536)(k:Nat):dE 0 0 k a=a*2 ^ k%65536:=by
 induction k with
 | zero=>simp only[dE];omega
 | succ k ih=>
  simp only[dE];rw[ih];simp only[pI,if_true];rw[Int.pow_succ,← Int.mul_assoc];omega
theorem yu(kind a:Int)(h:kind≠0)(k:Nat):dE kind 0 k a=a/2 ^ k:=by
 induction k with
 | zero=>simp only[dE];omega
 | succ k ih=>
  simp only[dE];rw[ih,mW];simp only[pI,if_neg h];omega
theorem Gf(x:Int)(h0: -65536≤x)(h1:x < 0)(k:Nat): -65536≤x/2 ^ k∧x/2 ^ k < 0:=by
 induction k with
 | zero=>simp only[Int.pow_zero];omega
 | succ k ih=>rw[mW];omega
theorem EX(a:Int)(c:32768≤a)(a1:a < 65536)(k:Nat):dE 2 32768 k a=(a-65536)/2 ^ k+65536:=by
 induction k with
 | zero=>simp only[dE];omega
 | succ k ih=>
  simp only[dE];rw[ih,mW];have e:¬ (2:Int)=0:=by decide
  simp only[pI,if_neg e];omega
theorem xg(kind a n:Int)(w:World)(a0:0≤a)(a1:a < 65536)(n0:0≤n)(n1:n < 65536):
  Calls Tryz.prog 51 #[.int .i64 kind,.int .u16 a,.int .u16 n] w fun e w'=>e= .returned (.int .u16 (shV kind a (n%16)))∧w=w':=by
 by_cases h0:kind=0
 ·subst h0
  refine(Bz a n w a0 a1 n0 n1).mono fun e w' ⟨he,hw⟩=>⟨?_,hw⟩
  rw[he,EY a a0 a1];rfl
 by_cases h1:kind=1
 ·subst h1
  refine(qc 1 a n 0 w (by omega) a0 a1 n0 n1).mono fun e w' ⟨he,hw⟩=>⟨?_,hw⟩
  rw[he,yu 1 a (by decide)];rfl
 by_cases h2:kind=2
 ·subst h2
  have hs:shV 2 a (n%16)=sgn a/2 ^ (n%16).toNat%65536:=rfl;by_cases c:a < 32768
  ·refine(qc 2 a n 0 w (by omega) a0 a1 n0 n1).mono fun e w' ⟨he,hw⟩=>⟨?_,hw⟩
   have:=D5 a a0 a1 (n%16).toNat;rw[he,yu 2 a (by decide),hs,sgn,if_pos c,Int.emod_eq_of_lt this.1 this.2]
  ·refine(qc 2 a n 32768 w (by omega) a0 a1 n0 n1).mono fun e w' ⟨he,hw⟩=>⟨?_,hw⟩
   have:=Gf (a-65536) (by omega) (by omega) (n%16).toNat;rw[he,EX a (by omega) a1,hs,sgn,if_neg c];exact eX (by omega)
 ·refine(xe kind a n w (by omega) a0 a1 n0 n1).mono fun e w' ⟨he,hw⟩=>⟨?_,hw⟩
  rw[he,shV,if_neg h0,if_neg h1,if_neg h2]
end Go.Proofs.YthkcloapiefggaaGreatDoor
