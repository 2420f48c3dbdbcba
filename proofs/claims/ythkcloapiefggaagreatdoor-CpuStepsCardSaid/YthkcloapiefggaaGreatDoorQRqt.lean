import Derived.Test.YthkcloapiefggaaGreatDoorQXqm
namespace Go.Proofs.YthkcloapiefggaaGreatDoor
set_option linter.unusedVariables false
set_option linter.unusedSimpArgs false
set_option maxRecDepth 100000
set_option maxHeartbeats 1000000
open Go.ChangeShapes Go.WideShapes Go.RowKit
section
variable {E:Qe} {sv ov:Value} {S S0:Ms} {d:Nat} {k i:Int} {w:World}
theorem uj{I:Im}{n:Nat}{s:ByteArray}{a:Int}(h:eu I n a=false)(e:eu I n a=(decide (a < 4096) && decide ((n:Int) < I.banks.length) && decide (a < (s.size:Int))))(hb:(n:Int) < I.banks.length):(s.size:Int)≤a∨(a < (s.size:Int)∧¬ a < 4096):=by
 rw[h] at e;have e2:=e.symm;simp only[Bool.and_eq_false_iff,decide_eq_false_iff_not] at e2;omega
theorem qg{I:Im}{n:Nat}{s:ByteArray}{a:Int}(h:eu I n a=true)(e:eu I n a=(decide (a < 4096) && decide ((n:Int) < I.banks.length) && decide (a < (s.size:Int)))):a < 4096∧(n:Int) < I.banks.length∧a < (s.size:Int):=by
 rw[h] at e;have e2:=e.symm;simp only[Bool.and_eq_true,decide_eq_true_eq] at e2;omega
set_option maxHeartbeats 4000000 in
theorem IL(a b:Int)(h:Mq E sv ov S d 0 0 w)(ha:U16 a)(b0:0≤b)(b1:b < 256):
  Calls Tryz.prog 122 #[.pointer (some ⟨E.b,0,none⟩),.int .i64 b,.int .u16 a,.int .i64 1] w (RvE E sv ov S d w (byP (eu E.I b) (fO E.I b) a)):=by
 obtain⟨a0,a1⟩:=ha;have hw0:IntKind.u16.wrap a=a:=by rw[IntKind.wrap_u16];omega
 have c0:=h.at 0 (.slice E.P.p0 E.I.banks.length E.P.c0) rfl;have HHas:=Nc h.has;have HOk:=Nc h.env.I;have hL:=h.env.I.n0;have hL':(E.I.banks.length:Int)≤1000000000:=by omega
 obtain⟨n,rfl⟩:∃ n:Nat,b=n:=⟨b.toNat,by omega⟩;have hrE:∀ x:Int,eu E.I n x=(decide (x < 4096) && decide ((n:Int) < E.I.banks.length) && decide (x < ((bk E.I.banks n).size:Int))):=fun x=>by unfold eu;rw[show((n:Int)).toNat=n by omega]
 have hvE:∀ x:Int,fO E.I n x=ba (bk E.I.banks n) x.toNat:=fun x=>by unfold fO;rw[show((n:Int)).toNat=n by omega]
 have HE:=Nc (And.intro hrE hvE);clear hrE hvE;cases hr:eu E.I n a
 ·have HF:=Nc (dG 2 a h)
  have e:byP (eu E.I n) (fO E.I n) a= .tr 2 a:=by unfold byP;rw[hr];rfl
  rw[e];clear e h;by_cases hb:n < E.I.banks.length
  ·obtain⟨g,hg,hc⟩:=HHas.out.s0.aF (jQ hb)
   have hsm:=HOk.out.bs _ (ji hb);obtain⟨s,hs⟩:∃ s,bk E.I.banks n=s:=⟨_,rfl⟩;rw[hs] at hc hsm HE;rw[hg] at c0;unfold maxLen at hsm;have hbi:(n:Int) < (E.I.banks.length:Int):=by omega
   have hq:=uj hr (HE.out.1 a) hbi;clear hr hs hg hL;rcases hq with q|⟨q,q2⟩;all_goals
    go_enter Tryz.func122,Tryz.ntmps122
    go_wp2_with fail
    refine wp_loop_rounds 1 ?_;rw[rounds_succ];go_wp2_with fail
    refine HF.out.mono ?_;rintro e w' ⟨rfl,hm,hf⟩;have HX:=Nc (And.intro hm hf);clear hm hf;go_wp2_with fail
    go_ret
    exact⟨rfl,HX.out.1,HX.out.2⟩
  ·have hbi:¬ (n:Int) < (E.I.banks.length:Int):=by omega
   clear hr hL;go_enter Tryz.func122,Tryz.ntmps122
   go_wp2_with fail
   refine wp_loop_rounds 1 ?_;rw[rounds_succ];go_wp2_with fail
   refine HF.out.mono ?_;rintro e w' ⟨rfl,hm,hf⟩;have HX:=Nc (And.intro hm hf);clear hm hf;go_wp2_with fail
   go_ret
   exact⟨rfl,HX.out.1,HX.out.2⟩
 ·have e:byP (eu E.I n) (fO E.I n) a= .ok (fO E.I n a):=by unfold byP;rw[hr];rfl
  rw[e];clear e h;obtain⟨q0,q1,q2⟩:=qg hr (HE.out.1 a);have hb:n < E.I.banks.length:=by omega
  obtain⟨g,hg,hc⟩:=HHas.out.s0.aF (jQ hb);have hsm:=HOk.out.bs _ (ji hb);obtain⟨s,hs⟩:∃ s,bk E.I.banks n=s:=⟨_,rfl⟩;rw[hs] at hc hsm HE;rw[hg] at c0;unfold maxLen at hsm;have hbi:(n:Int) < (E.I.banks.length:Int):=by omega
  rw[hs] at q2;have hv:=Nc (HE.out.2 a);obtain⟨x0,x1⟩:=ay s a.toNat;have hm:a.toNat < s.size:=by omega
  have hx:=bG s a.toNat hm;obtain⟨x,hxe⟩:∃ x,ba s a.toNat=x:=⟨_,rfl⟩;rw[hxe] at hv hx x0 x1;clear hr hs hg hL hxe;go_enter Tryz.func122,Tryz.ntmps122
  go_wp2_with fail
  refine wp_loop_rounds 2 ?_;rw[rounds_succ];go_wp2_with fail
  rw[rounds_succ];go_wp2_with fail
  go_ret
  exact⟨by rw[hv.out];rfl,rfl⟩
set_option maxHeartbeats 4000000 in
theorem IK(a b:Int)(h:Mq E sv ov S d 0 0 w)(ha:U16 a)(b0:0≤b)(b1:b < 256):
  Calls Tryz.prog 122 #[.pointer (some ⟨E.b,0,none⟩),.int .i64 b,.int .u16 a,.int .i64 2] w (RvE E sv ov S d w (wdP (eu E.I b) (fO E.I b) a)):=by
 obtain⟨a0,a1⟩:=ha;have hw0:IntKind.u16.wrap a=a:=by rw[IntKind.wrap_u16];omega
 have c0:=h.at 0 (.slice E.P.p0 E.I.banks.length E.P.c0) rfl;have HHas:=Nc h.has;have HOk:=Nc h.env.I;have hL:=h.env.I.n0;have hL':(E.I.banks.length:Int)≤1000000000:=by omega
 obtain⟨n,rfl⟩:∃ n:Nat,b=n:=⟨b.toNat,by omega⟩;have hrE:∀ x:Int,eu E.I n x=(decide (x < 4096) && decide ((n:Int) < E.I.banks.length) && decide (x < ((bk E.I.banks n).size:Int))):=fun x=>by unfold eu;rw[show((n:Int)).toNat=n by omega]
 have hvE:∀ x:Int,fO E.I n x=ba (bk E.I.banks n) x.toNat:=fun x=>by unfold fO;rw[show((n:Int)).toNat=n by omega]
 have HE:=Nc (And.intro hrE hvE);clear hrE hvE;cases hr:eu E.I n a
 ·have HF:=Nc (dG 2 a h)
  rw[wd0 hr];clear h;by_cases hb:n < E.I.banks.length
  ·obtain⟨g,hg,hc⟩:=HHas.out.s0.aF (jQ hb)
   have hsm:=HOk.out.bs _ (ji hb);obtain⟨s,hs⟩:∃ s,bk E.I.banks n=s:=⟨_,rfl⟩;rw[hs] at hc hsm HE;rw[hg] at c0;unfold maxLen at hsm;have hbi:(n:Int) < (E.I.banks.length:Int):=by omega
   have hq:=uj hr (HE.out.1 a) hbi;clear hr hs hg hL;rcases hq with q|⟨q,q2⟩;all_goals
    go_enter Tryz.func122,Tryz.ntmps122
    go_wp2_with fail
    refine wp_loop_rounds 1 ?_;rw[rounds_succ];go_wp2_with fail
    refine HF.out.mono ?_;rintro e w' ⟨rfl,hm,hf⟩;have HX:=Nc (And.intro hm hf);clear hm hf;go_wp2_with fail
    go_ret
    exact⟨rfl,HX.out.1,HX.out.2⟩
  ·have hbi:¬ (n:Int) < (E.I.banks.length:Int):=by omega
   clear hr hL;go_enter Tryz.func122,Tryz.ntmps122
   go_wp2_with fail
   refine wp_loop_rounds 1 ?_;rw[rounds_succ];go_wp2_with fail
   refine HF.out.mono ?_;rintro e w' ⟨rfl,hm,hf⟩;have HX:=Nc (And.intro hm hf);clear hm hf;go_wp2_with fail
   go_ret
   exact⟨rfl,HX.out.1,HX.out.2⟩
 obtain⟨q0,q1,q2⟩:=qg hr (HE.out.1 a);have hb:n < E.I.banks.length:=by omega
 obtain⟨g,hg,hc⟩:=HHas.out.s0.aF (jQ hb);have hsm:=HOk.out.bs _ (ji hb);obtain⟨s,hs⟩:∃ s,bk E.I.banks n=s:=⟨_,rfl⟩;rw[hs] at hc hsm HE;rw[hg] at c0;unfold maxLen at hsm;have hbi:(n:Int) < (E.I.banks.length:Int):=by omega
 rw[hs] at q2;have hn:=CY a0 (by omega);obtain⟨x0,x1⟩:=ay s a.toNat;have hm:a.toNat < s.size:=by omega
 have hx:=bG s a.toNat hm;have hv:=Nc (HE.out.2 a);obtain⟨x,hxe⟩:∃ x,ba s a.toNat=x:=⟨_,rfl⟩;rw[hxe] at hv hx x0 x1;clear hxe;cases hr2:eu E.I n (nx a)
 ·have HF:=Nc (dG 2 (nx a) h)
  rw[wd1 hr hr2];have hq:=uj hr2 (HE.out.1 (nx a)) hbi;rw[hn] at HF hq⊢;clear h hr hr2 hs hg hL hn;rcases hq with q|⟨q,q2⟩;all_goals
   go_enter Tryz.func122,Tryz.ntmps122
   go_wp2_with fail
   refine wp_loop_rounds 2 ?_;rw[rounds_succ];go_wp2_with fail
   rw[rounds_succ];go_wp2_with fail
   refine HF.out.mono ?_;rintro e w' ⟨rfl,hm,hf⟩;have HX:=Nc (And.intro hm hf);clear hm hf;go_wp2_with fail
   go_ret
   exact⟨rfl,HX.out.1,HX.out.2⟩
 ·rw[wd2 hr hr2]
  obtain⟨p0,p1,p2⟩:=qg hr2 (HE.out.1 (nx a));rw[hn] at p0 p2;have hm2:(a+1).toNat < s.size:=by omega
  obtain⟨y0,y1⟩:=ay s (a+1).toNat;have hy:=bG s (a+1).toNat hm2;have hv2:=Nc ((HE.out.2 (nx a)).trans (show ba s (nx a).toNat=ba s (a+1).toNat by rw[hn]));obtain⟨y,hye⟩:∃ y,ba s (a+1).toNat=y:=⟨_,rfl⟩;rw[hye] at hv2 hy y0 y1;clear h hr hr2 hs hg hL hn hye;go_enter Tryz.func122,Tryz.ntmps122
  go_wp2_with fail
  refine wp_loop_rounds 3 ?_;rw[rounds_succ];go_wp2_with fail
  rw[rounds_succ];go_wp2_with fail
  rw[rounds_succ];go_wp2_with fail
  go_ret
  exact⟨by rw[hv.out,hv2.out,Int.mul_comm];rfl,rfl⟩
end
end Go.Proofs.YthkcloapiefggaaGreatDoor
