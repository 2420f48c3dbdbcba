import Derived.Test.YthkcloapiefggaaGreatDoorQFie
import Derived.Test.YthkcloapiefggaaGreatDoorQVag
namespace Go.Proofs.YthkcloapiefggaaGreatDoor
set_option linter.unusedVariables false
set_option linter.unusedSimpArgs false
set_option maxRecDepth 100000
open Go.ChangeShapes Go.WideShapes Go.RowKit
set_option maxHeartbeats 2000000 in
theorem vN(s:ByteArray)(w:World)(hs:s.size≤maxLen):
  Calls Tryz.prog 116 #[.string s] w fun e w'=>e= .returned (.tuple #[dN (fD s),.int .i64 (fE s)])∧Below w.heap.size w w':=by
 have HS:=Nc hs;unfold maxLen at hs;have Hb0:=Nc ((Below.refl w.heap.size w).alloc (Nat.le_refl _) (.cells #[.int .i64 0,.int .i64 0,.int .i64 0,.int .u16 0,.int .u16 0,.int .i64 0,.int .i64 0] 58));have HR0:=Nc (heap_alloc_new w (.cells (gJ eH) 58));obtain⟨d1,d2,d3,d4⟩:=GH s;have hI:∀ E,fE s=E→¬ E=0→fD s=eH:=fun E h hn=>by unfold fD;rw[if_neg (by rw[h];exact hn)]
 by_cases hz:s.size=0
 ·have HE:=Nc (And.intro (d1 hz) (hI _ (d1 hz) (by decide)))
  have he:s.toList=[]:=by rw[ByteArray.toList_eq];exact List.length_eq_zero_iff.1 hz
  have he2:s.toList.isEmpty=true:=by rw[he];rfl
  clear d1 d2 d3 d4 hI;go_enter Tryz.func116,Tryz.ntmps116
  go_wp2_with fail
  exact bodyPost_ret (v:= .tuple #[.agg #[.int .i64 0,.int .i64 0,.int .i64 0,.int .u16 0,.int .u16 0,.int .i64 0,.int .i64 0],.int .i64 10]) (by simp[results,Tryz.results116,go_sem]) rfl ⟨by rw[HE.out.1,HE.out.2];rfl,Hb0.out⟩
 ·have h0s:0 < s.size:=by omega
  have he:s.toList.isEmpty=false:=by rw[ByteArray.toList_eq,List.isEmpty_eq_false_iff];intro e;exact hz (congrArg List.length e)
  have hx:=bG s 0 h0s;obtain⟨p0,p1⟩:=ay s 0;have hzb:=G8 (ba s 0);have HSz:=Nc (fun w=>jk (ba s 0) w p0 p1);have D2:=Nc (d2 h0s);have D3:=Nc (d3 h0s);have D4:=Nc (d4 h0s);have HFl:=Nc (fun w hf hz=>xU s w hs h0s hf hz);have HOk:=Nc (fun h=>DT (rF (ba s 0)) (ba s 0) (rZ (ba s 0)) s (ku _).1 (ku _).2 h p0 p1 (by omega) (by omega));have HI:=Nc hI;obtain⟨J,hJ⟩:∃ J,az (rF (ba s 0)) (ba s 0) (rZ (ba s 0)) s=J:=⟨_,rfl⟩;rw[hJ] at HFl HOk D4;obtain⟨op,hop⟩:∃ op,ba s 0=op:=⟨_,rfl⟩;rw[hop] at hx HSz D2 D3 D4 HFl HOk hzb p0 p1;obtain⟨z,hzz⟩:∃ z,rZ op=z:=⟨_,rfl⟩;rw[hzz] at HSz D2 D3 D4 HFl hzb;clear d1 d2 d3 d4 hI hJ hop hzz hz;go_enter Tryz.func116,Tryz.ntmps116
  go_wp2_with fail
  refine(HSz.out _).mono ?_;rintro e w1 ⟨rfl,hb⟩;have HR1:=Nc ((hb.block w.heap.size (by simp)).trans HR0.out);have Hb1:=Nc (fV hb).1;have hlt:=(fV hb).2;clear hb;obtain⟨r0,r1,r2,r3,r4,r5,r6⟩:=dH HR1.out;have fz:=fun j=>dm (j:=j) HR1.out
  simp only[eH] at r0 r1 r2 r3 r4 r5 r6;by_cases h1:z=0
  ·have HE:=Nc (And.intro (D2.out h1) (HI.out _ (D2.out h1) (by decide)))
   go_wp2_with fail
   exact bodyPost_ret (v:= .tuple #[.agg #[.int .i64 0,.int .i64 0,.int .i64 0,.int .u16 0,.int .u16 0,.int .i64 0,.int .i64 0],.int .i64 11]) (by simp[results,Tryz.results116,go_sem,r0,r1,r2,r3,r4,r5,r6,fz]) rfl ⟨by rw[HE.out.1,HE.out.2];rfl,kH Hb1.out _ _ _ _ _ _ _⟩
  ·by_cases h2:(s.size:Int) < z
   ·have HE:=Nc (And.intro (D3.out h1 h2) (HI.out _ (D3.out h1 h2) (by decide)))
    go_wp2_with fail
    exact bodyPost_ret (v:= .tuple #[.agg #[.int .i64 0,.int .i64 0,.int .i64 0,.int .u16 0,.int .u16 0,.int .i64 0,.int .i64 0],.int .i64 10]) (by simp[results,Tryz.results116,go_sem,r0,r1,r2,r3,r4,r5,r6,fz]) rfl ⟨by rw[HE.out.1,HE.out.2];rfl,kH Hb1.out _ _ _ _ _ _ _⟩
   ·obtain⟨g1,g2,g3⟩:=D4.out h1 (by omega)
    have hOk:=HOk.out g1;have HFc:=Nc (fun w=>HFl.out w g1 (by omega));have HV:=Nc (fun w=>pV J w hOk);obtain⟨V,hV⟩:∃ V,rV J=V:=⟨_,rfl⟩;rw[hV] at HV g2 g3;have G2:=Nc g2;have G3:=Nc g3;clear g1 g2 g3 hV hOk;obtain⟨op',d',s',im',ax',bk',sz'⟩:=J;unfold dN at HFc HV;go_wp2_with fail
    refine(HFc.out _).mono ?_;rintro e w2 ⟨rfl,hb⟩;have HR2:=Nc ((hb.block w.heap.size hlt).trans HR1.out);have Hb2:=Nc (Hb1.out.trans (hb.mono (by omega)));have hlt2:w.heap.size < w2.heap.size:=by have:=hb.size;omega
    clear hb r0 r1 r2 r3 r4 r5 r6 fz;have HR2':=Nc (aj _ (.cells (gJ ⟨op',d',s',im',ax',bk',sz'⟩) 58) _ HR2.out);have HJ2:=Nc (heap_alloc_new w2 (.cells (gJ ⟨op',d',s',im',ax',bk',sz'⟩) 58));have Hb2':=Nc (Hb2.out.alloc (by omega) (.cells (gJ ⟨op',d',s',im',ax',bk',sz'⟩) 58));go_wp2_with fail
    refine(HV.out _).mono ?_;rintro e w3 ⟨rfl,hb⟩;have HR3:=Nc ((hb.block w.heap.size (by simp;omega)).trans HR2'.out);have HJ3:=Nc ((hb.block w2.heap.size (by simp)).trans HJ2.out);have Hb3:=Nc (Hb2'.out.trans (hb.mono (by simp;omega)));clear hb;obtain⟨r0,r1,r2,r3,r4,r5,r6⟩:=dH HR3.out;have fz:=fun j=>dm (j:=j) HR3.out
    obtain⟨e0,e1,e2,e3,e4,e5,e6⟩:=dH HJ3.out;simp only[eH] at r0 r1 r2 r3 r4 r5 r6 e0 e1 e2 e3 e4 e5 e6;cases V
    ·have HE:=Nc (And.intro (G3.out rfl) (HI.out _ (G3.out rfl) (by decide)))
     go_wp2_with fail
     exact bodyPost_ret (v:= .tuple #[.agg #[.int .i64 0,.int .i64 0,.int .i64 0,.int .u16 0,.int .u16 0,.int .i64 0,.int .i64 0],.int .i64 11]) (by simp[results,Tryz.results116,go_sem,r0,r1,r2,r3,r4,r5,r6,fz]) rfl ⟨by rw[HE.out.1,HE.out.2];rfl,kH Hb3.out _ _ _ _ _ _ _⟩
    ·have HE:=Nc (G2.out rfl)
     go_wp2_with fail
     exact bodyPost_ret (v:= .tuple #[.agg #[.int .i64 op',.int .i64 d',.int .i64 s',.int .u16 im',.int .u16 ax',.int .i64 bk',.int .i64 sz'],.int .i64 0]) (by simp[results,Tryz.results116,go_sem,r0,r1,r2,r3,r4,r5,r6,fz]) rfl ⟨by rw[HE.out.1,HE.out.2];rfl,kH Hb3.out _ _ _ _ _ _ _⟩
end Go.Proofs.YthkcloapiefggaaGreatDoor
