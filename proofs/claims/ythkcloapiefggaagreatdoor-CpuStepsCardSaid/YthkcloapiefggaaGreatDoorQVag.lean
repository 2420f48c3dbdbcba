import Derived.Deep.QuietTactic
import Derived.BigQuiet
import Derived.Deep.DeepCutAuto
import Derived.Test.YthkcloapiefggaaGreatDoorQIsa
namespace Go.Proofs.YthkcloapiefggaaGreatDoor
set_option linter.unusedVariables false
set_option linter.unusedSimpArgs false
set_option maxRecDepth 100000
open Go.ChangeShapes Go.WideShapes Go.RowKit
theorem uH{B:Nat}{a w:World}(h:Below B a w)(n:Nat):Below B a (w.drewN n):=⟨h.os,h.tape,h.output,h.size,h.block⟩
set_option maxHeartbeats 1000000 in
theorem Bv(i:Ins)(w:World)(hi:i.Ok)(hf:rF i.op=0):
  Calls Tryz.prog 43 #[dN i] w fun e w'=>e= .returned (.bool (rV i))∧Below w.heap.size w w':=by
 have HFM:=Nc (fun w=>gK i.op w hi.o0 hi.o1);rw[hf] at HFM;have HRV:=Nc (show rV i=false by unfold rV;rw[hf];rfl);obtain⟨V,hV⟩:∃ V,rV i=V:=⟨_,rfl⟩;rw[hV] at HRV;rw[hV];clear hf hi hV;obtain⟨op,d,s,im,ax,bk,sz⟩:=i;unfold dN;go_enter Tryz.func43,Tryz.ntmps43
 go_wp2_with fail
 refine(HFM.out _).mono ?_;rintro e w1 ⟨rfl,hb⟩;have HB1:=Nc (fV hb).1;clear hb;go_upto_region 2 with fail
 go_cut [25] (fun v wx=>v= .bool true∧Hid (Below w.heap.size w wx))
 case first=>
  go_quiet (fail)
  all_goals
   go_wp2_with fail
   go_meet
   exact⟨rfl,Nc (by first | exact HB1.out | exact HB1.out.drew | exact uH HB1.out _)⟩
 case rest=>
  obtain⟨rfl,hc⟩:=hcut;go_wp2_with fail
  go_ret
  exact⟨jm HRV.out.symm,hc.out⟩
set_option maxHeartbeats 200000000 in
theorem Bq(F:Int)(hF:F=1∨F=2∨F=3∨F=4∨F=5∨F=6∨F=7∨F=8∨F=9∨F=10∨F=11∨F=12∨F=13∨F=14∨F=15∨F=16∨F=17∨F=18)(i:Ins)(w:World)(hi:i.Ok)(hf:rF i.op=F):
  Calls Tryz.prog 43 #[dN i] w fun e w'=>e= .returned (.bool (rV i))∧Below w.heap.size w w':=by
 have hF0:¬ F=0:=by omega
 have hFb:(F==0)=false:=by simp[hF0]
 obtain⟨p0,p1⟩:=yE i.op (by rw[hf];exact hF0);have HFM:=Nc (fun w=>gK i.op w hi.o0 hi.o1);rw[hf] at HFM;have HSZ:=Nc (fun w=>jk i.op w (by omega) (by omega));obtain⟨z,hz⟩:∃ z,rZ i.op=z:=⟨_,rfl⟩;rw[hz] at HSZ;have HRV:=Nc (show rV i=if i.sz=z then rK F i else false by unfold rV;rw[hf,hz,if_neg hF0]);have HF:=Nc hF;have HB0:=Nc ((Below.refl w.heap.size w).alloc (Nat.le_refl _) (.cells (gJ i) 58));have HX0:=Nc (heap_alloc_new w (.cells (gJ i) 58));obtain⟨m0,m1⟩:=And.intro hi.m0 hi.m1;obtain⟨V,hV⟩:∃ V,rV i=V:=⟨_,rfl⟩;rw[hV] at HRV;rw[hV];clear hz hf hi hV hF;obtain⟨op,d,s,im,ax,bk,sz⟩:=i;simp only at p0 p1 m0 m1;have hby:op%256=op:=by omega
 unfold dN;go_enter Tryz.func43,Tryz.ntmps43
 go_wp2_with fail
 refine(HFM.out _).mono ?_;rintro e w1 ⟨rfl,hb⟩;have HX1:=Nc ((hb.block w.heap.size (by simp)).trans HX0.out);have HB1:=Nc (fV hb).1;have hs1:=(fV hb).2;clear hb;obtain⟨e0,e1,e2,e3,e4,e5,e6⟩:=dH HX1.out;simp only at e0 e1 e2 e3 e4 e5 e6;have hS1:=Nc (And.intro e0 e6);have hw8:IntKind.u8.wrap op=op:=by rw[IntKind.wrap_u8'];omega
 go_upto_region 2 with fail
 obtain⟨bz,hbz⟩:∃ b,(!(sz==z))=b:=⟨_,rfl⟩;have HZ:=Nc hbz;clear hbz;go_cut [25] (fun v wx=>v= .bool bz∧Hid (wx.heap[w.heap.size]? =some (.cells (gJ ⟨op,d,s,im,ax,bk,sz⟩) 58 (0,0))∧Below w.heap.size w wx))
 case first=>
  go_region_held3 (fun w'=>w'.cell? ⟨w.heap.size,0,none⟩=some (.int .i64 op)∧w'.cell? ⟨w.heap.size,6,none⟩=some (.int .i64 sz))
   (first | with_reducible exact hS1.out | exact uK hS1.out | with_reducible exact hs2.out | exact uK hs2.out)
   ((go_at_call 45;(with_reducible refine(HSZ.out _).mono ?_);rintro e w2 ⟨rfl,hb2⟩;have hs2:=Nc (Ez (uK hS1.out) hb2 (show w.heap.size < w1.heap.size by omega))))
  all_goals
   have HX2:=(hb2.block w.heap.size (show w.heap.size < w1.heap.size by omega)).trans (show w1.drew.heap[w.heap.size]? =_ from HX1.out);have HB2:=HB1.out.drew.trans (hb2.mono (show w.heap.size≤w1.heap.size by omega));have HE:=Nc (And.intro HX2 HB2);clear HX2 HB2 hb2;go_wp2_with fail
   go_meet
   exact⟨by first | (rw[← HZ.out];rfl) | (rw[← HZ.out];simp),HE⟩
 case rest=>
  obtain⟨rfl,hc⟩:=hcut;have HXc:=Nc hc.out.1;have HBc:=Nc hc.out.2;have hsc:=hc.out.2.size;clear hc e0 e1 e2 e3 e4 e5 e6;cases bz
  ·obtain⟨e0,e1,e2,e3,e4,e5,e6⟩:=dH HXc.out
   simp only at e0 e1 e2 e3 e4 e5 e6;have hk:=HRV.out;rw[if_pos (by simpa using HZ.out)] at hk;clear hF0 hFb;rcases HF.out with rfl|rfl|rfl|rfl|rfl|rfl|rfl|rfl|rfl|rfl|rfl|rfl|rfl|rfl|rfl|rfl|rfl|rfl;all_goals as_aux_lemma=>
    simp only[rK,Int.reduceEq,if_true,if_false] at hk;have HK:=Nc hk;clear hk;go_wp2_with (first | (go_at_call 72;(with_reducible refine(FC _ _).mono ?_);rintro e w' ⟨rfl,rfl⟩) | (go_at_call 73;(with_reducible refine(Fj _ _ m0 m1).mono ?_);rintro e w' ⟨rfl,rfl⟩))
    all_goals
     go_ret
     exact⟨jm (by rw[HK.out];(try simp[*]);(try unfold bkB);(try simp[*]);(try omega)),HBc.out⟩
  ·have HK:=Nc (show V=false by rw[HRV.out,if_neg (by simpa using HZ.out)])
   go_wp2_with fail
   go_ret
   exact⟨jm HK.out.symm,HBc.out⟩
theorem pV(i:Ins)(w:World)(hi:i.Ok):
 Calls Tryz.prog 43 #[dN i] w fun e w'=>e= .returned (.bool (rV i))∧Below w.heap.size w w':=by
 obtain⟨f0,f1⟩:=ku i.op;by_cases h:rF i.op=0
 ·exact Bv i w hi h
 ·exact Bq (rF i.op) (by omega) i w hi rfl
end Go.Proofs.YthkcloapiefggaaGreatDoor
