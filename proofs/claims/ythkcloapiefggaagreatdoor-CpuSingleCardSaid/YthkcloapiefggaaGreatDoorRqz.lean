/- The reference's Step. -/
import Derived.Test.YthkcloapiefggaaGreatDoorRqn
import Derived.Test.YthkcloapiefggaaGreatDoorRlq
import Derived.Test.YthkcloapiefggaaGreatDoorCst
namespace Go.Proofs.YthkcloapiefggaaGreatDoor
set_option linter.unusedVariables false
set_option linter.unusedSimpArgs false
set_option maxRecDepth 100000
set_option maxHeartbeats 1000000
open Go.ChangeShapes Go.WideShapes Go.RowKit
def rsR (S:Ms):Rs→Ms × Int × Int
 | .ok S'=>(S',0,0)
 | .tr k i=>(S,k,i)
theorem stepR_eq (I:Im) (T:Tp) (S:Ms):stepR I T S=rsR S (stepP I T S):=by
 unfold stepR;cases stepP I T S<;>rfl
set_option maxHeartbeats 8000000 in
theorem rstep_any (P:Pl) (I:Im) (T:Tp) (pi pq:Option Addr) (ci cq:Nat) (X:Sn) (p q:Option Addr) (c d:Nat) (w:World) (hI:I.Ok) (hT:T.Ok) (hX:X.Ok) (hp:Has w P I) (h1:Slo w pi (inC T.inn)) (h2:Slo w pq (irC T.irq)) (h3:SnH w X p q) (hc:X.stk.length≤c) (hl:X.out.length+1≤1000000000):
 Calls Tryz.prog 18 #[.agg #[.slice P.p0 I.banks.length P.c0,.int .u16 I.en,.int .u16 I.ve,.slice P.p1 I.data.length P.c1,.slice P.p2 I.rel.length P.c2],.agg #[.slice pi T.inn.length ci,.slice pq T.irq.length cq],.agg #[.int .u16 (X.r 0),.int .u16 (X.r 1),.int .u16 (X.r 2),.int .u16 (X.r 3),.int .u16 (X.r 4),.int .u16 (X.r 5),.int .u16 (X.r 6),.int .u16 (X.r 7),.int .u16 X.pc,.int .u16 X.sp,.int .u16 X.fp,.int .u16 X.f,.int .i64 X.bank,.int .i64 X.steps,.int .i64 X.inp,.int .i64 X.pol,.string X.ram,.slice p X.stk.length c,.slice q X.out.length d]] w fun e w'=>RunEnd w.heap.size (snapP (stepR I T (loadP X)).1) (stepR I T (loadP X)).2.1 (stepR I T (loadP X)).2.2 e w'∧Below w.heap.size w w':=by
 have HBx0:=Lib.hid (box5 w #[.slice P.p0 I.banks.length P.c0,.int .u16 I.en,.int .u16 I.ve,.slice P.p1 I.data.length P.c1,.slice P.p2 I.rel.length P.c2] #[.slice pi T.inn.length ci,.slice pq T.irq.length cq] #[.int .u16 (X.r 0),.int .u16 (X.r 1),.int .u16 (X.r 2),.int .u16 (X.r 3),.int .u16 (X.r 4),.int .u16 (X.r 5),.int .u16 (X.r 6),.int .u16 (X.r 7),.int .u16 X.pc,.int .u16 X.sp,.int .u16 X.fp,.int .u16 X.f,.int .i64 X.bank,.int .i64 X.steps,.int .i64 X.inp,.int .i64 X.pol,.string X.ram,.slice p X.stk.length c,.slice q X.out.length d] #[.int .u16 0,.int .u16 0,.int .u16 0,.int .u16 0,.int .u16 0,.int .u16 0,.int .u16 0,.int .u16 0,.int .u16 0,.int .u16 0,.int .u16 0,.int .u16 0,.int .i64 0,.int .i64 0,.int .i64 0,.int .i64 0,.string ⟨#[]⟩,.slice none 0 0,.slice none 0 0] #[.int .i64 0,.int .u16 0])
 have HLd:=Lib.hid (fun V (hb:Below w.heap.size w V)=>load_q P I T pi pq ci cq X p q c d V hI hT hX (hp.below hb) (h1.below hb) (h2.below hb) (h3.below hb) hc (by omega))
 have HLen:=Lib.hid hl
 clear hI hT hX hp h1 h2 h3 hc hl
 go_enter Tryz.func18,Tryz.ntmps18
 go_upto_region 1 with fail
 have HBox:=HBx0
 obtain⟨W0,hW0⟩:∃ W0,(((((w.alloc (.cells #[.slice P.p0 I.banks.length P.c0,.int .u16 I.en,.int .u16 I.ve,.slice P.p1 I.data.length P.c1,.slice P.p2 I.rel.length P.c2] 33)).alloc (.cells #[.slice pi T.inn.length ci,.slice pq T.irq.length cq] 43)).alloc (.cells #[.int .u16 (X.r 0),.int .u16 (X.r 1),.int .u16 (X.r 2),.int .u16 (X.r 3),.int .u16 (X.r 4),.int .u16 (X.r 5),.int .u16 (X.r 6),.int .u16 (X.r 7),.int .u16 X.pc,.int .u16 X.sp,.int .u16 X.fp,.int .u16 X.f,.int .i64 X.bank,.int .i64 X.steps,.int .i64 X.inp,.int .i64 X.pol,.string X.ram,.slice p X.stk.length c,.slice q X.out.length d] 40)).alloc (.cells #[.int .u16 0,.int .u16 0,.int .u16 0,.int .u16 0,.int .u16 0,.int .u16 0,.int .u16 0,.int .u16 0,.int .u16 0,.int .u16 0,.int .u16 0,.int .u16 0,.int .i64 0,.int .i64 0,.int .i64 0,.int .i64 0,.string ⟨#[]⟩,.slice none 0 0,.slice none 0 0] 40)).alloc (.cells #[.int .i64 0,.int .u16 0] 47))=W0:=⟨_,rfl⟩
 rw[hW0] at HBox
 rw[hW0]
 clear hW0 HBx0
 have HR:=Lib.hid (And.intro (show W0.rangeAt w.heap.size 0 (imL P I) from range_at HBox.out.h0 _ (fun j v hv=>by rw[← hv];simp[imL])) (And.intro (show W0.rangeAt (w.heap.size+1) 0 (tpL T pi ci pq cq) from range_at HBox.out.h1 _ (fun j v hv=>by rw[← hv];simp[tpL])) (show W0.rangeAt (w.heap.size+2) 0 (snL X p c q d) from range_at HBox.out.h2 _ (fun j v hv=>by rw[← hv];simp[snL]))))
 have HBel:=Lib.hid HBox.out.bel
 go_wp2_with (first
  | refine wpList_load_mid rfl 33 _ rfl w.heap.size 0 rfl (imL P I) _ HR.out.1 Tryz.underlying33 rfl infoIm ?_
  | refine wpList_load_mid rfl 43 _ rfl (w.heap.size+1) 0 rfl (tpL T pi ci pq cq) _ HR.out.2.1 Tryz.underlying43 rfl infoTp ?_
  | refine wpList_load_mid rfl 40 _ rfl (w.heap.size+2) 0 rfl (snL X p c q d) _ HR.out.2.2 Tryz.underlying40 rfl infoSn ?_)
 refine(HLd.out _ HBel.out).mono ?_
 rintro e w1 ⟨E,sv,ov,rfl,hE0,hEP,hEI,hEpi,hEci,hEpq,hEcq,hET,hEq,hm1⟩
 have HS:=Lib.hid (qstep_any (hm1.dep (loadP X).sp (.inl (Nat.le_refl _))) (by have h:=HLen.out;unfold EvIn;show X.out.length≤_;omega))
 have HE0:=Lib.hid hE0
 rw[hEI,hET] at HS
 have hrok:=rok_step I T (loadP X)
 obtain⟨R,hR⟩:∃ R,stepP I T (loadP X)=R:=⟨_,rfl⟩
 have hr:stepR I T (loadP X)=rsR (loadP X) R:=by rw[stepR_eq,hR]
 rw[hR] at HS hrok
 clear hE0 hEP hEI hEpi hEci hEpq hEcq hET hEq hm1 hR
 cases R with
 | ok S'=>
  have HRun:=Lib.hid (show stepR I T (loadP X)=(S',0,0) from hr)
  have hlen2:S'.out.length≤1000000000:=by have h:=hrok.out S' rfl;have h2:=HLen.out;have h3:(loadP X).out.length=X.out.length:=rfl;omega
  have HLen2:=Lib.hid hlen2
  clear hr hrok hlen2
  go_wp2_with fail
  refine HS.out.mono ?_
  rintro e w2 ⟨rfl,sv2,ov2,hm2,hf2⟩
  have c26:=hm2.at 26 (.int .i64 0) rfl
  have HSnap:=Lib.hid (snap_q E sv2 ov2 S' _ 0 0 w2 hm2 HLen2.out)
  have HN0:=Lib.hid (show W0.heap.size≤w2.heap.size from(HE0.out▸hm2.bel).size)
  clear hm2 hf2
  go_wp2_with fail
  refine HSnap.out.mono ?_
  rintro e w3 ⟨⟨p1,c1,q1,d1,rfl,hs1,hf1,hf2,hcp⟩,hb3⟩
  have HCap:=Lib.hid hcp
  have HB3:=Lib.hid (show Below W0.heap.size W0 w3 from HE0.out▸hb3)
  have HS3:=Lib.hid hs1
  have HF3:=Lib.hid (And.intro hf1 hf2)
  obtain⟨N0,hN0⟩:∃ N0,w2.heap.size=N0:=⟨_,rfl⟩
  rw[hN0] at HN0 HF3
  clear hs1 hf1 hf2 hb3 hcp hN0
  have n3:=HBox.out.size
  have g3:=block_next HBox.out.h3 HB3.out
  have g4:=block_next HBox.out.h4 HB3.out
  have f3:=setRow_heap w3 (w.heap.size+3) _ (snA (snapP S') p1 c1 q1 d1) 40 (0,0) g3
  have f4:(w3.setRow (w.heap.size+3) (snA (snapP S') p1 c1 q1 d1)).heap[w.heap.size+4]? =_:=(setRow_other w3 (w.heap.size+3) _ _ (by omega)).trans g4
  have f5:=setRow_heap _ (w.heap.size+4) _ #[.int .i64 0,.int .u16 0] 47 (0,0) f4
  have f6:((w3.setRow (w.heap.size+3) (snA (snapP S') p1 c1 q1 d1)).setRow (w.heap.size+4) #[.int .i64 0,.int .u16 0]).heap[w.heap.size+3]? =_:=(setRow_other _ (w.heap.size+4) _ _ (by omega)).trans f3
  have hs6:=HS3.out.set2 (N:=N0) HF3.out.1 HF3.out.2 (a:=w.heap.size+3) (b:=w.heap.size+4) (by have:=HN0.out;omega) (by have:=HN0.out;omega) (snA (snapP S') p1 c1 q1 d1) #[.int .i64 0,.int .u16 0]
  have hb6:Below w.heap.size w ((w3.setRow (w.heap.size+3) (snA (snapP S') p1 c1 q1 d1)).setRow (w.heap.size+4) #[.int .i64 0,.int .u16 0]):=below_setRow (below_setRow (HBel.out.trans (HB3.out.mono HBel.out.size)) (by omega) _) (by omega) _
  have HFin:=Lib.hid (And.intro hs6 (And.intro hb6 (And.intro f5 f6)))
  have HF2:=Lib.hid (And.intro (show From w.heap.size p1 from fun g hg=>Nat.le_trans (Nat.le_trans HBel.out.size HN0.out) (HF3.out.1 g hg)) (show From w.heap.size q1 from fun g hg=>Nat.le_trans (Nat.le_trans HBel.out.size HN0.out) (HF3.out.2 g hg)))
  have HG3:=Lib.hid (And.intro g3 f4)
  clear f3 f4 f5 f6 hs6 hb6 g3 g4 n3
  unfold snV
  go_wp2_with (first
   | refine wpList_store_row rfl 40 _ _ rfl (w.heap.size+3) (snA (snapP S') p1 c1 q1 d1) rfl rfl 40 _ HG3.out.1 infoSn (by rfl) (by simp[snA,Value.oneCell']) ?_
   | refine wpList_store_row rfl 47 _ _ rfl (w.heap.size+4) #[.int .i64 0,.int .u16 0] rfl rfl 47 _ HG3.out.2 infoTr (by rfl) (by simp[Value.oneCell']) ?_)
  refine bodyPost_ret (v:= .tuple #[.agg (snA (snapP S') p1 c1 q1 d1),.agg #[.int .i64 0,.int .u16 0]]) (results_two rfl _ _ (w.heap.size+3) (w.heap.size+4) 40 47 _ _ (0,0) (0,0) rfl rfl HFin.out.2.2.2 HFin.out.2.2.1 Tryz.underlying40 infoSn Tryz.underlying47 infoTr) rfl ?_
  rw[HRun.out]
  exact⟨⟨p1,c1,q1,d1,rfl,HFin.out.1,HF2.out.1,HF2.out.2,HCap.out⟩,HFin.out.2.1⟩
 | tr t x=>
  have HRun:=Lib.hid (show stepR I T (loadP X)=(loadP X,t,x) from hr)
  have ht:=(hrok.tr t x rfl).1
  have htb:(t != 0)=true:=by simp;omega
  clear hr hrok ht
  go_wp2_with fail
  refine HS.out.mono ?_
  rintro e w2 ⟨rfl,sv2,ov2,S2,hm2,hk2,hf2⟩
  have c26:=hm2.at 26 (.int .i64 t) rfl
  have hB2:Below W0.heap.size W0 w2:=HE0.out▸hm2.bel
  have HB2:=Lib.hid hB2
  have HEb:=Lib.hid (show W0.heap.size≤E.b from HE0.out▸hm2.env.b)
  have HEl:=Lib.hid hm2.lt
  have HS2:=Lib.hid (show(fun w'=>w'.heap[w.heap.size]? =some (.cells #[.slice P.p0 I.banks.length P.c0,.int .u16 I.en,.int .u16 I.ve,.slice P.p1 I.data.length P.c1,.slice P.p2 I.rel.length P.c2] 33 (0,0))∧w'.heap[w.heap.size+1]? =some (.cells #[.slice pi T.inn.length ci,.slice pq T.irq.length cq] 43 (0,0))∧w'.heap[w.heap.size+2]? =some (.cells #[.int .u16 (X.r 0),.int .u16 (X.r 1),.int .u16 (X.r 2),.int .u16 (X.r 3),.int .u16 (X.r 4),.int .u16 (X.r 5),.int .u16 (X.r 6),.int .u16 (X.r 7),.int .u16 X.pc,.int .u16 X.sp,.int .u16 X.fp,.int .u16 X.f,.int .i64 X.bank,.int .i64 X.steps,.int .i64 X.inp,.int .i64 X.pol,.string X.ram,.slice p X.stk.length c,.slice q X.out.length d] 40 (0,0))∧w'.heap[E.b]? =some (.cells (mqA E S2 sv2 ov2 t x) 96 (0,0))) w2.drew from⟨block_next HBox.out.h0 hB2.drew,block_next HBox.out.h1 hB2.drew,block_next HBox.out.h2 hB2.drew,hm2.blk⟩)
  clear hm2 hk2 hf2 hB2
  go_wp2_with fail
  refine wp_region_held_drew (S:=(fun w'=>w'.heap[w.heap.size]? =some (.cells #[.slice P.p0 I.banks.length P.c0,.int .u16 I.en,.int .u16 I.ve,.slice P.p1 I.data.length P.c1,.slice P.p2 I.rel.length P.c2] 33 (0,0))∧w'.heap[w.heap.size+1]? =some (.cells #[.slice pi T.inn.length ci,.slice pq T.irq.length cq] 43 (0,0))∧w'.heap[w.heap.size+2]? =some (.cells #[.int .u16 (X.r 0),.int .u16 (X.r 1),.int .u16 (X.r 2),.int .u16 (X.r 3),.int .u16 (X.r 4),.int .u16 (X.r 5),.int .u16 (X.r 6),.int .u16 (X.r 7),.int .u16 X.pc,.int .u16 X.sp,.int .u16 X.fp,.int .u16 X.f,.int .i64 X.bank,.int .i64 X.steps,.int .i64 X.inp,.int .i64 X.pol,.string X.ram,.slice p X.stk.length c,.slice q X.out.length d] 40 (0,0))∧w'.heap[E.b]? =some (.cells (mqA E S2 sv2 ov2 t x) 96 (0,0)))) (by kernel_rfl) HS2.out (fun hHeld=>?_)
  refine tk 0 _ rfl (yieldsIf_load_mid (by rfl) 33 _ rfl w.heap.size 0 rfl (imL P I) _ (fun w hw=>range_at hw.1 _ (fun j v hv=>by rw[← hv];simp[imL])) Tryz.underlying33 rfl infoIm) ?_
  refine tk 1 _ rfl (yieldsIf_load_mid (by rfl) 43 _ rfl (w.heap.size+1) 0 rfl (tpL T pi ci pq cq) _ (fun w hw=>range_at hw.2.1 _ (fun j v hv=>by rw[← hv];simp[tpL])) Tryz.underlying43 rfl infoTp) ?_
  refine tk 2 _ rfl (yieldsIf_load_mid (by rfl) 40 _ rfl (w.heap.size+2) 0 rfl (snL X p c q d) _ (fun w hw=>range_at hw.2.2.1 _ (fun j v hv=>by rw[← hv];simp[snL])) Tryz.underlying40 rfl infoSn) ?_
  refine tq 5 rfl ?_
  refine tq 6 rfl ?_
  refine tq 7 rfl ?_
  refine tk 8 _ rfl (yieldsIf_load_mid (by rfl) 47 _ rfl E.b 26 rfl [.int .i64 t,.int .u16 x] _ (fun w hw j v hv=>by
   match j,hv with
   | 0,hv=>simp at hv;subst hv;exact block_cells hw.2.2.2 26 _ rfl
   | 1,hv=>simp at hv;subst hv;exact block_cells hw.2.2.2 27 _ rfl
   | j+2,hv=>simp at hv) Tryz.underlying47 rfl infoTr) ?_
  refine rd1 3 rfl (fun K hK=>?_)
  go_simp
  ((go_at_call 36;(unfold imL tpL snL;refine(HLd.out _ (HBel.out.trans ((HB2.out.drew).mono HBel.out.size))).mono ?_));rintro e w3 ⟨E2,sv3,ov3,rfl,hE20,hEP,hEI,hEpi,hEci,hEpq,hEcq,hET,hEq,hm3⟩)
  have hb23:Below w2.drew.heap.size w2.drew w3:=hE20▸hm3.bel
  have hse:=HEl.out
  have hsz2:=HB2.out.size
  have n5:=HBox.out.size
  have HS3:=Lib.hid (show(fun w'=>w'.heap[w.heap.size]? =some (.cells #[.slice P.p0 I.banks.length P.c0,.int .u16 I.en,.int .u16 I.ve,.slice P.p1 I.data.length P.c1,.slice P.p2 I.rel.length P.c2] 33 (0,0))∧w'.heap[w.heap.size+1]? =some (.cells #[.slice pi T.inn.length ci,.slice pq T.irq.length cq] 43 (0,0))∧w'.heap[w.heap.size+2]? =some (.cells #[.int .u16 (X.r 0),.int .u16 (X.r 1),.int .u16 (X.r 2),.int .u16 (X.r 3),.int .u16 (X.r 4),.int .u16 (X.r 5),.int .u16 (X.r 6),.int .u16 (X.r 7),.int .u16 X.pc,.int .u16 X.sp,.int .u16 X.fp,.int .u16 X.f,.int .i64 X.bank,.int .i64 X.steps,.int .i64 X.inp,.int .i64 X.pol,.string X.ram,.slice p X.stk.length c,.slice q X.out.length d] 40 (0,0))∧w'.heap[E.b]? =some (.cells (mqA E S2 sv2 ov2 t x) 96 (0,0))) w3 from⟨(hb23.block _ (by show _ < w2.heap.size;omega)).trans HS2.out.1,(hb23.block _ (by show _ < w2.heap.size;omega)).trans HS2.out.2.1,(hb23.block _ (by show _ < w2.heap.size;omega)).trans HS2.out.2.2.1,(hb23.block _ hse).trans HS2.out.2.2.2⟩)
  have HSnap:=Lib.hid (snap_q E2 sv3 ov3 (loadP X) 0 0 0 w3 hm3 (by have h:=HLen.out;have h3:(loadP X).out.length=X.out.length:=rfl;omega))
  have HE20:=Lib.hid hE20
  have HB23:=Lib.hid hb23
  clear hE20 hEP hEI hEpi hEci hEpq hEcq hET hEq hm3 hb23 hse hsz2 n5 hHeld
  go_wp2_with fail
  refine hK.out _ _ HS3.out (fun hHeld=>?_)
  clear hK K
  try simp only[lay]
  refine rd1 4 rfl (fun K hK=>?_)
  go_simp
  ((go_at_call 38;(with_reducible refine HSnap.out.mono ?_));rintro e w4 ⟨⟨p1,c1,q1,d1,rfl,hs1,hf1,hf2,hcp⟩,hb4⟩)
  have HCap:=Lib.hid hcp
  have hb24:Below w2.drew.heap.size w2.drew w4:=HE20.out▸hb4
  have HB4:=Lib.hid (show Below W0.heap.size W0 w4 from(HB2.out.drew).trans (hb24.mono HB2.out.size))
  have hse:=HEl.out
  have hsz2:=HB2.out.size
  have n5:=HBox.out.size
  have HS4:=Lib.hid (show(fun w'=>w'.heap[w.heap.size]? =some (.cells #[.slice P.p0 I.banks.length P.c0,.int .u16 I.en,.int .u16 I.ve,.slice P.p1 I.data.length P.c1,.slice P.p2 I.rel.length P.c2] 33 (0,0))∧w'.heap[w.heap.size+1]? =some (.cells #[.slice pi T.inn.length ci,.slice pq T.irq.length cq] 43 (0,0))∧w'.heap[w.heap.size+2]? =some (.cells #[.int .u16 (X.r 0),.int .u16 (X.r 1),.int .u16 (X.r 2),.int .u16 (X.r 3),.int .u16 (X.r 4),.int .u16 (X.r 5),.int .u16 (X.r 6),.int .u16 (X.r 7),.int .u16 X.pc,.int .u16 X.sp,.int .u16 X.fp,.int .u16 X.f,.int .i64 X.bank,.int .i64 X.steps,.int .i64 X.inp,.int .i64 X.pol,.string X.ram,.slice p X.stk.length c,.slice q X.out.length d] 40 (0,0))∧w'.heap[E.b]? =some (.cells (mqA E S2 sv2 ov2 t x) 96 (0,0))) w4 from⟨(hb24.block _ (by show _ < w2.heap.size;omega)).trans HS2.out.1,(hb24.block _ (by show _ < w2.heap.size;omega)).trans HS2.out.2.1,(hb24.block _ (by show _ < w2.heap.size;omega)).trans HS2.out.2.2.1,(hb24.block _ hse).trans HS2.out.2.2.2⟩)
  have HN0:=Lib.hid (show W0.heap.size≤w3.heap.size from Nat.le_trans HB2.out.size HB23.out.size)
  obtain⟨w3',hw3'⟩:∃ w3',w4=w3':=⟨_,rfl⟩
  obtain⟨N0,hN0⟩:∃ N0,w3.heap.size=N0:=⟨_,rfl⟩
  rw[hN0] at HN0 hf1 hf2
  have HS3s:=Lib.hid hs1
  have HF3:=Lib.hid (And.intro hf1 hf2)
  clear hs1 hf1 hf2 hb4 hcp hN0 hb24 hse hsz2 n5 hHeld hw3' w3'
  go_wp2_with fail
  refine hK.out _ _ HS4.out (fun hHeld=>?_)
  clear hK K
  try simp only[lay]
  have n3:=HBox.out.size
  have g3:=block_next HBox.out.h3 HB4.out
  have g4:=block_next HBox.out.h4 HB4.out
  have f3:=setRow_heap w4 (w.heap.size+3) _ (snA (snapP (loadP X)) p1 c1 q1 d1) 40 (0,0) g3
  have f4:(w4.setRow (w.heap.size+3) (snA (snapP (loadP X)) p1 c1 q1 d1)).heap[w.heap.size+4]? =_:=(setRow_other w4 (w.heap.size+3) _ _ (by omega)).trans g4
  have f5:=setRow_heap _ (w.heap.size+4) _ #[.int .i64 t,.int .u16 x] 47 (0,0) f4
  have f6:((w4.setRow (w.heap.size+3) (snA (snapP (loadP X)) p1 c1 q1 d1)).setRow (w.heap.size+4) #[.int .i64 t,.int .u16 x]).heap[w.heap.size+3]? =_:=(setRow_other _ (w.heap.size+4) _ _ (by omega)).trans f3
  have hs6:=HS3s.out.set2 (N:=N0) HF3.out.1 HF3.out.2 (a:=w.heap.size+3) (b:=w.heap.size+4) (by have:=HN0.out;omega) (by have:=HN0.out;omega) (snA (snapP (loadP X)) p1 c1 q1 d1) #[.int .i64 t,.int .u16 x]
  have hb6:Below w.heap.size w ((w4.setRow (w.heap.size+3) (snA (snapP (loadP X)) p1 c1 q1 d1)).setRow (w.heap.size+4) #[.int .i64 t,.int .u16 x]):=below_setRow (below_setRow (HBel.out.trans (HB4.out.mono HBel.out.size)) (by omega) _) (by omega) _
  have HFin:=Lib.hid (And.intro hs6 (And.intro hb6 (And.intro f5 f6)))
  have HF2:=Lib.hid (And.intro (show From w.heap.size p1 from fun g hg=>Nat.le_trans (Nat.le_trans HBel.out.size HN0.out) (HF3.out.1 g hg)) (show From w.heap.size q1 from fun g hg=>Nat.le_trans (Nat.le_trans HBel.out.size HN0.out) (HF3.out.2 g hg)))
  have HG3:=Lib.hid (And.intro g3 f4)
  clear f3 f4 f5 f6 hs6 hb6 g3 g4 n3
  have hx3:∀ g,W0.heap.size≤g∨g < w.heap.size+3→g≠w.heap.size+3∧g≠w.heap.size+4:=fun g hg=>by have:=HBox.out.size;omega
  have HT5:=Lib.hid (show(fun w'=>w'.heap[w.heap.size]? =some (.cells #[.slice P.p0 I.banks.length P.c0,.int .u16 I.en,.int .u16 I.ve,.slice P.p1 I.data.length P.c1,.slice P.p2 I.rel.length P.c2] 33 (0,0))∧w'.heap[w.heap.size+1]? =some (.cells #[.slice pi T.inn.length ci,.slice pq T.irq.length cq] 43 (0,0))∧w'.heap[w.heap.size+2]? =some (.cells #[.int .u16 (X.r 0),.int .u16 (X.r 1),.int .u16 (X.r 2),.int .u16 (X.r 3),.int .u16 (X.r 4),.int .u16 (X.r 5),.int .u16 (X.r 6),.int .u16 (X.r 7),.int .u16 X.pc,.int .u16 X.sp,.int .u16 X.fp,.int .u16 X.f,.int .i64 X.bank,.int .i64 X.steps,.int .i64 X.inp,.int .i64 X.pol,.string X.ram,.slice p X.stk.length c,.slice q X.out.length d] 40 (0,0))∧w'.heap[E.b]? =some (.cells (mqA E S2 sv2 ov2 t x) 96 (0,0))) (w4.setRow (w.heap.size+3) (snA (snapP (loadP X)) p1 c1 q1 d1)) from⟨(setRow_other w4 (w.heap.size+3) _ _ (by omega)).trans HS4.out.1,(setRow_other w4 (w.heap.size+3) _ _ (by omega)).trans HS4.out.2.1,(setRow_other w4 (w.heap.size+3) _ _ (by omega)).trans HS4.out.2.2.1,(setRow_other w4 (w.heap.size+3) _ _ (hx3 E.b (.inl HEb.out)).1).trans HS4.out.2.2.2⟩)
  have HT6:=Lib.hid (show(fun w'=>w'.heap[w.heap.size]? =some (.cells #[.slice P.p0 I.banks.length P.c0,.int .u16 I.en,.int .u16 I.ve,.slice P.p1 I.data.length P.c1,.slice P.p2 I.rel.length P.c2] 33 (0,0))∧w'.heap[w.heap.size+1]? =some (.cells #[.slice pi T.inn.length ci,.slice pq T.irq.length cq] 43 (0,0))∧w'.heap[w.heap.size+2]? =some (.cells #[.int .u16 (X.r 0),.int .u16 (X.r 1),.int .u16 (X.r 2),.int .u16 (X.r 3),.int .u16 (X.r 4),.int .u16 (X.r 5),.int .u16 (X.r 6),.int .u16 (X.r 7),.int .u16 X.pc,.int .u16 X.sp,.int .u16 X.fp,.int .u16 X.f,.int .i64 X.bank,.int .i64 X.steps,.int .i64 X.inp,.int .i64 X.pol,.string X.ram,.slice p X.stk.length c,.slice q X.out.length d] 40 (0,0))∧w'.heap[E.b]? =some (.cells (mqA E S2 sv2 ov2 t x) 96 (0,0))) ((w4.setRow (w.heap.size+3) (snA (snapP (loadP X)) p1 c1 q1 d1)).setRow (w.heap.size+4) #[.int .i64 t,.int .u16 x]) from⟨(setRow_other _ (w.heap.size+4) _ _ (by omega)).trans HT5.out.1,(setRow_other _ (w.heap.size+4) _ _ (by omega)).trans HT5.out.2.1,(setRow_other _ (w.heap.size+4) _ _ (by omega)).trans HT5.out.2.2.1,(setRow_other _ (w.heap.size+4) _ _ (hx3 E.b (.inl HEb.out)).2).trans HT5.out.2.2.2⟩)
  clear hx3
  refine rd1 9 rfl (fun K hK=>?_)
  refine Eq.mpr (if_pos (by rfl)) ?_
  refine wp_store_row 40 _ _ rfl (w.heap.size+3) (snA (snapP (loadP X)) p1 c1 q1 d1) rfl rfl 40 _ HG3.out.1 infoSn (by rfl) (by simp[snA,Value.oneCell']) ?_
  refine hK.out _ _ HT5.out (fun hHeld=>?_)
  clear hK K
  try simp only[lay]
  refine rd1 10 rfl (fun K hK=>?_)
  refine Eq.mpr (if_pos (by rfl)) ?_
  refine wp_store_row 47 _ _ rfl (w.heap.size+4) #[.int .i64 t,.int .u16 x] rfl rfl 47 _ HG3.out.2 infoTr (by rfl) (by simp[Value.oneCell']) ?_
  refine hK.out _ _ HT6.out (fun hHeld=>?_)
  clear hK K
  try simp only[lay]
  refine wpAnyH_done (by kernel_rfl) ?_ _
  clear hHeld
  go_wp2_with fail
  refine bodyPost_ret (v:= .tuple #[.agg (snA (snapP (loadP X)) p1 c1 q1 d1),.agg #[.int .i64 t,.int .u16 x]]) (results_two rfl _ _ (w.heap.size+3) (w.heap.size+4) 40 47 _ _ (0,0) (0,0) rfl rfl HFin.out.2.2.2 HFin.out.2.2.1 Tryz.underlying40 infoSn Tryz.underlying47 infoTr) rfl ?_
  rw[HRun.out]
  exact⟨⟨p1,c1,q1,d1,rfl,HFin.out.1,HF2.out.1,HF2.out.2,HCap.out⟩,HFin.out.2.1⟩
end Go.Proofs.YthkcloapiefggaaGreatDoor
