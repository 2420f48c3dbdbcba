/- Moved out of Crx. -/
import Derived.Test.YthkcloapiefggaaGreatDoorCrx
namespace Go.Proofs.YthkcloapiefggaaGreatDoor
set_option linter.unusedVariables false
set_option linter.unusedSimpArgs false
set_option maxRecDepth 100000
set_option maxHeartbeats 1000000
open Go.ChangeShapes Go.WideShapes Go.RowKit
def stepR (I:Im) (T:Tp) (S:Ms):Ms × Int × Int:=match stepP I T S with | .ok S'=>(S',0,0) | .tr k i=>(S,k,i)
theorem PostT.get {E:Env} {ov:Value} {S:Ms} {w:World} {e:Ending} {w':World} (h:PostT E ov S w (stepP E.I E.T S) e w') (hl:S.out.length+1≤1000000000):
  e= .returned (trapV (stepR E.I E.T S).2.1 (stepR E.I E.T S).2.2)∧∃ ov2 S2,Mc E ov2 S2 w'∧Eqv (stepR E.I E.T S).1 S2∧EvIn S2.out:=by
 have hr:=rok_step E.I E.T S
 unfold stepR
 cases hs:stepP E.I E.T S with
 | ok S'=>
  rw[hs] at h
  obtain⟨he,ov',hm,_⟩:=h
  exact⟨he,ov',S',hm,Eqv.refl _,by unfold EvIn;have:=hr.out S' hs;omega⟩
 | tr k i=>
  rw[hs] at h
  obtain⟨he,S',hm,hq,_⟩:=h
  exact⟨he,ov,S',hm,hq,by unfold EvIn;rw[hq.out];omega⟩
set_option maxHeartbeats 4000000 in
theorem cstep_any' (P:Pl) (I:Im) (T:Tp) (pi pq:Option Addr) (ci cq:Nat) (X:Sn) (p q:Option Addr) (c d:Nat) (w:World) (hI:I.Ok) (hT:T.Ok) (hX:X.Ok) (hp:Has w P I) (h1:Slo w pi (inC T.inn)) (h2:Slo w pq (irC T.irq)) (h3:SnH w X p q) (ht:TabF w) (hl:X.out.length+1≤1000000000):
  Calls Tryz.prog 17 #[.agg #[.slice P.p0 I.banks.length P.c0,.int .u16 I.en,.int .u16 I.ve,.slice P.p1 I.data.length P.c1,.slice P.p2 I.rel.length P.c2],.agg #[.slice pi T.inn.length ci,.slice pq T.irq.length cq],.agg #[.int .u16 (X.r 0),.int .u16 (X.r 1),.int .u16 (X.r 2),.int .u16 (X.r 3),.int .u16 (X.r 4),.int .u16 (X.r 5),.int .u16 (X.r 6),.int .u16 (X.r 7),.int .u16 X.pc,.int .u16 X.sp,.int .u16 X.fp,.int .u16 X.f,.int .i64 X.bank,.int .i64 X.steps,.int .i64 X.inp,.int .i64 X.pol,.string X.ram,.slice p X.stk.length c,.slice q X.out.length d]] w fun e w'=>(RunEnd w.heap.size (snapP (stepR I T (loadP X)).1) (stepR I T (loadP X)).2.1 (stepR I T (loadP X)).2.2 e w'∧OkE (stepR I T (loadP X)).1)∧Below w.heap.size w w':=by
 have hmf:∀ (fn:Fn) (first cap:Array Value) (w:World),(Instr.makeFunc fn first cap).run Tryz.prog w= .ok (.func fn first cap) w:=fun _ _ _ _=>rfl
 have HX:=box5 w #[.slice P.p0 I.banks.length P.c0,.int .u16 I.en,.int .u16 I.ve,.slice P.p1 I.data.length P.c1,.slice P.p2 I.rel.length P.c2] #[.slice pi T.inn.length ci,.slice pq T.irq.length cq] #[.int .u16 (X.r 0),.int .u16 (X.r 1),.int .u16 (X.r 2),.int .u16 (X.r 3),.int .u16 (X.r 4),.int .u16 (X.r 5),.int .u16 (X.r 6),.int .u16 (X.r 7),.int .u16 X.pc,.int .u16 X.sp,.int .u16 X.fp,.int .u16 X.f,.int .i64 X.bank,.int .i64 X.steps,.int .i64 X.inp,.int .i64 X.pol,.string X.ram,.slice p X.stk.length c,.slice q X.out.length d] #[.int .u16 0,.int .u16 0,.int .u16 0,.int .u16 0,.int .u16 0,.int .u16 0,.int .u16 0,.int .u16 0,.int .u16 0,.int .u16 0,.int .u16 0,.int .u16 0,.int .i64 0,.int .i64 0,.int .i64 0,.int .i64 0,.string ⟨#[]⟩,.slice none 0 0,.slice none 0 0] #[.int .i64 0,.int .u16 0]
 have R0:(((((w.alloc (.cells #[.slice P.p0 I.banks.length P.c0,.int .u16 I.en,.int .u16 I.ve,.slice P.p1 I.data.length P.c1,.slice P.p2 I.rel.length P.c2] 33)).alloc (.cells #[.slice pi T.inn.length ci,.slice pq T.irq.length cq] 43)).alloc (.cells #[.int .u16 (X.r 0),.int .u16 (X.r 1),.int .u16 (X.r 2),.int .u16 (X.r 3),.int .u16 (X.r 4),.int .u16 (X.r 5),.int .u16 (X.r 6),.int .u16 (X.r 7),.int .u16 X.pc,.int .u16 X.sp,.int .u16 X.fp,.int .u16 X.f,.int .i64 X.bank,.int .i64 X.steps,.int .i64 X.inp,.int .i64 X.pol,.string X.ram,.slice p X.stk.length c,.slice q X.out.length d] 40)).alloc (.cells #[.int .u16 0,.int .u16 0,.int .u16 0,.int .u16 0,.int .u16 0,.int .u16 0,.int .u16 0,.int .u16 0,.int .u16 0,.int .u16 0,.int .u16 0,.int .u16 0,.int .i64 0,.int .i64 0,.int .i64 0,.int .i64 0,.string ⟨#[]⟩,.slice none 0 0,.slice none 0 0] 40)).alloc (.cells #[.int .i64 0,.int .u16 0] 47)).rangeAt w.heap.size 0 (imL P I):=range_at HX.h0 _ (fun j v hv=>by rw[← hv];simp[imL])
 have R1:(((((w.alloc (.cells #[.slice P.p0 I.banks.length P.c0,.int .u16 I.en,.int .u16 I.ve,.slice P.p1 I.data.length P.c1,.slice P.p2 I.rel.length P.c2] 33)).alloc (.cells #[.slice pi T.inn.length ci,.slice pq T.irq.length cq] 43)).alloc (.cells #[.int .u16 (X.r 0),.int .u16 (X.r 1),.int .u16 (X.r 2),.int .u16 (X.r 3),.int .u16 (X.r 4),.int .u16 (X.r 5),.int .u16 (X.r 6),.int .u16 (X.r 7),.int .u16 X.pc,.int .u16 X.sp,.int .u16 X.fp,.int .u16 X.f,.int .i64 X.bank,.int .i64 X.steps,.int .i64 X.inp,.int .i64 X.pol,.string X.ram,.slice p X.stk.length c,.slice q X.out.length d] 40)).alloc (.cells #[.int .u16 0,.int .u16 0,.int .u16 0,.int .u16 0,.int .u16 0,.int .u16 0,.int .u16 0,.int .u16 0,.int .u16 0,.int .u16 0,.int .u16 0,.int .u16 0,.int .i64 0,.int .i64 0,.int .i64 0,.int .i64 0,.string ⟨#[]⟩,.slice none 0 0,.slice none 0 0] 40)).alloc (.cells #[.int .i64 0,.int .u16 0] 47)).rangeAt (w.heap.size+1) 0 (tpL T pi ci pq cq):=range_at HX.h1 _ (fun j v hv=>by rw[← hv];simp[tpL])
 have R2:(((((w.alloc (.cells #[.slice P.p0 I.banks.length P.c0,.int .u16 I.en,.int .u16 I.ve,.slice P.p1 I.data.length P.c1,.slice P.p2 I.rel.length P.c2] 33)).alloc (.cells #[.slice pi T.inn.length ci,.slice pq T.irq.length cq] 43)).alloc (.cells #[.int .u16 (X.r 0),.int .u16 (X.r 1),.int .u16 (X.r 2),.int .u16 (X.r 3),.int .u16 (X.r 4),.int .u16 (X.r 5),.int .u16 (X.r 6),.int .u16 (X.r 7),.int .u16 X.pc,.int .u16 X.sp,.int .u16 X.fp,.int .u16 X.f,.int .i64 X.bank,.int .i64 X.steps,.int .i64 X.inp,.int .i64 X.pol,.string X.ram,.slice p X.stk.length c,.slice q X.out.length d] 40)).alloc (.cells #[.int .u16 0,.int .u16 0,.int .u16 0,.int .u16 0,.int .u16 0,.int .u16 0,.int .u16 0,.int .u16 0,.int .u16 0,.int .u16 0,.int .u16 0,.int .u16 0,.int .i64 0,.int .i64 0,.int .i64 0,.int .i64 0,.string ⟨#[]⟩,.slice none 0 0,.slice none 0 0] 40)).alloc (.cells #[.int .i64 0,.int .u16 0] 47)).rangeAt (w.heap.size+2) 0 (snL X p c q d):=range_at HX.h2 _ (fun j v hv=>by rw[← hv];simp[snL])
 have HR:=Lib.hid (And.intro R0 (And.intro R1 R2))
 have HBel:=Lib.hid HX.bel
 have hbw:∀ {W':World},Below w.heap.size w W'→Has W' P I∧Slo W' pi (inC T.inn)∧Slo W' pq (irC T.irq)∧SnH W' X p q∧TabF W':=fun hb=>⟨hp.below hb,h1.below hb,h2.below hb,h3.below hb,tabF_below (by obtain⟨_,_,h⟩:=ht;exact lt_of_block h) ht hb⟩
 have HBx:=hbw HX.bel
 have hload:=load_any P I T pi pq ci cq X p q c d (((((w.alloc (.cells #[.slice P.p0 I.banks.length P.c0,.int .u16 I.en,.int .u16 I.ve,.slice P.p1 I.data.length P.c1,.slice P.p2 I.rel.length P.c2] 33)).alloc (.cells #[.slice pi T.inn.length ci,.slice pq T.irq.length cq] 43)).alloc (.cells #[.int .u16 (X.r 0),.int .u16 (X.r 1),.int .u16 (X.r 2),.int .u16 (X.r 3),.int .u16 (X.r 4),.int .u16 (X.r 5),.int .u16 (X.r 6),.int .u16 (X.r 7),.int .u16 X.pc,.int .u16 X.sp,.int .u16 X.fp,.int .u16 X.f,.int .i64 X.bank,.int .i64 X.steps,.int .i64 X.inp,.int .i64 X.pol,.string X.ram,.slice p X.stk.length c,.slice q X.out.length d] 40)).alloc (.cells #[.int .u16 0,.int .u16 0,.int .u16 0,.int .u16 0,.int .u16 0,.int .u16 0,.int .u16 0,.int .u16 0,.int .u16 0,.int .u16 0,.int .u16 0,.int .u16 0,.int .i64 0,.int .i64 0,.int .i64 0,.int .i64 0,.string ⟨#[]⟩,.slice none 0 0,.slice none 0 0] 40)).alloc (.cells #[.int .i64 0,.int .u16 0] 47)) hI hT hX HBx.1 HBx.2.1 HBx.2.2.1 HBx.2.2.2.1 HBx.2.2.2.2 (by unfold EvIn;omega)
 have HLoad:=Lib.hid hload
 have HBox:=Lib.hid HX
 have HLen:=Lib.hid hl
 clear hload hI hT hX hp h1 h2 h3 ht hbw HBx R0 R1 R2 HX hl
 go_enter Tryz.func17,Tryz.ntmps17
 go_wp2_with (first
  | refine wpList_load_mid rfl 33 _ rfl w.heap.size 0 rfl (imL P I) _ HR.out.1 Tryz.underlying33 rfl infoIm ?_
  | refine wpList_load_mid rfl 43 _ rfl (w.heap.size+1) 0 rfl (tpL T pi ci pq cq) _ HR.out.2.1 Tryz.underlying43 rfl infoTp ?_
  | refine wpList_load_mid rfl 40 _ rfl (w.heap.size+2) 0 rfl (snL X p c q d) _ HR.out.2.2 Tryz.underlying40 rfl infoSn ?_)
 refine HLoad.out.mono ?_
 rintro e w1 ⟨E,ov,rfl,hE0,hEI,hET,hm1,hz1⟩
 obtain⟨W0,hW0⟩:∃ W0,(((((w.alloc (.cells #[.slice P.p0 I.banks.length P.c0,.int .u16 I.en,.int .u16 I.ve,.slice P.p1 I.data.length P.c1,.slice P.p2 I.rel.length P.c2] 33)).alloc (.cells #[.slice pi T.inn.length ci,.slice pq T.irq.length cq] 43)).alloc (.cells #[.int .u16 (X.r 0),.int .u16 (X.r 1),.int .u16 (X.r 2),.int .u16 (X.r 3),.int .u16 (X.r 4),.int .u16 (X.r 5),.int .u16 (X.r 6),.int .u16 (X.r 7),.int .u16 X.pc,.int .u16 X.sp,.int .u16 X.fp,.int .u16 X.f,.int .i64 X.bank,.int .i64 X.steps,.int .i64 X.inp,.int .i64 X.pol,.string X.ram,.slice p X.stk.length c,.slice q X.out.length d] 40)).alloc (.cells #[.int .u16 0,.int .u16 0,.int .u16 0,.int .u16 0,.int .u16 0,.int .u16 0,.int .u16 0,.int .u16 0,.int .u16 0,.int .u16 0,.int .u16 0,.int .u16 0,.int .i64 0,.int .i64 0,.int .i64 0,.int .i64 0,.string ⟨#[]⟩,.slice none 0 0,.slice none 0 0] 40)).alloc (.cells #[.int .i64 0,.int .u16 0] 47))=W0:=⟨_,rfl⟩
 rw[hW0] at HBox HBel hE0
 have HM1:=Lib.hid hm1
 have HZ:=Lib.hid hz1
 have HE0:=Lib.hid hE0
 have HEI:=Lib.hid hEI
 have HET:=Lib.hid hET
 have HB1:=Lib.hid (hE0▸hm1.bel)
 clear HLoad HR hW0 hm1 hz1 hE0 hEI hET
 go_wp2_with fail
 refine(attempt_step E ov (loadP X) w1 HM1.out HZ.out (by have h:=HLen.out;unfold EvIn;show X.out.length≤_;omega)).mono ?_
 rintro e w2 hp
 obtain⟨rfl,ov2,S2,hm2,hq2,hlen2⟩:=hp.get HLen.out
 rw[HEI.out,HET.out] at hq2 ⊢
 obtain⟨⟨S1,k,i⟩,hrun⟩:∃ r,stepR I T (loadP X)=r:=⟨_,rfl⟩
 rw[hrun] at hq2 ⊢
 clear hp
 simp only at hq2 ⊢
 have hm3:=hm2.alloc (.cells #[.int .i64 k,.int .u16 i] 47)
 have ht3:=heap_alloc_new w2 (.cells #[.int .i64 k,.int .u16 i] 47)
 have HSz:Hid ((w2.alloc (.cells #[.int .i64 k,.int .u16 i] 47)).heap.size=w2.heap.size+1):=Lib.hid (by simp)
 have HB3:=Lib.hid (show Below W0.heap.size W0 (w2.alloc (.cells #[.int .i64 k,.int .u16 i] 47)) from(by have h:=hm3.bel;rw[HE0.out] at h;exact h))
 have HRun:=Lib.hid hrun
 have HQ:=Lib.hid hq2
 have HSp:=Lib.hid hlen2
 unfold trapV
 clear hrun hq2 hm2 hlen2 HM1 HB1 HZ
 go_wp2_with fail
 obtain⟨w3,hw3⟩:∃ w3,w2.alloc (.cells #[.int .i64 k,.int .u16 i] 47)=w3:=⟨_,rfl⟩
 rw[hw3] at hm3 ht3 HSz HB3
 rw[hw3]
 obtain⟨B,hB⟩:∃ B,w2.heap.size=B:=⟨_,rfl⟩
 rw[hB] at ht3 HSz
 rw[hB]
 have M3:=Lib.hid hm3
 have HT3:=Lib.hid ht3
 have HSnap:=Lib.hid (fun W (hW:Mc E ov2 S2 W)=>snap_any E ov2 S2 W hW HSp.out)
 have hS3:=Lib.hid (show w3.drew.heap[B]? =some (.cells #[.int .i64 k,.int .u16 i] 47 (0,0)) from ht3)
 clear hw3 hB hm3 ht3
 refine wp_region_held_drew (S:=fun w'=>w'.heap[B]? =some (.cells #[.int .i64 k,.int .u16 i] 47 (0,0))) (by kernel_rfl) (hS3.out) (fun hHeld=>?_)
 refine tq 0 rfl ?_
 refine tk 2 _ rfl (yieldsIf_load_mid (by rfl) 47 _ rfl B 0 rfl [.int .i64 k,.int .u16 i] _ (fun w hw=>range_at hw _ (fun j v hv=>by rw[← hv];simp)) Tryz.underlying47 rfl infoTr) ?_
 refine rd1 1 rfl (fun K hK=>?_)
 go_simp
 ((go_at_call 35;(with_reducible refine(HSnap.out _ M3.out.drew).mono ?_));rintro e w4 ⟨⟨p1,c1,q1,d1,rfl,hs1,hf1,hf2,hcp⟩,hb4⟩;have HCap:=Lib.hid hcp;clear hcp;have HB4:=Lib.hid hb4;have HS4:=Lib.hid hs1;have HF4:=Lib.hid (And.intro hf1 hf2);have K4:=Lib.hid (block_next (show w3.drew.heap[B]? =_ from HT3.out) hb4);clear hs1 hf1 hf2 hb4)
 go_wp2_with fail
 refine hK.out _ _ (K4.out) (fun hHeld=>?_)
 clear hK K
 try simp only[lay]
 have hsz4:w3.heap.size≤w4.heap.size:=HB4.out.size
 have hBlt:W0.heap.size≤B:=by have h1:=HB3.out.size;have h2:=HSz.out;have h3:=lt_of_block HT3.out;have h4:=M3.out.lt;have h5:=M3.out.env;have:=HE0.out;have h6:=h5.lo;have h7:=h5.mp0;have h8:=h5.mp1;have h9:=h5.b;rw[this] at h6;omega
 have n3:=HBox.out.size
 have hb04:Below W0.heap.size W0 w4:=HB3.out.drew.trans (HB4.out.mono HB3.out.size)
 have g3:=block_next HBox.out.h3 hb04
 have g4:=block_next HBox.out.h4 hb04
 have f3:=setRow_heap w4 (w.heap.size+3) _ (snA (snapP S2) p1 c1 q1 d1) 40 (0,0) g3
 have f4:(w4.setRow (w.heap.size+3) (snA (snapP S2) p1 c1 q1 d1)).heap[w.heap.size+4]? =_:=(setRow_other w4 (w.heap.size+3) _ _ (by omega)).trans g4
 have f5:=setRow_heap _ (w.heap.size+4) _ #[.int .i64 k,.int .u16 i] 47 (0,0) f4
 have f6:((w4.setRow (w.heap.size+3) (snA (snapP S2) p1 c1 q1 d1)).setRow (w.heap.size+4) #[.int .i64 k,.int .u16 i]).heap[w.heap.size+3]? =_:=(setRow_other _ (w.heap.size+4) _ _ (by omega)).trans f3
 have kB:(w4.setRow (w.heap.size+3) (snA (snapP S2) p1 c1 q1 d1)).heap[B]? =some (.cells #[.int .i64 k,.int .u16 i] 47 (0,0)):=(setRow_other w4 (w.heap.size+3) _ _ (by omega)).trans K4.out
 have kB2:((w4.setRow (w.heap.size+3) (snA (snapP S2) p1 c1 q1 d1)).setRow (w.heap.size+4) #[.int .i64 k,.int .u16 i]).heap[B]? =some (.cells #[.int .i64 k,.int .u16 i] 47 (0,0)):=(setRow_other _ (w.heap.size+4) _ _ (by omega)).trans kB
 have hs6:=HS4.out.set2 (N:=w3.drew.heap.size) HF4.out.1 HF4.out.2 (a:=w.heap.size+3) (b:=w.heap.size+4) (by show _ < w3.heap.size;have:=HB3.out.size;omega) (by show _ < w3.heap.size;have:=HB3.out.size;omega) (snA (snapP S2) p1 c1 q1 d1) #[.int .i64 k,.int .u16 i]
 have hb6:Below w.heap.size w ((w4.setRow (w.heap.size+3) (snA (snapP S2) p1 c1 q1 d1)).setRow (w.heap.size+4) #[.int .i64 k,.int .u16 i]):=below_setRow (below_setRow (HBel.out.trans (hb04.mono HBel.out.size)) (by omega) _) (by omega) _
 have HFin:=Lib.hid (And.intro hs6 (And.intro hb6 (And.intro f5 f6)))
 have HF2:=Lib.hid (And.intro (show From w.heap.size p1 from fun g hg=>Nat.le_trans (Nat.le_trans HBel.out.size HB3.out.size) (HF4.out.1 g hg)) (show From w.heap.size q1 from fun g hg=>Nat.le_trans (Nat.le_trans HBel.out.size HB3.out.size) (HF4.out.2 g hg)))
 have HK1:=Lib.hid kB
 have HK2:=Lib.hid kB2
 have HG3:=Lib.hid (And.intro g3 f4)
 clear f3 f4 f5 f6 kB kB2 hs6 hb6 g3 g4 hb04 hBlt hsz4 n3 hHeld
 refine rd1 3 rfl (fun K hK=>?_)
 refine Eq.mpr (if_pos (by rfl)) ?_
 refine wp_store_row 40 _ _ rfl (w.heap.size+3) (snA (snapP S2) p1 c1 q1 d1) rfl rfl 40 _ HG3.out.1 infoSn (by rfl) (by simp[snA,Value.oneCell']) ?_
 refine hK.out _ _ (HK1.out) (fun hHeld=>?_)
 clear hK K
 try simp only[lay]
 refine rd1 4 rfl (fun K hK=>?_)
 refine Eq.mpr (if_pos (by rfl)) ?_
 refine wp_store_row 47 _ _ rfl (w.heap.size+4) #[.int .i64 k,.int .u16 i] rfl rfl 47 _ HG3.out.2 infoTr (by rfl) (by simp[Value.oneCell']) ?_
 refine hK.out _ _ (HK2.out) (fun hHeld=>?_)
 clear hK K
 try simp only[lay]
 refine wpAnyH_done (by kernel_rfl) ?_ _
 clear hHeld
 go_wp2_with fail
 refine bodyPost_ret (v:= .tuple #[.agg (snA (snapP S2) p1 c1 q1 d1),.agg #[.int .i64 k,.int .u16 i]]) (results_two rfl _ _ (w.heap.size+3) (w.heap.size+4) 40 47 _ _ (0,0) (0,0) rfl rfl HFin.out.2.2.2 HFin.out.2.2.1 Tryz.underlying40 infoSn Tryz.underlying47 infoTr) rfl ?_
 rw[HRun.out]
 exact⟨⟨⟨p1,c1,q1,d1,by rw[← HQ.out.snA];rfl,HQ.out.snH HFin.out.1,HF2.out.1,HF2.out.2,HQ.out.stk'▸HCap.out⟩,⟨_,HQ.out,M3.out.ok⟩⟩,HFin.out.2.1⟩
theorem cstep_any (P:Pl) (I:Im) (T:Tp) (pi pq:Option Addr) (ci cq:Nat) (X:Sn) (p q:Option Addr) (c d:Nat) (w:World) (hI:I.Ok) (hT:T.Ok) (hX:X.Ok) (hp:Has w P I) (h1:Slo w pi (inC T.inn)) (h2:Slo w pq (irC T.irq)) (h3:SnH w X p q) (ht:TabF w) (hl:X.out.length+1≤1000000000):
  Calls Tryz.prog 17 #[.agg #[.slice P.p0 I.banks.length P.c0,.int .u16 I.en,.int .u16 I.ve,.slice P.p1 I.data.length P.c1,.slice P.p2 I.rel.length P.c2],.agg #[.slice pi T.inn.length ci,.slice pq T.irq.length cq],.agg #[.int .u16 (X.r 0),.int .u16 (X.r 1),.int .u16 (X.r 2),.int .u16 (X.r 3),.int .u16 (X.r 4),.int .u16 (X.r 5),.int .u16 (X.r 6),.int .u16 (X.r 7),.int .u16 X.pc,.int .u16 X.sp,.int .u16 X.fp,.int .u16 X.f,.int .i64 X.bank,.int .i64 X.steps,.int .i64 X.inp,.int .i64 X.pol,.string X.ram,.slice p X.stk.length c,.slice q X.out.length d]] w fun e w'=>RunEnd w.heap.size (snapP (stepR I T (loadP X)).1) (stepR I T (loadP X)).2.1 (stepR I T (loadP X)).2.2 e w'∧Below w.heap.size w w':=(cstep_any' P I T pi pq ci cq X p q c d w hI hT hX hp h1 h2 h3 ht hl).mono fun e w' h=>⟨h.1.1,h.2⟩
end Go.Proofs.YthkcloapiefggaaGreatDoor
